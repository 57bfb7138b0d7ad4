import PyProof.Rows.All
import Wide.All
import OpenK.AllK
import Wide.FinOn
import Lean
import PyProof.EqAt
import PyProof.EqKinds
import PyProof.TupleCall
import PyProof.NeKinds
import KE.KIntText
import PyProof.ExcAttrAll.ValueError
import KE.KDictList
import KE.KDictOf
import PyProof.AttrMissHeap
import PyProof.Rows.SortStr
import KE.KRevSl
import PyProof.Draws
import PyProof.EnumMake
import KE.KNest
import KE.KLam
import KE.KNestM
import PyProof.FitsBits
import PyProof.ReprRoads
import PyProof.StrLawsRepr
import PyProof.Rows.StrNews2
import PyProof.DictUpdate
import PyProof.DictTable
import PyProof.StrOps2
import KE.KTab
import KE.KStar
import KE.KUnpackStar
import PyProof.TupleKey
import PyProof.DictRoadsH
import PySem.Challenge.RW_logdelve_k12_questions_written
set_option Elab.async false
set_option linter.all false
set_option maxRecDepth 100000
/-! THE HAND LAYER, for ints, bools, texts, own classes, LISTS and tuples (index, slices, in, append, pop ..), calls, loops. Paste it whole ahead of your own text; what your proof does not reach may be deleted. -/
namespace L2
open PySem PySem.Spec PyProof.Rows

/-- a key: an int or a str -/
abbrev Key := Sum Int Str
def keyIs : Key → Value → Bool
  | .inl k, v => Value.isInt k v
  | .inr x, v => Value.isStrOf x v
def keyH (w : World) : Key → Int
  | .inl k => hashInt k
  | .inr x => hashStr w x
theorem keyIs_shape : ∀ {k : Key} {v : Value}, keyIs k v = true → (∃ i t, k = Sum.inl i ∧ v = Value.int i t) ∨ (∃ x t, k = Sum.inr x ∧ v = Value.str x t)
  | .inl i, v, h => by
    obtain ⟨t, e⟩ := Value.isInt_shape (k := i) (v := v) h
    exact .inl ⟨i, t, rfl, e⟩
  | .inr x, v, h => by
    obtain ⟨t, e⟩ := Value.isStrOf_shape (x := x) (v := v) h
    exact .inr ⟨x, t, rfl, e⟩
theorem keyIs_int (i : Int) (t : Tok) : keyIs (.inl i) (.int i t) = true := by simp [keyIs, Value.isInt]
theorem keyIs_str (x : Str) (t : Tok) : keyIs (.inr x) (.str x t) = true := by simp [keyIs, Value.isStrOf]
theorem key_ll (a b : Int) : decide ((Sum.inl a : Key) = Sum.inl b) = (a == b) := by
  by_cases e : a = b
  · subst e; simp
  · have h : ¬ (Sum.inl a : Key) = Sum.inl b := fun q => e (Sum.inl.inj q)
    rw [decide_eq_false h]
    exact (beq_eq_false_iff_ne.mpr e).symm
theorem key_rr (a b : Str) : decide ((Sum.inr a : Key) = Sum.inr b) = decide (a = b) := by
  by_cases e : a = b
  · subst e; simp
  · have h : ¬ (Sum.inr a : Key) = Sum.inr b := fun q => e (Sum.inr.inj q)
    rw [decide_eq_false h, decide_eq_false e]
theorem key_lr (a : Int) (b : Str) : decide ((Sum.inl a : Key) = Sum.inr b) = false := decide_eq_false (fun q => nomatch q)
theorem key_rl (a : Str) (b : Int) : decide ((Sum.inr a : Key) = Sum.inl b) = false := decide_eq_false (fun q => nomatch q)

def mixKind (prog : Program) (w : World) : PySem.KeyKind prog w Key where
  is := keyIs
  hash := keyH w
  inj := fun v a b ha hb => by
    rcases keyIs_shape ha with ⟨i, t, rfl, rfl⟩ | ⟨x, t, rfl, rfl⟩
    · rcases keyIs_shape hb with ⟨j, u, rfl, e⟩ | ⟨y, u, rfl, e⟩
      · injection e with e1 _; rw [e1]
      · exact nomatch e
    · rcases keyIs_shape hb with ⟨j, u, rfl, e⟩ | ⟨y, u, rfl, e⟩
      · exact nomatch e
      · injection e with e1 _; rw [e1]
  byValue := fun k v h => by
    rcases keyIs_shape h with ⟨i, t, rfl, rfl⟩ | ⟨x, t, rfl, rfl⟩ <;> rfl
  pyHash := fun hv h => by
    rcases keyIs_shape hv with ⟨i, t, rfl, rfl⟩ | ⟨x, t, rfl, rfl⟩
    · exact wpAny_pyHash_int h
    · exact wpAny_pyHash_str h
  eqBool := fun hu hv h => by
    rcases keyIs_shape hu with ⟨i, t, rfl, rfl⟩ | ⟨x, t, rfl, rfl⟩
    · rcases keyIs_shape hv with ⟨j, u, rfl, rfl⟩ | ⟨y, u, rfl, rfl⟩
      · rw [key_ll] at h; exact wpAny_eqBool_int h
      · rw [key_lr] at h; exact SeqAt.EqAt.int_str i t y u _ _ _ _ h
    · rcases keyIs_shape hv with ⟨j, u, rfl, rfl⟩ | ⟨y, u, rfl, rfl⟩
      · rw [key_rl] at h; exact SeqAt.EqAt.str_int x t j u _ _ _ _ h
      · rw [key_rr] at h; exact wpAny_eqBool_str h
  «strs» := fun k x t v h => by
    rcases keyIs_shape h with ⟨i, u, rfl, e⟩ | ⟨y, u, rfl, e⟩
    · exact nomatch e
    · injection e with e1 _
      subst e1
      cases v <;> rfl

theorem mixKind_int (prog : Program) (w : World) (i : Int) (t : Tok) : (mixKind prog w).is (.inl i) (.int i t) = true := keyIs_int i t
theorem mixKind_str (prog : Program) (w : World) (x : Str) (t : Tok) : (mixKind prog w).is (.inr x) (.str x t) = true := keyIs_str x t
end L2

namespace L2
open PySem PySem.Spec PyProof.Rows

/-- a value, without the heap -/
inductive V where
  | non | bl (b : Bool) | int (i : Int) | str (x : Str) | byt (b : Array UInt8) | flt (b : UInt64) | ref (a : Addr) | ty (n : String)
  deriving DecidableEq

def RelV : V → Value → Prop
  | .non, u => u = Value.none
  | .bl b, u => u = Value.bool b
  | .int i, u => ∃ t, u = Value.int i t
  | .str x, u => ∃ t, u = Value.str x t
  | .byt b, u => ∃ t, u = Value.bytes b t
  | .flt b, u => ∃ t, u = Value.float b t
  | .ref a, u => u = Value.ref a
  | .ty n, u => u = Value.type n

abbrev Vals : List V → List Value → Prop := Paired RelV
theorem Vals.length {xs : List V} {us : List Value} (r : Vals xs us) : xs.length = us.length := Paired.length r
theorem Vals.get : ∀ {xs : List V} {us : List Value} {i : Nat} {x : V}, Vals xs us → xs[i]? = some x → ∃ u, us[i]? = some u ∧ RelV x u
  | _, _, _, _, .nil, e => by simp at e
  | _, _, 0, _, .cons r _, e => by simp at e; subst e; exact ⟨_, rfl, r⟩
  | _, _, i + 1, x, .cons _ t, e => by
    obtain ⟨u, h1, h2⟩ := Vals.get (i := i) (x := x) t (by simpa using e)
    exact ⟨u, by simpa using h1, h2⟩
theorem Vals.set {x : V} {u : Value} (r : RelV x u) : ∀ {xs : List V} {us : List Value} (i : Nat), Vals xs us → Vals (xs.set i x) (us.set i u)
  | _, _, _, .nil => .nil
  | _, _, 0, .cons _ t => .cons r t
  | _, _, i + 1, .cons q t => .cons q (Vals.set r i t)
theorem Vals.append : ∀ {xs ys : List V} {us ws : List Value}, Vals xs us → Vals ys ws → Vals (xs ++ ys) (us ++ ws)
  | _, _, _, _, .nil, s => s
  | _, _, _, _, .cons r t, s => .cons r (Vals.append t s)
theorem Vals.take : ∀ {xs : List V} {us : List Value} (n : Nat), Vals xs us → Vals (xs.take n) (us.take n)
  | _, _, 0, _ => .nil
  | _, _, _ + 1, .nil => .nil
  | _, _, n + 1, .cons r t => .cons r (Vals.take n t)
theorem Vals.drop : ∀ {xs : List V} {us : List Value} (n : Nat), Vals xs us → Vals (xs.drop n) (us.drop n)
  | _, _, 0, r => r
  | _, _, _ + 1, .nil => .nil
  | _, _, n + 1, .cons _ t => Vals.drop n t
def RelO : Option V → Option Value → Prop
  | some v, some u => RelV v u
  | none, none => True
  | _, _ => False
def KV {κ : Type} : List (κ × V) → List (κ × Value) → Prop := Paired fun (p : κ × V) (q : κ × Value) => p.1 = q.1 ∧ RelV p.2 q.2

/-- a key of a dict (00_mix): an int or a text -/
def kV : Key → V
  | .inl i => .int i
  | .inr x => .str x

/-- what stands at a tracked address -/
inductive HO where
  /-- a list -/
  | lst (xs : List V)
  /-- a tuple (never changes) -/
  | tup (xs : List V)
  /-- a dict whose keys are ints and texts; one whose keys are tuples of ints and texts (the empty one is both) -/
  | dK (kvs : List (Key × V)) | dT (kvs : List (List Key × V))
  /-- a set of ints: its members, its size -/
  | set (S : Int → Bool) (n : Nat)
  /-- an instance of the class at C, its dict at dx, its attributes -/
  | ins (C dx : Addr) (fs : List (Str × V))
  /-- the dict of the instance at x -/
  | own (x : Addr)
  /-- the dict of an exception -/
  | xd (fs : List (Str × V))
  /-- a bound method, f of x -/
  | met (f x : Addr)
  /-- a range object lo, lo + 1, .. below hi -/
  | rng (lo hi : Int)
  /-- a thing that is known to the object (the script; a dict while a loop walks it): read, never written while it is so -/
  | frz (o : Obj) (u : HO)
  /-- a code object's table -/
  | tbl (ps : Array Value)
  /-- any other thing, by what is true of its one object (a def of one's own: SetO a S n := HO.ext fun h => ..) -/
  | ext (φ : Heap → Prop)

abbrev Hp := Addr → Option HO
def upd (H : Hp) (a : Addr) (o : HO) : Hp := fun b => if b = a then some o else H b
theorem upd_same {H : Hp} {a : Addr} {o : HO} : upd H a o a = some o := by unfold upd; rw [if_pos rfl]
theorem upd_ne {H : Hp} {a b : Addr} {o : HO} (h : b ≠ a) : upd H a o b = H b := by unfold upd; rw [if_neg h]
theorem upd_upd {H : Hp} {a : Addr} {o u : HO} : upd (upd H a o) a u = upd H a u := by
  funext b; unfold upd; split <;> rfl
/-- two objects of different content stand apart -/
theorem ne_of {H : Hp} {a b : Addr} {o u : HO} (h : H a = some o) (h' : H b = some u) (d : o ≠ u) : a ≠ b := by
  intro e; subst e; rw [h] at h'; exact d (Option.some.inj h')
theorem ne_of_none {H : Hp} {a b : Addr} {o : HO} (h : H a = some o) (h' : H b = none) : a ≠ b := by
  intro e; subst e; rw [h] at h'; cases h'

section
variable (P : Program) (w : World)
def ObjOk (H : Hp) (h : Heap) (a : Addr) : HO → Prop
  | .lst xs => xs.length ≤ sizeLine ∧ ∃ (its : List Value) (n : Nat), Vals xs its ∧ h.get? a = some { cls := .type "list", data := .seq its.toArray n }
  | .tup xs => xs.length ≤ sizeLine ∧ ∃ its : List Value, Vals xs its ∧ IsTup h a its.toArray
  | .dK kvs => kvs.length ≤ sizeLine ∧ (a == sysModules) = false ∧ ∃ vs, KV kvs vs ∧ h.DictOf (mixKind P w) a vs
  | .dT kvs => kvs.length ≤ sizeLine ∧ (a == sysModules) = false ∧ ∃ xs : List (List Key × Addr × Value),
      Paired (fun (p : List Key × V) (q : List Key × Addr × Value) => p.1 = q.1 ∧ H q.2.1 = some (.tup (p.1.map kV)) ∧ RelV p.2 q.2.2) kvs xs ∧
      ∃ o es ep, h.get? a = some o ∧ o.ExactDict ∧ o.data = .dict es ep ∧ es.toList = xs.map (entryOfKey (tupleKind (mixKind P w))) ∧ (xs.map (·.1)).Nodup
  | .set S n => h.SetOf (intKind P w) a S n
  | .ins C dx fs => H dx = some (.own a) ∧ fs.length ≤ 1000 ∧ dx ≠ a ∧ h.get? a = some (PySem.W.instObj C dx) ∧
      ∃ mA, h.Ns1 dx mA ∧ (∀ f, RelO (fs.lookup f) (mA f)) ∧ PySem.Within mA (fs.map (·.1))
  | .own _ => ∃ o, h.get? a = some o
  | .xd fs => ∃ mA, h.Ns1 a mA ∧ ∀ f, RelO (fs.lookup f) (mA f)
  | .rng lo hi => ∃ t u v, h.get? a = some { cls := .type "range", data := .fields #[.int lo t, .int hi u, .int 1 v] }
  | .frz o u => h.get? a = some o ∧ ObjOk H h a u
  | .tbl ps => h.get? a = some { cls := .none, data := .fields ps }
  | .met f x => h.get? a = some (PySem.W.methodObj (.ref f) (.ref x))
  | .ext φ => φ h ∧ (∃ o, h.get? a = some o) ∧ ∀ h1 h2 : Heap, φ h1 → (∀ o, h1.get? a = some o → h2.get? a = some o) → φ h2
/-- the abstract heap is held -/
def HOk (H : Hp) (h : Heap) : Prop := ∀ a o, H a = some o → ObjOk P w H h a o
end

section
variable {P : Program} {w : World} {H H' : Hp} {h h' : Heap} {a : Addr} {o : HO}
theorem ObjOk.lt (x : ObjOk P w H h a o) : a < h.objs.size := by
  cases o with
  | lst xs => obtain ⟨_, _, _, _, e⟩ := x; exact Heap.lt_size e
  | tup xs => obtain ⟨_, _, _, p⟩ := x; exact p.lt
  | dK kvs => obtain ⟨_, _, _, _, o, _, _, e, _⟩ := x; exact Heap.lt_size e
  | dT kvs => obtain ⟨_, _, _, _, o, _, _, e, _⟩ := x; exact Heap.lt_size e
  | set S n => obtain ⟨o, _, _, _, e, _⟩ := x; exact Heap.lt_size e
  | ins C dx fs => obtain ⟨_, _, _, e, _⟩ := x; exact Heap.lt_size e
  | own y => obtain ⟨_, e⟩ := x; exact Heap.lt_size e
  | xd fs => obtain ⟨_, ⟨_, _, _, e, _⟩, _⟩ := x; exact Heap.lt_size e
  | rng lo hi => obtain ⟨_, _, _, e⟩ := x; exact Heap.lt_size e
  | frz ob u => obtain ⟨e, _⟩ := x; exact Heap.lt_size e
  | tbl ps => exact Heap.lt_size (show h.get? a = some _ from x)
  | met f y => exact Heap.lt_size (show h.get? a = some _ from x)
  | ext φ => obtain ⟨_, ⟨_, e⟩, _⟩ := x; exact Heap.lt_size e
theorem Paired.mapP {α β : Type} {F G : α → β → Prop} : ∀ {l₁ : List α} {l₂ : List β}, Paired F l₁ l₂ → (∀ a b, F a b → G a b) → Paired G l₁ l₂
  | _, _, .nil, _ => .nil
  | _, _, .cons r t, f => .cons (f _ _ r) (Paired.mapP t f)
/-- what an object's description leans on: its own object, its own dict, the tuples -/
theorem ObjOk.stay (x : ObjOk P w H h a o) (k : ∀ b u, (b = a ∨ H b = some (.own a)) → h.get? b = some u → h'.get? b = some u)
    (ho : ∀ b, H b = some (.own a) → H' b = some (.own a)) (ht : ∀ b xs, H b = some (.tup xs) → H' b = some (.tup xs)) : ObjOk P w H' h' a o := by
  induction o with
  | lst xs => obtain ⟨z, its, n, r, e⟩ := x; exact ⟨z, its, n, r, k _ _ (.inl rfl) e⟩
  | tup xs => obtain ⟨z, its, r, ob, e, c⟩ := x; exact ⟨z, its, r, ob, k _ _ (.inl rfl) e, c⟩
  | dK kvs => obtain ⟨z, y, vs, r, ob, es, ep, e, c⟩ := x; exact ⟨z, y, vs, r, ob, es, ep, k _ _ (.inl rfl) e, c⟩
  | dT kvs =>
    obtain ⟨z, y, xs, r, ob, es, ep, e, c⟩ := x
    exact ⟨z, y, xs, Paired.mapP r fun p q z => ⟨z.1, ht _ _ z.2.1, z.2.2⟩, ob, es, ep, k _ _ (.inl rfl) e, c⟩
  | set S n => obtain ⟨ob, es, ep, t, e, c⟩ := x; exact ⟨ob, es, ep, t, k _ _ (.inl rfl) e, c⟩
  | ins C dx fs =>
    obtain ⟨d, z, ne, e, mA, ⟨od, es, ep, e2, c⟩, r⟩ := x
    exact ⟨ho _ d, z, ne, k _ _ (.inl rfl) e, mA, ⟨od, es, ep, k _ _ (.inr d) e2, c⟩, r⟩
  | own y => obtain ⟨ob, e⟩ := x; exact ⟨ob, k _ _ (.inl rfl) e⟩
  | xd fs => obtain ⟨mA, ⟨od, es, ep, e, c⟩, r⟩ := x; exact ⟨mA, ⟨od, es, ep, k _ _ (.inl rfl) e, c⟩, r⟩
  | rng lo hi => obtain ⟨t, u, v, e⟩ := x; exact ⟨t, u, v, k _ _ (.inl rfl) e⟩
  | frz ob u ih => obtain ⟨e, q⟩ := x; exact ⟨k _ _ (.inl rfl) e, ih q⟩
  | tbl ps =>
    have e : h.get? a = some { cls := .none, data := .fields ps } := x
    show h'.get? a = some { cls := .none, data := .fields ps }
    exact k a _ (.inl rfl) e
  | met f y =>
    have e : h.get? a = some (PySem.W.methodObj (.ref f) (.ref y)) := x
    show h'.get? a = some (PySem.W.methodObj (.ref f) (.ref y))
    exact k a _ (.inl rfl) e
  | ext φ => obtain ⟨p, ⟨o, e⟩, st⟩ := x; exact ⟨st _ _ p fun o q => k _ _ (.inl rfl) q, ⟨o, k _ _ (.inl rfl) e⟩, st⟩
theorem HOk.lt (x : HOk P w H h) (e : H a = some o) : a < h.objs.size := (x a o e).lt
theorem HOk.fresh (x : HOk P w H h) (e : h.objs.size ≤ a) : H a = none := by
  cases q : H a with
  | none => rfl
  | some u => exact absurd (Nat.lt_of_lt_of_le (x.lt q) e) (Nat.lt_irrefl _)
/-- every object of the heap is kept -/
theorem HOk.kept (x : HOk P w H h) (k : ∀ b u, h.get? b = some u → h'.get? b = some u) : HOk P w H h' := fun a o e =>
  (x a o e).stay (fun b u _ q => k b u q) (fun _ q => q) fun _ _ q => q
/-- a new object is laid and tracked -/
theorem HOk.laid (x : HOk P w H h) (k : ∀ b u, h.get? b = some u → h'.get? b = some u) (hp : h.objs.size ≤ a) (new : ObjOk P w (upd H a o) h' a o) : HOk P w (upd H a o) h' := fun b u e => by
  have hn := x.fresh hp
  by_cases hb : b = a
  · subst hb; rw [upd_same] at e; cases e; exact new
  · rw [upd_ne hb] at e
    exact (x b u e).stay (fun c v _ q => k c v q) (fun c q => by rw [upd_ne (ne_of_none q hn)]; exact q) fun c xs q => by rw [upd_ne (ne_of_none q hn)]; exact q
end

/-- what may be read as u: it is u, or a known u -/
def Rd (H : Hp) (a : Addr) (u : HO) : Prop := H a = some u ∨ ∃ o, H a = some (.frz o u)
theorem Rd.of {H : Hp} {a : Addr} {u : HO} (h : H a = some u) : Rd H a u := .inl h
theorem Rd.ok {P : Program} {w : World} {H : Hp} {h : Heap} {a : Addr} {u : HO} (r : Rd H a u) (x : HOk P w H h) : ObjOk P w H h a u := by
  rcases r with r | ⟨o, r⟩
  · exact x a u r
  · obtain ⟨_, q⟩ := x a _ r
    exact q
/-- what may be written -/
def Mut : Option HO → Prop
  | some (.lst _) => True
  | some (.dK _) => True
  | some (.dT _) => True
  | some (.set _ _) => True
  | some (.ins _ _ _) => True
  | some (.ext _) => True
  | _ => False
section
variable {P : Program} {w : World} {H : Hp} {h h' : Heap} {x e : Addr} {o' : HO}
/-- the object at e is changed: x itself, or the dict of the instance x -/
theorem HOk.write (ok : HOk P w H h) (mu : Mut (H x)) (he : e = x ∨ H e = some (.own x)) (k : ∀ b u, b ≠ e → h.get? b = some u → h'.get? b = some u) (heo : ∃ u, h'.get? e = some u)
    (new : ObjOk P w (upd H x o') h' x o') : HOk P w (upd H x o') h' := fun b u q => by
  have nown : ∀ c y, H c = some (.own y) → c ≠ x := fun c y r z => by subst z; rw [r] at mu; exact mu
  have ntup : ∀ c xs, H c = some (.tup xs) → c ≠ x := fun c xs r z => by subst z; rw [r] at mu; exact mu
  by_cases hb : b = x
  · subst hb; rw [upd_same] at q; cases q; exact new
  · rw [upd_ne hb] at q
    by_cases hbe : b = e
    · have q' : H b = some (.own x) := by
        rcases he with z | z
        · exact absurd (hbe.trans z) hb
        · rw [hbe]; exact z
      rw [q] at q'; cases q'
      obtain ⟨v, hv⟩ := heo
      exact ⟨v, by rw [hbe]; exact hv⟩
    · refine (ok b u q).stay (fun c v hc r => k c v ?_ r) (fun c r => by rw [upd_ne (nown c b r)]; exact r) fun c xs r => by rw [upd_ne (ntup c xs r)]; exact r
      rcases hc with rfl | hc
      · exact hbe
      · rintro rfl
        rcases he with z | z
        · exact nown c b hc z
        · rw [hc] at z; cases z; exact hb rfl
end

/-! ### kept unless tracked; of the frames at fs (the callers') the slots may change (an exception that passes writes there); of the records at ex (iterators) nothing is said -/
structure Un (fs ex : List Addr) (H H' : Hp) (h h' : Heap) : Prop where
  keep : ∀ b o, h.get? b = some o → H b = none → b ∉ fs → b ∉ ex → h'.get? b = some o
  slot : ∀ b o, h.get? b = some o → H b = none → b ∈ fs → b ∉ ex → ∃ sl, h'.get? b = some { o with slots := sl }
  free : ∀ b o, h.get? b = some o → H b = none → b ∉ ex → H' b = none
  there : ∀ b o, h.get? b = some o → b ∉ ex → ∃ o', h'.get? b = some o'
  tups : ∀ b xs, H b = some (.tup xs) → H' b = some (.tup xs)
  frzs : ∀ b o u, H b = some (.frz o u) → H' b = some (.frz o u)
  tbls : ∀ b ps, H b = some (.tbl ps) → ∃ more, H' b = some (.tbl (ps ++ more))
section
variable {fs fs' ex ex' : List Addr} {H H1 H2 : Hp} {h h1 h2 h' : Heap} {a x e : Addr} {o : HO}
theorem Un.any (u : Un fs ex H H1 h h1) {b : Addr} {ob : Obj} (q : h.get? b = some ob) (n : H b = none) (hx : b ∉ ex) : ∃ sl, h1.get? b = some { ob with slots := sl } := by
  by_cases hb : b ∈ fs
  · exact u.slot b ob q n hb hx
  · exact ⟨ob.slots, u.keep b ob q n hb hx⟩
theorem Un.trans (a : Un fs ex H H1 h h1) (b : Un fs ex H1 H2 h1 h2) : Un fs ex H H2 h h2 where
  keep := fun c ob q n hc hx => b.keep c ob (a.keep c ob q n hc hx) (a.free c ob q n hx) hc hx
  slot := fun c ob q n hc hx => by
    obtain ⟨sl, e1⟩ := a.slot c ob q n hc hx
    obtain ⟨sl', e2⟩ := b.slot c _ e1 (a.free c ob q n hx) hc hx
    exact ⟨sl', e2⟩
  free := fun c ob q n hx => by
    obtain ⟨o', e1⟩ := a.there c ob q hx
    exact b.free c o' e1 (a.free c ob q n hx) hx
  there := fun c ob q hx => by
    obtain ⟨o', e1⟩ := a.there c ob q hx
    exact b.there c o' e1 hx
  tups := fun c xs q => b.tups c xs (a.tups c xs q)
  frzs := fun c ob xs q => b.frzs c ob xs (a.frzs c ob xs q)
  tbls := fun c ps q => by
    obtain ⟨m1, e1⟩ := a.tbls c ps q
    obtain ⟨m2, e2⟩ := b.tbls c _ e1
    exact ⟨m1 ++ m2, by rw [e2, Array.append_assoc]⟩
theorem Un.kept (k : ∀ b u, h.get? b = some u → h'.get? b = some u) : Un fs ex H H h h' :=
  ⟨fun b ob q _ _ _ => k b ob q, fun b ob q _ _ _ => ⟨ob.slots, k b ob q⟩, fun _ _ _ n _ => n, fun b ob q _ => ⟨ob, k b ob q⟩, fun _ _ q => q, fun _ _ _ q => q, fun _ ps q => ⟨#[], by rw [q]; simp⟩⟩
theorem Un.refl : Un fs ex H H h h := Un.kept fun _ _ q => q
theorem Un.laid (k : ∀ b u, h.get? b = some u → h'.get? b = some u) (hp : h.objs.size ≤ a) (hn : H a = none) : Un fs ex H (upd H a o) h h' where
  keep := fun b u q _ _ _ => k b u q
  slot := fun b u q _ _ _ => ⟨u.slots, k b u q⟩
  free := fun b u q n _ => by rw [upd_ne (Nat.ne_of_lt (Nat.lt_of_lt_of_le (Heap.lt_size q) hp))]; exact n
  there := fun b u q _ => ⟨u, k b u q⟩
  tups := fun b xs q => by rw [upd_ne (ne_of_none q hn)]; exact q
  frzs := fun b u xs q => by rw [upd_ne (ne_of_none q hn)]; exact q
  tbls := fun b ps q => ⟨#[], by rw [upd_ne (ne_of_none q hn), q]; simp⟩
theorem Un.write (mu : Mut (H x)) (he : e = x ∨ H e = some (.own x)) (k : ∀ b u, b ≠ e → h.get? b = some u → h'.get? b = some u) (heo : ∃ u, h'.get? e = some u) : Un fs ex H (upd H x o) h h' := by
  have hx : ∀ b, H b = none → b ≠ x := fun b n z => by subst z; rw [n] at mu; exact mu
  have hb : ∀ b, H b = none → b ≠ e := fun b n z => by
    subst z
    rcases he with r | r
    · exact hx b n r
    · rw [n] at r; cases r
  have hm : ∀ b u, H b = some u → ¬ Mut (some u) → b ≠ x := fun b u q nm z => by subst z; rw [q] at mu; exact nm mu
  refine ⟨fun b u q n _ _ => k b u (hb b n) q, fun b u q n _ _ => ⟨u.slots, k b u (hb b n) q⟩, fun b u q n _ => by rw [upd_ne (hx b n)]; exact n, fun b u q _ => ?_,
    fun b xs q => by rw [upd_ne (hm b _ q fun z => z)]; exact q, fun b u xs q => by rw [upd_ne (hm b _ q fun z => z)]; exact q, fun b ps q => ⟨#[], by rw [upd_ne (hm b _ q fun z => z), q]; simp⟩⟩
  by_cases hbe : b = e
  · subst hbe; exact heo
  · exact ⟨u, k b u hbe q⟩
theorem Un.mono (u : Un fs ex H H1 h h1) (hs : ∀ b ∈ fs, b ∈ fs') (hx : ∀ b ∈ ex, b ∈ ex') : Un fs' ex' H H1 h h1 :=
  ⟨fun b ob q n hb he => u.keep b ob q n (fun z => hb (hs b z)) fun z => he (hx b z), fun _ _ q n _ he => u.any q n fun z => he (hx _ z), fun b ob q n he => u.free b ob q n fun z => he (hx b z), fun b ob q he => u.there b ob q fun z => he (hx b z), u.tups, u.frzs, u.tbls⟩
end

/-! ### the heap without what is tracked -/
def trk (h : Heap) (H : Hp) : List Addr := (List.range h.objs.size).filter fun a => (H a).isSome
def hidT (h : Heap) (H : Hp) : Heap := PySem.W.hideAll h (trk h H)
theorem hidT_size (h : Heap) (H : Hp) : (hidT h H).objs.size = h.objs.size := PySem.W.hideAll_size _ _
theorem hidT_get {h : Heap} {H : Hp} {b : Addr} {o : Obj} (e : h.get? b = some o) (n : H b = none) : (hidT h H).get? b = some o :=
  PySem.W.hideAll_get _ e fun hm => by
    have q : (H b).isSome = true := (List.mem_filter.mp hm).2
    rw [n] at q; simp at q
theorem of_hidT {h : Heap} {H : Hp} {b : Addr} {o : Obj} (e : (hidT h H).get? b = some o) : h.get? b = some o ∧ H b = none := by
  have e' : h.get? b = some o := PySem.W.of_hideAll (trk h H) e
  refine ⟨e', ?_⟩
  cases q : H b with
  | none => rfl
  | some x =>
    have hm : b ∈ trk h H := List.mem_filter.mpr ⟨List.mem_range.mpr (Heap.lt_size e'), by simp [q]⟩
    have z : (hidT h H).get? b = none := PySem.W.hideAll_none (trk h H) hm
    rw [z] at e; cases e

/-! ### OpenK's ledger, filled with every new object but one -/
def allNews (g h : Heap) (L : Addr) : List (Addr × Obj) := (List.range h.objs.size).filterMap fun a => if a = L ∨ (g.get? a).isSome = true then none else (h.get? a).map fun o => (a, o)
def rest (g h : Heap) (L d : Addr) : List (Addr × Obj) := (allNews g h L).filter fun p => decide (p.1 ≠ d)
end L2

namespace L2
open PySem PySem.Spec PyProof.Rows

/-- the module's facts, over the base: the heap at the law's entry without what is tracked there -/
structure Mod (K : PySem.W.Frag) (mg : Str → Option Value) (base : Heap) : Prop where
  kin : K.In base
  glob : base.Ns mainGlobals mg
  blt : ∃ mb, base.Ns builtinsNs mb ∧ ∀ x : Str, x ≠ "__name__" → mb x = bootBuiltins x
  nolimit : base.NoLimit

/-- the context: a def's body (or a comprehension's block) running. base: fixed through the whole law; s₀, H₀: the entry; outer: the frames whose slots others may change (a def's callers); stack: all frames that run;
   ex: iterators that were made ahead of the entry and are walked here (a comprehension's); fn: the names whose cells were made at the entry (a def: all; a comprehension's block: its own); calm: not within an except suite; pn: pins that every state bears; xe: what is wanted of an exception that leaves the code -/
structure Cx where
  prog : Program
  w : World
  K : PySem.W.Frag
  mg : Str → Option Value
  base : Heap
  A : Around
  N : List Str
  s₀ : Shared
  H₀ : Hp
  env : Env
  outer : List Env
  stack : List Env
  ex : List Addr
  fn : Str → Bool
  calm : Bool
  pn : List (Addr × Obj)
  xe : Value → Shared → Prop
/-- the callers' frames -/
def frs (l : List Env) : List Addr := l.filterMap (·.frame)
abbrev Cx.fs (X : Cx) : List Addr := frs X.outer

def Vis (sc : Scope) (x : Str) : Prop := sc.names.lookup x = some .local ∨ sc.names.lookup x = some .cell ∨ sc.names.lookup x = some .free
def Loc (sc : Scope) (x : Str) : Prop := sc.names.lookup x = some .local ∨ sc.names.lookup x = some .cell
def Look (env : Env) (h : Heap) (m : Str → Option Value) (x : Str) (u : Value) : Prop :=
  (env.kindOf x = some .local ∧ m x = some u) ∨ ((env.kindOf x = some .cell ∨ env.kindOf x = some .free) ∧ ∃ c, env.cells.lookup x = some c ∧ h.IsCell c (some u))

structure Cx.Ok (X : Cx) : Prop where
  mod : Mod X.K X.mg X.base
  kind : X.env.scope.kind = .function
  glob : X.env.globals = mainGlobals
  blt : X.env.builtins = builtinsNs
  above : X.s₀.heap.objs.size ≤ X.env.locals
  inj : ∀ x y c, X.env.cells.lookup x = some c → X.env.cells.lookup y = some c → x = y
  has : ∀ x, (X.env.kindOf x = some .cell ∨ X.env.kindOf x = some .free) → ∃ c, X.env.cells.lookup x = some c
  cab : ∀ x c, X.fn x = true → X.env.cells.lookup x = some c → X.s₀.heap.objs.size ≤ c
  hd : X.calm = true → X.A.handled = none
  frames : X.A.frames = some X.stack
  stk : X.stack = X.outer ∨ (X.stack = X.env :: X.outer ∧ X.env.frame = some X.env.locals)
  exf : ∀ b ∈ X.ex, b ≠ X.env.locals ∧ ∀ x c, X.env.cells.lookup x = some c → c ≠ b
  bs : ∀ b o, X.base.get? b = some o → X.s₀.heap.get? b = some o ∧ X.H₀ b = none
  bsz : X.base.objs.size ≤ X.s₀.heap.objs.size
  noex : ∀ b o, X.base.get? b = some o → b ∉ X.ex
  exfs : ∀ b ∈ X.ex, b ∉ X.fs
  funs : X.s₀.heap.FunFrames X.base X.outer
  frf : ∀ b ∈ X.fs, X.H₀ b = none

structure Inv (X : Cx) (pins : List (Addr × Obj)) (σ : List (Option V)) (H : Hp) (s : Shared) : Prop where
  ok : X.Ok
  os : s.os = X.s₀.os
  bare : AllBare s.gens
  base : Un X.fs X.ex X.H₀ H X.s₀.heap s.heap
  loc : ∃ m, s.heap.Ns X.env.locals m ∧ ∀ (i : Nat) (x : Str) (v : V), X.N[i]? = some x → σ[i]? = some (some v) → Vis X.env.scope x → ∃ u, RelV v u ∧ Look X.env s.heap m x u
  cell : ∀ x c, X.env.cells.lookup x = some c → ∃ v, s.heap.IsCell c v
  free : H X.env.locals = none
  freeC : ∀ x c, X.env.cells.lookup x = some c → H c = none
  pin : ∀ p ∈ X.pn ++ pins, s.heap.get? p.1 = some p.2 ∧ H p.1 = none ∧ p.1 ≠ X.env.locals ∧ p.1 ∉ X.fs ∧ ∀ v, p.2.data ≠ .cell v
  hok : HOk X.prog X.w H s.heap
  len : σ.length = X.N.length

section
variable {X : Cx} {pins : List (Addr × Obj)} {σ : List (Option V)} {H H' : Hp} {s : Shared} {h' : Heap}

theorem Cx.Ok.nofr (ok : X.Ok) {b : Addr} {o : Obj} (e : X.base.get? b = some o) : b ∉ X.fs := fun hb => by
  have := (ok.funs.mem hb).1
  rw [e] at this; cases this
theorem Inv.bs (I : Inv X pins σ H s) : ∀ b o, X.base.get? b = some o → s.heap.get? b = some o ∧ H b = none := fun b o e =>
  ⟨I.base.keep b o (I.ok.bs b o e).1 (I.ok.bs b o e).2 (I.ok.nofr e) (I.ok.noex b o e), I.base.free b o (I.ok.bs b o e).1 (I.ok.bs b o e).2 (I.ok.noex b o e)⟩
theorem Inv.bk (I : Inv X pins σ H s) : ∀ b o, X.base.get? b = some o → s.heap.get? b = some o := fun b o e => (I.bs b o e).1
theorem Inv.mod (I : Inv X pins σ H s) : Mod X.K X.mg X.base := I.ok.mod
theorem Inv.kIn (I : Inv X pins σ H s) : X.K.In s.heap := I.ok.mod.kin.keeps I.bk
theorem Inv.nolimit (I : Inv X pins σ H s) : s.heap.NoLimit := I.ok.mod.nolimit.keeps I.bk
theorem Inv.lt (I : Inv X pins σ H s) : X.env.locals < s.heap.objs.size := let ⟨_, hn, _⟩ := I.loc; hn.lt
theorem Inv.sz (I : Inv X pins σ H s) : X.s₀.heap.objs.size ≤ s.heap.objs.size := Nat.le_trans I.ok.above (Nat.le_of_lt I.lt)
theorem Inv.nofs (I : Inv X pins σ H s) {a : Addr} (h : s.heap.objs.size ≤ a) : a ∉ X.fs := fun hb => by
  obtain ⟨_, o, ho, _⟩ := I.ok.funs.mem hb
  exact absurd (Nat.lt_of_lt_of_le (Heap.lt_size ho) (Nat.le_trans I.sz h)) (Nat.lt_irrefl _)
theorem Inv.cne (I : Inv X pins σ H s) : ∀ x c, X.env.cells.lookup x = some c → c ≠ X.env.locals := fun x c e z => by
  obtain ⟨v, o, ho, hd⟩ := I.cell x c e
  obtain ⟨m, ⟨o', es, ep, ho', hd', _⟩, _⟩ := I.loc
  rw [z, ho'] at ho; cases ho; rw [hd'] at hd; cases hd
theorem Inv.funs (I : Inv X pins σ H s) : s.heap.FunFrames X.base X.outer := by
  have all : ∀ (l : List Env), (∀ b ∈ frs l, b ∈ X.fs) → X.s₀.heap.FunFrames X.base l → s.heap.FunFrames X.base l := by
    intro l
    induction l with
    | nil => intro _ _; trivial
    | cons env r ih =>
      intro hs hl
      obtain ⟨hk, ⟨L, o, hf, hn, ho, hd⟩, hr⟩ := hl
      have hL : L ∈ X.fs := hs L (by unfold frs; rw [List.filterMap_cons, hf]; exact List.mem_cons_self)
      obtain ⟨sl, e⟩ := I.base.slot L o ho (I.ok.frf L hL) hL fun z => I.ok.exfs L z hL
      exact ⟨hk, ⟨L, _, hf, hn, e, hd⟩, ih (fun b hb => hs b (by unfold frs; rw [List.filterMap_cons, hf]; exact List.mem_cons_of_mem _ hb)) hr⟩
  exact all X.outer (fun _ hb => hb) I.ok.funs

/-- the frames that run, for a call -/
theorem Inv.stack (I : Inv X pins σ H s) : s.heap.FunFrames X.base X.stack := by
  rcases I.ok.stk with e | ⟨e, hf⟩
  · rw [e]; exact I.funs
  · rw [e]
    obtain ⟨m, hn, _⟩ := I.loc
    refine .cons (by rw [I.ok.kind]; decide) hf hn ?_ I.funs
    exact Heap.get?_none_of_le (Nat.le_trans I.ok.bsz I.ok.above)
theorem Inv.stkSub (I : Inv X pins σ H s) : ∀ b ∈ frs X.stack, b ∈ X.env.locals :: X.fs := fun b hb => by
  rcases I.ok.stk with e | ⟨e, hf⟩
  · rw [e] at hb; exact List.mem_cons_of_mem _ hb
  · rw [e] at hb
    unfold frs at hb
    rw [List.filterMap_cons, hf] at hb
    exact hb
theorem Inv.stkFree (I : Inv X pins σ H s) : ∀ b ∈ frs X.stack, H b = none := fun b hb => by
  rcases List.mem_cons.mp (I.stkSub b hb) with e | hb
  · rw [e]; exact I.free
  · obtain ⟨_, o, ho, _⟩ := I.ok.funs.mem hb
    exact I.base.free b o ho (I.ok.frf b hb) fun z => I.ok.exfs b z hb

/-- THE STEP: the untracked objects but the frame and the records at ch are kept (the callers' frames up to slots), the frame's map is kept, the new abstract heap is held -/
theorem Inv.step {g' : Array GenState} {t' : Nat} {d' : Drawn} {ch : List Addr} (I : Inv X pins σ H s)
    (hch : ∀ b ∈ ch, (b ∈ X.ex ∨ X.s₀.heap.objs.size ≤ b) ∧ b ≠ X.env.locals ∧ (∀ x c, X.env.cells.lookup x = some c → c ≠ b) ∧ ∀ p ∈ X.pn ++ pins, p.1 ≠ b)
    (keep : ∀ b o, b ≠ X.env.locals → b ∉ X.fs → b ∉ ch → s.heap.get? b = some o → H b = none → h'.get? b = some o)
    (slot : ∀ b o, b ≠ X.env.locals → b ∈ X.fs → b ∉ ch → s.heap.get? b = some o → H b = none → ∃ sl, h'.get? b = some { o with slots := sl }) (free : ∀ b o, b ∉ ch → s.heap.get? b = some o → H b = none → H' b = none)
    (there : ∀ b o, b ∉ ch → s.heap.get? b = some o → ∃ o', h'.get? b = some o')
    (tups : ∀ b xs, H b = some (.tup xs) → H' b = some (.tup xs)) (frzs : ∀ b o u, H b = some (.frz o u) → H' b = some (.frz o u)) (tbls : ∀ b ps, H b = some (.tbl ps) → ∃ more, H' b = some (.tbl (ps ++ more)))
    (ns : ∀ m, s.heap.Ns X.env.locals m → h'.Ns X.env.locals m) (hok : HOk X.prog X.w H' h') (hg : AllBare g') :
    Inv X pins σ H' { s with heap := h', gens := g', drawn := d', toks := t' } := by
  have neL : ∀ b o, X.s₀.heap.get? b = some o → b ≠ X.env.locals := fun b o e => Nat.ne_of_lt (Nat.lt_of_lt_of_le (Heap.lt_size e) I.ok.above)
  have neC : ∀ b o, X.s₀.heap.get? b = some o → b ∉ X.ex → b ∉ ch := fun b o e hx hb => by
    rcases (hch b hb).1 with z | z
    · exact hx z
    · exact absurd (Nat.lt_of_lt_of_le (Heap.lt_size e) z) (Nat.lt_irrefl _)
  have cellK : ∀ x c, X.env.cells.lookup x = some c → ∀ v, s.heap.IsCell c v → h'.IsCell c v := fun x c e v ⟨o, ho, hd⟩ => by
    have nch : c ∉ ch := fun z => (hch c z).2.2.1 x c e rfl
    by_cases hc : c ∈ X.fs
    · obtain ⟨sl, q⟩ := slot c o (I.cne x c e) hc nch ho (I.freeC x c e)
      exact ⟨_, q, hd⟩
    · exact ⟨o, keep c o (I.cne x c e) hc nch ho (I.freeC x c e), hd⟩
  refine ⟨I.ok, I.os, hg, ⟨fun b o e n hb hx => ?_, fun b o e n hb hx => ?_, fun b o e n hx => ?_, fun b o e hx => ?_, fun b xs e => tups b xs (I.base.tups b xs e), fun b o xs e => frzs b o xs (I.base.frzs b o xs e), fun b ps e => ?_⟩, ?_, fun x c e => ?_, ?_, fun x c e => ?_, fun p hp => ?_, hok, I.len⟩
  · exact keep b o (neL b o e) hb (neC b o e hx) (I.base.keep b o e n hb hx) (I.base.free b o e n hx)
  · obtain ⟨sl, e1⟩ := I.base.slot b o e n hb hx
    obtain ⟨sl', e2⟩ := slot b _ (neL b o e) hb (neC b o e hx) e1 (I.base.free b o e n hx)
    exact ⟨sl', e2⟩
  · obtain ⟨o', e1⟩ := I.base.there b o e hx
    exact free b o' (neC b o e hx) e1 (I.base.free b o e n hx)
  · obtain ⟨o', e1⟩ := I.base.there b o e hx
    exact there b o' (neC b o e hx) e1
  · obtain ⟨m1, e1⟩ := I.base.tbls b ps e
    obtain ⟨m2, e2⟩ := tbls b _ e1
    exact ⟨m1 ++ m2, by rw [e2, Array.append_assoc]⟩
  · obtain ⟨m, hn, hl⟩ := I.loc
    refine ⟨m, ns m hn, fun i x v e1 e2 e3 => ?_⟩
    obtain ⟨u, r, l⟩ := hl i x v e1 e2 e3
    refine ⟨u, r, ?_⟩
    rcases l with l | ⟨k, c, e, z⟩
    · exact .inl l
    · exact .inr ⟨k, c, e, cellK x c e _ z⟩
  · obtain ⟨v, z⟩ := I.cell x c e
    exact ⟨v, cellK x c e v z⟩
  · obtain ⟨m, ⟨o, _, _, ho, _⟩, _⟩ := I.loc
    exact free _ o (fun z => (hch _ z).2.1 rfl) ho I.free
  · obtain ⟨v, o, ho, hd⟩ := I.cell x c e
    exact free c o (fun z => (hch c z).2.2.1 x c e rfl) ho (I.freeC x c e)
  · obtain ⟨e, n, ne, nf, d⟩ := I.pin p hp
    have nch : p.1 ∉ ch := fun z => (hch p.1 z).2.2.2 p hp rfl
    exact ⟨keep p.1 p.2 ne nf nch e n, free p.1 p.2 nch e n, ne, nf, d⟩
/-- .. where the frame's own object is kept too -/
theorem Inv.un {t' : Nat} (I : Inv X pins σ H s) (u : Un X.fs [] H H' s.heap h') (hok : HOk X.prog X.w H' h') : Inv X pins σ H' { s with heap := h', toks := t' } := by
  obtain ⟨m, ⟨o, es, ep, ho, r⟩, _⟩ := id I.loc
  obtain ⟨sl, hL⟩ := u.any ho I.free (by simp)
  exact I.step (g' := s.gens) (d' := s.drawn) (ch := []) (fun _ z => nomatch z) (fun b o _ hb _ e n => u.keep b o e n hb (by simp)) (fun b o _ hb _ e n => u.slot b o e n hb (by simp)) (fun b o _ e n => u.free b o e n (by simp)) (fun b o _ e => u.there b o e (by simp)) u.tups u.frzs u.tbls (fun m' hm => by
    obtain ⟨o', es', ep', ho', r'⟩ := hm
    rw [ho] at ho'; cases ho'
    exact ⟨_, es', ep', hL, r'⟩) hok I.bare
/-- behind a call (or a comprehension's block): the slots of this frame may have changed too, the records at ch may have turned -/
theorem Inv.call {g' : Array GenState} {t' : Nat} {d' : Drawn} {ch : List Addr} (I : Inv X pins σ H s) (u : Un (frs X.stack) ch H H' s.heap h') (hok : HOk X.prog X.w H' h') (hg : AllBare g')
    (hch : ∀ b ∈ ch, (b ∈ X.ex ∨ X.s₀.heap.objs.size ≤ b) ∧ b ≠ X.env.locals ∧ (∀ x c, X.env.cells.lookup x = some c → c ≠ b) ∧ ∀ p ∈ X.pn ++ pins, p.1 ≠ b) :
    Inv X pins σ H' { s with heap := h', gens := g', drawn := d', toks := t' } := by
  obtain ⟨m, ⟨o, es, ep, ho, r⟩, _⟩ := id I.loc
  obtain ⟨sl, hL⟩ := u.any ho I.free fun z => (hch _ z).2.1 rfl
  exact I.step (ch := ch) hch (fun b o hL hb hc e n => u.keep b o e n (fun z => (List.mem_cons.mp (I.stkSub b z)).elim hL hb) hc) (fun b o _ _ hc e n => u.any e n hc) (fun b o hc e n => u.free b o e n hc) (fun b o hc e => u.there b o e hc) u.tups u.frzs u.tbls (fun m' hm => by
    obtain ⟨o', es', ep', ho', r'⟩ := hm
    rw [ho] at ho'; cases ho'
    exact ⟨_, es', ep', hL, r'⟩) hok hg
/-- an untracked record of ours (an iterator) has turned -/
theorem Inv.turned {t' : Nat} {it : Addr} (I : Inv X pins σ H s) (k : ∀ b o, b ≠ it → s.heap.get? b = some o → h'.get? b = some o) (hn : H it = none) (hL : it ≠ X.env.locals)
    (h1 : it ∈ X.ex ∨ X.s₀.heap.objs.size ≤ it) (h2 : ∀ x c, X.env.cells.lookup x = some c → c ≠ it) (h3 : ∀ p ∈ X.pn ++ pins, p.1 ≠ it) : Inv X pins σ H { s with heap := h', toks := t' } := by
  have nit : ∀ b u, H b = some u → b ≠ it := fun b u e z => by rw [z, hn] at e; cases e
  refine I.step (g' := s.gens) (d' := s.drawn) (ch := [it]) (fun b hb => ?_) (fun b o _ _ hc e _ => k b o (fun z => hc (by simp [z])) e) (fun b o _ _ hc e _ => ⟨o.slots, k b o (fun z => hc (by simp [z])) e⟩) (fun _ _ _ _ n => n)
    (fun b o hc e => ⟨o, k b o (fun z => hc (by simp [z])) e⟩) (fun _ _ e => e) (fun _ _ _ e => e) (fun b ps e => ⟨#[], by rw [e]; simp⟩) (fun m hm => ?_) (fun b u e => ?_) I.bare
  · have e : b = it := by simpa using hb
    subst e
    exact ⟨h1, hL, h2, h3⟩
  · obtain ⟨o, es, ep, ho, r⟩ := hm
    exact ⟨o, es, ep, k _ o (Ne.symm hL) ho, r⟩
  · refine (I.hok b u e).stay (fun c v hc q => k c v ?_ q) (fun _ q => q) fun _ _ q => q
    rcases hc with z | z
    · rw [z]; exact nit b u e
    · exact nit c _ z
theorem Inv.tok (I : Inv X pins σ H s) (t : Nat) : Inv X pins σ H { s with toks := t } := I.un (h' := s.heap) (t' := t) Un.refl I.hok
/-- all objects kept -/
theorem Inv.kept {t' : Nat} (I : Inv X pins σ H s) (k : ∀ b u, s.heap.get? b = some u → h'.get? b = some u) : Inv X pins σ H { s with heap := h', toks := t' } := I.un (Un.kept k) (I.hok.kept k)
/-- a new object laid and tracked -/
theorem Inv.laid {a : Addr} {o : HO} {t' : Nat} (I : Inv X pins σ H s) (k : ∀ b u, s.heap.get? b = some u → h'.get? b = some u) (hp : s.heap.objs.size ≤ a) (new : ObjOk X.prog X.w (upd H a o) h' a o) :
    Inv X pins σ (upd H a o) { s with heap := h', toks := t' } := I.un (Un.laid k hp (I.hok.fresh hp)) (I.hok.laid k hp new)
/-- an object written -/
theorem Inv.write {x e : Addr} {o : HO} {t' : Nat} (I : Inv X pins σ H s) (mu : Mut (H x)) (he : e = x ∨ H e = some (.own x)) (k : ∀ b u, b ≠ e → s.heap.get? b = some u → h'.get? b = some u) (heo : ∃ u, h'.get? e = some u)
    (new : ObjOk X.prog X.w (upd H x o) h' x o) : Inv X pins σ (upd H x o) { s with heap := h', toks := t' } := I.un (Un.write mu he k heo) (I.hok.write mu he k heo new)
theorem Inv.pins_of {pins' : List (Addr × Obj)} (I : Inv X pins σ H s) (h : ∀ p ∈ pins', s.heap.get? p.1 = some p.2 ∧ H p.1 = none ∧ p.1 ≠ X.env.locals ∧ p.1 ∉ X.fs ∧ ∀ v, p.2.data ≠ .cell v) : Inv X pins' σ H s :=
  ⟨I.ok, I.os, I.bare, I.base, I.loc, I.cell, I.free, I.freeC, fun p hp => (List.mem_append.mp hp).elim (fun z => I.pin p (List.mem_append_left _ z)) (h p), I.hok, I.len⟩

theorem nodup_ix {N : List Str} (hN : N.Nodup) {i j : Nat} {x : Str} (a : N[i]? = some x) (b : N[j]? = some x) : i = j := by
  obtain ⟨h1, e1⟩ := List.getElem?_eq_some_iff.mp a
  obtain ⟨h2, e2⟩ := List.getElem?_eq_some_iff.mp b
  exact (List.getElem_inj hN).mp (e1.trans e2.symm)

/-- a name is stored; what changed -/
theorem store_ok2 {M : Model} {A : Around} {E : Value → Shared → Prop} {i : Nat} {x : Str} {v : V} {u : Value} {Q : Unit → Shared → Prop} (I : Inv X pins σ H s) (hN : X.N.Nodup) (hi : X.N[i]? = some x) (hx : Loc X.env.scope x) (r : RelV v u)
    (h : ∀ s', Inv X pins (σ.set i (some v)) H s' → (∃ a, Heap.SameBut a s.heap s'.heap ∧ (a = X.env.locals ∨ X.env.cells.lookup x = some a)) → Q () s') (hf : X.fn x = true ∨ X.env.scope.names.lookup x = some .local := by first | exact .inl rfl | exact .inr rfl | assumption) : wpAny M A (storeName X.env x u) Q E s := by
  obtain ⟨m, hn, hl⟩ := id I.loc
  have hcls : (X.env.scope.kind == .class || (X.env.scope.kind == .module && X.env.locals != X.env.globals)) = false := by rw [I.ok.kind]; rfl
  have hiσ : i < σ.length := by rw [I.len]; exact (List.getElem?_eq_some_iff.mp hi).1
  have cne := I.cne
  have tracked : ∀ {a : Addr} {h' : Heap}, (∃ o, s.heap.get? a = some o ∧ H a = none) → Heap.SameBut a s.heap h' → HOk X.prog X.w H h' := fun {a h'} ha hs b ob e => by
    obtain ⟨_, _, hfree⟩ := ha
    refine (I.hok b ob e).stay (fun c w' hc q => (hs.2 c ?_).trans q) (fun _ q => q) fun _ _ q => q
    rintro rfl
    rcases hc with rfl | hc
    · rw [hfree] at e; cases e
    · rw [hfree] at hc; cases hc
  rcases hx with hk | hk
  · refine wpAny_storeName_local hk hn (fun h' hn' hs => ?_) hcls
    obtain ⟨oL, _, _, hoL, _⟩ := id hn
    refine h _ ⟨I.ok, I.os, I.bare, ⟨fun b o e n hb hx => ?_, fun b o e n hb hx => ?_, I.base.free, fun b o e hx => ?_, I.base.tups, I.base.frzs, I.base.tbls⟩, ⟨_, hn', fun j y v' e1 e2 e3 => ?_⟩, fun y c e => ?_, I.free, I.freeC, fun p hp => ?_, tracked ⟨oL, hoL, I.free⟩ hs, by simpa using I.len⟩ ⟨_, hs, .inl rfl⟩
    · exact (hs.2 b (Nat.ne_of_lt (Nat.lt_of_lt_of_le (Heap.lt_size e) I.ok.above))).trans (I.base.keep b o e n hb hx)
    · obtain ⟨sl, e1⟩ := I.base.slot b o e n hb hx
      exact ⟨sl, (hs.2 b (Nat.ne_of_lt (Nat.lt_of_lt_of_le (Heap.lt_size e) I.ok.above))).trans e1⟩
    · obtain ⟨o', e1⟩ := I.base.there b o e hx
      exact ⟨o', (hs.2 b (Nat.ne_of_lt (Nat.lt_of_lt_of_le (Heap.lt_size e) I.ok.above))).trans e1⟩
    · by_cases hj : j = i
      · subst hj
        rw [hi] at e1; cases e1
        rw [List.getElem?_set_self hiσ] at e2
        cases e2
        exact ⟨u, r, .inl ⟨hk, by simp⟩⟩
      · rw [List.getElem?_set_ne (Ne.symm hj)] at e2
        obtain ⟨u', r', q⟩ := hl j y v' e1 e2 e3
        refine ⟨u', r', ?_⟩
        rcases q with ⟨k, e⟩ | ⟨k, c, e, z⟩
        · refine .inl ⟨k, ?_⟩
          have : y ≠ x := fun e => hj (nodup_ix hN e1 (e ▸ hi))
          simp [this, e]
        · exact .inr ⟨k, c, e, z.sameBut hs (cne y c e)⟩
    · obtain ⟨w', z⟩ := I.cell y c e
      exact ⟨w', z.sameBut hs (cne y c e)⟩
    · obtain ⟨e, n, ne, nf, d⟩ := I.pin p hp
      exact ⟨(hs.2 p.1 ne).trans e, n, ne, nf, d⟩
  · have hfn : X.fn x = true := by
      rcases hf with z | z
      · exact z
      · rw [z] at hk; cases hk
    obtain ⟨c, hc⟩ := I.ok.has x (.inl hk)
    obtain ⟨w', z⟩ := I.cell x c hc
    refine wpAny_storeName_cell I.ok.kind hk hc z (fun h' hc' hs => ?_)
    obtain ⟨oc, hoc, hocd⟩ := id z
    refine h { s with heap := h' } ⟨I.ok, I.os, I.bare, ⟨fun b o e n hb hx => ?_, fun b o e n hb hx => ?_, I.base.free, fun b o e hx => ?_, I.base.tups, I.base.frzs, I.base.tbls⟩, ⟨m, hn.sameBut hs (Ne.symm (cne x c hc)), fun j y v' e1 e2 e3 => ?_⟩, fun y c' e => ?_, I.free, I.freeC, fun p hp => ?_, tracked ⟨oc, hoc, I.freeC x c hc⟩ hs, by simpa using I.len⟩ ⟨c, hs, .inr hc⟩
    · exact (hs.2 b (Nat.ne_of_lt (Nat.lt_of_lt_of_le (Heap.lt_size e) (I.ok.cab x c hfn hc)))).trans (I.base.keep b o e n hb hx)
    · obtain ⟨sl, e1⟩ := I.base.slot b o e n hb hx
      exact ⟨sl, (hs.2 b (Nat.ne_of_lt (Nat.lt_of_lt_of_le (Heap.lt_size e) (I.ok.cab x c hfn hc)))).trans e1⟩
    · obtain ⟨o', e1⟩ := I.base.there b o e hx
      exact ⟨o', (hs.2 b (Nat.ne_of_lt (Nat.lt_of_lt_of_le (Heap.lt_size e) (I.ok.cab x c hfn hc)))).trans e1⟩
    · by_cases hj : j = i
      · subst hj
        rw [hi] at e1; cases e1
        rw [List.getElem?_set_self hiσ] at e2
        cases e2
        exact ⟨u, r, .inr ⟨.inl hk, c, hc, hc'⟩⟩
      · rw [List.getElem?_set_ne (Ne.symm hj)] at e2
        obtain ⟨u', r', q⟩ := hl j y v' e1 e2 e3
        refine ⟨u', r', ?_⟩
        rcases q with q | ⟨k, c', e, z'⟩
        · exact .inl q
        · refine .inr ⟨k, c', e, z'.sameBut hs ?_⟩
          rintro rfl
          exact hj (nodup_ix hN e1 (I.ok.inj _ _ _ e hc ▸ hi))
    · by_cases hcc : c' = c
      · subst hcc; exact ⟨_, hc'⟩
      · obtain ⟨w2, z2⟩ := I.cell y c' e
        exact ⟨w2, z2.sameBut hs hcc⟩
    · obtain ⟨e, n, ne, nf, d⟩ := I.pin p hp
      refine ⟨(hs.2 p.1 ?_).trans e, n, ne, nf, d⟩
      intro q
      rw [q, hoc] at e
      have q' : oc = p.2 := Option.some.inj e
      exact d w' (by rw [← q']; exact hocd)
theorem store_ok {M : Model} {A : Around} {E : Value → Shared → Prop} {i : Nat} {x : Str} {v : V} {u : Value} {Q : Unit → Shared → Prop} (I : Inv X pins σ H s) (hN : X.N.Nodup) (hi : X.N[i]? = some x) (hx : Loc X.env.scope x) (r : RelV v u)
    (h : ∀ s', Inv X pins (σ.set i (some v)) H s' → Q () s') (hf : X.fn x = true ∨ X.env.scope.names.lookup x = some .local := by first | exact .inl rfl | exact .inr rfl | assumption) : wpAny M A (storeName X.env x u) Q E s :=
  store_ok2 I hN hi hx r (fun s' I' _ => h s' I') hf
/-- behind a call or a block, the state as it is -/
theorem Inv.call' {s' : Shared} {ch : List Addr} (I : Inv X pins σ H s) (ho : s'.os = s.os) (u : Un (frs X.stack) ch H H' s.heap s'.heap) (hok : HOk X.prog X.w H' s'.heap) (hg : AllBare s'.gens)
    (hch : ∀ b ∈ ch, (b ∈ X.ex ∨ X.s₀.heap.objs.size ≤ b) ∧ b ≠ X.env.locals ∧ (∀ x c, X.env.cells.lookup x = some c → c ≠ b) ∧ ∀ p ∈ X.pn ++ pins, p.1 ≠ b) : Inv X pins σ H' s' := by
  obtain ⟨h', g', d', t', o'⟩ := s'
  have e : o' = s.os := ho
  subst e
  exact I.call (g' := g') (t' := t') (d' := d') u hok hg hch
end

/-! ### the judgements -/
/-- an exception: its class, its own dict's address (where it has one), the abstract heap behind it -/
abbrev XK := Value → Option Addr → Hp → Prop
abbrev St := List (Option V)
abbrev VK := V → Hp → Prop
/-- an expression's reading; a test's; an argument list's -/
abbrev TE := St → Hp → VK → Prop
abbrev TT := St → Hp → (Bool → Hp → Prop) → Prop
abbrev TA := St → Hp → (List V → Hp → Prop) → Prop
/-- what is wanted behind a statement -/
structure Ends where
  nx : St → Hp → Prop
  rt : VK
  bk : St → Hp → Prop := fun _ _ => False
  ct : St → Hp → Prop := fun _ _ => False
abbrev TS := Ends → St → Hp → Prop

def EP (X : Cx) (pins : List (Addr × Obj)) (σ : St) (Q : VK) (u : Value) (s' : Shared) : Prop := ∃ v H', Inv X pins σ H' s' ∧ RelV v u ∧ Q v H'
def TP (X : Cx) (pins : List (Addr × Obj)) (σ : St) (Q : Bool → Hp → Prop) (b : Bool) (s' : Shared) : Prop := ∃ H', Inv X pins σ H' s' ∧ Q b H'
def AP (X : Cx) (pins : List (Addr × Obj)) (σ : St) (Q : List V → Hp → Prop) (us : List Value) (s' : Shared) : Prop := ∃ vs H', Inv X pins σ H' s' ∧ Vals vs us ∧ Q vs H'
def SP (X : Cx) (pins : List (Addr × Obj)) (D : Ends) (f : Flow) (s' : Shared) : Prop :=
  match f with
  | .next => ∃ σ' H', Inv X pins σ' H' s' ∧ D.nx σ' H'
  | .brk => ∃ σ' H', Inv X pins σ' H' s' ∧ D.bk σ' H'
  | .cont => ∃ σ' H', Inv X pins σ' H' s' ∧ D.ct σ' H'
  | .ret u => ∃ v σ' H', Inv X pins σ' H' s' ∧ RelV v u ∧ D.rt v H'

def PE (X : Cx) (e : Expr) (t : TE) : Prop :=
  ∀ (pins : List (Addr × Obj)) (s : Shared) (σ : St) (H : Hp) (Q : VK), Inv X pins σ H s → t σ H Q → wpAny (model X.prog X.w) X.A (eval e X.env) (EP X pins σ Q) X.xe s
def PT (X : Cx) (e : Expr) (t : TT) : Prop :=
  ∀ (pins : List (Addr × Obj)) (s : Shared) (σ : St) (H : Hp) (Q : Bool → Hp → Prop), Inv X pins σ H s → t σ H Q → wpAny (model X.prog X.w) X.A (isTrue e X.env (eval e X.env)) (TP X pins σ Q) X.xe s
/-- a test whatever its 'whole' is (and, or) -/
def PW (X : Cx) (e : Expr) (t : TT) : Prop :=
  ∀ (whole : Sem Value) (pins : List (Addr × Obj)) (s : Shared) (σ : St) (H : Hp) (Q : Bool → Hp → Prop), Inv X pins σ H s → t σ H Q → wpAny (model X.prog X.w) X.A (isTrue e X.env whole) (TP X pins σ Q) X.xe s
theorem PW.pt {X : Cx} {e : Expr} {t : TT} (h : PW X e t) : PT X e t := h _
/-- an argument list (no star), from the left -/
def PA (X : Cx) (es : List Expr) (t : TA) : Prop :=
  ∀ (pos : Pos) (pins : List (Addr × Obj)) (s : Shared) (σ : St) (H : Hp) (Q : List V → Hp → Prop), Inv X pins σ H s → t σ H Q → wpAny (model X.prog X.w) X.A (spliced (backTo pos (starEach es X.env))) (AP X pins σ Q) X.xe s
def PS (X : Cx) (st : Stmt) (t : TS) : Prop :=
  ∀ (pins : List (Addr × Obj)) (s : Shared) (σ : St) (H : Hp) (D : Ends), Inv X pins σ H s → t D σ H → wpAny (model X.prog X.w) X.A (exec st X.env) (SP X pins D) X.xe s
def PSs (X : Cx) (st : List Stmt) (t : TS) : Prop :=
  ∀ (pins : List (Addr × Obj)) (s : Shared) (σ : St) (H : Hp) (D : Ends), Inv X pins σ H s → t D σ H → wpAny (model X.prog X.w) X.A (execs st X.env) (SP X pins D) X.xe s
/-- weaken the end -/
theorem thn {α : Type} {t : Sem α} {Q Q' : α → Shared → Prop} {M : Model} {A : Around} {E : Value → Shared → Prop} {s : Shared} (h : wpAny M A t Q E s) (hQ : ∀ a s, Q a s → Q' a s) : wpAny M A t Q' E s := wpAny_mono h hQ fun _ _ x => x
end L2

namespace L2
open PySem PySem.Spec PyProof.Rows
section
variable {X : Cx}

/-- two expressions in a row -/
theorem bin {a b : Expr} {ta tb : TE} (ha : PE X a ta) (hb : PE X b tb) {pins : List (Addr × Obj)} {s : Shared} {σ : St} {H : Hp} {R : V → V → Hp → Prop} (I : Inv X pins σ H s) (h : ta σ H fun x H1 => tb σ H1 fun y H2 => R x y H2)
    {α : Type} {Q : α → Shared → Prop} {f : Value → Value → Sem α}
    (hf : ∀ v u s2 x y H2, Inv X pins σ H2 s2 → RelV x v → RelV y u → R x y H2 → wpAny (model X.prog X.w) X.A (f v u) Q X.xe s2) :
    wpAny (model X.prog X.w) X.A (eval a X.env) (fun v s₁ => wpAny (model X.prog X.w) X.A (eval b X.env) (fun u s₂ => wpAny (model X.prog X.w) X.A (f v u) Q X.xe s₂) X.xe s₁) X.xe s := by
  refine thn (ha pins s σ H _ I h) fun v s1 ⟨x, H1, I1, r1, q1⟩ => ?_
  refine thn (hb pins s1 σ H1 _ I1 q1) fun u s2 ⟨y, H2, I2, r2, q2⟩ => ?_
  exact hf v u s2 x y H2 I2 r1 r2 q2

/-! ### names and constants -/
def tVar (i : Nat) : TE := fun σ H Q => ∃ v, σ[i]? = some (some v) ∧ Q v H
def tC (v : V) : TE := fun _ H Q => Q v H
theorem pe_var {i : Nat} {x : Str} {pos : Pos} (hN : X.N[i]? = some x) (hv : Vis X.env.scope x) (hd : (x == ("__debug__" : Str)) = false := by decide) (hcd : (x == ("__classdict__" : Str)) = false := by decide) : PE X (.Name x pos) (tVar i) := by
  intro pins s σ H Q I h
  obtain ⟨v, e, h⟩ := h
  obtain ⟨m, hn, hl⟩ := I.loc
  obtain ⟨u, r, l⟩ := hl i x v hN e hv
  have fin : EP X pins σ Q u s := ⟨v, H, I, r, h⟩
  rcases l with ⟨hk, hm⟩ | ⟨hk, c, hc, hcell⟩
  · exact wpAny_Name (wpAny_loadName_local I.ok.kind hk hn hm fin) hd
  · rcases hk with hk | hk
    · exact wpAny_Name (wpAny_loadName_cell I.ok.kind hk hc hcell fin) hd
    · exact wpAny_Name (wpAny_loadName_free I.ok.kind hk hc hcell fin hcd) hd
theorem pe_int {i j pos} : PE X (.Constant (.int i) j pos) (tC (.int i)) := fun _ _ _ H _ I h => wpAny_Constant_int ⟨.int i, H, I.tok _, ⟨_, rfl⟩, h⟩
theorem pe_bl {b j pos} : PE X (.Constant (.bool b) j pos) (tC (.bl b)) := fun _ _ _ H _ I h => Constant_bool ⟨.bl b, H, I, rfl, h⟩
theorem pe_non {j pos} : PE X (.Constant .none j pos) (tC .non) := fun _ _ _ H _ I h => Constant_none ⟨.non, H, I, rfl, h⟩
theorem pe_str {x j pos} : PE X (.Constant (.str x) j pos) (tC (.str x)) := fun _ _ _ H _ I h => Calls.Constant_str ⟨.str x, H, I.tok _, ⟨_, rfl⟩, h⟩

/-- a global name of the def -/
def Gl (X : Cx) (x : Str) : Prop := X.env.kindOf x = some .globalImplicit
theorem ld_glob {E : Value → Shared → Prop} {pins : List (Addr × Obj)} {s : Shared} {σ : St} {H : Hp} {x : Str} {u : Value} {pos : Pos} {Q : Value → Shared → Prop} (I : Inv X pins σ H s) (hg : Gl X x) (hm : X.mg x = some u) (h : Q u s)
    (hd : (x == ("__debug__" : Str)) = false := by decide) : wpAny (model X.prog X.w) X.A (eval (.Name x pos) X.env) Q E s :=
  Calls.Name_function_global I.ok.kind hg (Calls.loadGlobal_global (by rw [I.ok.glob]; exact I.mod.glob.keeps I.bk) hm h) hd
theorem ld_blt {E : Value → Shared → Prop} {pins : List (Addr × Obj)} {s : Shared} {σ : St} {H : Hp} {x : Str} {u : Value} {pos : Pos} {Q : Value → Shared → Prop} (I : Inv X pins σ H s) (hg : Gl X x) (hm : X.mg x = none) (hv : bootBuiltins x = some u) (h : Q u s)
    (hn : x ≠ "__name__" := by decide) (hd : (x == ("__debug__" : Str)) = false := by decide) : wpAny (model X.prog X.w) X.A (eval (.Name x pos) X.env) Q E s := by
  obtain ⟨mb, h1, h2⟩ := I.mod.blt
  exact Calls.Name_function_global I.ok.kind hg (Calls.loadGlobal_builtin (by rw [I.ok.glob]; exact I.mod.glob.keeps I.bk) hm (by rw [I.ok.blt]; exact h1.keeps I.bk) ((h2 x hn).trans hv) h) hd
/-- a module's constant, a class, a function, as a value -/
theorem pe_glob {x : Str} {v : V} {u : Value} {pos : Pos} (hg : Gl X x) (hm : X.mg x = some u) (r : RelV v u) (hd : (x == ("__debug__" : Str)) = false := by decide) : PE X (.Name x pos) (tC v) :=
  fun _ _ _ H _ I h => ld_glob I hg hm ⟨v, H, I, r, h⟩ hd
theorem pe_bltn {x : Str} {v : V} {u : Value} {pos : Pos} (hg : Gl X x) (hm : X.mg x = none) (hv : bootBuiltins x = some u) (r : RelV v u) (hn : x ≠ "__name__" := by decide) (hd : (x == ("__debug__" : Str)) = false := by decide) : PE X (.Name x pos) (tC v) :=
  fun _ _ _ H _ I h => ld_blt I hg hm hv ⟨v, H, I, r, h⟩ hn hd

/-! ### arithmetic -/
variable {a b : Expr} {ta tb : TE} {pos : Pos}
/-! ### comparisons -/
def PC (X : Cx) (op : CmpOp) (a b : Expr) (t : TE) : Prop :=
  ∀ (pins : List (Addr × Obj)) (s : Shared) (σ : St) (H : Hp) (Q : VK), Inv X pins σ H s → t σ H Q →
    wpAny (model X.prog X.w) X.A (eval a X.env) (fun v s₁ => wpAny (model X.prog X.w) X.A (eval b X.env) (fun u s₂ => wpAny (model X.prog X.w) X.A (compareOp op v u) (EP X pins σ Q) X.xe s₂) X.xe s₁) X.xe s
theorem nobehind (b : Expr) {op : CmpOp} (h : op ≠ .In) (h2 : op ≠ .NotIn) : behindInMarks op b = false := by
  have e1 : (op == CmpOp.In) = false := by cases op <;> first | rfl | exact absurd rfl h
  have e2 : (op == CmpOp.NotIn) = false := by cases op <;> first | rfl | exact absurd rfl h2
  cases b <;> simp [behindInMarks, e1, e2]
/-- a comparison as a value, as a test -/
def tB (t : TE) : TT := fun σ H Q => t σ H fun x H1 => ∃ c, x = .bl c ∧ Q c H1
theorem pt_cmp {op : CmpOp} {t : TE} (h : PC X op a b t) (h1 : behindInMarks op b = false := by first | exact nobehind _ (by decide) (by decide) | rfl) : PT X (.Compare a [op] [b] pos) (tB t) := by
  intro pins s σ H Q I hw
  refine wpAny_isTrue_Compare1 (thn (h pins s σ H _ I hw) fun v s1 h1 => thn h1 fun u s2 h2 => thn h2 fun c s3 ⟨x, H1, I1, r1, q1⟩ => ?_) h1
  obtain ⟨d, rfl, q⟩ := q1
  cases r1
  exact wpAny_truthy_bool ⟨H1, I1, q⟩
/-- an expression whose value is a bool, as a test -/
theorem pt_val {e : Expr} {t : TE} (h : PE X e t) (he : ∀ whole, isTrue e X.env whole = (do let v ← whole; standAt e.pos; holding [v] (truthy v)) := by intro _; rfl) : PT X e (tB t) := by
  intro pins s σ H Q I hw
  refine isTrue_plain (thn (h pins s σ H _ I hw) fun v s1 ⟨x, H1, I1, r1, q1⟩ => ?_) (he _)
  obtain ⟨d, rfl, q⟩ := q1
  cases r1
  exact wpAny_truthy_bool ⟨H1, I1, q⟩

/-! ### and, or, not -/
variable {tA tB' : TT} {rest : List Expr}
def tAnd (t u : TT) : TT := fun σ H Q => t σ H fun c H1 => if c = true then u σ H1 Q else Q false H1
def tOr (t u : TT) : TT := fun σ H Q => t σ H fun c H1 => if c = true then Q true H1 else u σ H1 Q
def tNot (t : TT) : TT := fun σ H Q => t σ H fun c H1 => Q (!c) H1
theorem pw_and1 (ha : PT X a tA) : PW X (.BoolOp .And [a] pos) tA := by
  intro wh pins s σ H Q I h
  refine isTrue_and (thn (ha pins s σ H Q I h) fun c s1 e => ?_)
  cases c with
  | true => exact isTrue_and_nil e
  | false => exact e
theorem pw_or1 (ha : PT X a tA) : PW X (.BoolOp .Or [a] pos) tA := by
  intro wh pins s σ H Q I h
  refine isTrue_or (thn (ha pins s σ H Q I h) fun c s1 e => ?_)
  cases c with
  | false => exact isTrue_or_nil e
  | true => exact e
theorem pw_and (ha : PT X a tA) (hb : PW X (.BoolOp .And (b :: rest) pos) tB') : PW X (.BoolOp .And (a :: b :: rest) pos) (tAnd tA tB') := by
  intro wh pins s σ H Q I h
  refine isTrue_and (thn (ha pins s σ H _ I h) fun c s1 ⟨H1, I1, q1⟩ => ?_)
  cases c with
  | true => exact hb wh pins s1 σ H1 Q I1 q1
  | false => exact ⟨H1, I1, q1⟩
theorem pw_or (ha : PT X a tA) (hb : PW X (.BoolOp .Or (b :: rest) pos) tB') : PW X (.BoolOp .Or (a :: b :: rest) pos) (tOr tA tB') := by
  intro wh pins s σ H Q I h
  refine isTrue_or (thn (ha pins s σ H _ I h) fun c s1 ⟨H1, I1, q1⟩ => ?_)
  cases c with
  | true => exact ⟨H1, I1, q1⟩
  | false => exact hb wh pins s1 σ H1 Q I1 q1
theorem pt_not (ha : PT X a tA) : PT X (.UnaryOp .Not a pos) (tNot tA) := by
  intro pins s σ H Q I h
  exact isTrue_not (ha pins s σ H (fun c H1 => Q (!c) H1) I h)
/-- .. as values (bools) -/
def tAndV (ta tb : TE) : TE := fun σ H Q => ta σ H fun x H1 => ∃ c, x = .bl c ∧ if c = true then tb σ H1 Q else Q (.bl false) H1
def tOrV (ta tb : TE) : TE := fun σ H Q => ta σ H fun x H1 => ∃ c, x = .bl c ∧ if c = true then Q (.bl true) H1 else tb σ H1 Q
theorem pe_one {op} {t : TE} (h : PE X a t) : PE X (.BoolOp op [a] pos) t := fun pins s σ H Q I hw => BoolOp_one (h pins s σ H Q I hw)
theorem pe_and (ha : PE X a ta) (hb : PE X (.BoolOp .And (b :: rest) pos) tb) : PE X (.BoolOp .And (a :: b :: rest) pos) (tAndV ta tb) := by
  intro pins s σ H Q I h
  refine BoolOp_and (thn (ha pins s σ H _ I h) fun v s1 ⟨x, H1, I1, r1, q1⟩ => ?_)
  obtain ⟨c, rfl, q1⟩ := q1
  cases r1
  refine wpAny_truthy_bool ?_
  cases c with
  | true => exact hb pins s1 σ H1 Q I1 q1
  | false => exact ⟨.bl false, H1, I1, rfl, q1⟩
theorem pe_or (ha : PE X a ta) (hb : PE X (.BoolOp .Or (b :: rest) pos) tb) : PE X (.BoolOp .Or (a :: b :: rest) pos) (tOrV ta tb) := by
  intro pins s σ H Q I h
  refine BoolOp_or (thn (ha pins s σ H _ I h) fun v s1 ⟨x, H1, I1, r1, q1⟩ => ?_)
  obtain ⟨c, rfl, q1⟩ := q1
  cases r1
  refine wpAny_truthy_bool ?_
  cases c with
  | false => exact hb pins s1 σ H1 Q I1 q1
  | true => exact ⟨.bl true, H1, I1, rfl, q1⟩
/-- a if t else b -/
def tIf (t : TT) (ta tb : TE) : TE := fun σ H Q => t σ H fun c H1 => if c = true then ta σ H1 Q else tb σ H1 Q
theorem pe_ifExp {c : Expr} (hc : PT X c tA) (ha : PE X a ta) (hb : PE X b tb) : PE X (.IfExp c a b pos) (tIf tA ta tb) := by
  intro pins s σ H Q I h
  refine wpAny_IfExp (thn (hc pins s σ H _ I h) fun d s1 ⟨H1, I1, q1⟩ => ?_)
  cases d with
  | true => exact ha pins s1 σ H1 Q I1 q1
  | false => exact hb pins s1 σ H1 Q I1 q1
end
end L2

namespace L2
open PySem PySem.Spec PyProof.Rows

/-! ### a list, a tuple that is read: tracked, frozen, or an object of the module -/
def SqL (K : PySem.W.Frag) (H : Hp) (a : Addr) (xs : List V) : Prop :=
  Rd H a (.lst xs) ∨
    ∃ (o : Obj) (its : Array Value) (n : Nat), K.lookup a = some o ∧ o.cls = .type "list" ∧ o.dict = none ∧ o.data = .seq its n ∧ its.size ≤ sizeLine ∧ Vals xs its.toList
def SqT (K : PySem.W.Frag) (H : Hp) (a : Addr) (xs : List V) : Prop :=
  Rd H a (.tup xs) ∨
    ∃ (o : Obj) (its : Array Value) (n : Nat), K.lookup a = some o ∧ o.cls = .type "tuple" ∧ o.data = .seq its n ∧ its.size ≤ sizeLine ∧ Vals xs its.toList
def absV : Value → Option V
  | .none => some .non
  | .bool b => some (.bl b)
  | .int i _ => some (.int i)
  | .str x _ => some (.str x)
  | .bytes b _ => some (.byt b)
  | .float b _ => some (.flt b)
  | .ref a => some (.ref a)
  | .type n => some (.ty n)
  | _ => none
theorem RelV.abs {x : V} {u : Value} (r : RelV x u) : absV u = some x := by
  cases x with
  | non => cases r; rfl
  | bl _ => cases r; rfl
  | int _ => obtain ⟨t, rfl⟩ := r; rfl
  | str _ => obtain ⟨t, rfl⟩ := r; rfl
  | byt _ => obtain ⟨t, rfl⟩ := r; rfl
  | flt _ => obtain ⟨t, rfl⟩ := r; rfl
  | ref _ => cases r; rfl
  | ty _ => cases r; rfl
theorem RelV.inj {x y : V} {u : Value} (r : RelV x u) (q : RelV y u) : x = y := Option.some.inj (r.abs.symm.trans q.abs)
theorem Vals.inj : ∀ {xs ys : List V} {us : List Value}, Vals xs us → Vals ys us → xs = ys
  | _, _, _, .nil, .nil => rfl
  | _, _, _, .cons r t, .cons r' t' => by rw [r.inj r', Vals.inj t t']
section
variable {X : Cx} {pins : List (Addr × Obj)} {σ : St} {H : Hp} {s : Shared} {a : Addr} {xs ys : List V}
theorem SqL.of {K : PySem.W.Frag} (h : H a = some (.lst xs)) : SqL K H a xs := .inl (.inl h)
theorem SqT.of {K : PySem.W.Frag} (h : H a = some (.tup xs)) : SqT K H a xs := .inl (.inl h)
theorem Inv.list (I : Inv X pins σ H s) (h : SqL X.K H a xs) : ∃ its : List Value, Vals xs its ∧ PlainL s.heap a its.toArray ∧ xs.length ≤ sizeLine := by
  rcases h with h | ⟨o, its, n, hk, hc, hd, hs, hz, r⟩
  · obtain ⟨z, its, n, r, e⟩ := h.ok I.hok
    exact ⟨its, r, ⟨_, n, e, rfl, rfl, rfl⟩, z⟩
  · refine ⟨its.toList, r, ⟨o, n, I.kIn a o hk, hc, hd, by simpa using hs⟩, ?_⟩
    have e := r.length
    simp only [Array.length_toList] at e
    omega
theorem Inv.tuple (I : Inv X pins σ H s) (h : SqT X.K H a xs) : ∃ its : List Value, Vals xs its ∧ IsTup s.heap a its.toArray ∧ xs.length ≤ sizeLine := by
  rcases h with h | ⟨o, its, n, hk, hc, hs, hz, r⟩
  · obtain ⟨z, its, r, p⟩ := h.ok I.hok
    exact ⟨its, r, p, z⟩
  · refine ⟨its.toList, r, ⟨o, I.kIn a o hk, hc, n, by simpa using hs⟩, ?_⟩
    have e := r.length
    simp only [Array.length_toList] at e
    omega
theorem Inv.list_inj (I : Inv X pins σ H s) (h : SqL X.K H a xs) (h' : SqL X.K H a ys) : xs = ys := by
  obtain ⟨its, r, ⟨o, n, e, _, _, d⟩, _⟩ := I.list h
  obtain ⟨its', r', ⟨o', n', e', _, _, d'⟩, _⟩ := I.list h'
  rw [e] at e'; cases e'
  rw [d] at d'
  injection d' with d1 _
  have : its = its' := by simpa using congrArg Array.toList d1
  subst this
  exact r.inj r'
theorem Inv.tuple_inj (I : Inv X pins σ H s) (h : SqT X.K H a xs) (h' : SqT X.K H a ys) : xs = ys := by
  obtain ⟨its, r, ⟨o, e, _, n, d⟩, _⟩ := I.tuple h
  obtain ⟨its', r', ⟨o', e', _, n', d'⟩, _⟩ := I.tuple h'
  rw [e] at e'; cases e'
  rw [d] at d'
  injection d' with d1 _
  have : its = its' := by simpa using congrArg Array.toList d1
  subst this
  exact r.inj r'
end

/-! ### another wish about exceptions -/
abbrev Cx.wish (X : Cx) (E : Value → Shared → Prop) : Cx := { X with xe := E }
/-- no exception leaves -/
abbrev Cx.nox (X : Cx) : Cx := X.wish fun _ _ => False
theorem Cx.Ok.wish {X : Cx} (ok : X.Ok) (E : Value → Shared → Prop) : (X.wish E).Ok :=
  ⟨ok.mod, ok.kind, ok.glob, ok.blt, ok.above, ok.inj, ok.has, ok.cab, ok.hd, ok.frames, ok.stk, ok.exf, ok.bs, ok.bsz, ok.noex, ok.exfs, ok.funs, ok.frf⟩
theorem Cx.Ok.unwish {X : Cx} {E : Value → Shared → Prop} (ok : (X.wish E).Ok) : X.Ok :=
  ⟨ok.mod, ok.kind, ok.glob, ok.blt, ok.above, ok.inj, ok.has, ok.cab, ok.hd, ok.frames, ok.stk, ok.exf, ok.bs, ok.bsz, ok.noex, ok.exfs, ok.funs, ok.frf⟩
section
variable {X : Cx} {pins : List (Addr × Obj)} {σ : St} {H : Hp} {s : Shared} {E : Value → Shared → Prop}
theorem Inv.wish (I : Inv X pins σ H s) (E : Value → Shared → Prop) : Inv (X.wish E) pins σ H s := ⟨I.ok.wish E, I.os, I.bare, I.base, I.loc, I.cell, I.free, I.freeC, I.pin, I.hok, I.len⟩
theorem Inv.unwish (I : Inv (X.wish E) pins σ H s) : Inv X pins σ H s := ⟨I.ok.unwish, I.os, I.bare, I.base, I.loc, I.cell, I.free, I.freeC, I.pin, I.hok, I.len⟩
theorem SP.unwish {D : Ends} {f : Flow} {s' : Shared} (h : SP (X.wish E) pins D f s') : SP X pins D f s' := by
  cases f with
  | next => obtain ⟨σ', H', I, q⟩ := h; exact ⟨σ', H', I.unwish, q⟩
  | brk => obtain ⟨σ', H', I, q⟩ := h; exact ⟨σ', H', I.unwish, q⟩
  | cont => obtain ⟨σ', H', I, q⟩ := h; exact ⟨σ', H', I.unwish, q⟩
  | ret u => obtain ⟨v, σ', H', I, r, q⟩ := h; exact ⟨v, σ', H', I.unwish, r, q⟩
theorem PE.nox {e : Expr} {t : TE} (h : PE X.nox e t) : PE X e t := fun pins s σ H Q I hw =>
  wpAny_mono (h pins s σ H Q (I.wish _) hw) (fun _ _ ⟨v, H', I', r, q⟩ => ⟨v, H', I'.unwish, r, q⟩) fun _ _ z => False.elim z
theorem PT.nox {e : Expr} {t : TT} (h : PT X.nox e t) : PT X e t := fun pins s σ H Q I hw =>
  wpAny_mono (h pins s σ H Q (I.wish _) hw) (fun _ _ ⟨H', I', q⟩ => ⟨H', I'.unwish, q⟩) fun _ _ z => False.elim z
theorem PSs.nox {st : List Stmt} {t : TS} (h : PSs X.nox st t) : PSs X st t := fun pins s σ H D I hw =>
  wpAny_mono (h pins s σ H D (I.wish _) hw) (fun _ _ q => q.unwish) fun _ _ z => False.elim z
end

/-! ### blocks and small statements -/
section
variable {X : Cx} {st : Stmt} {rest : List Stmt} {t u : TS} {e : Expr} {te : TE} {pos : Pos}
def tNext : TS := fun D σ H => D.nx σ H
def tSeq (t u : TS) : TS := fun D σ H => t { D with nx := u D } σ H
theorem pss_nil : PSs X [] tNext := fun _ _ σ H _ I h => wpAny_execs_nil ⟨σ, H, I, h⟩
theorem pss_cons (h1 : PS X st t) (h2 : PSs X rest u) : PSs X (st :: rest) (tSeq t u) := by
  intro pins s σ H D I h
  refine wpAny_execs_cons (thn (h1 pins s σ H { D with nx := u D } I h) fun f s1 q => ?_)
  cases f with
  | next =>
    obtain ⟨σ', H', I', q⟩ := q
    exact h2 pins s1 σ' H' D I' q
  | ret v => exact q
  | brk => exact q
  | cont => exact q
theorem pss_one (h1 : PS X st t) : PSs X [st] t := by
  intro pins s σ H D I h
  refine wpAny_execs_cons (thn (h1 pins s σ H D I h) fun f s1 q => ?_)
  cases f with
  | next => exact wpAny_execs_nil q
  | ret v => exact q
  | brk => exact q
  | cont => exact q
/-- in a def's body nothing is shown -/
theorem Inv.quiet {pins : List (Addr × Obj)} {σ : St} {H : Hp} {s : Shared} (I : Inv X pins σ H s) : interactive X.env = false := by simp [interactive, I.ok.kind]
/-- an expression whose value is dropped -/
def tDrop (te : TE) : TS := fun D σ H => te σ H fun _ H1 => D.nx σ H1
theorem ps_expr (he : PE X e te) (hs : swapsWith e none pos.line X.env = pure false := by rfl) : PS X (.Expr e pos) (tDrop te) := by
  intro pins s σ H D I h
  exact wpAny_Expr_any (thn (he pins s σ H _ I h) fun v s1 ⟨x, H1, I1, r1, q1⟩ => ⟨σ, H1, I1, q1⟩) I.quiet hs
def tRet (te : TE) : TS := fun D σ H => te σ H D.rt
theorem ps_ret (he : PE X e te) : PS X (.Return (some e) pos) (tRet te) := by
  intro pins s σ H D I h
  exact wpAny_Return_some (thn (he pins s σ H _ I h) fun v s1 ⟨x, H1, I1, r1, q1⟩ => ⟨x, σ, H1, I1, r1, q1⟩)
def tIfS (c : TT) (t u : TS) : TS := fun D σ H => c σ H fun b H1 => if b = true then t D σ H1 else u D σ H1
theorem ps_if {c : Expr} {a b : List Stmt} {tc : TT} (hc : PT X c tc) (ha : PSs X a t) (hb : PSs X b u) : PS X (.If c a b pos) (tIfS tc t u) := by
  intro pins s σ H D I h
  refine wpAny_If (thn (hc pins s σ H _ I h) fun d s1 ⟨H1, I1, q1⟩ => ?_)
  cases d with
  | true => exact ha pins s1 σ H1 D I1 q1
  | false => exact hb pins s1 σ H1 D I1 q1
/-- code that the proof never comes to -/
def tNever : TS := fun _ _ _ => False
theorem pss_never {sts : List Stmt} : PSs X sts tNever := fun _ _ _ _ _ _ h => h.elim
end

/-! ### targets -/
abbrev TG := V → St → Hp → (St → Hp → Prop) → Prop
abbrev TGs := List V → St → Hp → (St → Hp → Prop) → Prop
def PG (X : Cx) (target : Expr) (t : TG) : Prop :=
  ∀ (pins : List (Addr × Obj)) (s : Shared) (σ : St) (H : Hp) (v : V) (u : Value) (Q : St → Hp → Prop), Inv X pins σ H s → RelV v u → t v σ H Q →
    wpAny (model X.prog X.w) X.A (assign target X.env u) (fun _ s' => ∃ σ' H', Inv X pins σ' H' s' ∧ Q σ' H') X.xe s
/-- several targets, one after another -/
def PGs (X : Cx) (ts : List Expr) (t : TGs) : Prop :=
  ∀ (pins : List (Addr × Obj)) (s : Shared) (σ : St) (H : Hp) (vs : List V) (us : List Value) (Q : St → Hp → Prop), Inv X pins σ H s → Vals vs us → t vs σ H Q →
    wpAny (model X.prog X.w) X.A (assignInOrder ((assignEach ts X.env).map (·.2)) us) (fun _ s' => ∃ σ' H', Inv X pins σ' H' s' ∧ Q σ' H') X.xe s
/-- o[i] = v, by values -/
abbrev TSet := V → V → V → Hp → (Hp → Prop) → Prop
def PSet (X : Cx) (t : TSet) : Prop :=
  ∀ (pins : List (Addr × Obj)) (s : Shared) (σ : St) (H : Hp) (o i v : V) (ov iv u : Value) (Q : Hp → Prop), Inv X pins σ H s → RelV o ov → RelV i iv → RelV v u → t o i v H Q →
    wpAny (model X.prog X.w) X.A (setItem ov iv u) (fun _ s' => ∃ H', Inv X pins σ H' s' ∧ Q H') X.xe s
section
variable {X : Cx} {pos : Pos}
def gName (i : Nat) : TG := fun v σ H Q => Q (σ.set i (some v)) H
theorem pg_name {i : Nat} {x : Str} (hN : X.N.Nodup) (hi : X.N[i]? = some x) (hx : Loc X.env.scope x) (hf : X.fn x = true ∨ X.env.scope.names.lookup x = some .local := by first | exact .inl rfl | exact .inr rfl | assumption) : PG X (.Name x pos) (gName i) := by
  intro pins s σ H v u Q I r h
  exact wpAny_assign_Name (store_ok I hN hi hx r (fun s' I' => ⟨_, H, I', h⟩) hf)
def gNil : TGs := fun vs σ H Q => vs = [] ∧ Q σ H
def gCons (t : TG) (u : TGs) : TGs := fun vs σ H Q => ∃ v r, vs = v :: r ∧ t v σ H fun σ' H' => u r σ' H' Q
theorem pgs_nil : PGs X [] gNil := by
  intro pins s σ H vs us Q I r h
  obtain ⟨e, h⟩ := h
  subst e
  cases r
  exact assignInOrder_nil ⟨σ, H, I, h⟩
theorem pgs_cons {e : Expr} {es : List Expr} {t : TG} {u : TGs} (h1 : PG X e t) (h2 : PGs X es u)
    (hs : (assignEach (e :: es) X.env).map (·.2) = assign e X.env :: (assignEach es X.env).map (·.2) := by rfl) : PGs X (e :: es) (gCons t u) := by
  intro pins s σ H vs us Q I r h
  obtain ⟨v, vr, e1, h⟩ := h
  subst e1
  cases r with
  | cons r rr =>
    rw [hs]
    refine assignInOrder_cons (thn (h1 pins s σ H _ _ _ I r h) fun _ s1 ⟨σ1, H1, I1, q1⟩ => ?_)
    exact h2 pins s1 σ1 H1 _ _ Q I1 rr q1
/-- (a, b, ..) = a tuple of that length -/
def gTup (K : PySem.W.Frag) (n : Nat) (t : TGs) : TG := fun v σ H Q => ∃ a xs, v = .ref a ∧ SqT K H a xs ∧ xs.length = n ∧ t xs σ H Q
theorem pg_tup {es : List Expr} {k : Nat} {t : TGs} {n : Nat} (hc : X.calm = true) (h : PGs X es t)
    (hn : (assignEach es X.env).length = n := by rfl) (hst : (assignEach es X.env).findIdx? (·.1) = none := by rfl) : PG X (.Tuple es k pos) (gTup X.K n t) := by
  intro pins s σ H v u Q I r hw
  obtain ⟨a, xs, e1, hq, hl, hw⟩ := hw
  subst e1
  cases r
  obtain ⟨its, rv, ht, hz⟩ := I.tuple hq
  refine assign_Tuple_tuple (I.ok.hd hc) ht (by simp [hn, ← hl, rv.length]) hst fun h' hx => ?_
  have I1 : Inv X pins σ H { s with heap := h' } := I.kept (t' := s.toks) fun b o e => hx b o (Nat.ne_of_lt (Heap.lt_size e)) e
  exact h pins _ σ H xs _ Q I1 (by simpa using rv) hw
/-- o[i] = .. -/
def gSub (to ti : TE) (t : TSet) : TG := fun v σ H Q => to σ H fun o H1 => ti σ H1 fun i H2 => t o i v H2 fun H3 => Q σ H3
theorem pg_sub {o i : Expr} {to ti : TE} {t : TSet} (ho : PE X o to) (hi : PE X i ti) (hs : PSet X t)
    (ha : ∀ v, assign (.Subscript o i pos) X.env v = (do
      let ov ← holding [v] (eval o X.env)
      let iv ← holding [v, ov] (eval i X.env)
      standAt pos
      holding [v, ov, iv] (setItem ov iv v)
      release [v, ov, iv] []) := by intro _; rfl) : PG X (.Subscript o i pos) (gSub to ti t) := by
  intro pins s σ H v u Q I r h
  rw [ha]
  refine wpAny_bind (wpAny_holding (thn (ho pins s σ H _ I h) fun ov s1 ⟨x, H1, I1, r1, q1⟩ => ?_))
  refine wpAny_bind (wpAny_holding (thn (hi pins s1 σ H1 _ I1 q1) fun iv s2 ⟨y, H2, I2, r2, q2⟩ => ?_))
  refine wpAny_bind (wpAny_standAt (wpAny_bind (wpAny_holding (thn (hs pins s2 σ H2 x y v ov iv u _ I2 r1 r2 r q2) fun _ s3 ⟨H3, I3, q3⟩ => ?_))))
  exact wpAny_release ⟨σ, H3, I3, q3⟩
/-- target = value -/
def tAsg (te : TE) (g : TG) : TS := fun D σ H => te σ H fun x H1 => g x σ H1 D.nx
theorem ps_asg {tg e : Expr} {te : TE} {g : TG} (he : PE X e te) (hg : PG X tg g) (hs : swapsWithSole [tg] e pos.line X.env = pure false := by rfl) (hw : swappedStores [tg] e X.env = pure none := by rfl)
    (h1 : (assignEach [tg] X.env).map (·.2) = [assign tg X.env] := by rfl) : PS X (.Assign [tg] e pos) (tAsg te g) := by
  intro pins s σ H D I h
  refine wpAny_Assign_stores (thn (he pins s σ H _ I h) fun v s1 ⟨x, H1, I1, r1, q1⟩ => ?_) hs hw
  rw [h1]
  exact thn (hg pins s1 σ H1 x v _ I1 r1 q1) fun _ s2 q => q
/-- name = value -/
theorem ps_set {i : Nat} {x : Str} {e : Expr} {te : TE} {pos' : Pos} (hN : X.N.Nodup) (hi : X.N[i]? = some x) (hx : Loc X.env.scope x) (he : PE X e te) (hs : swapsWith e (some (.Name x pos')) pos.line X.env = pure false := by rfl) (hf : X.fn x = true ∨ X.env.scope.names.lookup x = some .local := by first | exact .inl rfl | exact .inr rfl | assumption) :
    PS X (.Assign [.Name x pos'] e pos) (tAsg te (gName i)) := by
  intro pins s σ H D I h
  refine wpAny_Assign_Name (thn (he pins s σ H _ I h) fun v s1 ⟨y, H1, I1, r1, q1⟩ => ?_) hs
  exact store_ok I1 hN hi hx r1 (fun s2 I2 => ⟨_, H1, I2, q1⟩) hf
end

/-! ### while -/
section
variable {X : Cx} {pos : Pos}
/-- the invariant W with its measure -/
def tWhile (c : TT) (tb : TS) : TS := fun D σ H => ∃ W : Nat → St → Hp → Prop, (∃ m, W m σ H) ∧ ∀ m σ H, W m σ H →
  c σ H fun b H1 => if b = true then ∃ N : St → Hp → Prop, (∀ σ' H', N σ' H' → ∃ m', m' < m ∧ W m' σ' H') ∧ tb { D with nx := N, ct := N, bk := D.nx } σ H1 else D.nx σ H1
theorem ps_while {c : Expr} {body : List Stmt} {tc : TT} {tb : TS} (hp : PassesOwn (model X.prog X.w) X.A X.env X.xe) (hc : PT X c tc) (hb : PSs X body tb) : PS X (.While c body [] pos) (tWhile tc tb) := by
  intro pins s σ H D I h
  obtain ⟨W, ⟨m0, w0⟩, turn⟩ := h
  refine wpAny_While (codeAny_whileLoop (fun n s' => ∃ σ' H', Inv X pins σ' H' s' ∧ W n σ' H') ?_ m0 ⟨σ, H, I, w0⟩)
  rintro n s1 ⟨σ1, H1, I1, w1⟩
  refine wpAny_passesOwn hp (thn (hc pins s1 σ1 H1 _ I1 (turn n σ1 H1 w1)) fun b s2 ⟨H2, I2, q2⟩ => ?_)
  cases b with
  | true =>
    obtain ⟨N, hN, q2⟩ := q2
    rw [if_pos rfl]
    refine wpAny_passesOwn hp (thn (hb pins s2 σ1 H2 _ I2 q2) fun f s3 q3 => ?_)
    cases f with
    | next =>
      obtain ⟨σ3, H3, I3, n3⟩ := q3
      obtain ⟨m', hm, w3⟩ := hN σ3 H3 n3
      exact ⟨m', hm, σ3, H3, I3, w3⟩
    | cont =>
      obtain ⟨σ3, H3, I3, n3⟩ := q3
      obtain ⟨m', hm, w3⟩ := hN σ3 H3 n3
      exact ⟨m', hm, σ3, H3, I3, w3⟩
    | brk => exact q3
    | ret v => exact q3
  | false =>
    rw [if_neg Bool.false_ne_true]
    exact wpAny_execs_nil ⟨σ1, H2, I2, q2⟩
end

/-! ### what a loop or a comprehension walks -/
/-- at turn i: it yields x (the heap may grow), or it stops -/
structure It where
  go : Nat → Hp → Prop
  yld : Nat → Hp → V → Hp → Prop
  stop : Nat → Hp → Prop
/-- the iterator's own objects may turn: they are not the frame's, not pinned, younger than the entry (or a comprehension's own) -/
def FpOk (X : Cx) (pins : List (Addr × Obj)) (H : Hp) (b : Addr) : Prop :=
  H b = none ∧ b ≠ X.env.locals ∧ b ∉ X.fs ∧ (b ∈ X.ex ∨ X.s₀.heap.objs.size ≤ b) ∧ (∀ x c, X.env.cells.lookup x = some c → c ≠ b) ∧ ∀ p ∈ X.pn ++ pins, p.1 ≠ b
theorem Inv.fpOk {X : Cx} {pins : List (Addr × Obj)} {σ : St} {H H' : Hp} {s : Shared} {b : Addr} (I : Inv X pins σ H s) (hb : s.heap.objs.size ≤ b) (hn : H' b = none) : FpOk X pins H' b := by
  refine ⟨hn, Nat.ne_of_gt (Nat.lt_of_lt_of_le I.lt hb), I.nofs hb, .inr (Nat.le_trans I.sz hb), fun x c e z => ?_, fun p hp z => ?_⟩
  · obtain ⟨v, q⟩ := I.cell x c e
    exact absurd (Nat.lt_of_lt_of_le q.lt (by rw [z]; exact hb)) (Nat.lt_irrefl _)
  · exact absurd (Nat.lt_of_lt_of_le (Heap.lt_size (I.pin p hp).1) (by rw [z]; exact hb)) (Nat.lt_irrefl _)
structure Turn (P : Program) (w : World) (K : PySem.W.Frag) (tg : Expr) (J : It) (fp : List Addr) (it : Addr) (tn : Nat → Heap → Prop) : Prop where
  mem : it ∈ fp
  obj : ∀ i h, tn i h → ∀ b ∈ fp, ∃ o, h.get? b = some o ∧ ∀ v, o.data ≠ .cell v
  keep : ∀ i h h', tn i h → (∀ b ∈ fp, ∀ o, h.get? b = some o → h'.get? b = some o) → tn i h'
  item : ∀ (X : Cx), X.prog = P → X.w = w → X.K = K → X.calm = true → ∀ (i : Nat) (pins : List (Addr × Obj)) (s : Shared) (σ : St) (H : Hp) (E : Value → Shared → Prop), Inv X pins σ H s → (∀ b ∈ fp, FpOk X pins H b) → tn i s.heap → J.go i H →
    wpAny (model P w) X.A (pyNext (.ref it)) (fun r s1 => ∃ u, r = some u ∧
      wpAny (model P w) X.A (letOwnedTupleGo tg (.ref it) u) (fun _ s2 => ∃ x H', Inv X pins σ H' s2 ∧ RelV x u ∧ J.yld i H x H' ∧ tn (i + 1) s2.heap ∧ ∀ b ∈ fp, H' b = none) E s1) E s
  done : ∀ (X : Cx), X.prog = P → X.w = w → X.K = K → X.calm = true → ∀ (i : Nat) (pins : List (Addr × Obj)) (s : Shared) (σ : St) (H : Hp) (E : Value → Shared → Prop), Inv X pins σ H s → (∀ b ∈ fp, FpOk X pins H b) → tn i s.heap → J.stop i H →
    wpAny (model P w) X.A (pyNext (.ref it)) (fun r s1 => r = none ∧ Inv X pins σ H s1) E s
  self : ∀ (A : Around) (i : Nat) (s : Shared) (Q : Value → Shared → Prop) (E : Value → Shared → Prop), tn i s.heap → Q (.ref it) s → wpAny (model P w) A (pyIter (.ref it)) Q E s
abbrev TI := St → Hp → (It → Hp → Prop) → Prop
/-- an iterator has come -/
def PIE (X : Cx) (pins : List (Addr × Obj)) (σ : St) (tg : Expr) (R : It → Hp → Prop) (itv : Value) (s2 : Shared) : Prop :=
  ∃ (it : Addr) (fp : List Addr) (tn : Nat → Heap → Prop) (J : It) (H' : Hp), itv = .ref it ∧ Inv X pins σ H' s2 ∧ Turn X.prog X.w X.K tg J fp it tn ∧ tn 0 s2.heap ∧ (∀ b ∈ fp, FpOk X pins H' b) ∧ R J H'
def PI (X : Cx) (tg iter : Expr) (wi : TI) : Prop :=
  ∀ (pins : List (Addr × Obj)) (s : Shared) (σ : St) (H : Hp) (R : It → Hp → Prop), Inv X pins σ H s → wi σ H R →
    wpAny (model X.prog X.w) X.A (eval iter X.env) (fun v s1 => wpAny (model X.prog X.w) X.A (pyIter v) (PIE X pins σ tg R) X.xe s1) X.xe s

/-- the step ahead of the store is nothing for an iterator that keeps no tuple -/
theorem go_of {M : Model} {A : Around} {E : Value → Shared → Prop} {s : Shared} {tg : Expr} {it : Addr} {u : Value} {o : Obj} {n : String} {vs : Array Value} {Q : Unit → Shared → Prop} (ho : s.heap.get? it = some o) (hc : o.cls = .type n) (hd : o.data = .fields vs)
    (hn : ["enumerate", "zip", "dict_itemiterator", "dict_reverseitemiterator", "odict_iterator", "itertools.zip_longest", "itertools.pairwise"].contains n = false) (hQ : Q () s) : wpAny M A (letOwnedTupleGo tg (.ref it) u) Q E s := by
  unfold letOwnedTupleGo
  cases tg <;> first
    | exact wpAny_pure hQ
    | (cases u <;> first
        | exact wpAny_pure hQ
        | (refine wpAny_bind (wpAny_load ho ?_)
           rw [hc, hd]
           show wpAny M A (if (["enumerate", "zip", "dict_itemiterator", "dict_reverseitemiterator", "odict_iterator", "itertools.zip_longest", "itertools.pairwise"].contains n && vs[0]? == some (rawInt _)) = true then _ else _) Q E s
           rw [if_neg (by intro h; rw [hn, Bool.false_and] at h; cases h)]
           exact wpAny_pure hQ))

/-- the list at a, as it stands at each turn (a loop may append to it) -/
def Itl (K : PySem.W.Frag) (a : Addr) : It :=
  ⟨fun i H => ∃ xs x, SqL K H a xs ∧ xs[i]? = some x, fun i H x H' => H' = H ∧ ∀ xs, SqL K H a xs → xs[i]? = some x, fun i H => ∃ xs, SqL K H a xs ∧ xs.length ≤ i⟩
def Itt (K : PySem.W.Frag) (a : Addr) : It :=
  ⟨fun i H => ∃ xs x, SqT K H a xs ∧ xs[i]? = some x, fun i H x H' => H' = H ∧ ∀ xs, SqT K H a xs → xs[i]? = some x, fun i H => ∃ xs, SqT K H a xs ∧ xs.length ≤ i⟩
/-- lo, lo + 1, .. (n of them) -/
def Itr (lo : Int) (n : Nat) : It := ⟨fun i _ => i < n, fun i H x H' => H' = H ∧ x = .int (lo + i), fun i _ => n ≤ i⟩
theorem turn_list {P : Program} {w : World} {K : PySem.W.Frag} {tg : Expr} (a it : Addr) : Turn P w K tg (Itl K a) [it] it (fun i h => h.IsListIter it a i) where
  mem := by simp
  obj := fun i h st b hb => by
    have e : b = it := by simpa using hb
    subst e
    obtain ⟨o, e, c, d⟩ := st
    exact ⟨o, e, fun v z => by rw [d] at z; cases z⟩
  keep := fun i h h' st k => st.at fun o e => k it (by simp) o e
  item := by
    intro X hP hw hK hc i pins s σ H E I hf st hg
    subst hP hw hK
    obtain ⟨xs, x, hq, hx⟩ := hg
    obtain ⟨its, rv, p, hz⟩ := I.list hq
    obtain ⟨u, hu, ru⟩ := rv.get hx
    obtain ⟨f0, f1, f2, f3, f4, f5⟩ := hf it (by simp)
    refine wpAny_pyNext_list_item st p.isList (x := u) (by simpa using hu) fun h' st' sb => ?_
    have I1 : Inv X pins σ H { s with heap := h' } := I.turned (t' := s.toks) (fun b o hb e => (sb.2 b hb).trans e) f0 f1 f3 f4 f5
    obtain ⟨o, e, c, d⟩ := id st'
    exact ⟨u, rfl, go_of (s := { s with heap := h' }) e c d (by decide) ⟨x, H, I1, ru, ⟨rfl, fun ys hy => by rw [I.list_inj hy hq]; exact hx⟩, st', fun b hb => (hf b hb).1⟩⟩
  done := by
    intro X hP hw hK hc i pins s σ H E I hf st hg
    subst hP hw hK
    obtain ⟨xs, hq, hx⟩ := hg
    obtain ⟨its, rv, p, hz⟩ := I.list hq
    obtain ⟨f0, f1, f2, f3, f4, f5⟩ := hf it (by simp)
    have hl := rv.length
    exact wpAny_pyNext_list_end (I.ok.hd hc) st p.isList (by simp; omega) fun h' eb => ⟨rfl, I.turned (t' := s.toks) (fun b o hb e => eb b o hb e) f0 f1 f3 f4 f5⟩
  self := fun _ _ _ _ _ st h => wpAny_pyIter_listiter st h
theorem turn_tuple {P : Program} {w : World} {K : PySem.W.Frag} {tg : Expr} (a it : Addr) : Turn P w K tg (Itt K a) [it] it (fun i h => h.IsTupleIter it a i) where
  mem := by simp
  obj := fun i h st b hb => by
    have e : b = it := by simpa using hb
    subst e
    obtain ⟨o, e, c, d⟩ := st
    exact ⟨o, e, fun v z => by rw [d] at z; cases z⟩
  keep := fun i h h' st k => st.at fun o e => k it (by simp) o e
  item := by
    intro X hP hw hK hc i pins s σ H E I hf st hg
    subst hP hw hK
    obtain ⟨xs, x, hq, hx⟩ := hg
    obtain ⟨its, rv, p, hz⟩ := I.tuple hq
    obtain ⟨u, hu, ru⟩ := rv.get hx
    obtain ⟨f0, f1, f2, f3, f4, f5⟩ := hf it (by simp)
    refine wpAny_pyNext_tuple_item st (show s.heap.IsTuple a its.toArray from p) (x := u) (by simpa using hu) fun h' st' sb => ?_
    have I1 : Inv X pins σ H { s with heap := h' } := I.turned (t' := s.toks) (fun b o hb e => (sb.2 b hb).trans e) f0 f1 f3 f4 f5
    obtain ⟨o, e, c, d⟩ := id st'
    exact ⟨u, rfl, go_of (s := { s with heap := h' }) e c d (by decide) ⟨x, H, I1, ru, ⟨rfl, fun ys hy => by rw [I.tuple_inj hy hq]; exact hx⟩, st', fun b hb => (hf b hb).1⟩⟩
  done := by
    intro X hP hw hK hc i pins s σ H E I hf st hg
    subst hP hw hK
    obtain ⟨xs, hq, hx⟩ := hg
    obtain ⟨its, rv, p, hz⟩ := I.tuple hq
    obtain ⟨f0, f1, f2, f3, f4, f5⟩ := hf it (by simp)
    have hl := rv.length
    exact wpAny_pyNext_tuple_end (I.ok.hd hc) st (show s.heap.IsTuple a its.toArray from p) (by simp; omega) fun h' eb => ⟨rfl, I.turned (t' := s.toks) (fun b o hb e => eb b o hb e) f0 f1 f3 f4 f5⟩
  self := fun _ _ _ _ _ st h => wpAny_pyIter_tupleiter st h
theorem turn_range {P : Program} {w : World} {K : PySem.W.Frag} {tg : Expr} (it : Addr) (lo : Int) (n : Nat) : Turn P w K tg (Itr lo n) [it] it (fun i h => IsRangeIter h it (lo + (i : Nat) * 1) ((n : Int) - (i : Nat)) 1) where
  mem := by simp
  obj := fun i h st b hb => by
    have e : b = it := by simpa using hb
    subst e
    exact ⟨_, st, fun v z => by
      have z' : Data.fields _ = Data.cell v := z
      cases z'⟩
  keep := fun i h h' st k => k it (by simp) _ st
  item := by
    intro X hP hw hK hc i pins s σ H E I hf st hg
    subst hP hw hK
    obtain ⟨f0, f1, f2, f3, f4, f5⟩ := hf it (by simp)
    have W := Walks.range (prog := X.prog) (w := X.w) (I.ok.hd hc) it lo 1 n
    refine W.item i s _ _ hg st fun v h' tk hv st' kk => ?_
    obtain ⟨t, rfl⟩ := hv
    have I1 : Inv X pins σ H { s with heap := h', toks := tk } := I.turned (fun b o hb e => kk b o (by simpa using hb) e) f0 f1 f3 f4 f5
    refine ⟨_, rfl, go_of (s := { s with heap := h', toks := tk }) (n := "range_iterator") st' rfl rfl (by decide) ⟨.int (lo + i), H, I1, ⟨t, ?_⟩, ⟨rfl, rfl⟩, st', fun b hb => (hf b hb).1⟩⟩
    rw [Int.mul_one]
  done := by
    intro X hP hw hK hc i pins s σ H E I hf st hg
    subst hP hw hK
    obtain ⟨f0, f1, f2, f3, f4, f5⟩ := hf it (by simp)
    exact wpAny_pyNext_range_end (I.ok.hd hc) st (by have : n ≤ i := hg; omega) fun h' eb => ⟨rfl, I.turned (t' := s.toks) (fun b o hb e => eb b o hb e) f0 f1 f3 f4 f5⟩
  self := fun _ _ _ _ _ st h => wpAny_pyIter_rangeiter st h
end L2

namespace L2
open PySem PySem.Spec PyProof.Rows
section
variable {X : Cx} {tg : Expr}
def iList (K : PySem.W.Frag) (tl : TE) : TI := fun σ H R => tl σ H fun x H1 => ∃ a, x = .ref a ∧ (∃ xs, SqL K H1 a xs) ∧ R (Itl K a) H1
def iTup (K : PySem.W.Frag) (tl : TE) : TI := fun σ H R => tl σ H fun x H1 => ∃ a, x = .ref a ∧ (∃ xs, SqT K H1 a xs) ∧ R (Itt K a) H1
theorem pi_list {l : Expr} {tl : TE} (hl : PE X l tl) : PI X tg l (iList X.K tl) := by
  intro pins s σ H R I h
  refine thn (hl pins s σ H _ I h) fun v s1 ⟨x, H1, I1, r1, q1⟩ => ?_
  obtain ⟨a, e, ⟨xs, hq⟩, q⟩ := q1
  subst e
  cases r1
  obtain ⟨its, rv, p, hz⟩ := I1.list hq
  refine wpAny_pyIter_list p.isList ?_
  refine ⟨s1.heap.objs.size, [s1.heap.objs.size], _, _, H1, rfl, I1.kept (t' := s1.toks) fun b o e => Heap.get?_push_of_some _ e, turn_list a _, ⟨_, Heap.get?_push_size _ rfl, rfl, rfl⟩, fun b hb => ?_, q⟩
  have e : b = s1.heap.objs.size := by simpa using hb
  subst e
  exact I1.fpOk (Nat.le_refl _) (I1.hok.fresh (Nat.le_refl _))
theorem pi_tup {l : Expr} {tl : TE} (hl : PE X l tl) : PI X tg l (iTup X.K tl) := by
  intro pins s σ H R I h
  refine thn (hl pins s σ H _ I h) fun v s1 ⟨x, H1, I1, r1, q1⟩ => ?_
  obtain ⟨a, e, ⟨xs, hq⟩, q⟩ := q1
  subst e
  cases r1
  obtain ⟨its, rv, p, hz⟩ := I1.tuple hq
  refine wpAny_pyIter_tuple (show s1.heap.IsTuple a its.toArray from p) ?_
  refine ⟨s1.heap.objs.size, [s1.heap.objs.size], _, _, H1, rfl, I1.kept (t' := s1.toks) fun b o e => Heap.get?_push_of_some _ e, turn_tuple a _, ⟨_, Heap.get?_push_size _ rfl, rfl, rfl⟩, fun b hb => ?_, q⟩
  have e : b = s1.heap.objs.size := by simpa using hb
  subst e
  exact I1.fpOk (Nat.le_refl _) (I1.hok.fresh (Nat.le_refl _))
/-- a range object just made, walked -/
theorem range_it {pins : List (Addr × Obj)} {σ : St} {H : Hp} {s : Shared} {R : It → Hp → Prop} {E : Value → Shared → Prop} {lo hi : Int} {t u v : Tok} {tk : Nat} (I : Inv X pins σ H s) (h1 : -(2 ^ 62) ≤ lo) (h2 : lo < 2 ^ 62) (h3 : -(2 ^ 62) ≤ hi) (h4 : hi < 2 ^ 62)
    (q : R (Itr lo (hi - lo).toNat) H) : wpAny (model X.prog X.w) X.A (pyIter (.ref s.heap.objs.size)) (PIE X pins σ tg R) E { s with heap := s.heap.push { cls := .type "range", data := .fields #[.int lo t, .int hi u, .int 1 v] }, toks := tk } := by
  refine wpAny_pyIter_range (IsRange.new ..) (small_one h1 h2 h3 h4) ?_
  have I1 : Inv X pins σ H { s with heap := s.heap.push { cls := .type "range", data := .fields #[.int lo t, .int hi u, .int 1 v] }, toks := tk } := I.kept fun b o e => Heap.get?_push_of_some _ e
  refine ⟨(s.heap.push { cls := .type "range", data := .fields #[.int lo t, .int hi u, .int 1 v] }).objs.size, [(s.heap.push { cls := .type "range", data := .fields #[.int lo t, .int hi u, .int 1 v] }).objs.size], _, _, H, rfl,
    I1.kept (t' := tk) fun b o e => Heap.get?_push_of_some _ e, turn_range _ lo (hi - lo).toNat, ?_, fun b hb => ?_, q⟩
  · have e1 : lo + ((0 : Nat) : Int) * 1 = lo := by simp
    have e2 : (((hi - lo).toNat : Nat) : Int) - ((0 : Nat) : Int) = Builtin.Range.rangeSize lo hi 1 := by rw [rangeSize_one]; split <;> omega
    show IsRangeIter _ _ (lo + ((0 : Nat) : Int) * 1) ((((hi - lo).toNat : Nat) : Int) - ((0 : Nat) : Int)) 1
    rw [e1, e2]
    exact Heap.get?_push_size _ rfl
  · have e : b = (s.heap.push { cls := .type "range", data := .fields #[.int lo t, .int hi u, .int 1 v] }).objs.size := by simpa using hb
    subst e
    exact I1.fpOk (Nat.le_refl _) (I1.hok.fresh (Nat.le_refl _))
def iRng1 (ta : TA) : TI := fun σ H R => ta σ H fun vs H1 => ∃ j : Int, vs = [.int j] ∧ -(2 ^ 62) ≤ j ∧ j < 2 ^ 62 ∧ R (Itr 0 j.toNat) H1
theorem pi_range1 {a : Expr} {ta : TA} {p pos : Pos} (hg : Gl X "range") (hm : X.mg "range" = none) (ha : PA X [a] ta) (hs : starEach [a] X.env = [(false, eval a X.env)] := by rfl) : PI X tg (.Call (.Name "range" p) [a] [] pos) (iRng1 ta) := by
  intro pins s σ H R I h
  refine Call_ (ld_blt I hg hm boot_range (PyProof.Rows.callWith_type1 (thn (ha pos pins s σ H _ I h) fun us s1 ⟨vs, H1, I1, r1, q1⟩ => ?_) hs rfl))
  obtain ⟨j, e, q1, q2, q⟩ := q1
  subst e
  cases r1 with
  | cons r rr =>
    cases rr
    obtain ⟨t, rfl⟩ := r
    exact call_range_1 (range_it I1 (by omega) (by omega) q1 q2 (by simpa using q))
/-! ### for -/
/-- W: the invariant by the turn and a measure; N: what the body is to reach -/
def tFor (wi : TI) (g : TG) (tb : TS) : TS := fun D σ H => wi σ H fun J H1 => ∃ W : Nat → Nat → St → Hp → Prop, (∃ m, W 0 m σ H1) ∧ ∀ i m σ H, W i m σ H →
  (J.stop i H ∧ D.nx σ H) ∨ (J.go i H ∧ ∃ N : St → Hp → Prop, (∀ σ' H', N σ' H' → ∃ m', m' < m ∧ W (i + 1) m' σ' H') ∧ ∀ x H', J.yld i H x H' → g x σ H' fun σ2 H2 => tb { D with nx := N, ct := N, bk := D.nx } σ2 H2)
/-- the records at fp as they stand -/
def pinsAt (fp : List Addr) (h : Heap) : List (Addr × Obj) := fp.filterMap fun b => (h.get? b).map fun o => (b, o)
theorem mem_pinsAt {fp : List Addr} {h : Heap} {b : Addr} {o : Obj} (hb : b ∈ fp) (e : h.get? b = some o) : (b, o) ∈ pinsAt fp h := List.mem_filterMap.mpr ⟨b, hb, by rw [e]; rfl⟩
theorem of_pinsAt {fp : List Addr} {h : Heap} {p : Addr × Obj} (hp : p ∈ pinsAt fp h) : p.1 ∈ fp ∧ h.get? p.1 = some p.2 := by
  obtain ⟨b, hb, e⟩ := List.mem_filterMap.mp hp
  cases q : h.get? b with
  | none => rw [q] at e; cases e
  | some o =>
    rw [q] at e
    have e' : (b, o) = p := Option.some.inj e
    subst e'
    exact ⟨hb, q⟩
theorem Inv.pinned {pins : List (Addr × Obj)} {σ : St} {H : Hp} {s : Shared} {fp : List Addr} (I : Inv X pins σ H s) (hf : ∀ b ∈ fp, FpOk X pins H b) (ho : ∀ b ∈ fp, ∃ o, s.heap.get? b = some o ∧ ∀ v, o.data ≠ .cell v) : Inv X (pins ++ pinsAt fp s.heap) σ H s :=
  I.pins_of fun p hp => (List.mem_append.mp hp).elim (fun z => I.pin p (List.mem_append_right _ z)) fun z => by
    obtain ⟨hb, e⟩ := of_pinsAt z
    obtain ⟨f0, f1, f2, _⟩ := hf p.1 hb
    obtain ⟨o, e', d⟩ := ho p.1 hb
    rw [e] at e'; cases e'
    exact ⟨e, f0, f1, f2, d⟩
theorem Inv.unpinned {pins pl : List (Addr × Obj)} {σ : St} {H : Hp} {s : Shared} (I : Inv X (pins ++ pl) σ H s) : Inv X pins σ H s := I.pins_of fun p hp => I.pin p (List.mem_append_right _ (List.mem_append_left _ hp))
theorem ps_for {iter : Expr} {body : List Stmt} {wi : TI} {g : TG} {tb : TS} {pos : Pos} (hp : PassesOwn (model X.prog X.w) X.A X.env X.xe) (hc : X.calm = true) (hi : PI X tg iter wi) (hg : PG X tg g) (hb : PSs X body tb)
    (hs : ∀ x, foldedSetIterable iter X.env x = pure x := by intro _; rfl) : PS X (.For tg iter body [] pos) (tFor wi g tb) := by
  intro pins s σ H D I h
  refine wpAny_For (thn (hi pins s σ H _ I h) fun v s1 h1 => thn h1 fun itv s2 h2 => ?_) hs
  obtain ⟨it, fp, tn, J, H2, e, I2, T, st2, f2, W, ⟨m0, w0⟩, turn⟩ := h2
  subst e
  -- what stays true of the iterator's objects through the loop
  have stat : ∀ {H' : Hp}, (∀ b ∈ fp, H' b = none) → ∀ b ∈ fp, FpOk X pins H' b := fun hn b hb => ⟨hn b hb, (f2 b hb).2⟩
  refine codeAny_forLoop_any (fun n s' => ∃ i σ' H', Inv X pins σ' H' s' ∧ tn i s'.heap ∧ (∀ b ∈ fp, H' b = none) ∧ W i n σ' H') ?_ m0 ⟨0, σ, H2, I2, st2, fun b hb => (f2 b hb).1, w0⟩
  rintro n s3 ⟨i, σ3, H3, I3, st3, fr3, w3⟩
  rcases turn i n σ3 H3 w3 with ⟨stop, qn⟩ | ⟨go, N, hN, step⟩
  · refine wpAny_passesOwn hp (thn (T.done X rfl rfl rfl hc i pins s3 σ3 H3 X.xe I3 (stat fr3) st3 stop) fun r s4 ⟨hr, I4⟩ => ?_)
    subst hr
    exact wpAny_execs_nil ⟨σ3, H3, I4, qn⟩
  · refine wpAny_passesOwn hp (thn (T.item X rfl rfl rfl hc i pins s3 σ3 H3 X.xe I3 (stat fr3) st3 go) fun r s4 ⟨u, hr, h4⟩ => ?_)
    subst hr
    refine wpAny_passesOwn hp (thn h4 fun _ s5 ⟨x, H5, I5, r5, y5, st5, fr5⟩ => ?_)
    have I5' := I5.pinned (stat fr5) (T.obj _ _ st5)
    refine wpAny_passesOwn hp (thn (hg _ s5 σ3 H5 x u _ I5' r5 (step x H5 y5)) fun _ s6 ⟨σ6, H6, I6, q6⟩ => ?_)
    refine wpAny_passesOwn hp (thn (hb _ s6 σ6 H6 _ I6 q6) fun f s7 q7 => ?_)
    have again : ∀ {σ7 : St} {H7 : Hp}, Inv X (pins ++ pinsAt fp s5.heap) σ7 H7 s7 → N σ7 H7 → ∃ m, m < n ∧ ∃ i σ' H', Inv X pins σ' H' s7 ∧ tn i s7.heap ∧ (∀ b ∈ fp, H' b = none) ∧ W i m σ' H' := fun {σ7 H7} I7 n7 => by
      obtain ⟨m', hm, w7⟩ := hN σ7 H7 n7
      refine ⟨m', hm, i + 1, σ7, H7, I7.unpinned, T.keep _ _ _ st5 fun b hb o e => (I7.pin (b, o) (List.mem_append_right _ (List.mem_append_right _ (mem_pinsAt hb e)))).1, fun b hb => ?_, w7⟩
      obtain ⟨o, e, d⟩ := T.obj _ _ st5 b hb
      exact (I7.pin (b, o) (List.mem_append_right _ (List.mem_append_right _ (mem_pinsAt hb e)))).2.1
    cases f with
    | next => obtain ⟨σ7, H7, I7, n7⟩ := q7; exact again I7 n7
    | cont => obtain ⟨σ7, H7, I7, n7⟩ := q7; exact again I7 n7
    | brk => obtain ⟨σ7, H7, I7, q7⟩ := q7; exact ⟨σ7, H7, I7.unpinned, q7⟩
    | ret v => obtain ⟨x7, σ7, H7, I7, r7, q7⟩ := q7; exact ⟨x7, σ7, H7, I7.unpinned, r7, q7⟩
end

/-! ### the forms one uses -/
/-- over a list that the body leaves as it is -/
theorem for_list {K : PySem.W.Frag} {a : Addr} {xs : List V} {g : TG} {tb : TS} {D : Ends} {σ : St} {H : Hp} (Pv : Nat → St → Hp → Prop) (h0 : Pv 0 σ H) (hl : ∀ i σ H, i ≤ xs.length → Pv i σ H → SqL K H a xs)
    (hs : ∀ i x σ H, xs[i]? = some x → Pv i σ H → g x σ H fun σ2 H2 => tb { D with nx := Pv (i + 1), ct := Pv (i + 1), bk := D.nx } σ2 H2) (hd : ∀ σ H, Pv xs.length σ H → D.nx σ H) :
    ∃ W : Nat → Nat → St → Hp → Prop, (∃ m, W 0 m σ H) ∧ ∀ i m σ H, W i m σ H →
      ((Itl K a).stop i H ∧ D.nx σ H) ∨ ((Itl K a).go i H ∧ ∃ N : St → Hp → Prop, (∀ σ' H', N σ' H' → ∃ m', m' < m ∧ W (i + 1) m' σ' H') ∧ ∀ x H', (Itl K a).yld i H x H' → g x σ H' fun σ2 H2 => tb { D with nx := N, ct := N, bk := D.nx } σ2 H2) := by
  refine ⟨fun i m σ H => m = xs.length - i ∧ i ≤ xs.length ∧ Pv i σ H, ⟨xs.length, by simp, Nat.zero_le _, h0⟩, ?_⟩
  rintro i m σ H ⟨rfl, hi, p⟩
  have q := hl i σ H hi p
  by_cases hlt : i < xs.length
  · refine .inr ⟨⟨xs, xs[i], q, by simp [hlt]⟩, Pv (i + 1), fun σ' H' p' => ⟨xs.length - (i + 1), by omega, rfl, hlt, p'⟩, fun x H' y => ?_⟩
    obtain ⟨e, y⟩ := y
    subst e
    exact hs i x σ _ (y xs q) p
  · have e : i = xs.length := by omega
    subst e
    exact .inl ⟨⟨xs, q, Nat.le_refl _⟩, hd σ H p⟩
theorem for_range {lo : Int} {n : Nat} {g : TG} {tb : TS} {D : Ends} {σ : St} {H : Hp} (Pv : Nat → St → Hp → Prop) (h0 : Pv 0 σ H)
    (hs : ∀ i σ H, i < n → Pv i σ H → g (.int (lo + i)) σ H fun σ2 H2 => tb { D with nx := Pv (i + 1), ct := Pv (i + 1), bk := D.nx } σ2 H2) (hd : ∀ σ H, Pv n σ H → D.nx σ H) :
    ∃ W : Nat → Nat → St → Hp → Prop, (∃ m, W 0 m σ H) ∧ ∀ i m σ H, W i m σ H →
      ((Itr lo n).stop i H ∧ D.nx σ H) ∨ ((Itr lo n).go i H ∧ ∃ N : St → Hp → Prop, (∀ σ' H', N σ' H' → ∃ m', m' < m ∧ W (i + 1) m' σ' H') ∧ ∀ x H', (Itr lo n).yld i H x H' → g x σ H' fun σ2 H2 => tb { D with nx := N, ct := N, bk := D.nx } σ2 H2) := by
  refine ⟨fun i m σ H => m = n - i ∧ i ≤ n ∧ Pv i σ H, ⟨n, by simp, Nat.zero_le _, h0⟩, ?_⟩
  rintro i m σ H ⟨rfl, hi, p⟩
  by_cases hlt : i < n
  · refine .inr ⟨hlt, Pv (i + 1), fun σ' H' p' => ⟨n - (i + 1), by omega, rfl, hlt, p'⟩, fun x H' y => ?_⟩
    obtain ⟨e, y⟩ := y
    subst e y
    exact hs i σ _ hlt p
  · have e : i = n := by omega
    subst e
    exact .inl ⟨Nat.le_refl _, hd σ H p⟩
/-- while, by a word and a measure of the state -/
theorem while_by {c : TT} {tb : TS} {D : Ends} {σ : St} {H : Hp} (Pv : St → Hp → Prop) (μ : St → Hp → Nat) (h0 : Pv σ H)
    (hs : ∀ σ H, Pv σ H → c σ H fun b H1 => if b = true then tb { D with nx := fun σ' H' => Pv σ' H' ∧ μ σ' H' < μ σ H, ct := fun σ' H' => Pv σ' H' ∧ μ σ' H' < μ σ H, bk := D.nx } σ H1 else D.nx σ H1)
    (mono : ∀ σ H Q Q', (∀ b H1, Q b H1 → Q' b H1) → c σ H Q → c σ H Q') : tWhile c tb D σ H := by
  refine ⟨fun m σ H => m = μ σ H ∧ Pv σ H, ⟨_, rfl, h0⟩, ?_⟩
  rintro m σ H ⟨rfl, p⟩
  refine mono σ H _ _ (fun b H1 q => ?_) (hs σ H p)
  cases b with
  | true => exact ⟨_, fun σ' H' ⟨p', l⟩ => ⟨_, l, rfl, p'⟩, q⟩
  | false => exact q
end L2

namespace L2
open PySem PySem.Spec PyProof.Rows

abbrev R2 := V → V → Hp → VK → Prop
/-- a two-place operation on values: f is binaryOp op, inplaceOp op or compareOp op -/
def OpR (X : Cx) (f : Value → Value → Sem Value) (r : R2) : Prop :=
  ∀ (pins : List (Addr × Obj)) (s : Shared) (σ : St) (H : Hp) (x y : V) (v u : Value) (Q : VK), Inv X pins σ H s → RelV x v → RelV y u → r x y H Q →
    wpAny (model X.prog X.w) X.A (f v u) (EP X pins σ Q) X.xe s
/-- a one-place operation -/
def UnR (X : Cx) (f : Value → Sem Value) (r : V → Hp → VK → Prop) : Prop :=
  ∀ (pins : List (Addr × Obj)) (s : Shared) (σ : St) (H : Hp) (x : V) (v : Value) (Q : VK), Inv X pins σ H s → RelV x v → r x H Q →
    wpAny (model X.prog X.w) X.A (f v) (EP X pins σ Q) X.xe s
/-- a call of a value that is known (a builtin, a type) with values -/
def CallR (X : Cx) (f : Value) (r : List V → Hp → VK → Prop) : Prop :=
  ∀ (pins : List (Addr × Obj)) (s : Shared) (σ : St) (H : Hp) (xs : List V) (us : List Value) (Q : VK), Inv X pins σ H s → Vals xs us → r xs H Q →
    wpAny (model X.prog X.w) X.A (call f us) (EP X pins σ Q) X.xe s
/-- a value's truth -/
def TruR (X : Cx) (r : V → Hp → (Bool → Hp → Prop) → Prop) : Prop :=
  ∀ (pins : List (Addr × Obj)) (s : Shared) (σ : St) (H : Hp) (x : V) (v : Value) (Q : Bool → Hp → Prop), Inv X pins σ H s → RelV x v → r x H Q →
    wpAny (model X.prog X.w) X.A (truthy v) (TP X pins σ Q) X.xe s

def tOp (r : R2) (ta tb : TE) : TE := fun σ H Q => ta σ H fun x H1 => tb σ H1 fun y H2 => r x y H2 Q
def tUn (r : V → Hp → VK → Prop) (ta : TE) : TE := fun σ H Q => ta σ H fun x H1 => r x H1 Q
/-- ints in, under C, and a value out -/
def rI (C : Int → Int → Prop) (g : Int → Int → V) : R2 := fun x y H Q => ∃ i j, x = .int i ∧ y = .int j ∧ C i j ∧ Q (g i j) H
def rI0 (g : Int → Int → V) : R2 := fun x y H Q => ∃ i j, x = .int i ∧ y = .int j ∧ Q (g i j) H
def rU (g : Int → V) : V → Hp → VK → Prop := fun x H Q => ∃ i, x = .int i ∧ Q (g i) H

section
variable {X : Cx} {a b c : Expr} {ta tb tc : TE} {pos : Pos}

theorem binT (ha : PE X a ta) (hb : PE X b tb) {pins : List (Addr × Obj)} {s : Shared} {σ : St} {H : Hp} {R : V → V → Hp → Prop} (I : Inv X pins σ H s)
    (h : ta σ H fun x H1 => tb σ H1 fun y H2 => R x y H2) {Q : Value → Shared → Prop} {f : Value → Value → Sem Value}
    (hf : ∀ v u s2 x y H2, Inv X pins σ H2 s2 → RelV x v → RelV y u → R x y H2 → wpAny (model X.prog X.w) X.A (f v u) Q X.xe s2) :
    wpAny (model X.prog X.w) X.A (eval a X.env) (fun v s₁ => wpAny (model X.prog X.w) X.A (eval b X.env) (fun u s₂ => wpAny (model X.prog X.w) X.A (f v u) Q X.xe s₂) X.xe s₁) X.xe s := by
  refine thn (ha pins s σ H _ I h) fun v s1 ⟨x, H1, I1, r1, q1⟩ => ?_
  refine thn (hb pins s1 σ H1 _ I1 q1) fun u s2 ⟨y, H2, I2, r2, q2⟩ => ?_
  exact hf v u s2 x y H2 I2 r1 r2 q2

theorem pe_op {op : Operator} {r : R2} (ho : OpR X (binaryOp op) r) (ha : PE X a ta) (hb : PE X b tb) : PE X (.BinOp a op b pos) (tOp r ta tb) := by
  intro pins s σ H Q I h
  exact wpAny_BinOp (binT ha hb I h fun v u s2 x y H2 I2 rx ry q => ho pins s2 σ H2 x y v u Q I2 rx ry q)
theorem pe_un {op : UnaryOp} {r : V → Hp → VK → Prop} (ho : UnR X (unaryOp op) r) (ha : PE X a ta) : PE X (.UnaryOp op a pos) (tUn r ta) := by
  intro pins s σ H Q I h
  exact UnaryOp_ (thn (ha pins s σ H _ I h) fun v s1 ⟨x, H1, I1, r1, q1⟩ => ho pins s1 σ H1 x v Q I1 r1 q1)
/-! ### ints -/
theorem opI {f : Value → Value → Sem Value} {C : Int → Int → Prop} {g : Int → Int → Int}
    (rule : ∀ (i j : Int) (t u : Tok) (s : Shared) (Q : Value → Shared → Prop) (E : Value → Shared → Prop), C i j → Q (.int (g i j) s.toks) { s with toks := s.toks + 1 } → wpAny (model X.prog X.w) X.A (f (.int i t) (.int j u)) Q E s) :
    OpR X f (rI C fun i j => .int (g i j)) := by
  intro pins s σ H x y v u Q I rx ry h
  obtain ⟨i, j, rfl, rfl, hc, q⟩ := h
  obtain ⟨t, rfl⟩ := rx
  obtain ⟨t', rfl⟩ := ry
  exact rule i j t t' s _ _ hc ⟨.int (g i j), H, I.tok _, ⟨_, rfl⟩, q⟩
theorem opI0 {f : Value → Value → Sem Value} {g : Int → Int → Int}
    (rule : ∀ (i j : Int) (t u : Tok) (s : Shared) (Q : Value → Shared → Prop) (E : Value → Shared → Prop), Q (.int (g i j) s.toks) { s with toks := s.toks + 1 } → wpAny (model X.prog X.w) X.A (f (.int i t) (.int j u)) Q E s) :
    OpR X f (rI0 fun i j => .int (g i j)) := by
  intro pins s σ H x y v u Q I rx ry h
  obtain ⟨i, j, rfl, rfl, q⟩ := h
  obtain ⟨t, rfl⟩ := rx
  obtain ⟨t', rfl⟩ := ry
  exact rule i j t t' s _ _ ⟨.int (g i j), H, I.tok _, ⟨_, rfl⟩, q⟩
theorem opB0 {f : Value → Value → Sem Value} {g : Int → Int → Bool}
    (rule : ∀ (i j : Int) (t u : Tok) (s : Shared) (Q : Value → Shared → Prop) (E : Value → Shared → Prop), Q (.bool (g i j)) s → wpAny (model X.prog X.w) X.A (f (.int i t) (.int j u)) Q E s) :
    OpR X f (rI0 fun i j => .bl (g i j)) := by
  intro pins s σ H x y v u Q I rx ry h
  obtain ⟨i, j, rfl, rfl, q⟩ := h
  obtain ⟨t, rfl⟩ := rx
  obtain ⟨t', rfl⟩ := ry
  exact rule i j t t' s _ _ ⟨.bl (g i j), H, I, rfl, q⟩

def CPow (i j : Int) : Prop := 0 ≤ j ∧ j ≤ 1000000 ∧ i.natAbs < 2 ^ 64
def CMul (i j : Int) : Prop := (-(2 ^ 64) < i ∧ i < 2 ^ 64) ∨ (-(2 ^ 64) < j ∧ j < 2 ^ 64)
theorem CMul.ok {i j : Int} (h : CMul i j) : IntMulOk i j := by
  rcases h with ⟨h1, h2⟩ | ⟨h1, h2⟩
  · exact .of_left (intBits_le_64 h1 h2)
  · exact .of_right (intBits_le_64 h1 h2)
theorem op_add : OpR X (binaryOp .Add) (rI0 fun i j => .int (i + j)) := opI0 fun _ _ _ _ _ _ _ q => add_int q
theorem op_sub : OpR X (binaryOp .Sub) (rI0 fun i j => .int (i - j)) := opI0 fun _ _ _ _ _ _ _ q => sub_int q
theorem op_mul : OpR X (binaryOp .Mult) (rI CMul fun i j => .int (i * j)) := opI fun _ _ _ _ _ _ _ hc q => mul_int q hc.ok
/-- % by a positive divisor of any size -/
theorem op_mod : OpR X (binaryOp .Mod) (rI (fun _ j => 0 < j) fun i j => .int (i % j)) := opI fun i j _ _ _ _ _ hc q => by
  have h1 : (0 : Int) < j := hc
  exact mod_int' (by omega) (by rw [Int.fmod_eq_emod_of_nonneg i (by omega)]; exact q)
theorem op_pow : OpR X (binaryOp .Pow) (rI CPow fun i j => .int (i ^ j.toNat)) := opI fun _ _ _ _ _ _ _ hc q => pow_int_small hc.1 hc.2.1 hc.2.2 q
theorem unI {f : Value → Sem Value} {g : Int → Int}
    (rule : ∀ (i : Int) (t : Tok) (s : Shared) (Q : Value → Shared → Prop) (E : Value → Shared → Prop), Q (.int (g i) s.toks) { s with toks := s.toks + 1 } → wpAny (model X.prog X.w) X.A (f (.int i t)) Q E s) :
    UnR X f (rU fun i => .int (g i)) := by
  intro pins s σ H x v Q I rx h
  obtain ⟨i, rfl, q⟩ := h
  obtain ⟨t, rfl⟩ := rx
  exact rule i t s _ _ ⟨.int (g i), H, I.tok _, ⟨_, rfl⟩, q⟩
theorem un_neg : UnR X (unaryOp .USub) (rU fun i => .int (-i)) := unI fun _ _ _ _ _ q => neg_int q
/-! ### bools among ints: n += (a < b) -/
end

/-! ### comparisons -/
/-- the scalars that == tells apart as data does -/
def scal : V → V → Bool
  | .non, .non => true | .non, .int _ => true | .int _, .non => true | .non, .bl _ => true | .bl _, .non => true | .non, .str _ => true | .str _, .non => true
  | .int _, .int _ => true | .bl _, .bl _ => true | .str _, .str _ => true | .byt _, .byt _ => true
  | .int _, .str _ => true | .str _, .int _ => true | .bl _, .str _ => true | .str _, .bl _ => true
  | _, _ => false
def rEq : R2 := fun x y H Q => scal x y = true ∧ Q (.bl (decide (x = y))) H
def rNe : R2 := fun x y H Q => scal x y = true ∧ Q (.bl (!decide (x = y))) H

theorem dec_int {i j : Int} : decide (V.int i = V.int j) = (i == j) := by
  rw [Bool.eq_iff_iff]
  simp
theorem dec_bl {i j : Bool} : decide (V.bl i = V.bl j) = (i == j) := by
  rw [Bool.eq_iff_iff]
  simp
theorem dec_str {i j : Str} : decide (V.str i = V.str j) = (i == j) := by
  rw [Bool.eq_iff_iff]
  simp
theorem dec_byt {i j : Array UInt8} : decide (V.byt i = V.byt j) = (i.toList == j.toList) := by
  rw [Bool.eq_iff_iff]
  cases i
  cases j
  simp

section
variable {X : Cx} {a b c : Expr} {ta tb tc : TE} {pos : Pos}
theorem fin_bl {pins : List (Addr × Obj)} {σ : St} {H : Hp} {s : Shared} {Q : VK} {k k' : Bool} (I : Inv X pins σ H s) (q : Q (.bl k) H) (e : k = k') : EP X pins σ Q (.bool k') s := by
  subst e
  exact ⟨.bl k, H, I, rfl, q⟩
theorem op_eq : OpR X (compareOp .Eq) rEq := by
  intro pins s σ H x y v u Q I rx ry h
  obtain ⟨hs, q⟩ := h
  cases x with
  | non =>
    cases rx
    cases y with
    | non => cases ry; exact PySem.EqNone.eq_none_none (fin_bl I q (by simp))
    | bl j => cases ry; exact PySem.EqNone.eq_none_bool (fin_bl I q (by simp))
    | int j => obtain ⟨t', rfl⟩ := ry; exact PySem.EqNone.eq_none_int (fin_bl I q (by simp))
    | str j => obtain ⟨t', rfl⟩ := ry; exact PySem.EqNone.eq_none_str (fin_bl I q (by simp))
    | _ => exact absurd (show false = true from hs) Bool.false_ne_true
  | bl i =>
    cases rx
    cases y with
    | non => cases ry; exact PySem.EqNone.eq_bool_none (fin_bl I q (by simp))
    | bl j => cases ry; exact eq_bool (fin_bl I q dec_bl)
    | str j => obtain ⟨t', rfl⟩ := ry; exact PySem.EqMixed.eq_bool_str (fin_bl I q (by simp))
    | _ => exact absurd (show false = true from hs) Bool.false_ne_true
  | int i =>
    obtain ⟨t, rfl⟩ := rx
    cases y with
    | non => cases ry; exact PySem.EqNone.eq_int_none (fin_bl I q (by simp))
    | int j => obtain ⟨t', rfl⟩ := ry; exact eq_int (fin_bl I q dec_int)
    | str j => obtain ⟨t', rfl⟩ := ry; exact PySem.EqMixed.eq_int_str (fin_bl I q (by simp))
    | _ => exact absurd (show false = true from hs) Bool.false_ne_true
  | str i =>
    obtain ⟨t, rfl⟩ := rx
    cases y with
    | non => cases ry; exact PySem.EqNone.eq_str_none (fin_bl I q (by simp))
    | bl j => cases ry; exact PySem.EqMixed.eq_str_bool (fin_bl I q (by simp))
    | int j => obtain ⟨t', rfl⟩ := ry; exact PySem.EqMixed.eq_str_int (fin_bl I q (by simp))
    | str j => obtain ⟨t', rfl⟩ := ry; exact eq_str (fin_bl I q dec_str)
    | _ => exact absurd (show false = true from hs) Bool.false_ne_true
  | byt i =>
    obtain ⟨t, rfl⟩ := rx
    cases y with
    | byt j => obtain ⟨t', rfl⟩ := ry; exact PySem.W.eq_bytes (fin_bl I q dec_byt)
    | _ => exact absurd (show false = true from hs) Bool.false_ne_true
  | _ => cases y <;> exact absurd (show false = true from hs) Bool.false_ne_true
theorem op_ne : OpR X (compareOp .NotEq) rNe := by
  intro pins s σ H x y v u Q I rx ry h
  obtain ⟨hs, q⟩ := h
  cases x with
  | non =>
    cases rx
    cases y with
    | non => cases ry; exact PySem.EqNone.ne_none_none (fin_bl I q (by simp))
    | bl j => cases ry; exact PySem.EqNone.ne_none_bool (fin_bl I q (by simp))
    | int j => obtain ⟨t', rfl⟩ := ry; exact PySem.EqNone.ne_none_int (fin_bl I q (by simp))
    | str j => obtain ⟨t', rfl⟩ := ry; exact PySem.EqNone.ne_none_str (fin_bl I q (by simp))
    | _ => exact absurd (show false = true from hs) Bool.false_ne_true
  | bl i =>
    cases rx
    cases y with
    | non => cases ry; exact PySem.EqNone.ne_bool_none (fin_bl I q (by simp))
    | bl j => cases ry; exact ne_bool (fin_bl I q (congrArg not dec_bl))
    | str j => obtain ⟨t', rfl⟩ := ry; exact PySem.EqMixed.ne_bool_str (fin_bl I q (by simp))
    | _ => exact absurd (show false = true from hs) Bool.false_ne_true
  | int i =>
    obtain ⟨t, rfl⟩ := rx
    cases y with
    | non => cases ry; exact PySem.EqNone.ne_int_none (fin_bl I q (by simp))
    | int j => obtain ⟨t', rfl⟩ := ry; exact ne_int (fin_bl I q (congrArg not dec_int))
    | str j => obtain ⟨t', rfl⟩ := ry; exact PySem.EqMixed.ne_int_str (fin_bl I q (by simp))
    | _ => exact absurd (show false = true from hs) Bool.false_ne_true
  | str i =>
    obtain ⟨t, rfl⟩ := rx
    cases y with
    | non => cases ry; exact PySem.EqNone.ne_str_none (fin_bl I q (by simp))
    | bl j => cases ry; exact PySem.EqMixed.ne_str_bool (fin_bl I q (by simp))
    | int j => obtain ⟨t', rfl⟩ := ry; exact PySem.EqMixed.ne_str_int (fin_bl I q (by simp))
    | str j => obtain ⟨t', rfl⟩ := ry; exact ne_str (fin_bl I q (congrArg not dec_str))
    | _ => exact absurd (show false = true from hs) Bool.false_ne_true
  | byt i =>
    obtain ⟨t, rfl⟩ := rx
    cases y with
    | byt j => obtain ⟨t', rfl⟩ := ry; exact PySem.W.ne_bytes (fin_bl I q (congrArg not dec_byt))
    | _ => exact absurd (show false = true from hs) Bool.false_ne_true
  | _ => cases y <;> exact absurd (show false = true from hs) Bool.false_ne_true

theorem op_lt : OpR X (compareOp .Lt) (rI0 fun i j => .bl (decide (i < j))) := opB0 fun _ _ _ _ _ _ _ q => lt_int q
theorem op_le : OpR X (compareOp .LtE) (rI0 fun i j => .bl (decide (i ≤ j))) := opB0 fun _ _ _ _ _ _ _ q => le_int q
theorem op_ge : OpR X (compareOp .GtE) (rI0 fun i j => .bl (decide (j ≤ i))) := opB0 fun _ _ _ _ _ _ _ q => ge_int q
/-- is None, is not None: the right side a value none -/
theorem op_isN : OpR X (compareOp .Is) (fun x y H Q => y = .non ∧ Q (.bl (decide (x = .non))) H) := by
  intro pins s σ H x y v u Q I rx ry h
  obtain ⟨rfl, q⟩ := h
  cases ry
  refine is_none_gen (fin_bl I q ?_)
  cases x <;> first
    | (cases rx; rfl)
    | (obtain ⟨t, rfl⟩ := rx; rfl)
/-- two rules for one operation: by cases -/
theorem OpR.or {f : Value → Value → Sem Value} {r r' : R2} (h : OpR X f r) (h' : OpR X f r') : OpR X f (fun x y H Q => r x y H Q ∨ r' x y H Q) := by
  intro pins s σ H x y v u Q I rx ry q
  rcases q with q | q
  · exact h pins s σ H x y v u Q I rx ry q
  · exact h' pins s σ H x y v u Q I rx ry q

theorem nomark (b : Expr) {op : CmpOp} (h : op ≠ .In := by decide) (h2 : op ≠ .NotIn := by decide) : behindInMarks op b = false := by
  have e1 : (op == CmpOp.In) = false := by cases op <;> first | rfl | exact absurd rfl h
  have e2 : (op == CmpOp.NotIn) = false := by cases op <;> first | rfl | exact absurd rfl h2
  cases b <;> simp [behindInMarks, e1, e2]
/-- a comparison as a value; hm: nomark b, or (for in, not in) by with_unfolding_all rfl -/
theorem pe_cmpR {op : CmpOp} {r : R2} (ho : OpR X (compareOp op) r) (ha : PE X a ta) (hb : PE X b tb) (hm : behindInMarks op b = false) : PE X (.Compare a [op] [b] pos) (tOp r ta tb) := by
  intro pins s σ H Q I h
  exact wpAny_Compare1 (binT ha hb I h fun v u s2 x y H2 I2 rx ry q => ho pins s2 σ H2 x y v u Q I2 rx ry q) hm
/-- a reading of a value as a test -/
def tTest (t : TE) : TT := fun σ H Q => t σ H fun x H' => ∃ k, x = .bl k ∧ Q k H'
theorem pt_cmpR {op : CmpOp} {r : R2} (ho : OpR X (compareOp op) r) (ha : PE X a ta) (hb : PE X b tb) (hm : behindInMarks op b = false) : PT X (.Compare a [op] [b] pos) (tTest (tOp r ta tb)) := by
  intro pins s σ H Q I h
  refine wpAny_isTrue_Compare1 (thn (ha pins s σ H _ I h) fun v s1 ⟨x, H1, I1, r1, q1⟩ => thn (hb pins s1 σ H1 _ I1 q1) fun u s2 ⟨y, H2, I2, r2, q2⟩ =>
    thn (ho pins s2 σ H2 x y v u _ I2 r1 r2 q2) fun c s3 ⟨z, H3, I3, r3, k, e, q3⟩ => ?_) hm
  subst e
  cases r3
  exact wpAny_truthy_bool ⟨H3, I3, q3⟩
/-- a op1 b op2 c -/
def tChain (r r' : R2) (ta tb tc : TE) : TE := fun σ H Q => ta σ H fun x H1 => tb σ H1 fun y H2 => r x y H2 fun z H3 => ∃ k, z = .bl k ∧
  (if k = true then tc σ H3 fun w' H4 => r' y w' H4 Q else Q (.bl false) H3)
theorem pe_chain {op op' : CmpOp} {r r' : R2} (ho : OpR X (compareOp op) r) (ho' : OpR X (compareOp op') r') (ha : PE X a ta) (hb : PE X b tb) (hc : PE X c tc)
    (hm : lastMarks [op, op'] [b, c] = false := by with_unfolding_all rfl) : PE X (.Compare a [op, op'] [b, c] pos) (tChain r r' ta tb tc) := by
  intro pins s σ H Q I h
  refine Compare_chain (thn (ha pins s σ H _ I h) fun v s1 ⟨x, H1, I1, r1, q1⟩ => chain_link (thn (hb pins s1 σ H1 _ I1 q1) fun u s2 ⟨y, H2, I2, r2, q2⟩ =>
    thn (ho pins s2 σ H2 x y v u _ I2 r1 r2 q2) fun d s3 ⟨z, H3, I3, r3, k, e, q3⟩ => ?_)) hm
  subst e
  cases r3
  refine wpAny_truthy_bool ?_
  cases k with
  | false => exact ite_ff ⟨.bl false, H3, I3, rfl, q3⟩
  | true => exact ite_tt (chain_last (thn (hc pins s3 σ H3 _ I3 q3) fun w' s4 ⟨z', H4, I4, r4, q4⟩ => ho' pins s4 σ H4 y z' u w' Q I4 r2 r4 q4))
/-! ### truth -/
/-- a value's truth by the abstract heap -/
def TruV (K : PySem.W.Frag) (x : V) (H : Hp) (k : Bool) : Prop :=
  match x with
  | .non => k = false
  | .bl b => k = b
  | .int i => k = (i != 0)
  | .str y => y.length ≤ sizeLine ∧ k = ((y.length : Int) != 0)
  | .byt y => y.size ≤ sizeLine ∧ k = ((y.size : Int) != 0)
  | .ref p => (∃ xs, SqL K H p xs ∧ k = !xs.isEmpty) ∨ (∃ xs, SqT K H p xs ∧ k = !xs.isEmpty) ∨ ∃ kvs, H p = some (.dK kvs) ∧ k = !kvs.isEmpty
  | _ => False
theorem isEmpty_kv {κ : Type} {kvs : List (κ × V)} {vs : List (κ × Value)} (r : KV kvs vs) : (!vs.isEmpty) = !kvs.isEmpty := by
  cases r <;> rfl
theorem isEmpty_of {xs : List V} {its : List Value} (r : Vals xs its) : (!its.toArray.isEmpty) = !xs.isEmpty := by
  cases r <;> simp
theorem line63 : (sizeLine : Nat) < 2 ^ 63 := by rw [sizeLine_eq]; decide
theorem tru_ok : TruR X (fun x H Q => ∃ k, TruV X.K x H k ∧ Q k H) := by
  intro pins s σ H x v Q I rx h
  obtain ⟨k, e, q⟩ := h
  have hl := line63
  have hs : sizeLine = 16777216 := sizeLine_eq
  cases x with
  | non =>
    cases rx
    have e' : k = false := e
    subst e'
    exact truthy_none ⟨H, I, q⟩
  | bl b =>
    cases rx
    have e' : k = b := e
    subst e'
    exact wpAny_truthy_bool ⟨H, I, q⟩
  | int i =>
    obtain ⟨t, rfl⟩ := rx
    have e' : k = (i != 0) := e
    subst e'
    exact PySem.P.truthy_int ⟨H, I, q⟩
  | str y =>
    obtain ⟨t, rfl⟩ := rx
    obtain ⟨hy, e'⟩ : y.length ≤ sizeLine ∧ k = ((y.length : Int) != 0) := e
    subst e'
    exact PySem.P.truthy_str (by omega) ⟨H, I.tok _, q⟩
  | byt y =>
    obtain ⟨t, rfl⟩ := rx
    obtain ⟨hy, e'⟩ : y.size ≤ sizeLine ∧ k = ((y.size : Int) != 0) := e
    subst e'
    exact PySem.W.truthy_bytes (by omega) ⟨H, I.tok _, q⟩
  | ref p =>
    cases rx
    have e' : (∃ xs, SqL X.K H p xs ∧ k = !xs.isEmpty) ∨ (∃ xs, SqT X.K H p xs ∧ k = !xs.isEmpty) ∨ ∃ kvs, H p = some (.dK kvs) ∧ k = !kvs.isEmpty := e
    rcases e' with ⟨xs, hx, e'⟩ | ⟨xs, hx, e'⟩ | ⟨kvs, hx, e'⟩
    · subst e'
      obtain ⟨its, r, pl, hz⟩ := I.list hx
      have hlen := r.length
      exact wpAny_truthy_list pl.isList (by simp only [List.size_toArray]; omega) ⟨H, I.tok _, by rw [isEmpty_of r]; exact q⟩
    · subst e'
      obtain ⟨its, r, pl, hz⟩ := I.tuple hx
      have hlen := r.length
      exact truthy_tuple pl (by simp only [List.size_toArray]; omega) ⟨H, I.tok _, by rw [isEmpty_of r]; exact q⟩
    · subst e'
      obtain ⟨hz, hS, vs, r, m⟩ : kvs.length ≤ sizeLine ∧ (p == sysModules) = false ∧ ∃ vs, KV kvs vs ∧ s.heap.DictOf (mixKind X.prog X.w) p vs := I.hok p _ hx
      have hlen : kvs.length = vs.length := Paired.length r
      exact wpAny_truthy_dict hS m (by omega) ⟨H, I.tok _, by rw [isEmpty_kv r]; exact q⟩
  | _ => exact (show False from e).elim
/-- any expression whose test is its value's truth (a name, a call, a subscript, a field ..: he by fun _ => rfl) -/
theorem pt_truth (ha : PE X a ta) (he : ∀ whole, isTrue a X.env whole = (do let v ← whole; standAt a.pos; holding [v] (truthy v))) :
    PT X a (fun σ H Q => ta σ H fun x H' => ∃ k, TruV X.K x H' k ∧ Q k H') := by
  intro pins s σ H Q I h
  exact isTrue_plain (thn (ha pins s σ H _ I h) fun v s1 ⟨x, H1, I1, r1, q1⟩ => tru_ok pins s1 σ H1 x v Q I1 r1 q1) (he _)

/-! ### strs and bytes -/
theorem op_add_str : OpR X (binaryOp .Add) (fun x y H Q => ∃ i j, x = .str i ∧ y = .str j ∧ i.length + j.length ≤ sizeLine ∧ Q (.str (i ++ j)) H) := by
  intro pins s σ H x y v u Q I rx ry h
  obtain ⟨i, j, rfl, rfl, hz, q⟩ := h
  obtain ⟨t, rfl⟩ := rx
  obtain ⟨t', rfl⟩ := ry
  exact add_str (fun t' tk => ⟨.str (i ++ j), H, I.tok _, ⟨_, rfl⟩, q⟩) hz
/-! ### scalar builtins, by CallR -/
theorem vals1 {x : V} {us : List Value} (r : Vals [x] us) : ∃ u, us = [u] ∧ RelV x u := by
  cases r with
  | cons r1 r2 => cases r2; exact ⟨_, rfl, r1⟩
theorem vals2 {x y : V} {us : List Value} (r : Vals [x, y] us) : ∃ u w', us = [u, w'] ∧ RelV x u ∧ RelV y w' := by
  cases r with
  | cons r1 r2 =>
    cases r2 with
    | cons r3 r4 => cases r4; exact ⟨_, _, rfl, r1, r3⟩
theorem call_int1 : CallR X (.type "int") (fun xs H Q => (∃ i, xs = [.int i] ∧ Q (.int i) H) ∨ ∃ k, xs = [.bl k] ∧ Q (.int (if k then 1 else 0)) H) := by
  intro pins s σ H xs us Q I r h
  rcases h with ⟨i, rfl, q⟩ | ⟨k, rfl, q⟩
  · obtain ⟨u, rfl, t, rfl⟩ := vals1 r
    exact call_int_int ⟨.int i, H, I, ⟨_, rfl⟩, q⟩
  · obtain ⟨u, rfl, r1⟩ := vals1 r
    cases r1
    exact call_int_bool ⟨.int (if k then 1 else 0), H, I.tok _, ⟨_, rfl⟩, q⟩
theorem call_str_int : CallR X (.type "str") (fun xs H Q => ∃ i, xs = [.int i] ∧ i.natAbs.log2 < 1920 ∧ Q (.str (toString i)) H) := by
  intro pins s σ H xs us Q I r h
  obtain ⟨i, rfl, hz, q⟩ := h
  obtain ⟨u, rfl, t, rfl⟩ := vals1 r
  exact PySem.P.str_of_int hz ⟨.str _, H, I.tok _, ⟨_, rfl⟩, q⟩
/-- len of a str, a bytes, a list, a tuple -/
def LenV (K : PySem.W.Frag) (x : V) (H : Hp) (n : Nat) : Prop :=
  match x with
  | .str y => y.length ≤ sizeLine ∧ n = y.length
  | .byt y => y.size ≤ sizeLine ∧ n = y.size
  | .ref p => (∃ xs, SqL K H p xs ∧ n = xs.length) ∨ ∃ xs, SqT K H p xs ∧ n = xs.length
  | _ => False
theorem call_len : CallR X (.builtin "len") (fun xs H Q => ∃ x n, xs = [x] ∧ LenV X.K x H n ∧ Q (.int n) H) := by
  intro pins s σ H xs us Q I r h
  obtain ⟨x, n, rfl, e, q⟩ := h
  obtain ⟨u, rfl, rx⟩ := vals1 r
  have hl := line63
  have hs : sizeLine = 16777216 := sizeLine_eq
  cases x with
  | str y =>
    obtain ⟨t, rfl⟩ := rx
    obtain ⟨hy, e'⟩ : y.length ≤ sizeLine ∧ n = y.length := e
    subst e'
    exact len_str (by omega) ⟨.int _, H, I.tok _, ⟨_, rfl⟩, q⟩
  | byt y =>
    obtain ⟨t, rfl⟩ := rx
    obtain ⟨hy, e'⟩ : y.size ≤ sizeLine ∧ n = y.size := e
    subst e'
    exact PySem.W.len_bytes (by omega) ⟨.int _, H, I.tok _, ⟨_, rfl⟩, q⟩
  | ref p =>
    cases rx
    have e' : (∃ xs, SqL X.K H p xs ∧ n = xs.length) ∨ ∃ xs, SqT X.K H p xs ∧ n = xs.length := e
    rcases e' with ⟨xs, hx, e'⟩ | ⟨xs, hx, e'⟩
    · subst e'
      obtain ⟨its, r', pl, hz⟩ := I.list hx
      have hlen := r'.length
      exact Calls.call_len_list pl.isList (by simp only [List.size_toArray]; omega) ⟨.int xs.length, H, I.tok _, ⟨_, by simp only [List.size_toArray]; rw [hlen]⟩, q⟩
    · subst e'
      obtain ⟨its, r', pl, hz⟩ := I.tuple hx
      have hlen := r'.length
      exact len_tuple pl (by simp only [List.size_toArray]; omega) ⟨.int xs.length, H, I.tok _, ⟨_, by simp only [List.size_toArray]; rw [hlen]⟩, q⟩
  | _ => exact (show False from e).elim
end
end L2

namespace L2
open PySem PySem.Spec PyProof.Rows

/-! ### an instance, its attributes a map -/
structure ObjM (h : Heap) (x dx C : Addr) (mA : Str → Option Value) : Prop where
  obj : h.get? x = some (PySem.W.instObj C dx)
  ns : h.Ns1 dx mA
  ne : dx ≠ x

theorem lookIn_ns {h : Heap} {dx : Addr} {mA : Str → Option Value} (n : h.Ns1 dx mA) : ∃ od, h.get? dx = some od ∧ ∀ name, PySem.W.lookIn name od = some (mA name) := by
  obtain ⟨o, es, ep, ho, hd, hk, _, hm⟩ := n
  refine ⟨o, ho, fun name => ?_⟩
  have e := hm name
  unfold nsFind findBy at e
  rw [← Array.find?_toList] at e
  unfold PySem.W.lookIn
  rw [hd]
  dsimp only
  split
  · rename_i y q
    rw [q] at e
    exact congrArg some e
  · rename_i q
    rw [q] at e
    have a : es.toList.any (·.refKey) = false := by
      rw [List.any_eq_false]
      intro y hy
      obtain ⟨z, t, hkey⟩ := hk y (Array.mem_toList_iff.mp hy)
      simp [DictEntry.refKey, hkey]
    have a' : ¬ es.toList.any (·.refKey) = true := by rw [a]; exact Bool.false_ne_true
    rw [if_neg a']
    exact congrArg some e

theorem ObjM.look {h : Heap} {x dx C : Addr} {mA : Str → Option Value} (I : ObjM h x dx C mA) : ∃ od, PySem.W.InstAt h x (PySem.W.instObj C dx) C (some od) ∧ ∀ name, PySem.W.lookIn name od = some (mA name) :=
  let ⟨od, ho, hl⟩ := lookIn_ns I.ns
  ⟨od, ⟨I.obj, rfl, rfl, ho⟩, hl⟩

section
variable {prog : Program} {w : World} {A : Around} {E : Value → Shared → Prop} {s : Shared} {K : PySem.W.Frag} {x dx C f : Addr} {mA : Str → Option Value} {name : Str} {v : Value}

end

/-! ### the attributes as a list of pairs -/
theorem RelO.some_of {v : V} {o : Option Value} (r : RelO (some v) o) : ∃ u, o = some u ∧ RelV v u := by
  cases o with
  | none => exact (show False from r).elim
  | some u => exact ⟨u, rfl, r⟩
section
variable {P : Program} {w : World} {H H' : Hp} {h h' : Heap} {a C dx : Addr} {fs fs' : List (Str × V)}
theorem ins_get (hok : HOk P w H h) (e : H a = some (.ins C dx fs)) : ∃ mA, ObjM h a dx C mA ∧ (∀ f, RelO (fs.lookup f) (mA f)) ∧ PySem.Within mA (fs.map (·.1)) ∧ fs.length ≤ 1000 ∧ H dx = some (.own a) := by
  obtain ⟨d, z, ne, ob, mA, n, r, q⟩ := (show ObjOk P w H h a (.ins C dx fs) from hok a _ e)
  exact ⟨mA, ⟨ob, n, ne⟩, r, q, z, d⟩
end

/-! ### what of the text a class must have -/
structure Cls (K : PySem.W.Frag) (C : Addr) : Prop where
  pg : PySem.W.plainGet K C Str.empty = true
  hd : PySem.W.hasDictIn K C = true
  po : PySem.W.plainOver K C = true
  sa : PySem.W.findIn K (.ref C) "__setattr__" = some (some (.builtin "object.__setattr__"))
theorem Cls.get {K : PySem.W.Frag} {C : Addr} (c : Cls K C) (f : Str) : PySem.W.plainGet K C f = true := c.pg
section
variable {X : Cx} {pins : List (Addr × Obj)} {σ : St} {H : Hp} {s : Shared} {a C dx : Addr} {fs : List (Str × V)} {f : Str} {v : V} {A : Around} {E : Value → Shared → Prop}

end

/-! ### readings and rules -/
section
variable {X : Cx} {o e value : Expr} {f : Str} {pos pos' tpos : Pos} {ta tv : TE}
end

/-! ### isinstance -/
section
variable {X : Cx} {pins : List (Addr × Obj)} {σ : St} {H : Hp} {s : Shared} {A : Around} {E : Value → Shared → Prop} {Q : Value → Shared → Prop} {c : Value} {b : Bool}
/-- the type of a value, as the fragment's deciders take it; for an instance its class -/
inductive TyOf (K : PySem.W.Frag) (H : Hp) : V → Value → Prop where
  | non : TyOf K H .non (.type "NoneType")
  | bl (x : Bool) : TyOf K H (.bl x) (.type "bool")
  | int (i : Int) : TyOf K H (.int i) (.type "int")
  | str (x : Str) : TyOf K H (.str x) (.type "str")
  | flt (x : UInt64) : TyOf K H (.flt x) (.type "float")
  | lst {a : Addr} {xs : List V} (e : H a = some (.lst xs)) : TyOf K H (.ref a) (.type "list")
  | frz {a : Addr} {o : Obj} {xs : List V} (e : H a = some (.frz o (.lst xs))) : TyOf K H (.ref a) (.type "list")
  | tup {a : Addr} {xs : List V} (e : H a = some (.tup xs)) : TyOf K H (.ref a) (.type "tuple")
  | dK {a : Addr} {kvs : List (Key × V)} (e : H a = some (.dK kvs)) : TyOf K H (.ref a) (.type "dict")
  | dT {a : Addr} {kvs : List (List Key × V)} (e : H a = some (.dT kvs)) : TyOf K H (.ref a) (.type "dict")
  | ins {a C dx : Addr} {fs : List (Str × V)} (e : H a = some (.ins C dx fs)) (cl : Cls K C) (ha : PySem.W.findIn K (.ref C) "__class__" = some (some (.builtin "object.__class__")))
      (hn : PySem.W.specialIn K (.builtin "object.__class__") "__get__" = some (some (.builtin "getset_descriptor.__get__"))) (htk : PySem.W.takesIn K (.builtin "object.__class__") = some true)
      (hm : PySem.W.mroIn K C (.type "object") = some true) : TyOf K H (.ref a) (.ref C)
/-- isinstance(x, c) for one class c, a built-in or an own one: kitOne's answer -/
theorem isinst_ok {x : V} {u t : Value} (I : Inv X pins σ H s) (rx : RelV x u) (ty : TyOf X.K H x t) (e : PySem.W.kitOne X.K t c = some b) (h : ∀ tk, Q (.bool b) { s with toks := tk }) :
    wpAny (model X.prog X.w) A (call (.builtin "isinstance") [u, c]) Q E s := by
  cases ty with
  | non => cases (show u = Value.none from rx); exact PySem.W.kia_one PySem.W.kitx_none I.kIn True.intro e (fun z => nomatch z) h
  | bl y => cases (show u = Value.bool y from rx); exact PySem.W.kia_one PySem.W.kitx_bool I.kIn True.intro e (fun z => nomatch z) h
  | int i => obtain ⟨t, q⟩ := (show ∃ t, u = Value.int i t from rx); cases q; exact PySem.W.kia_one PySem.W.kitx_int I.kIn True.intro e (fun z => nomatch z) h
  | str y => obtain ⟨t, q⟩ := (show ∃ t, u = Value.str y t from rx); cases q; exact PySem.W.kia_one PySem.W.kitx_str I.kIn True.intro e (fun z => nomatch z) h
  | flt y => obtain ⟨t, q⟩ := (show ∃ t, u = Value.float y t from rx); cases q; exact PySem.W.kia_one PySem.W.kitx_float I.kIn True.intro e (fun z => nomatch z) h
  | @lst a xs ea =>
    cases (show u = Value.ref a from rx)
    obtain ⟨_, _, n, _, h1⟩ := (show ObjOk X.prog X.w H s.heap a (.lst xs) from I.hok a _ ea)
    exact PySem.W.kia_one PySem.W.kitx_list I.kIn ⟨_, h1, rfl⟩ e (fun z => nomatch z) h
  | @frz a ob xs ea =>
    cases (show u = Value.ref a from rx)
    obtain ⟨_, _, _, n, _, h1⟩ := (show ObjOk X.prog X.w H s.heap a (.frz ob (.lst xs)) from I.hok a _ ea)
    exact PySem.W.kia_one PySem.W.kitx_list I.kIn ⟨_, h1, rfl⟩ e (fun z => nomatch z) h
  | @tup a xs ea =>
    cases (show u = Value.ref a from rx)
    obtain ⟨_, _, _, p⟩ := (show ObjOk X.prog X.w H s.heap a (.tup xs) from I.hok a _ ea)
    obtain ⟨o, h1, h2, _⟩ := p
    exact PySem.W.kia_one PySem.W.kitx_tuple I.kIn ⟨o, h1, h2⟩ e (fun z => nomatch z) h
  | @dK a kvs ea =>
    cases (show u = Value.ref a from rx)
    obtain ⟨_, _, vs, _, p⟩ := (show ObjOk X.prog X.w H s.heap a (.dK kvs) from I.hok a _ ea)
    obtain ⟨o, es, ep, h1, h2, _⟩ := p
    exact PySem.W.kia_one PySem.W.kitx_dict I.kIn ⟨o, h1, h2.1⟩ e (fun z => nomatch z) h
  | @dT a kvs ea =>
    cases (show u = Value.ref a from rx)
    obtain ⟨_, _, xs, _, o, es, ep, h1, h2, _⟩ := (show ObjOk X.prog X.w H s.heap a (.dT kvs) from I.hok a _ ea)
    exact PySem.W.kia_one PySem.W.kitx_dict I.kIn ⟨o, h1, h2.1⟩ e (fun z => nomatch z) h
  | @ins a C dx fs ea cl ha hn htk hm =>
    cases (show u = Value.ref a from rx)
    obtain ⟨mA, O, _⟩ := ins_get I.hok ea
    obtain ⟨od, J, _⟩ := O.look
    exact PySem.W.kia_one (PySem.W.kitx_own (cl.get _) cl.hd ha hn htk hm) I.kIn J e (fun z => nomatch z) h
end
end L2

namespace L2
open PySem PySem.Spec PyProof.Rows

/-! ### room -/
structure Room (k : Nat) (A : Around) : Prop where
  hd : A.handled = none
  dp : A.depth + 3 * k + 5 < recursionLimit
  un : A.units + 16 * k + 200 < cLine
  gd : A.guards = some []
theorem Room.mono {j k : Nat} {A : Around} (r : Room k A) (h : j ≤ k) : Room j A := ⟨r.hd, by have := r.dp; omega, by have := r.un; omega, r.gd⟩
theorem Room.deeper {k : Nat} {A : Around} (r : Room (k + 1) A) (env : Env) : Room k (A.deeper env) :=
  ⟨r.hd, by have := r.dp; show A.depth + 1 + 3 * k + 5 < _; omega, by have := r.un; show A.units + 3 + 16 * k + 200 < _; omega, by first | exact r.gd | (have z := r.gd; simpa [Around.deeper, pushGuards] using z)⟩
theorem Room.in1 {k : Nat} {A : Around} (r : Room (k + 1) A) : Room k A.in1 :=
  ⟨r.hd, by have := r.dp; show A.depth + 3 * k + 5 < _; omega, by have := r.un; show A.units + 1 + 16 * k + 200 < _; omega, r.gd⟩
theorem Room.depth {k : Nat} {A : Around} (r : Room k A) : A.depth < recursionLimit := by have := r.dp; omega
theorem Room.units {k : Nat} {A : Around} (r : Room k A) : A.units + 64 < cLine := by have := r.un; omega
theorem Room.units0 {k : Nat} {A : Around} (r : Room k A) : A.units < cLine := by have := r.un; omega

/-! ### argument lists and displays -/
def tNil : TA := fun _ H Q => Q [] H
def tCons (ta : TE) (tr : TA) : TA := fun σ H Q => ta σ H fun x H1 => tr σ H1 fun xs H2 => Q (x :: xs) H2
section
variable {X : Cx} {e : Expr} {es : List Expr} {te : TE} {t : TA} {pos : Pos}
theorem pa_nil : PA X [] tNil := fun _ _ _ _ H Q I h => Calls.spliced_nil ⟨[], H, I, .nil, h⟩
theorem pa_cons (ha : PE X e te) (hr : PA X es t) (hs : starEach (e :: es) X.env = (false, eval e X.env) :: starEach es X.env := by rfl) : PA X (e :: es) (tCons te t) := by
  intro pos pins s σ H Q I h
  rw [hs]
  show wpAny _ _ (spliced ((false, eval e X.env) :: backTo pos (starEach es X.env))) _ _ s
  refine Calls.spliced_cons (thn (ha pins s σ H _ I h) fun u s1 ⟨x, H1, I1, r1, q1⟩ => ?_)
  exact thn (hr pos pins s1 σ H1 _ I1 q1) fun us s2 ⟨xs, H2, I2, r2, q2⟩ => ⟨x :: xs, H2, I2, .cons r1 r2, q2⟩

/-- a tuple, a list of written items -/
def tTup (t : TA) : TE := fun σ H Q => t σ H fun xs H1 => xs.length ≤ sizeLine ∧ ∀ p, H1 p = none → Q (.ref p) (upd H1 p (.tup xs))
def tLst (t : TA) : TE := fun σ H Q => t σ H fun xs H1 => xs.length ≤ sizeLine ∧ ∀ p, H1 p = none → Q (.ref p) (upd H1 p (.lst xs))
theorem pe_tup {x1} (h : PA X es t) : PE X (.Tuple es x1 pos) (tTup t) := by
  intro pins s σ H Q I hq
  refine wpAny_Tuple_spliced (thn (h pos pins s σ H _ I hq) fun us s1 ⟨xs, H1, I1, r, z, q⟩ => ⟨by rw [← r.length]; exact z, ?_⟩)
  have hf : H1 s1.heap.objs.size = none := I1.hok.fresh (Nat.le_refl _)
  refine ⟨.ref s1.heap.objs.size, upd H1 s1.heap.objs.size (.tup xs), I1.laid (t' := s1.toks) (fun b u e => Heap.get?_push_of_some _ e) (Nat.le_refl _) ?_, rfl, q _ hf⟩
  exact ⟨z, us, r, ⟨_, Heap.get?_push_size _ rfl, rfl, _, rfl⟩⟩
theorem pe_lst (h : PA X es t) : PE X (.List es pos) (tLst t) := by
  intro pins s σ H Q I hq
  refine wpAny_List_spliced (thn (h pos pins s σ H _ I hq) fun us s1 ⟨xs, H1, I1, r, z, q⟩ => ⟨by rw [← r.length]; exact z, ?_⟩)
  have hf : H1 s1.heap.objs.size = none := I1.hok.fresh (Nat.le_refl _)
  refine ⟨.ref s1.heap.objs.size, upd H1 s1.heap.objs.size (.lst xs), I1.laid (t' := s1.toks) (fun b u e => Heap.get?_push_of_some _ e) (Nat.le_refl _) ?_, rfl, q _ hf⟩
  exact ⟨z, us, 0, r, Heap.get?_push_size _ rfl⟩
end

/-! ### what a def promises -/
/-- a def's promise: the bound arguments in the parameters' order, the heap, the wanted end, the wanted exception -/
abbrev Sp := List V → Hp → VK → XK → Prop
/-- how an exception lies behind a call (file 08 gives it): the callers' frames, abstract heap and state ahead of the call, the wish, the exception, the state -/
abbrev CXT := List Env → Hp → Shared → XK → Value → Shared → Prop

/-- the state at a call -/
structure Env0 (P : Program) (w : World) (K : PySem.W.Frag) (mg : Str → Option Value) (base : Heap) (A : Around) (outer : List Env) (s : Shared) (H : Hp) : Prop where
  frames : A.frames = some outer
  mod : Mod K mg base
  bs : ∀ b o, base.get? b = some o → s.heap.get? b = some o ∧ H b = none
  bsz : base.objs.size ≤ s.heap.objs.size
  funs : s.heap.FunFrames base outer
  frf : ∀ b ∈ frs outer, H b = none
  hok : HOk P w H s.heap
  bare : AllBare s.gens
/-- a call's end -/
def CE (outer : List Env) (P : Program) (w : World) (H : Hp) (s : Shared) (Q : VK) (u : Value) (s' : Shared) : Prop :=
  ∃ v H', s'.os = s.os ∧ AllBare s'.gens ∧ Un (frs outer) [] H H' s.heap s'.heap ∧ HOk P w H' s'.heap ∧ RelV v u ∧ Q v H'
def CR (CX : CXT) (outer : List Env) (P : Program) (w : World) (H : Hp) (s : Shared) (Q : VK) (E : XK) (r : Result) (s' : Shared) : Prop :=
  match r with
  | .ok (.ret u) => CE outer P w H s Q u s'
  | .ok _ => False
  | .error e => CX outer H s E e s'
structure FnOk (P : Program) (w : World) (K : PySem.W.Frag) (mg : Str → Option Value) (base : Heap) (CX : CXT) (k : Nat) (f : Addr) (fd : FuncData) (ps : List Str) (sp : Sp) : Prop where
  len : ∀ vs H Q E, sp vs H Q E → vs.length = ps.length
  run : ∀ (A : Around) (outer : List Env) (s : Shared) (H : Hp) (args : Args) (us : List Value) (vs : List V) (Q : VK) (E : XK), Room k A → Env0 P w K mg base A outer s H → BindsTo s fd args (ps.zip us) → Vals vs us → sp vs H Q E →
    codeAny (model P w) A (.call (.ref f) args) (CR CX outer P w H s Q E) s
theorem FnOk.mono {P : Program} {w : World} {K : PySem.W.Frag} {mg : Str → Option Value} {base : Heap} {CX : CXT} {j k : Nat} {f : Addr} {fd : FuncData} {ps : List Str} {sp : Sp} (F : FnOk P w K mg base CX j f fd ps sp) (h : j ≤ k) :
    FnOk P w K mg base CX k f fd ps sp := ⟨F.len, fun A outer s H args us vs Q E hr => F.run A outer s H args us vs Q E (hr.mono h)⟩
/-- a weaker promise -/
theorem FnOk.imp {P : Program} {w : World} {K : PySem.W.Frag} {mg : Str → Option Value} {base : Heap} {CX : CXT} {k : Nat} {f : Addr} {fd : FuncData} {ps : List Str} {sp sp' : Sp} (F : FnOk P w K mg base CX k f fd ps sp)
    (h : ∀ vs H Q E, sp' vs H Q E → sp vs H Q E) : FnOk P w K mg base CX k f fd ps sp' :=
  ⟨fun vs H Q E q => F.len vs H Q E (h _ _ _ _ q), fun A outer s H args us vs Q E hr he hb hv hs => F.run A outer s H args us vs Q E hr he hb hv (h _ _ _ _ hs)⟩

theorem Env0.in1 {P : Program} {w : World} {K : PySem.W.Frag} {mg : Str → Option Value} {base : Heap} {A : Around} {outer : List Env} {s : Shared} {H : Hp} (e : Env0 P w K mg base A outer s H) :
    Env0 P w K mg base A.in1 outer s H := ⟨e.frames, e.mod, e.bs, e.bsz, e.funs, e.frf, e.hok, e.bare⟩

section
variable {X : Cx} {pins : List (Addr × Obj)} {σ : St} {H : Hp} {s s' : Shared}
/-- from a body: what a callee wants -/
theorem Inv.env0 (I : Inv X pins σ H s) : Env0 X.prog X.w X.K X.mg X.base X.A X.stack s H :=
  ⟨I.ok.frames, I.ok.mod, I.bs, Nat.le_trans I.ok.bsz I.sz, I.stack, I.stkFree, I.hok, I.bare⟩
/-- behind a call -/
theorem Inv.after {Q : VK} {u : Value} (I : Inv X pins σ H s) (h : CE X.stack X.prog X.w H s Q u s') : EP X pins σ Q u s' := by
  obtain ⟨v, H', os, bare, un, hok, r, q⟩ := h
  obtain ⟨hh, g, d, t, os'⟩ := s'
  obtain rfl : os' = s.os := os
  exact ⟨v, H', I.call (h' := hh) (g' := g) (d' := d) (t' := t) (ch := []) un hok bare (fun b z => absurd z (by simp)), r, q⟩
end

/-! ### calls -/
/-- f(..): the written arguments, then the defaults dvs; E: what is wanted of an exception -/
def tCall (sp : Sp) (dvs : List V) (E : XK) (t : TA) : TE := fun σ H Q => t σ H fun vs H1 => sp (vs ++ dvs) H1 Q E
/-- how the parameters are bound: us the positional arguments, kw the keywords' values by name, ds the defaults that fill up -/
def Binds (K : PySem.W.Frag) (fd : FuncData) (ps : List Str) (ds : List Value) : Prop :=
  ∀ (s : Shared) (us : List Value), K.In s.heap → (us ++ ds).length = ps.length → BindsTo s fd ⟨us, []⟩ (ps.zip (us ++ ds))
/-- every parameter is given -/
theorem Binds.all {K : PySem.W.Frag} {fd : FuncData} {ps : List Str} (h : ∀ us : List Value, us.length = ps.length → bindArgs fd ⟨us, []⟩ = pure (ps.zip us)) : Binds K fd ps [] := fun s us _ hl => by
  rw [List.append_nil] at hl ⊢
  exact .of_eq (h us hl)

/-- an exception of a callee reaches what this body wants of exceptions -/
def Passes (CX : CXT) (X : Cx) (E : XK) : Prop := ∀ (pins : List (Addr × Obj)) (σ : St) (H : Hp) (s : Shared) (e : Value) (s' : Shared), Inv X pins σ H s → CX X.stack H s E e s' → X.xe e s'

section
variable {X : Cx} {CX : CXT} {k : Nat} {f C : Addr} {fd : FuncData} {ps : List Str} {sp : Sp} {dvs : List V} {ds : List Value} {E : XK} {x m : Str} {p pos apos : Pos} {e o : Expr} {es : List Expr} {ta : TE} {t : TA}

/-- the callee runs -/
theorem run_fn {pins : List (Addr × Obj)} {σ : St} {H : Hp} {s : Shared} {Q : VK} {us : List Value} {vs : List V} (F : FnOk X.prog X.w X.K X.mg X.base CX k f fd ps sp) (hr : Room k X.A) (hb : Binds X.K fd ps ds) (hd : Vals dvs ds) (hx : Passes CX X E)
    (I : Inv X pins σ H s) (r : Vals vs us) (h : sp (vs ++ dvs) H Q E) : wpAny (model X.prog X.w) X.A (call (.ref f) us) (EP X pins σ Q) X.xe s := by
  have r2 : Vals (vs ++ dvs) (us ++ ds) := r.append hd
  have hl : (us ++ ds).length = ps.length := by rw [← r2.length]; exact F.len _ _ _ _ h
  refine wpAny_call (codeAny_mono (F.run X.A X.stack s H ⟨us, []⟩ (us ++ ds) (vs ++ dvs) Q E hr I.env0 (hb s us I.kIn hl) r2 h) fun r s' hq => ?_)
  cases r with
  | error e => exact hx pins σ H s e s' I hq
  | ok fl =>
    cases fl with
    | ret u => exact I.after hq
    | next => exact False.elim hq
    | brk => exact False.elim hq
    | cont => exact False.elim hq

theorem pe_call (F : FnOk X.prog X.w X.K X.mg X.base CX k f fd ps sp) (hr : Room k X.A) (hg : Gl X x) (hm : X.mg x = some (.ref f)) (hk : PySem.W.keepIn X.K (.ref f) = true) (hb : Binds X.K fd ps ds) (hd : Vals dvs ds) (hx : Passes CX X E)
    (ha : PA X (e :: es) t) (hdb : (x == ("__debug__" : Str)) = false := by decide) (he : starEach (e :: es) X.env = (false, eval e X.env) :: starEach es X.env := by rfl) (hpl : (backTo pos (starEach es X.env)).any (·.1) = false := by rfl) :
    PE X (.Call (.Name x p) (e :: es) [] pos) (tCall sp dvs E t) := by
  intro pins s σ H Q I h
  refine wpAny_Call_Name_kw (ld_glob I hg hm ?_ hdb)
  refine PySem.W.callWith_K (h₀ := X.base) I.ok.mod.kin hk (thn (ha pos pins s σ H _ I h) fun us s1 ⟨vs, H1, I1, r, q⟩ => ⟨I1.kIn, ?_⟩) he hpl
  exact run_fn F hr hb hd hx I1 r q
end

/-! ### keywords -/
section
variable {X : Cx} {CX : CXT} {k : Nat} {f C : Addr} {fd : FuncData} {ps ks : List Str} {sp : Sp} {E : XK} {x m : Str} {p pos apos kpos : Pos} {e o : Expr} {es : List Expr} {kws : List Keyword} {te ta : TE} {t tk : TA} {nm : Option Str}
variable {g : List Value → List Value → List Value} {gV : List V → List V → List V}
end

/-! ### a def's body keeps its promise -/
/-- names: the parameters first -/
structure FnScope (N P : List Str) (sc : Scope) : Prop where
  kind : sc.kind = .function
  co : sc.isCoroutine = false
  gen : sc.isGenerator = false
  nd : N.Nodup
  pre : N.take P.length = P
  par : ∀ x ∈ P, sc.names.lookup x = some .local ∨ sc.names.lookup x = some .cell
  nofree : ∀ y ∈ sc.names, y.2 ≠ .free

theorem bindL_out {kindOf : Str → Option NameKind} {x : Str} : ∀ {binds : List (Str × Value)} {m : Str → Option Value}, (∀ v, (x, v) ∉ binds) → bindL kindOf binds m x = m x
  | [], _, _ => rfl
  | (n, v) :: r, m, h => by
    unfold bindL
    rw [bindL_out fun w hw => h w (List.mem_cons_of_mem _ hw)]
    split
    · have : x ≠ n := by rintro rfl; exact h v List.mem_cons_self
      simp [this]
    · rfl
theorem bindC_out {kindOf : Str → Option NameKind} {x : Str} : ∀ {binds : List (Str × Value)} {m : Str → Option Value}, (∀ v, (x, v) ∉ binds) → bindC kindOf binds m x = m x
  | [], _, _ => rfl
  | (n, v) :: r, m, h => by
    unfold bindC
    rw [bindC_out fun w hw => h w (List.mem_cons_of_mem _ hw)]
    split
    · rfl
    · have : x ≠ n := by rintro rfl; exact h v List.mem_cons_self
      simp [this]
theorem bindL_get {kindOf : Str → Option NameKind} {x : Str} {v : Value} : ∀ {P : List Str} {vs : List Value} {i : Nat} {m : Str → Option Value}, P.Nodup → P[i]? = some x → vs[i]? = some v → kindOf x = some .local →
    bindL kindOf (P.zip vs) m x = some v
  | [], _, _, _, _, h, _, _ => by simp at h
  | _ :: _, [], _, _, _, _, h, _ => by simp at h
  | p :: P, w :: vs, 0, m, nd, h1, h2, hk => by
    simp at h1 h2; subst h1; subst h2
    show bindL kindOf ((p, w) :: P.zip vs) m p = _
    unfold bindL
    rw [bindL_out fun v hv => (List.nodup_cons.mp nd).1 (List.of_mem_zip hv).1, if_pos hk]
    simp
  | p :: P, w :: vs, i + 1, m, nd, h1, h2, hk => by
    show bindL kindOf ((p, w) :: P.zip vs) m x = _
    unfold bindL
    exact bindL_get (i := i) (List.nodup_cons.mp nd).2 (by simpa using h1) (by simpa using h2) hk
theorem bindC_get {kindOf : Str → Option NameKind} {x : Str} {v : Value} : ∀ {P : List Str} {vs : List Value} {i : Nat} {m : Str → Option Value}, P.Nodup → P[i]? = some x → vs[i]? = some v → kindOf x ≠ some .local →
    bindC kindOf (P.zip vs) m x = some v
  | [], _, _, _, _, h, _, _ => by simp at h
  | _ :: _, [], _, _, _, _, h, _ => by simp at h
  | p :: P, w :: vs, 0, m, nd, h1, h2, hk => by
    simp at h1 h2; subst h1; subst h2
    show bindC kindOf ((p, w) :: P.zip vs) m p = _
    unfold bindC
    rw [bindC_out fun v hv => (List.nodup_cons.mp nd).1 (List.of_mem_zip hv).1, if_neg hk]
    simp
  | p :: P, w :: vs, i + 1, m, nd, h1, h2, hk => by
    show bindC kindOf ((p, w) :: P.zip vs) m x = _
    unfold bindC
    exact bindC_get (i := i) (List.nodup_cons.mp nd).2 (by simpa using h1) (by simpa using h2) hk

/-- the names' values at the entry -/
def start (N : List Str) (vs : List V) : St := vs.map some ++ List.replicate (N.length - vs.length) none

/-- the context of a def's body, at its entry; an exception leaves the frame, then lies as CX says -/
def cxOf (CX : CXT) (P : Program) (w : World) (K : PySem.W.Frag) (mg : Str → Option Value) (base : Heap) (N : List Str) (qual : Str) (scope : Scope) (f : Addr) (cd : Value) (A : Around) (outer : List Env) (s : Shared) (H : Hp) (E : XK) : Cx where
  prog := P
  w := w
  K := K
  mg := mg
  base := base
  A := A.deeper (envOfC qual scope s.heap.objs.size f cd)
  N := N
  s₀ := s
  H₀ := H
  env := envOfC qual scope s.heap.objs.size f cd
  outer := outer
  stack := envOfC qual scope s.heap.objs.size f cd :: outer
  ex := []
  calm := true
  fn := fun _ => true
  pn := []
  xe := fun e s' => wpAny (model P w) (A.deeper (envOfC qual scope s.heap.objs.size f cd)) (leaving (envOfC qual scope s.heap.objs.size f cd) e) (fun _ s'' => CX outer H s E e s'') (fun e' s'' => CX outer H s E e' s'') s'

theorem cell_has {sc : Scope} {n : Nat} {x : Str} (h : sc.names.lookup x = some .cell) : ∃ c, (cellsFrom n sc.names []).lookup x = some c := by
  have q := PySem.W.cellsFrom_some sc.names n [] (.inl h)
  exact Option.isSome_iff_exists.mp q

theorem inv_start {CX : CXT} {P : Program} {w : World} {K : PySem.W.Frag} {mg : Str → Option Value} {base : Heap} {N ps : List Str} {qual : Str} {scope : Scope} {f : Addr} {cd : Value} {A : Around} {outer : List Env} {s s1 : Shared} {H : Hp} {E : XK} {us : List Value} {vs : List V}
    (S : FnScope N ps scope) (hd : A.handled = none) (e0 : Env0 P w K mg base A outer s H) (hl : vs.length = ps.length) (r : Vals vs us)
    (x : InCallC s s.heap.objs.size (bindL (envOfC qual scope s.heap.objs.size f cd).kindOf (ps.zip us) fun _ => none) (cellsFrom (s.heap.objs.size + 1) scope.names []) (bindC (envOfC qual scope s.heap.objs.size f cd).kindOf (ps.zip us) fun _ => none) s1) :
    Inv (cxOf CX P w K mg base N qual scope f cd A outer s H E) [] (start N vs) H s1 := by
  have hpl : ps.length ≤ N.length := by have := congrArg List.length S.pre; rw [List.length_take] at this; omega
  obtain ⟨h1, tk, rfl, hk⟩ := x.done
  have noA : ∀ b : Addr, b ∉ (cxOf CX P w K mg base N qual scope f cd A outer s H E).ex := fun b z => absurd (show b ∈ ([] : List Addr) from z) (by simp)
  refine ⟨⟨e0.mod, S.kind, rfl, rfl, Nat.le_refl _, fun y z c h1 h2 => ?_, fun y hy => ?_, fun y c _ h => ?_, fun _ => hd, Around.frames_deeper e0.frames, .inr ⟨rfl, rfl⟩, fun b z => absurd z (noA b), e0.bs, e0.bsz, fun b _ _ => noA b, fun b z => absurd z (noA b), e0.funs, e0.frf⟩,
    rfl, e0.bare, Un.kept hk, ⟨_, x.toInCall.ns, fun i y v h1 h2 h3 => ?_⟩, fun y c h => ⟨_, x.cell y c h⟩, e0.hok.fresh (Nat.le_refl _), fun y c h => ?_, fun p hp => absurd (show p ∈ ([] : List (Addr × Obj)) from hp) (by simp), e0.hok.kept hk, ?_⟩
  · exact name_of_addr x.apart (PySem.mem_of_lookup h1) (PySem.mem_of_lookup h2)
  · have hy : scope.names.lookup y = some .cell ∨ scope.names.lookup y = some .free := hy
    rcases hy with hy | hy
    · exact cell_has hy
    · exact absurd rfl (S.nofree _ (PySem.mem_of_lookup hy))
  · exact Nat.le_of_lt (x.above y c (PySem.mem_of_lookup h))
  · have hi : i < vs.length := by
      unfold start at h2
      by_cases hi : i < vs.length
      · exact hi
      · rw [List.getElem?_append_right (by simpa using hi)] at h2
        rw [List.getElem?_replicate] at h2
        split at h2 <;> cases h2
    have ha : vs[i]? = some v := by
      unfold start at h2
      rw [List.getElem?_append_left (by simpa using hi), List.getElem?_map] at h2
      cases e : vs[i]? with
      | none => rw [e] at h2; cases h2
      | some a => rw [e] at h2; cases h2; rfl
    obtain ⟨u, hu, rv⟩ := r.get ha
    have hp : ps[i]? = some y := by
      rw [← S.pre, List.getElem?_take_of_lt (by omega)]; exact h1
    have ndP : ps.Nodup := by rw [← S.pre]; exact S.nd.sublist (List.take_sublist _ _)
    refine ⟨u, rv, ?_⟩
    rcases S.par y (List.mem_of_getElem? hp) with k | k
    · exact .inl ⟨k, bindL_get ndP hp hu k⟩
    · obtain ⟨c, e⟩ := cell_has (n := s.heap.objs.size + 1) k
      refine .inr ⟨.inl k, c, e, ?_⟩
      have q := x.cell y c e
      rw [bindC_get ndP hp hu (by show scope.names.lookup y ≠ _; rw [k]; decide)] at q
      exact q
  · exact e0.hok.fresh (Nat.le_of_lt (x.above y c (PySem.mem_of_lookup h)))
  · unfold start
    show _ = N.length
    rw [List.length_append, List.length_map, List.length_replicate]
    omega

/-- THE RULE: a def (or a method) of the text, by its body. The body's reading t is chosen for each entry; it is run at the parameters' values -/
theorem fn_of {CX : CXT} {P : Program} {w : World} {K : PySem.W.Frag} {mg : Str → Option Value} {base : Heap} {k : Nat} {f : Addr} {name qual : Str} {params : Arguments} {body : List Stmt} {scope : Scope} {dV kV doc pm cdv ct oc : Value} {an od : Option Addr}
    {osl : Array (Option Value)} {N ps : List Str} {sp : Sp} (lk : K.lookup f = some ⟨oc, od, .func (PySem.W.fnOf name qual params body scope dV kV doc pm an cdv ct), osl⟩) (hcd : PySem.W.codeIn K cdv qual = true) (S : FnScope N ps scope)
    (len : ∀ vs H Q E, sp vs H Q E → vs.length = ps.length)
    (hbody : ∀ (A : Around) (outer : List Env) (s : Shared) (H : Hp) (vs : List V) (Q : VK) (E : XK), Room k (A.deeper (envOfC qual scope s.heap.objs.size f cdv)) → sp vs H Q E →
      ∃ t, PSs (cxOf CX P w K mg base N qual scope f cdv A outer s H E) body t ∧ t { nx := fun _ H' => Q .non H', rt := Q } (start N vs) H) :
    FnOk P w K mg base CX (k + 1) f (PySem.W.fnOf name qual params body scope dV kV doc pm an cdv ct) ps sp := by
  refine ⟨len, fun A outer s H args us vs Q E hr e0 hb r hsp => ?_⟩
  have hl := len _ _ _ _ hsp
  have KX : K.In s.heap := e0.mod.kin.keeps fun b o e => (e0.bs b o e).1
  have lim : s.heap.NoLimit := e0.mod.nolimit.keeps fun b o e => (e0.bs b o e).1
  have hkind : ∀ y ∈ ps.zip us, scope.names.lookup y.1 = some .local ∨ (scope.names.lookup y.1 = some .cell ∧ ((cellsFrom (s.heap.objs.size + 1) scope.names []).lookup y.1).isSome = true) := fun ⟨n, v⟩ hy => by
    rcases S.par n (List.of_mem_zip hy).1 with q | q
    · exact .inl q
    · exact .inr ⟨q, PySem.W.cellsFrom_some _ _ _ (.inl q)⟩
  refine codeAny_call_function hr.depth (KX _ _ lk) rfl S.co S.gen rfl (PySem.W.codeRec_of KX hcd) (hb _ _ _ _ ?_)
  refine wpAny_newFunctionEnv_cells S.kind hkind fun env he s1 x => ?_
  subst he
  refine ⟨lim.keeps x.toInCall.keep, codeAny_func ?_⟩
  obtain ⟨t, ht, hq⟩ := hbody A outer s H vs Q E (hr.deeper _) hsp
  have I : Inv (cxOf CX P w K mg base N qual scope f cdv A outer s H E) [] (start N vs) H s1 := inv_start S hr.hd e0 hl r x
  refine wpAny_mono (ht [] s1 (start N vs) H _ I hq) (fun fl s' hs => ?_) fun e s' hs => hs
  have fin : ∀ {σ' : St} {H' : Hp} {v : V} {u : Value}, Inv (cxOf CX P w K mg base N qual scope f cdv A outer s H E) [] σ' H' s' → RelV v u → Q v H' → CE outer P w H s Q u s' :=
    fun {σ' H' v u} J rv q => ⟨v, H', J.os, J.bare, J.base, J.hok, rv, q⟩
  cases fl with
  | ret u =>
    obtain ⟨v, σ', H', J, rv, q⟩ := hs
    exact fin J rv q
  | next =>
    obtain ⟨σ', H', J, q⟩ := hs
    exact fin (v := V.non) (u := Value.none) J rfl q
  | brk =>
    obtain ⟨_, _, _, q⟩ := hs
    exact False.elim q
  | cont =>
    obtain ⟨_, _, _, q⟩ := hs
    exact False.elim q
end L2

namespace L2
open PySem PySem.Spec PyProof.Rows
section
variable {X : Cx} {x : Str} {p pos : Pos} {e : Expr} {es : List Expr} {t : TA} {id T : String} {r : List V → Hp → VK → Prop}

def tCB (r : List V → Hp → VK → Prop) (t : TA) : TE := fun σ H Q => t σ H fun vs H1 => r vs H1 Q
/-- f(e, ..), f a built-in function -/
theorem pe_callB (hc : CallR X (.builtin id) r) (hg : Gl X x) (hm : X.mg x = none) (hv : bootBuiltins x = some (.builtin id)) (ha : PA X (e :: es) t) (hn : x ≠ "__name__" := by decide) (hdb : (x == ("__debug__" : Str)) = false := by decide)
    (he : starEach (e :: es) X.env = (false, eval e X.env) :: starEach es X.env := by rfl) (hpl : (backTo pos (starEach es X.env)).any (·.1) = false := by rfl) : PE X (.Call (.Name x p) (e :: es) [] pos) (tCB r t) := by
  intro pins s σ H Q I h
  refine wpAny_Call_Name_kw (ld_blt I hg hm hv ?_ hn hdb)
  exact PyProof.Rows.callWith_builtin1 (thn (ha pos pins s σ H _ I h) fun us s1 ⟨vs, H1, I1, r1, q1⟩ => hc pins s1 σ H1 vs us Q I1 r1 q1) he hpl
/-- T(e, ..), T a built-in type -/
theorem pe_callTy (hc : CallR X (.type T) r) (hg : Gl X x) (hm : X.mg x = none) (hv : bootBuiltins x = some (.type T)) (ha : PA X (e :: es) t) (hn : x ≠ "__name__" := by decide) (hdb : (x == ("__debug__" : Str)) = false := by decide)
    (he : starEach (e :: es) X.env = (false, eval e X.env) :: starEach es X.env := by rfl) (hpl : (backTo pos (starEach es X.env)).any (·.1) = false := by rfl) : PE X (.Call (.Name x p) (e :: es) [] pos) (tCB r t) := by
  intro pins s σ H Q I h
  refine wpAny_Call_Name_kw (ld_blt I hg hm hv ?_ hn hdb)
  exact PyProof.Rows.callWith_type1 (thn (ha pos pins s σ H _ I h) fun us s1 ⟨vs, H1, I1, r1, q1⟩ => hc pins s1 σ H1 vs us Q I1 r1 q1) he hpl
end
end L2

namespace HT
open PySem PyProof.Rows

section
open PySem.SeqAt
open PySem.AutoSeq1 (wpAny_loadPart')
open PySem.MeetsSeq PySem.MeetsSeq2 PySem.MeetsSeq3

end

section
variable {prog : Program} {w : World} {A : Around} {E : Value → Shared → Prop} {s : Shared}

/-! ### t[a:b], not the whole -/
/-- a slice's bound as a place among n (d where it is left out) -/
def sIx (n d : Nat) : Option Int → Nat
  | none => d
  | some v => if v < 0 then (v + (n : Int)).toNat else min v.toNat n
theorem sIx_none (n d : Nat) : sIx n d none = d := rfl
theorem sIx_nat (n d k : Nat) : sIx n d (some (k : Int)) = min k n := by
  show (if (k : Int) < 0 then ((k : Int) + (n : Int)).toNat else min (k : Int).toNat n) = min k n
  rw [if_neg (by omega), Int.toNat_natCast]
theorem sIx_le (n d : Nat) (hd : d ≤ n) (o : Option Int) : sIx n d o ≤ n := by
  cases o with
  | none => exact hd
  | some v =>
    show (if v < 0 then (v + (n : Int)).toNat else min v.toNat n) ≤ n
    by_cases hv : v < 0
    · rw [if_pos hv]; omega
    · rw [if_neg hv]; exact Nat.min_le_right _ _
theorem clip_eq (v : Int) (n d : Nat) : (if v < 0 then max (v + (n : Int)) 0 else min v (n : Int)) = ((sIx n d (some v) : Nat) : Int) := by
  show (if v < 0 then max (v + (n : Int)) 0 else min v (n : Int)) = (((if v < 0 then (v + (n : Int)).toNat else min v.toNat n) : Nat) : Int)
  by_cases hv : v < 0
  · simp only [if_pos hv]; omega
  · simp only [if_neg hv]; omega
theorem adjust_gen (lo hi : Option Int) (n : Nat) : Builtin.Slice.sliceAdjust lo hi 1 (n : Int) = (((sIx n 0 lo : Nat) : Int), ((sIx n n hi : Nat) : Int)) := by
  have h1 : ¬ ((1 : Int) < 0) := by omega
  unfold Builtin.Slice.sliceAdjust
  simp only [h1, if_false]
  refine Prod.ext ?_ ?_
  · cases lo with
    | none => rfl
    | some v => exact clip_eq v n 0
  · cases hi with
    | none => rfl
    | some v => exact clip_eq v n n
theorem places_gen (i j : Nat) : Builtin.Slice.slicePlaces (i : Int) (j : Int) 1 = j - i := by
  unfold Builtin.Slice.slicePlaces
  have h1 : (1 : Int) > 0 := by omega
  simp only [h1, if_true, Int.ediv_one]
  split <;> omega
theorem slicePart_ {v : Value} {o : Option Int} {Q : Option Int → Shared → Prop} (p : IsPart v o) (h : Q o s) : wpAny (model prog w) A (Builtin.Slice.slicePartIndex v) Q E s := by
  cases p with
  | none => exact slicePart_none h
  | int i t => exact slicePart_int h
theorem sliceApplied_gen {sl : Addr} {vl vu : Value} {lo hi : Option Int} {n : Nat} {Q : Int × Int × Nat → Shared → Prop} (hs : s.heap.IsSliceOf sl vl vu .none) (pl : IsPart vl lo) (pu : IsPart vu hi)
    (h : Q (((sIx n 0 lo : Nat) : Int), 1, sIx n n hi - sIx n 0 lo) s) : wpAny (model prog w) A (Builtin.Slice.sliceApplied (.ref sl) (pure (n : Int))) Q E s := by
  obtain ⟨os, hos, hcs, hds⟩ := id hs
  unfold Builtin.Slice.sliceApplied Builtin.Slice.sliceFields
  refine wpAny_bind (wpAny_bind (wpAny_field hos hds (x := vl) rfl (wpAny_bind (wpAny_field hos hds (x := vu) rfl (wpAny_bind (wpAny_field hos hds (x := .none) rfl (wpAny_pure ?_)))))))
  refine wpAny_bind (slicePart_none ?_)
  show wpAny _ _ (if ((1 : Int) == 0) = true then _ else _) _ _ s
  rw [if_neg (by decide)]
  refine wpAny_bind (slicePart_ pl (wpAny_bind (slicePart_ pu (wpAny_bind (wpAny_pure ?_)))))
  show wpAny _ _ (match Builtin.Slice.sliceAdjust lo hi 1 (n : Int) with | (lo, hi) => pure (lo, (1 : Int), Builtin.Slice.slicePlaces lo hi 1)) _ _ s
  rw [adjust_gen lo hi n]
  show wpAny _ _ (pure (((sIx n 0 lo : Nat) : Int), (1 : Int), Builtin.Slice.slicePlaces ((sIx n 0 lo : Nat) : Int) ((sIx n n hi : Nat) : Int) 1)) _ _ s
  rw [places_gen]
  exact wpAny_pure h
theorem pick_gen (xs : Array Value) (i k : Nat) : ((List.range k).filterMap fun (m : Nat) => xs[((i : Int) + (m : Int) * 1).toNat]?).toArray = ((xs.toList.drop i).take k).toArray := by
  have e : (fun (m : Nat) => xs[((i : Int) + (m : Int) * 1).toNat]?) = fun m => xs[i + m]? := by
    funext m
    have : ((i : Int) + (m : Int) * 1).toNat = i + m := by omega
    rw [this]
  rw [e]
  have := pick_run xs i k
  rw [List.filterMap_map] at this
  have e2 : ((fun x => xs[x]?) ∘ fun x => i + x) = fun m => xs[i + m]? := rfl
  rw [e2] at this
  rw [this]

theorem getItem_tuple_cut {t sl : Addr} {items : Array Value} {vl vu : Value} {lo hi : Option Int} {Q : Value → Shared → Prop} (ht : IsTup s.heap t items) (hs : s.heap.IsSliceOf sl vl vu .none) (pl : IsPart vl lo) (pu : IsPart vu hi)
    (hw : ¬ (sIx items.size 0 lo = 0 ∧ sIx items.size items.size hi = items.size))
    (h : Q (.ref s.heap.objs.size) { s with heap := s.heap.push { cls := .type "tuple", data := .seq ((items.toList.drop (sIx items.size 0 lo)).take (sIx items.size items.size hi - sIx items.size 0 lo)).toArray } })
    (hsz : items.size ≤ sizeLine) : wpAny (model prog w) A (getItem (.ref t) (.ref sl)) Q E s := by
  have htake : sizeOk (.seq ((items.toList.drop (sIx items.size 0 lo)).take (sIx items.size items.size hi - sIx items.size 0 lo)).toArray) := by
    show ((items.toList.drop (sIx items.size 0 lo)).take (sIx items.size items.size hi - sIx items.size 0 lo)).toArray.size ≤ sizeLine
    rw [List.size_toArray, List.length_take, List.length_drop, Array.length_toList]
    omega
  have hj : sIx items.size items.size hi ≤ items.size := sIx_le _ _ (Nat.le_refl _) hi
  obtain ⟨os, hos, hcs, hds⟩ := id hs
  have hTs : s.TypeIs (.ref sl) "slice" := ⟨os, hos, hcs⟩
  unfold getItem
  try with_reducible refine wpAny_holding ?_
  first | refine wpAny_bind (wpAny_pure ?_) | skip
  refine wpAny_bind (wpAny_sequenceKey ht.typeIs (by decide) ?_)
  refine wpAny_bind (wpAny_callSpecial?_slot (name := Str.ofString "__getitem__") ht.typeIs PyProof.Rows.slot_tuple_getitem
    (wpAny_call_entry PyProof.Rows.slot_tuple_getitem ht.typeIs entry_tuple_getitem ?_ (args_tuple_getitem _ _)))
  show wpAny _ _ (Builtin.Tuple.tupleItemsOf (.ref t) >>= _) _ _ s
  refine wpAny_bind (tupleItemsOf_ ht ?_)
  refine wpAny_bind (wpAny_typeOf hTs ?_)
  rw [if_pos (by decide)]
  refine wpAny_bind (sliceApplied_gen hs pl pu ?_)
  have hno : ¬ ((((sIx items.size 0 lo : Nat) : Int) == 0 && (1 : Int) == 1 && (sIx items.size items.size hi - sIx items.size 0 lo) == items.size) = true) := by
    intro q
    rw [Bool.and_eq_true, Bool.and_eq_true] at q
    have q1 : ((sIx items.size 0 lo : Nat) : Int) = 0 := eq_of_beq q.1.1
    have q2 : sIx items.size items.size hi - sIx items.size 0 lo = items.size := eq_of_beq q.2
    exact hw ⟨by omega, by omega⟩
  show wpAny _ _ (if (((sIx items.size 0 lo : Nat) : Int) == 0 && (1 : Int) == 1 && (sIx items.size items.size hi - sIx items.size 0 lo) == items.size) = true then _ else _) _ _ s
  rw [if_neg hno, pick_gen]
  first
    | exact wpAny_bind (m := Builtin.Tuple.tupleExact _) (wpAny_newObj_type (wpAny_pure ⟨_, rfl, wpAny_pure h⟩) htake)
    | exact wpAny_bind (m := Builtin.Tuple.tupleExact _) (wpAny_newObj_type (wpAny_bind (wpAny_pure (wpAny_pure ⟨_, rfl, wpAny_pure h⟩))) htake)
    | exact wpAny_bind (wpAny_bind (m := Builtin.Tuple.tupleExact _) (wpAny_newObj_type (wpAny_pure (wpAny_pure ⟨_, rfl, wpAny_pure h⟩)) htake))
    | exact wpAny_bind (wpAny_bind (m := Builtin.Tuple.tupleExact _) (wpAny_newObj_type (wpAny_pure ⟨_, rfl, wpAny_pure h⟩) htake))
end
end HT

namespace L2
open PySem PySem.Spec PyProof.Rows

/-! ### the parts of a slice -/
abbrev TO := St → Hp → (Option Int → Hp → Prop) → Prop
/-- a slice's part (left out, or an int) -/
def PO (X : Cx) (e : Option Expr) (t : TO) : Prop :=
  ∀ (pins : List (Addr × Obj)) (s : Shared) (σ : St) (H : Hp) (Q : Option Int → Hp → Prop), Inv X pins σ H s → t σ H Q →
    wpAny (model X.prog X.w) X.A (evalPart e X.env) (fun u s' => ∃ o H', Inv X pins σ H' s' ∧ IsPart u o ∧ Q o H') X.xe s
def tNoPart : TO := fun _ H Q => Q none H
def tPart (t : TE) : TO := fun σ H Q => t σ H fun x H1 => ∃ i, x = .int i ∧ Q (some i) H1

section
variable {X : Cx} {e : Expr} {te : TE} {lo hi : Option Expr} {tl th : TO} {pos p2 : Pos}

theorem po_none : PO X none tNoPart := by
  intro pins s σ H Q I h
  rw [evalPart_none]
  exact wpAny_pure ⟨none, H, I, .none, h⟩
theorem po_some (h : PE X e te) : PO X (some e) (tPart te) := by
  intro pins s σ H Q I hw
  rw [evalPart_some]
  refine thn (h pins s σ H _ I hw) fun u s1 ⟨x, H1, I1, r1, q1⟩ => ?_
  obtain ⟨i, rfl, q⟩ := q1
  obtain ⟨t, rfl⟩ := r1
  exact ⟨some i, H1, I1, .int i t, q⟩

/-- what a slice of a value is, by values: the slice object stands at sl -/
def SlR (X : Cx) (r : V → Option Int → Option Int → Hp → VK → Prop) : Prop :=
  ∀ (pins : List (Addr × Obj)) (s : Shared) (σ : St) (H : Hp) (x : V) (v vl vu : Value) (lo hi : Option Int) (sl : Addr) (Q : VK), Inv X pins σ H s → RelV x v → s.heap.IsSliceOf sl vl vu .none → IsPart vl lo → IsPart vu hi → r x lo hi H Q →
    ∃ T id, typeLookup (.type T) "__getitem__" = pure (some (.builtin id)) ∧ s.TypeIs v T ∧ wpAny (model X.prog X.w) X.A (getItem v (.ref sl)) (EP X pins σ Q) X.xe s
theorem SlR.or {r r' : V → Option Int → Option Int → Hp → VK → Prop} (h : SlR X r) (h' : SlR X r') : SlR X (fun x lo hi H Q => r x lo hi H Q ∨ r' x lo hi H Q) := by
  intro pins s σ H x v vl vu lo hi sl Q I rx hs pl pu q
  rcases q with q | q
  · exact h pins s σ H x v vl vu lo hi sl Q I rx hs pl pu q
  · exact h' pins s σ H x v vl vu lo hi sl Q I rx hs pl pu q
def tSl (r : V → Option Int → Option Int → Hp → VK → Prop) (te : TE) (tl th : TO) : TE := fun σ H Q => te σ H fun x H1 => tl σ H1 fun l H2 => th σ H2 fun u H3 => r x l u H3 Q
/-- a[lo:hi], any a -/
theorem pe_slice {r : V → Option Int → Option Int → Hp → VK → Prop} (hr : SlR X r) (he : PE X e te) (hl : PO X lo tl) (hu : PO X hi th) : PE X (.Subscript e (.Slice lo hi none p2) pos) (tSl r te tl th) := by
  intro pins s σ H Q I h
  refine Subscript_ (thn (he pins s σ H _ I h) fun v s1 ⟨x, H1, I1, r1, q1⟩ => ?_)
  refine wpAny_Slice (thn (hl pins s1 σ H1 _ I1 q1) fun vl s2 ⟨l, H2, I2, pl, q2⟩ => thn (hu pins s2 σ H2 _ I2 q2) fun vu s3 ⟨u, H3, I3, pu, q3⟩ => ?_)
  rw [evalPart_none]
  refine wpAny_pure ?_
  have I4 : Inv X pins σ H3 { s3 with heap := s3.heap.push { cls := .type "slice", data := .fields #[vl, vu, .none] } } := I3.kept (t' := s3.toks) fun b ob q => Heap.get?_push_of_some _ q
  obtain ⟨T, id, hT, ht, hg⟩ := hr pins { s3 with heap := s3.heap.push { cls := .type "slice", data := .fields #[vl, vu, .none] } } σ H3 x v vl vu l u s3.heap.objs.size Q I4 r1 (Heap.IsSliceOf.new ..) pl pu q3
  show wpAny (model X.prog X.w) X.A (subscriptTail e (.Slice lo hi none p2) v (.ref s3.heap.objs.size)) (EP X pins σ Q) X.xe { s3 with heap := s3.heap.push { cls := .type "slice", data := .fields #[vl, vu, .none] } }
  exact tail_any (ops := [.ref s3.heap.objs.size, v]) ht hT hg (by with_unfolding_all rfl)

/-- the items of xs[lo:hi] -/
def cutV (xs : List V) (lo hi : Option Int) : List V := (xs.drop (HT.sIx xs.length 0 lo)).take (HT.sIx xs.length xs.length hi - HT.sIx xs.length 0 lo)
theorem cutV_length (xs : List V) (lo hi : Option Int) : (cutV xs lo hi).length ≤ xs.length := by
  unfold cutV
  rw [List.length_take, List.length_drop]
  omega
/-- t[lo:hi], not the whole of it (the whole would be t itself) -/
def rSlT (K : PySem.W.Frag) : V → Option Int → Option Int → Hp → VK → Prop := fun x lo hi H Q => ∃ a xs, x = .ref a ∧ SqT K H a xs ∧
  ¬ (HT.sIx xs.length 0 lo = 0 ∧ HT.sIx xs.length xs.length hi = xs.length) ∧ ∀ p, H p = none → Q (.ref p) (upd H p (.tup (cutV xs lo hi)))
theorem sl_tup : SlR X (rSlT X.K) := by
  intro pins s σ H x v vl vu lo hi sl Q I rx hs pl pu h
  obtain ⟨a, xs, rfl, hx, hw, q⟩ := h
  cases rx
  obtain ⟨its, r, ht, hz⟩ := I.tuple hx
  have hlen : its.toArray.size = xs.length := by rw [List.size_toArray]; exact r.length.symm
  refine ⟨"tuple", _, PyProof.Rows.slot_tuple_getitem.lookup, ht.typeIs, ?_⟩
  refine HT.getItem_tuple_cut ht hs pl pu (by rw [hlen]; exact hw) ?_ (by rw [hlen]; exact hz)
  rw [hlen]
  refine ⟨.ref s.heap.objs.size, _, I.laid (t' := s.toks) (o := .tup (cutV xs lo hi)) (fun b ob q => Heap.get?_push_of_some _ q) (Nat.le_refl _) ?_, rfl, q _ (I.hok.fresh (Nat.le_refl _))⟩
  exact ⟨Nat.le_trans (cutV_length xs lo hi) hz, _, (r.drop (HT.sIx xs.length 0 lo)).take (HT.sIx xs.length xs.length hi - HT.sIx xs.length 0 lo), IsTup.new _ _⟩

/-! ### t < u, t + u -/
end
end L2

namespace L2
open PySem PySem.Spec PyProof.Rows

/-! ### places -/
/-- the place that an index of any sign means -/
def ixN (n : Nat) (i : Int) : Option Nat := if 0 ≤ i then (if i < n then some i.toNat else none) else if -(n : Int) ≤ i then some (i + n).toNat else none
def atI {α : Type} (xs : List α) (i : Int) : Option α := (ixN xs.length i).bind fun j => xs[j]?
theorem ixN_seq {n : Nat} {i : Int} {j : Nat} (h : ixN n i = some j) : seqIndex? i n = some j ∧ j < n ∧ -(n : Int) ≤ i ∧ i < n := by
  unfold ixN at h
  by_cases h0 : 0 ≤ i
  · rw [if_pos h0] at h
    by_cases h1 : i < n
    · rw [if_pos h1] at h
      have e : i.toNat = j := Option.some.inj h
      exact ⟨by rw [seqIndex_of h0 h1, e], by omega, by omega, h1⟩
    · rw [if_neg h1] at h; cases h
  · rw [if_neg h0] at h
    by_cases h1 : -(n : Int) ≤ i
    · rw [if_pos h1] at h
      have e : (i + n).toNat = j := Option.some.inj h
      exact ⟨by rw [seqIndex_neg (by omega) h1, e], by omega, h1, by omega⟩
    · rw [if_neg h1] at h; cases h
theorem atI_get {α : Type} {xs : List α} {i : Int} {v : α} (h : atI xs i = some v) : ∃ j, seqIndex? i xs.length = some j ∧ xs[j]? = some v ∧ j < xs.length ∧ -(xs.length : Int) ≤ i ∧ i < xs.length := by
  unfold atI at h
  cases e : ixN xs.length i with
  | none => rw [e] at h; cases h
  | some j =>
    rw [e] at h
    obtain ⟨h1, h2, h3, h4⟩ := ixN_seq e
    exact ⟨j, h1, h, h2, h3, h4⟩
theorem atI_nat {α : Type} {xs : List α} {j : Nat} {v : α} (h : xs[j]? = some v) : atI xs (j : Int) = some v := by
  have hj : j < xs.length := (List.getElem?_eq_some_iff.mp h).1
  have e : ixN xs.length (j : Int) = some j := by
    unfold ixN
    rw [if_pos (by omega), if_pos (by omega)]; simp
  unfold atI; rw [e]; exact h
/-! ### what may be subscripted -/
/-- what stands as an index of a plain subscript -/
def PlainIx (b : Expr) : Prop := ∀ o i, subscripted b false o i = operate [o, i] (getItem o i)
/-- a subscript by values -/
def IxR (X : Cx) (r : R2) : Prop :=
  ∀ (value slice : Expr) (pins : List (Addr × Obj)) (s : Shared) (σ : St) (H : Hp) (x y : V) (v u : Value) (Q : VK), Inv X pins σ H s → RelV x v → RelV y u → r x y H Q →
    subscripted slice false v u = operate [v, u] (getItem v u) → wpAny (model X.prog X.w) X.A (subscriptTail value slice v u) (EP X pins σ Q) X.xe s
/-- a call of a builtin's method by values: the receiver, the arguments -/
def MtR (X : Cx) (id : String) (r : V → List V → Hp → VK → Prop) : Prop :=
  ∀ (pins : List (Addr × Obj)) (s : Shared) (σ : St) (H : Hp) (x : V) (xs : List V) (v : Value) (us : List Value) (Q : VK), Inv X pins σ H s → RelV x v → Vals xs us → r x xs H Q →
    wpAny (model X.prog X.w) X.A (call (.builtin id) (v :: us)) (EP X pins σ Q) X.xe s
section
variable {X : Cx} {a b : Expr} {ta tb : TE} {pos : Pos}
theorem IxR.or {r r' : R2} (h : IxR X r) (h' : IxR X r') : IxR X (fun x y H Q => r x y H Q ∨ r' x y H Q) := by
  intro value slice pins s σ H x y v u Q I rx ry q hs
  rcases q with q | q
  · exact h value slice pins s σ H x y v u Q I rx ry q hs
  · exact h' value slice pins s σ H x y v u Q I rx ry q hs
theorem MtR.or {id : String} {r r' : V → List V → Hp → VK → Prop} (h : MtR X id r) (h' : MtR X id r') : MtR X id (fun x xs H Q => r x xs H Q ∨ r' x xs H Q) := by
  intro pins s σ H x xs v us Q I rx rs q
  rcases q with q | q
  · exact h pins s σ H x xs v us Q I rx rs q
  · exact h' pins s σ H x xs v us Q I rx rs q
/-- a[b] -/
theorem pe_ix {r : R2} (hr : IxR X r) (ha : PE X a ta) (hb : PE X b tb) (hs : PlainIx b) : PE X (.Subscript a b pos) (tOp r ta tb) := by
  intro pins s σ H Q I h
  exact Subscript_ (binT ha hb I h fun v u s2 x y H2 I2 rx ry q => hr a b pins s2 σ H2 x y v u Q I2 rx ry q (hs _ _))

def rIxL (K : PySem.W.Frag) : R2 := fun x y H Q => ∃ p xs i v, x = .ref p ∧ y = .int i ∧ SqL K H p xs ∧ atI xs i = some v ∧ Q v H
def rIxT (K : PySem.W.Frag) : R2 := fun x y H Q => ∃ p xs i v, x = .ref p ∧ y = .int i ∧ SqT K H p xs ∧ atI xs i = some v ∧ Q v H
def rIxS : R2 := fun x y H Q => ∃ z i c, x = .str z ∧ y = .int i ∧ z.length ≤ sizeLine ∧ atI z.cps.toList i = some c ∧ Q (.str ⟨#[c]⟩) H
theorem ix_list : IxR X (rIxL X.K) := by
  intro value slice pins s σ H x y v u Q I rx ry h hs
  obtain ⟨p, xs, i, z, rfl, rfl, hq, he, q⟩ := h
  cases rx
  obtain ⟨t, rfl⟩ := ry
  obtain ⟨its, r, pl, hz⟩ := I.list hq
  obtain ⟨j, h1, h2, h3, h4, h5⟩ := atI_get he
  obtain ⟨w, ew, rw'⟩ := r.get h2
  have hl := r.length
  have hn := line63
  have fin : EP X pins σ Q w s := ⟨z, H, I, rw', q⟩
  by_cases h0 : 0 ≤ i
  · have hj : i.toNat = j := by
      rw [seqIndex_of h0 h5] at h1
      exact Option.some.inj h1
    exact item_listR pl.isList h0 (by omega) (by rw [hj]; simpa using ew) fin hs
  · have hj : (i + (its.toArray.size : Int)).toNat = j := by
      rw [seqIndex_neg (by omega) h4] at h1
      rw [List.size_toArray, ← hl]
      exact Option.some.inj h1
    exact subscriptTail_builtinR (x := w) pl.isList.typeIs slot_list_getitem.lookup
      (wpAny_getItem_list_neg (Q := fun r s' => r = w ∧ EP X pins σ Q r s') pl.isList (by omega) (by rw [List.size_toArray] <;> omega) (by omega) (by rw [hj]; simpa using ew) ⟨rfl, fin⟩) hs
theorem ix_tup : IxR X (rIxT X.K) := by
  intro value slice pins s σ H x y v u Q I rx ry h hs
  obtain ⟨p, xs, i, z, rfl, rfl, hq, he, q⟩ := h
  cases rx
  obtain ⟨t, rfl⟩ := ry
  obtain ⟨its, r, pl, hz⟩ := I.tuple hq
  obtain ⟨j, h1, h2, h3, h4, h5⟩ := atI_get he
  obtain ⟨w, ew, rw'⟩ := r.get h2
  have hl := r.length
  have hn := line63
  have fin : EP X pins σ Q w s := ⟨z, H, I, rw', q⟩
  exact subscriptTail_builtinR (x := w) pl.typeIs slot_tuple_getitem.lookup
    (getItem_tuple (j := j) (Q := fun r s' => r = w ∧ EP X pins σ Q r s') pl (by omega) (by omega) (by rw [List.size_toArray, ← hl]; exact h1) (by simpa using ew) ⟨rfl, fin⟩) hs
theorem ix_str : IxR X rIxS := by
  intro value slice pins s σ H x y v u Q I rx ry h hs
  obtain ⟨z, i, c, rfl, rfl, hz, he, q⟩ := h
  obtain ⟨t, rfl⟩ := rx
  obtain ⟨t', rfl⟩ := ry
  obtain ⟨j, h1, h2, h3, h4, h5⟩ := atI_get he
  have hl : z.cps.toList.length = z.length := by simp [Str.length]
  rw [hl] at h1 h4 h5
  have hn := line63
  exact tail_any (typeIs_str s z t) slot_str_getitem.lookup (getItem_str (c := c) (by
    have e1 : decide (i < -(2 ^ 63 : Int)) = false := decide_eq_false (by omega)
    have e2 : decide (i ≥ 2 ^ 63) = false := decide_eq_false (by omega)
    rw [e1, e2, Bool.or_false]) (by rw [h1]; simpa using h2) ⟨.str ⟨#[c]⟩, H, I.tok _, ⟨_, rfl⟩, q⟩) hs
/-- list, tuple or str -/
def rIx (K : PySem.W.Frag) : R2 := fun x y H Q => rIxL K x y H Q ∨ rIxT K x y H Q ∨ rIxS x y H Q
theorem ix_seq : IxR X (rIx X.K) := ix_list.or (ix_tup.or ix_str)

/-! ### xs[i] = v, any sign -/
/-- the list's object behind a store -/
theorem mapSeq_set (its : List Value) (n j : Nat) (u : Value) : Obj.mapSeq (·.setIfInBounds j u) { cls := .type "list", data := .seq its.toArray n } = { cls := .type "list", data := .seq (its.set j u).toArray n } := by
  simp [Obj.mapSeq]
theorem Inv.lst {pins : List (Addr × Obj)} {σ : St} {H : Hp} {s : Shared} {p : Addr} {xs : List V} (I : Inv X pins σ H s) (h : H p = some (.lst xs)) :
    ∃ (its : List Value) (n : Nat), Vals xs its ∧ s.heap.get? p = some { cls := .type "list", data := .seq its.toArray n } ∧ xs.length ≤ sizeLine := by
  obtain ⟨z, its, n, r, e⟩ := I.hok p _ h
  exact ⟨its, n, r, e, z⟩
/-- the list at p is written by an update of its object -/
theorem Inv.lstUpd {pins : List (Addr × Obj)} {σ : St} {H : Hp} {s : Shared} {p : Addr} {xs ys : List V} {its its' : List Value} {n n' : Nat} {f : Obj → Obj} (I : Inv X pins σ H s) (h : H p = some (.lst xs))
    (ho : s.heap.get? p = some { cls := .type "list", data := .seq its.toArray n }) (hf : f { cls := .type "list", data := .seq its.toArray n } = { cls := .type "list", data := .seq its'.toArray n' }) (r : Vals ys its') (hz : ys.length ≤ sizeLine) (t : Nat) :
    Inv X pins σ (upd H p (.lst ys)) { s with heap := s.heap.update p f, toks := t } := by
  have e : (s.heap.update p f).get? p = some { cls := .type "list", data := .seq its'.toArray n' } := by
    rw [Heap.get?_update_self f ho (by rw [hf] <;> rfl), hf]
  refine I.write (x := p) (e := p) (by rw [h]; trivial) (.inl rfl) (fun b u hb q => (Heap.get?_update_other _ _ (Ne.symm hb)).trans q) ⟨_, e⟩ ?_
  exact ⟨hz, its', n', r, e⟩
def rSetL : V → V → V → Hp → (Hp → Prop) → Prop := fun o i v H Q => ∃ p xs k j, o = .ref p ∧ i = .int k ∧ H p = some (.lst xs) ∧ ixN xs.length k = some j ∧ Q (upd H p (.lst (xs.set j v)))
theorem set_list : PSet X rSetL := by
  intro pins s σ H o i v ov iv u Q I ro ri rv h
  obtain ⟨p, xs, k, j, rfl, rfl, hp, hj, q⟩ := h
  cases ro
  obtain ⟨t, rfl⟩ := ri
  obtain ⟨its, n, r, ho, hz⟩ := I.lst hp
  obtain ⟨h1, h2, h3, h4⟩ := ixN_seq hj
  have hl := r.length
  have hn := line63
  have I' : Inv X pins σ (upd H p (.lst (xs.set j v))) { s with heap := s.heap.update p (Obj.mapSeq (·.setIfInBounds j u)) } :=
    I.lstUpd hp ho (mapSeq_set its n j u) (r.set rv j) (by rw [List.length_set]; exact hz) s.toks
  by_cases h0 : 0 ≤ k
  · have hk : k.toNat = j := by
      rw [seqIndex_of h0 h4] at h1
      exact Option.some.inj h1
    exact PySem.W.ki_setAt ho h0 (by omega) (by rw [List.size_toArray, ← hl]; exact h4) (by rw [hk]; exact ⟨_, I', q⟩)
  · have hk : (k + (its.toArray.size : Int)).toNat = j := by
      rw [seqIndex_neg (by omega) h3] at h1
      rw [List.size_toArray, ← hl]
      exact Option.some.inj h1
    exact PySem.W.ki_setBack ho (by omega) (by rw [List.size_toArray, ← hl]; exact h3) (by omega) (by rw [hk]; exact ⟨_, I', q⟩)

/-! ### slices -/
theorem slice_bounds (lo hi : Option Int) (n : Nat) : (sliceBounds lo hi none n).1 = ((HT.sIx n 0 lo : Nat) : Int) ∧ (sliceBounds lo hi none n).2.1 = ((HT.sIx n n hi : Nat) : Int) ∧ (sliceBounds lo hi none n).2.2 = 1 := by
  refine ⟨?_, ?_, rfl⟩
  · cases lo with
    | none => simp [sliceBounds, HT.sIx]
    | some i =>
      simp only [sliceBounds, HT.sIx, Option.getD_none, show (1 : Int) > 0 by decide, if_true]
      by_cases h : i < 0
      · simp only [h, if_true] <;> omega
      · simp only [h, if_false] <;> omega
  · cases hi with
    | none => simp [sliceBounds, HT.sIx]
    | some i =>
      simp only [sliceBounds, HT.sIx, Option.getD_none, show (1 : Int) > 0 by decide, if_true]
      by_cases h : i < 0
      · simp only [h, if_true] <;> omega
      · simp only [h, if_false] <;> omega
theorem slicePick_cut (its : List Value) (lo hi : Option Int) : slicePick its.toArray lo hi none = ((its.drop (HT.sIx its.length 0 lo)).take (HT.sIx its.length its.length hi - HT.sIx its.length 0 lo)).toArray := by
  obtain ⟨h1, h2, h3⟩ := slice_bounds lo hi its.toArray.size
  unfold slicePick
  rw [h1, h2, h3]
  simp only [sliceRange_one, pick_run, List.size_toArray] <;> rfl
/-- xs[lo:hi] of a list: a new list -/
def rSlL (K : PySem.W.Frag) : V → Option Int → Option Int → Hp → VK → Prop := fun x lo hi H Q => ∃ a xs, x = .ref a ∧ SqL K H a xs ∧ ∀ p, H p = none → Q (.ref p) (upd H p (.lst (cutV xs lo hi)))
theorem sl_list : SlR X (rSlL X.K) := by
  intro pins s σ H x v vl vu lo hi sl Q I rx hs pl pu h
  obtain ⟨a, xs, rfl, hx, q⟩ := h
  cases rx
  obtain ⟨its, r, ht, hz⟩ := I.list hx
  have hlen := r.length
  refine ⟨"list", _, slot_list_getitem.lookup, ht.isList.typeIs, ?_⟩
  refine wpAny_getItem_list_slice ht.isList hs pl pu .none (by simp) ?_ (by rw [List.size_toArray] <;> omega)
  rw [slicePick_cut, ← hlen]
  refine ⟨.ref s.heap.objs.size, _, I.laid (t' := s.toks) (o := .lst (cutV xs lo hi)) (fun b ob q => Heap.get?_push_of_some _ q) (Nat.le_refl _) ?_, rfl, q _ (I.hok.fresh (Nat.le_refl _))⟩
  exact ⟨Nat.le_trans (cutV_length xs lo hi) hz, _, 0, (r.drop (HT.sIx xs.length 0 lo)).take (HT.sIx xs.length xs.length hi - HT.sIx xs.length 0 lo), Heap.get?_push_size _ rfl⟩

/-! ### in, not in: flat items -/
def flatV : V → Bool
  | .non => true
  | .bl _ => true
  | .int _ => true
  | .str _ => true
  | _ => false
/-- == of flat values -/
def eqV : V → V → Bool
  | .non, .non => true
  | .bl a, .bl b => a == b
  | .bl a, .int b => (if a then 1 else 0) == b
  | .int a, .bl b => a == (if b then 1 else 0)
  | .int a, .int b => a == b
  | .str a, .str b => a == b
  | _, _ => false
theorem eqAt_V {A : Around} {s : Shared} {y x : V} {u v : Value} (ry : RelV y u) (rx : RelV x v) (fy : flatV y = true) (fx : flatV x = true) : SeqAt.EqAt A s u v (eqV y x) := by
  cases y with
  | non =>
    cases ry
    cases x with
    | non => cases rx; exact SeqAt.EqAt.same _
    | bl b => cases rx; exact SeqAt.EqAt.none_bool b
    | int b => obtain ⟨t, rfl⟩ := rx; exact SeqAt.EqAt.none_int b t
    | str b => obtain ⟨t, rfl⟩ := rx; exact SeqAt.EqAt.none_str b t
    | _ => exact absurd (show false = true from fx) Bool.false_ne_true
  | bl a =>
    cases ry
    cases x with
    | non => cases rx; exact SeqAt.EqAt.bool_none a
    | bl b => cases rx; exact SeqAt.EqAt.bool_bool a b
    | int b => obtain ⟨t, rfl⟩ := rx; exact SeqAt.EqAt.bool_int a b t
    | str b => obtain ⟨t, rfl⟩ := rx; exact SeqAt.EqAt.bool_str a b t
    | _ => exact absurd (show false = true from fx) Bool.false_ne_true
  | int a =>
    obtain ⟨t', rfl⟩ := ry
    cases x with
    | non => cases rx; exact SeqAt.EqAt.int_none a t'
    | bl b => cases rx; exact SeqAt.EqAt.int_bool a t' b
    | int b => obtain ⟨t, rfl⟩ := rx; exact SeqAt.EqAt.int_int a t' b t
    | str b => obtain ⟨t, rfl⟩ := rx; exact SeqAt.EqAt.int_str a t' b t
    | _ => exact absurd (show false = true from fx) Bool.false_ne_true
  | str a =>
    obtain ⟨t', rfl⟩ := ry
    cases x with
    | non => cases rx; exact SeqAt.EqAt.str_none a t'
    | bl b => cases rx; exact SeqAt.EqAt.str_bool a t' b
    | int b => obtain ⟨t, rfl⟩ := rx; exact SeqAt.EqAt.str_int a t' b t
    | str b => obtain ⟨t, rfl⟩ := rx; exact SeqAt.EqAt.str_str a t' b t
    | _ => exact absurd (show false = true from fx) Bool.false_ne_true
  | _ => exact absurd (show false = true from fy) Bool.false_ne_true
/-- the items' answers, read off the values (a value's own answer does not lean on its token) -/
def eqU (x : V) (u : Value) : Bool := match u with
  | .none => eqV .non x
  | .bool b => eqV (.bl b) x
  | .int i _ => eqV (.int i) x
  | .str z _ => eqV (.str z) x
  | _ => false
theorem eqU_of {x y : V} {u : Value} (r : RelV y u) (f : flatV y = true) : eqU x u = eqV y x := by
  cases y with
  | non => cases r; rfl
  | bl b => cases r; rfl
  | int i => obtain ⟨t, rfl⟩ := r; rfl
  | str z => obtain ⟨t, rfl⟩ := r; rfl
  | _ => exact absurd (show false = true from f) Bool.false_ne_true
theorem any_eqU {x : V} : ∀ {xs : List V} {us : List Value}, Vals xs us → xs.all flatV = true → us.any (eqU x) = xs.any fun y => eqV y x
  | _, _, .nil, _ => rfl
  | y :: xs, u :: us, .cons r t, f => by
    rw [List.all_cons, Bool.and_eq_true] at f
    rw [List.any_cons, List.any_cons, eqU_of r f.1, any_eqU t f.2]
theorem mem_eqAt {A : Around} {s : Shared} {x : V} {v : Value} (rx : RelV x v) (fx : flatV x = true) : ∀ {xs : List V} {us : List Value}, Vals xs us → xs.all flatV = true → ∀ u ∈ us, SeqAt.EqAt A s u v (eqU x u)
  | _, _, .nil, _ => fun u hu => by cases hu
  | y :: xs, u :: us, .cons r t, f => fun u' hu => by
    rw [List.all_cons, Bool.and_eq_true] at f
    rcases List.mem_cons.mp hu with rfl | hu
    · rw [eqU_of r f.1]; exact eqAt_V r rx f.1 fx
    · exact mem_eqAt rx fx t f.2 u' hu
def inV (x : V) (xs : List V) : Bool := xs.any fun y => eqV y x
/-- x in a list or tuple of flat items -/
def rIn (K : PySem.W.Frag) (neg : Bool) : R2 := fun x y H Q => ∃ p xs, y = .ref p ∧ (SqL K H p xs ∨ SqT K H p xs) ∧ flatV x = true ∧ xs.all flatV = true ∧ Q (.bl (if neg then !inV x xs else inV x xs)) H
theorem op_in_seq : OpR X (compareOp .In) (rIn X.K false) := by
  intro pins s σ H x y v u Q I rx ry h
  obtain ⟨p, xs, rfl, hq, fx, fs, q⟩ := h
  cases ry
  rcases hq with hq | hq
  · obtain ⟨its, r, pl, hz⟩ := I.list hq
    refine SeqAt.in_listAt (eqU x) pl.isList (fun w hw => mem_eqAt rx fx r fs w (by simpa using hw)) ⟨.bl _, H, I, rfl, ?_⟩
    rw [show its.toArray.any (eqU x) = its.any (eqU x) by simp, any_eqU r fs]
    exact q
  · obtain ⟨its, r, pl, hz⟩ := I.tuple hq
    refine SeqAt.in_tupleAt (eqU x) pl (fun w hw => mem_eqAt rx fx r fs w (by simpa using hw)) ⟨.bl _, H, I, rfl, ?_⟩
    rw [show its.toArray.any (eqU x) = its.any (eqU x) by simp, any_eqU r fs]
    exact q
theorem op_notIn_seq : OpR X (compareOp .NotIn) (rIn X.K true) := by
  intro pins s σ H x y v u Q I rx ry h
  obtain ⟨p, xs, rfl, hq, fx, fs, q⟩ := h
  cases ry
  rcases hq with hq | hq
  · obtain ⟨its, r, pl, hz⟩ := I.list hq
    refine SeqAt.notIn_listAt (eqU x) pl.isList (fun w hw => mem_eqAt rx fx r fs w (by simpa using hw)) ⟨.bl _, H, I, rfl, ?_⟩
    rw [show its.toArray.any (eqU x) = its.any (eqU x) by simp, any_eqU r fs]
    exact q
  · obtain ⟨its, r, pl, hz⟩ := I.tuple hq
    refine SeqAt.notIn_tupleAt (eqU x) pl (fun w hw => mem_eqAt rx fx r fs w (by simpa using hw)) ⟨.bl _, H, I, rfl, ?_⟩
    rw [show its.toArray.any (eqU x) = its.any (eqU x) by simp, any_eqU r fs]
    exact q
/-! ### len, list(x), tuple(x) of any list or tuple that is read -/
theorem call_len_seq : CallR X (.builtin "len") (fun xs H Q => ∃ p ys, xs = [.ref p] ∧ (SqL X.K H p ys ∨ SqT X.K H p ys) ∧ Q (.int ys.length) H) := by
  intro pins s σ H xs us Q I r h
  obtain ⟨p, ys, rfl, hq, q⟩ := h
  obtain ⟨u, rfl, rx⟩ := vals1 r
  cases rx
  have hn := line63
  rcases hq with hq | hq
  · obtain ⟨its, r', pl, hz⟩ := I.list hq
    have hlen := r'.length
    exact Calls.call_len_list pl.isList (by simp only [List.size_toArray] <;> omega) ⟨.int ys.length, H, I.tok _, ⟨s.toks + 1, by rw [List.size_toArray, hlen]⟩, q⟩
  · obtain ⟨its, r', pl, hz⟩ := I.tuple hq
    have hlen := r'.length
    exact len_tuple pl (by simp only [List.size_toArray] <;> omega) ⟨.int ys.length, H, I.tok _, ⟨s.toks + 1, by rw [List.size_toArray, hlen]⟩, q⟩
theorem CallR.or {f : Value} {r r' : List V → Hp → VK → Prop} (h : CallR X f r) (h' : CallR X f r') : CallR X f (fun xs H Q => r xs H Q ∨ r' xs H Q) := by
  intro pins s σ H xs us Q I rs q
  rcases q with q | q
  · exact h pins s σ H xs us Q I rs q
  · exact h' pins s σ H xs us Q I rs q
theorem call_list_of : CallR X (.type "list") (fun xs H Q => ∃ p ys, xs = [.ref p] ∧ (SqL X.K H p ys ∨ SqT X.K H p ys) ∧ ∀ l, H l = none → Q (.ref l) (upd H l (.lst ys))) := by
  intro pins s σ H xs us Q I r h
  obtain ⟨p, ys, rfl, hq, q⟩ := h
  obtain ⟨u, rfl, rx⟩ := vals1 r
  cases rx
  have fin : ∀ (its : List Value), Vals ys its → ys.length ≤ sizeLine → ∀ (h' : Heap) (c' : Nat), (∀ b o', s.heap.get? b = some o' → h'.get? b = some o') →
      h'.get? s.heap.objs.size = some { cls := .type "list", dict := none, data := .seq its.toArray c', slots := #[] } → EP X pins σ Q (.ref s.heap.objs.size) { s with heap := h' } := fun its r' hz h' c' kp e =>
    ⟨.ref s.heap.objs.size, _, I.laid (t' := s.toks) kp (Nat.le_refl _) (show ObjOk X.prog X.w _ h' _ (.lst ys) from ⟨hz, its, c', r', e⟩), rfl, q _ (I.hok.fresh (Nat.le_refl _))⟩
  rcases hq with hq | hq
  · obtain ⟨its, r', pl, hz⟩ := I.list hq
    have hlen := r'.length
    obtain ⟨o, ho, hc, n, hd⟩ := pl.isList
    exact call_list_seq p (.inl rfl) ho hc hd (fun h' c' kp e => fin its r' hz h' c' kp e) (by simp only [List.size_toArray] <;> omega)
  · obtain ⟨its, r', pl, hz⟩ := I.tuple hq
    have hlen := r'.length
    obtain ⟨o, ho, hc, n, hd⟩ := pl
    exact call_list_seq p (.inr rfl) ho hc hd (fun h' c' kp e => fin its r' hz h' c' kp e) (by simp only [List.size_toArray] <;> omega)
theorem call_tuple_of : CallR X (.type "tuple") (fun xs H Q => ∃ p ys, xs = [.ref p] ∧ ((SqL X.K H p ys ∧ ∀ l, H l = none → Q (.ref l) (upd H l (.tup ys))) ∨ (SqT X.K H p ys ∧ Q (.ref p) H))) := by
  intro pins s σ H xs us Q I r h
  obtain ⟨p, ys, rfl, h⟩ := h
  obtain ⟨u, rfl, rx⟩ := vals1 r
  cases rx
  rcases h with ⟨hq, q⟩ | ⟨hq, q⟩
  · obtain ⟨its, r', pl, hz⟩ := I.list hq
    have hlen := r'.length
    refine call_tuple_list pl.isList (fun h' kp => ?_) (by simp only [List.size_toArray] <;> omega)
    have I1 : Inv X pins σ H { s with heap := h' } := I.kept (t' := s.toks) kp
    have I2 : Inv X pins σ (upd H h'.objs.size (.tup ys)) { s with heap := h'.push { cls := .type "tuple", data := .seq its.toArray } } :=
      I1.laid (t' := s.toks) (fun b o e => Heap.get?_push_of_some _ e) (Nat.le_refl _) (show ObjOk X.prog X.w _ _ _ (.tup ys) from ⟨hz, its, r', IsTup.new _ _⟩)
    exact ⟨.ref h'.objs.size, _, I2, rfl, q _ (I1.hok.fresh (Nat.le_refl _))⟩
  · obtain ⟨its, r', pl, hz⟩ := I.tuple hq
    exact call_tuple_same pl ⟨.ref p, H, I, rfl, q⟩

/-! ### the call of a builtin's method: o.m(..) -/
/-- the value is of that builtin type -/
def tyV (K : PySem.W.Frag) (T : String) (x : V) (H : Hp) : Prop := match x with
  | .str _ => T = "str"
  | .int _ => T = "int"
  | .ref p => (T = "list" ∧ ∃ xs, SqL K H p xs) ∨ (T = "tuple" ∧ ∃ o, K.lookup p = some o ∧ o.cls = .type "tuple" ∧ o.dict = none) ∨
      (T = "dict" ∧ ((∃ kvs, H p = some (.dK kvs)) ∨ ∃ kvs, H p = some (.dT kvs))) ∨ (T = "set" ∧ ∃ S n, H p = some (.set S n))
  | _ => False
theorem tyV_is {pins : List (Addr × Obj)} {σ : St} {H : Hp} {s : Shared} {T : String} {x : V} {v : Value} (I : Inv X pins σ H s) (r : RelV x v) (ty : tyV X.K T x H) :
    s.TypeIs v T ∧ ∀ a, v = .ref a → ∃ ob, s.heap.get? a = some ob ∧ ob.dict = none := by
  cases x with
  | str z =>
    obtain ⟨t, rfl⟩ := r
    cases (show T = "str" from ty)
    exact ⟨typeIs_str s z t, fun _ e => nomatch e⟩
  | int i =>
    obtain ⟨t, rfl⟩ := r
    cases (show T = "int" from ty)
    exact ⟨typeIs_int s i t, fun _ e => nomatch e⟩
  | ref p =>
    cases r
    rcases ty with ⟨rfl, xs, hq⟩ | ⟨rfl, o, hk, hc, hd⟩ | ⟨rfl, hk⟩ | ⟨rfl, S, n, hk⟩
    · obtain ⟨its, _, pl, _⟩ := I.list hq
      refine ⟨pl.isList.typeIs, fun a e => ?_⟩
      cases e
      obtain ⟨o, n, e, c, hd, _⟩ := pl
      exact ⟨o, e, hd⟩
    · refine ⟨⟨o, I.kIn p o hk, hc⟩, fun a e => ?_⟩
      cases e
      exact ⟨o, I.kIn _ o hk, hd⟩
    · have z : ∃ o, s.heap.get? p = some o ∧ o.ExactDict := by
        rcases hk with ⟨kvs, hk⟩ | ⟨kvs, hk⟩
        · obtain ⟨_, _, _, _, o, _, _, e, ex, _⟩ := I.hok p _ hk
          exact ⟨o, e, ex⟩
        · obtain ⟨_, _, _, _, o, _, _, e, ex, _⟩ := I.hok p _ hk
          exact ⟨o, e, ex⟩
      obtain ⟨o, e, ex⟩ := z
      refine ⟨⟨o, e, ex.1⟩, fun a e2 => ?_⟩
      cases e2
      exact ⟨o, e, ex.2.1⟩
    · obtain ⟨o, _, _, _, e, ex, _⟩ := I.hok p _ hk
      refine ⟨⟨o, e, ex.1⟩, fun a e2 => ?_⟩
      cases e2
      exact ⟨o, e, ex.2.1⟩
  | _ => exact False.elim ty
def tBM0 (K : PySem.W.Frag) (T : String) (r : V → List V → Hp → VK → Prop) (to : TE) : TE := fun σ H Q => to σ H fun x H1 => tyV K T x H1 ∧ r x [] H1 Q
def tBM (K : PySem.W.Frag) (T : String) (r : V → List V → Hp → VK → Prop) (to : TE) (t : TA) : TE := fun σ H Q => to σ H fun x H1 => tyV K T x H1 ∧ t σ H1 fun xs H2 => r x xs H2 Q
variable {o e : Expr} {es : List Expr} {to : TE} {t : TA} {name : Str} {apos cpos : Pos} {T id : String} {r : V → List V → Hp → VK → Prop}
theorem pe_bm0 (pa : PlainAttrs T) (slot : Slot T name id) (hty : typeOf (.builtin id) = pure (.type "method_descriptor")) (hm : MtR X id r) (ho : PE X o to)
    (hbase : attributeBase o name X.env (eval o X.env) = eval o X.env := by rfl) (hline : (apos.endLine == cpos.line) = true := by rfl) : PE X (.Call (.Attribute o name apos) [] [] cpos) (tBM0 X.K T r to) := by
  intro pins s σ H Q I h
  refine wpAny_Call_method0_late hbase hline (thn (ho pins s σ H _ I h) fun v s1 ⟨x, H1, I1, r1, ty, q1⟩ => ?_)
  obtain ⟨h1, h2⟩ := tyV_is I1 r1 ty
  exact ⟨T, id, pa, slot, hty, h1, h2, Calls.callWith_builtin rfl (PySem.evalArgs_none (hm pins s1 σ H1 x [] v [] Q I1 r1 .nil q1))⟩
theorem pe_bm (pa : PlainAttrs T) (slot : Slot T name id) (hty : typeOf (.builtin id) = pure (.type "method_descriptor")) (hm : MtR X id r) (ho : PE X o to) (ha : PA X (e :: es) t)
    (hbase : attributeBase o name X.env (eval o X.env) = eval o X.env := by rfl)
    (hfew : ((backTo cpos (starEach (e :: es) X.env)).all (fun x => !x.1) && (backToKw cpos (keywordEach [] X.env)).all (fun x => x.1.isSome)
      && decide ((e :: es).length + ([] : List Keyword).length + (if ([] : List Keyword).isEmpty then 0 else 1) < 30)) = true := by rfl)
    (hline : (apos.endLine == cpos.line) = true := by rfl) (hs : starEach (e :: es) X.env = (false, eval e X.env) :: starEach es X.env := by rfl) (hplain : (backTo cpos (starEach es X.env)).any (·.1) = false := by rfl) :
    PE X (.Call (.Attribute o name apos) (e :: es) [] cpos) (tBM X.K T r to t) := by
  intro pins s σ H Q I h
  refine wpAny_Call_method_late hbase hfew hline rfl (thn (ho pins s σ H _ I h) fun v s1 ⟨x, H1, I1, r1, ty, q1⟩ => ?_)
  obtain ⟨h1, h2⟩ := tyV_is I1 r1 ty
  refine ⟨T, id, pa, slot, hty, h1, h2, ?_⟩
  have hA := ha cpos pins s1 σ H1 _ I1 q1
  rw [hs] at hA ⊢
  refine Calls.callWith_builtin (by show (false || (backTo cpos (starEach es X.env)).any (·.1)) = false; rw [hplain] <;> rfl) (Calls.evalArgs_plain ?_)
  exact thn hA fun us s2 ⟨vs, H2, I2, r2, q2⟩ => hm pins s2 σ H2 x vs v us Q I2 r1 r2 q2
/- xs.append(e), list.index on a module's tuple .. are MtR facts of 06m -/
end
end L2

namespace L2
open PySem PySem.Spec PyProof.Rows

def MtM (X : Cx) (id : String) (r : V → List V → Hp → VK → Prop) : Prop :=
  ∀ (pins : List (Addr × Obj)) (s : Shared) (σ : St) (H : Hp) (x : V) (xs : List V) (v : Value) (us : List Value) (Q : VK), Inv X pins σ H s → RelV x v → Vals xs us → r x xs H Q →
    wpAny (model X.prog X.w) X.A (call (.builtin id) (v :: us)) (EP X pins σ Q) X.xe s

/-! ### lists of values -/
theorem Vals.one : ∀ {x : V} {us : List Value}, Vals [x] us → ∃ u, us = [u] ∧ RelV x u
  | _, _, .cons r .nil => ⟨_, rfl, r⟩
theorem Vals.zero : ∀ {us : List Value}, Vals [] us → us = []
  | _, .nil => rfl
theorem Vals.dropLast {xs : List V} {us : List Value} (h : Vals xs us) : Vals xs.dropLast us.dropLast := by
  induction h with
  | nil => exact .nil
  | cons r t ih =>
    cases t with
    | nil => exact .nil
    | cons q t' => exact .cons r ih
theorem Vals.eraseIdx : ∀ {xs : List V} {us : List Value} (i : Nat), Vals xs us → Vals (xs.eraseIdx i) (us.eraseIdx i)
  | _, _, _, .nil => .nil
  | _, _, 0, .cons _ t => t
  | _, _, i + 1, .cons r t => .cons r (Vals.eraseIdx i t)
theorem Vals.reverse {xs : List V} {us : List Value} (h : Vals xs us) : Vals xs.reverse us.reverse := by
  induction h with
  | nil => exact .nil
  | cons r t ih => rw [List.reverse_cons, List.reverse_cons]; exact Vals.append ih (.cons r .nil)
theorem erase_last {α : Type} (l : List α) : l.eraseIdx (l.length - 1) = l.dropLast := by
  induction l with
  | nil => rfl
  | cons a r ih =>
    cases r with
    | nil => rfl
    | cons b r =>
      have e : (a :: b :: r).length - 1 = ((b :: r).length - 1) + 1 := by
        have h1 : (a :: b :: r).length = r.length + 2 := rfl
        have h2 : (b :: r).length = r.length + 1 := rfl
        omega
      rw [e, List.eraseIdx_cons_succ, ih]
      all_goals rfl
section
variable {X : Cx} {pins : List (Addr × Obj)} {σ : St} {H : Hp} {s : Shared} {l b : Addr} {xs ys zs : List V}

/-! ### the two steps: a tracked list is rewritten, a new list is laid -/
theorem Inv.lset {its its' : List Value} {n : Nat} {f : Array Value → Array Value} {t' : Nat} (I : Inv X pins σ H s) (hH : H l = some (.lst xs))
    (e : s.heap.get? l = some { cls := .type "list", data := .seq its.toArray n }) (hf : f its.toArray = its'.toArray) (hv : Vals ys its') (hz : ys.length ≤ sizeLine) :
    Inv X pins σ (upd H l (.lst ys)) { s with heap := s.heap.update l (Obj.mapSeq f), toks := t' } := by
  have q := PySem.IsL.update e f
  rw [hf] at q
  refine I.write (x := l) (e := l) (by rw [hH]; exact trivial) (.inl rfl) (fun b' u hb hu => (Heap.get?_update_other s.heap (Obj.mapSeq f) (Ne.symm hb)).trans hu) ⟨_, q⟩ ?_
  exact ⟨hz, its', _, hv, q⟩
theorem Inv.lnew {its : List Value} {t' : Nat} (I : Inv X pins σ H s) (hv : Vals ys its) (hz : ys.length ≤ sizeLine) :
    Inv X pins σ (upd H s.heap.objs.size (.lst ys)) { s with heap := s.heap.push { cls := .type "list", data := .seq its.toArray }, toks := t' } :=
  I.laid (fun _ _ q => Heap.get?_push_of_some _ q) (Nat.le_refl _) ⟨hz, its, 0, hv, Heap.get?_push_size _ rfl⟩
theorem Inv.fresh (I : Inv X pins σ H s) : H s.heap.objs.size = none := I.hok.fresh (Nat.le_refl _)
theorem Inv.lstM (I : Inv X pins σ H s) (hH : H l = some (.lst xs)) : xs.length ≤ sizeLine ∧ ∃ (its : List Value) (n : Nat), Vals xs its ∧ xs.length = its.length ∧ s.heap.get? l = some { cls := .type "list", data := .seq its.toArray n } := by
  obtain ⟨z, its, n, r, e⟩ := I.hok l _ hH
  exact ⟨z, its, n, r, r.length, e⟩

theorem notLongL {n : Nat} (h : n ≤ sizeLine) : Builtin.List.listTooLong n = false := by
  unfold Builtin.List.listTooLong
  exact decide_eq_false (by omega)
end

section
variable {X : Cx}

/-! ### methods -/
def rAppend : V → List V → Hp → VK → Prop := fun x vs H Q => ∃ l xs y, x = .ref l ∧ vs = [y] ∧ H l = some (.lst xs) ∧ xs.length < sizeLine ∧ Q .non (upd H l (.lst (xs ++ [y])))
theorem mt_append : MtM X "list.append" rAppend := by
  intro pins s σ H x vs v us Q I rx rv h
  obtain ⟨l, xs, y, rfl, rfl, hH, hz, q⟩ := h
  cases rx
  obtain ⟨u, rfl, ru⟩ := rv.one
  obtain ⟨z, its, n, r, hl, e⟩ := I.lstM hH
  refine call_meets F.slot_list_append ⟨_, e, rfl⟩ F.entry_list_append (F.args_list_append_2 _ _) (PySem.list_append l its.toArray n u (by rw [List.size_toArray]; omega)) ⟨e, ?_⟩
  refine ⟨.non, _, I.lset (its' := its ++ [u]) hH e (by simp) (r.append (.cons ru .nil)) ?_, rfl, q⟩
  rw [List.length_append, List.length_singleton]
  omega

def rExtend : V → List V → Hp → VK → Prop := fun x vs H Q => ∃ l b xs zs, x = .ref l ∧ vs = [.ref b] ∧ H l = some (.lst xs) ∧ H b = some (.lst zs) ∧ xs.length + zs.length ≤ sizeLine ∧ Q .non (upd H l (.lst (xs ++ zs)))
def rPop : V → List V → Hp → VK → Prop := fun x vs H Q => ∃ l xs y, x = .ref l ∧ vs = [] ∧ H l = some (.lst xs) ∧ xs[xs.length - 1]? = some y ∧ Q y (upd H l (.lst xs.dropLast))
theorem mt_pop : MtM X "list.pop" rPop := by
  intro pins s σ H x vs v us Q I rx rv h
  obtain ⟨l, xs, y, rfl, rfl, hH, hy, q⟩ := h
  cases rx
  have hus := rv.zero
  subst hus
  obtain ⟨z, its, n, r, hl, e⟩ := I.lstM hH
  obtain ⟨u, hu, ru⟩ := r.get hy
  have hy' : its.toArray[its.toArray.size - 1]? = some u := by
    show its.toArray[its.length - 1]? = some u
    rw [← Array.getElem?_toList, ← hl]
    exact hu
  refine call_meets F.slot_list_pop ⟨_, e, rfl⟩ F.entry_list_pop (F.args_list_pop_1 _) (MeetsSeq.list_pop_last l its.toArray n u hy' (by rw [List.size_toArray]; omega)) ⟨e, ?_⟩
  refine ⟨y, _, I.lset (its' := its.dropLast) hH e ?_ r.dropLast ?_, ru, q⟩
  · show its.toArray.eraseIdxIfInBounds (its.toArray.size - 1) = its.dropLast.toArray
    rw [List.size_toArray, List.eraseIdxIfInBounds_toArray, erase_last]
  · rw [List.length_dropLast]
    omega

/-! ### list + list, list += list, list * int -/
def rCat : R2 := fun x y H Q => ∃ l b xs zs, x = .ref l ∧ y = .ref b ∧ H l = some (.lst xs) ∧ H b = some (.lst zs) ∧ xs.length + zs.length ≤ sizeLine ∧ ∀ p, H p = none → Q (.ref p) (upd H p (.lst (xs ++ zs)))
theorem op_cat : OpR X (binaryOp .Add) rCat := by
  intro pins s σ H x y v u Q I rx ry h
  obtain ⟨l, b, xs, zs, rfl, rfl, hH, hB, hz, q⟩ := h
  cases rx
  cases ry
  obtain ⟨z, its, n, r, hl, e⟩ := I.lstM hH
  obtain ⟨z2, its2, n2, r2, hl2, e2⟩ := I.lstM hB
  refine PySem.P.add_list e e2 ?_ (by rw [List.size_toArray, List.size_toArray]; omega)
  have ea : its.toArray ++ its2.toArray = (its ++ its2).toArray := by simp
  rw [ea]
  exact ⟨.ref _, _, I.lnew (t' := s.toks) (r.append r2) (by rw [List.length_append]; omega), rfl, q _ I.fresh⟩
/-! ### del xs[i] -/
end

/-! ### xs[a:b] = ys -/
section
variable {prog : Program} {w : World} {A : Around} {E : Value → Shared → Prop} {s : Shared}
end

section
variable {X : Cx}
end
end L2

namespace Att
open PySem PySem.W PySem.Calls PyProof.Rows

/-! ### the script -/
theorem ints_of_wellAll {P : Params} {h : Heap} : ∀ (ns : List Int) (vs : List Value), WellAll P h vs (ns.map WData.int) → IntsAre vs ns := by
  intro ns
  induction ns with
  | nil =>
    intro vs w
    rw [List.map_nil] at w
    cases w
    exact .nil
  | cons n ns ih =>
    intro vs w
    rw [List.map_cons] at w
    cases w with
    | cons a b =>
      cases a
      exact .cons _ _ (ih _ b)

theorem script_of {l : OpenLaw} {n : Nat} (hn : l.most = some n) {P : Params} {h : Heap} {args : List WData} {vals : List Value}
    (hpre : l.row.toRowW.claim.pre args = true) (hwl : WellAll P h vals args) :
    ∃ a vs ns, vals = [Value.ref a] ∧ args = [WData.list (ns.map WData.int)] ∧ h.get? a = some { cls := .type "list", data := .seq vs.toArray } ∧ IntsAre vs ns ∧ ns.length ≤ n := by
  have hsh : WShape.hasAll [] args [.list .int] = true := (pre_splitW hpre).1
  have hc : l.pre.holds [] { args := args } = true := (pre_splitW hpre).2
  obtain ⟨d, r, rfl, h1, h2⟩ := hasAllW_cons hsh
  obtain rfl := hasAllW_nil h2
  obtain ⟨xs, rfl, h3⟩ := hasW_list h1
  obtain ⟨ns, rfl⟩ := items_int h3
  have hlen : ns.length ≤ n := by
    unfold OpenLaw.pre at hc
    have h4 : (WTm.not (.lt (.lit (.int (n : Int))) (.len (.arg 0)))).holds [] { args := [.list (ns.map .int)] } = true := by
      have h4 := (holds_andW hc).1
      rw [hn] at h4
      exact h4
    have h5 := condW_of h4 (w_not (w_lt w_lit (w_len_list (w_arg rfl))))
    rw [List.length_map] at h5
    refine Nat.le_of_not_lt fun q => ?_
    have q' : (n : Int) < ((ns.length : Nat) : Int) := by omega
    first
      | (rw [decide_eq_true q'] at h5; exact absurd h5 (by decide))
      | (simp at h5; omega)
  cases hwl with
  | cons w1 w2 =>
    cases w2
    cases w1 with
    | list ho hall => exact ⟨_, _, ns, rfl, rfl, ho, ints_of_wellAll ns _ hall, hlen⟩

theorem post_true (l : OpenLaw) (args : List WData) : l.row.toRowW.claim.post args (.bool true) args = true :=
  postW_of (r := l.row.toRowW) (X := (true == true))
    (show WShape.has [] (.bool true) .bool = true by first | rfl | decide | simp [WShape.has, WShape.arms, WShape.armsAll])
    (show (WTm.eq .res (.lit (.bool true))).value [] { args := args, res := some (.bool true), after := args } = some (.bool (true == true)) from w_eq_bool (w_res rfl) w_lit) rfl

/-! ### the attachment: holds_open's last premise (the goal 'hc' behind k_head) from a wpAny of the law's body -/
/-- the same from a codeAny of the CALL (for a layer whose function contracts speak of calls) -/
theorem attach_call {l : OpenLaw} {n : Nat} {q : Program} {loose : List Str} {XP : (Str → Option Value) → Heap → Prop} {YP : World → Heap → Prop} {d : DefRec}
    (hn : l.most = some n) (hdf : d.params.defaults = [])
    (call : ∀ (w : World) (s₀ s₁ : Shared) (mg mb : Str → Option Value) (fa : Addr) (o : Obj) (pm cd doc : Value) (a : Addr) (vs : List Value) (ns : List Int),
      Ground q loose [] XP w s₀ mg mb s₁.heap → YP w s₁.heap →
      s₁.heap.get? fa = some o → o.data = .func (docDef d.name d.params d.body d.scope pm cd doc) → s₁.heap.CodeRec cd d.name → mg d.name = some (.ref fa) →
      s₁.heap.get? a = some { cls := .type "list", data := .seq vs.toArray } → IntsAre vs ns → ns.length ≤ n → s₁.gens = #[] →
      codeAny (model l.prog w) callerA (.call (.ref fa) ⟨[.ref a], []⟩) (fun r s' => r = .ok (.ret (.bool true)) ∧ OldK s₁.heap s'.heap ∧ s'.os = s₁.os ∧ AllBare s'.gens) s₁) :
    WalkO q loose XP YP l.row.toRowW d [] (fun f vs => PySem.call f vs) := by
  intro w s₀ s₁ mg mb G Y fa o pm cd doc dV kV ho hd hcd hD hmg hg args vals as hpre hlay hrd hwl hlo
  obtain rfl : dV = .none := Dflts.none hD hdf
  obtain rfl : kV = .none := Dflts.noKw hD
  obtain ⟨a, vs, ns, rfl, rfl, hobj, hints, hlen⟩ := script_of hn hpre hwl
  refine enter_call (codeAny_mono (call w s₀ s₁ mg mb fa o pm cd doc a vs ns G Y ho (fd_plain hd) hcd hmg hobj hints hlen hg) fun r s' hq => ?_)
  obtain ⟨rfl, h2, h3, h4⟩ := hq
  exact ⟨.inl ⟨.bool true, .bool true, [], rfl, fun _ => rfl, .bool true, post_true l _, fun _ => ⟨List.Pairwise.nil, fun _ hm => (nomatch hm)⟩⟩, h2, h3, h4⟩

/-! ### rules over ANY heap (no ledger) from facts about the written part K: the library's own take a ledger (News) for what they write -/
section
variable {prog : Program} {w : World} {A : Around} {E : Value → Shared → Prop} {s : Shared} {K : Frag}

/-! the whole heap as the ledger: makes every rule that writes through a ledger a rule over any heap -/
def ledger (h : Heap) (L d : Addr) : List (Addr × Obj) := (List.range h.objs.size).filterMap fun a => if a = L ∨ a = d then none else (h.get? a).map fun o => (a, o)
end
end Att

namespace L2
open PySem PySem.Spec PyProof.Rows

theorem vals_ints : ∀ {vs : List Value} {ns : List Int}, IntsAre vs ns → Vals (ns.map V.int) vs
  | _, _, .nil => .nil
  | _, _, .cons n t h => .cons ⟨t, rfl⟩ (vals_ints h)

/-- nothing is tracked but the script, known to the object (or it is an object of the module) -/
def Only (H : Hp) : Prop := ∀ b, H b = none ∨ ∃ o xs, H b = some (.frz o (.lst xs))

/-- THE HEAD: the law's promise, at the heap behind the top. F, the promise of the law's def, may use that base is part of the heap (so K.In base, base.Ns mainGlobals mg stand in Mod) -/
theorem law_call {P : Program} {w : World} {K : PySem.W.Frag} {mg mb : Str → Option Value} {CX : CXT} {k : Nat} {fa a : Addr} {fd : FuncData} {x : Str} {sp : Sp} {s₁ : Shared} {vs : List Value} {ns : List Int}
    (KX : K.In s₁.heap) (hns : s₁.heap.Ns mainGlobals mg) (hb : s₁.heap.Ns builtinsNs mb) (hbb : ∀ x : Str, x ≠ "__name__" → mb x = bootBuiltins x) (hlim : s₁.heap.NoLimit) (hg : s₁.gens = #[])
    (ha : s₁.heap.get? a = some { cls := .type "list", data := .seq vs.toArray }) (hi : IntsAre vs ns) (hl : ns.length ≤ sizeLine) (hr : Room k callerA)
    (F : ∀ base : Heap, K.In base → base.Ns mainGlobals mg → FnOk P w K mg base CX k fa fd [x] sp) (hbind : ∀ (s : Shared) (u : Value), BindsTo s fd ⟨[u], []⟩ [(x, u)])
    (hsp : ∀ H : Hp, Only H → SqL K H a (ns.map V.int) → sp [.ref a] H (fun v _ => v = .bl true) fun _ _ _ => False)
    (hCX : ∀ H e s', CX [] H s₁ (fun _ _ _ => False) e s' → False) :
    codeAny (model P w) callerA (.call (.ref fa) ⟨[.ref a], []⟩) (fun r s' => r = .ok (.ret (.bool true)) ∧ OldK s₁.heap s'.heap ∧ s'.os = s₁.os ∧ AllBare s'.gens) s₁ := by
  have rv := vals_ints hi
  have lenV := hi.length
  -- from an abstract heap in which nothing but the script may be tracked
  have core : ∀ H : Hp, Only H → SqL K H a (ns.map V.int) → HOk P w H s₁.heap → (∀ b, H b ≠ none → b = a) → (H a ≠ none → K.lookup a = none) →
      codeAny (model P w) callerA (.call (.ref fa) ⟨[.ref a], []⟩) (fun r s' => r = .ok (.ret (.bool true)) ∧ OldK s₁.heap s'.heap ∧ s'.os = s₁.os ∧ AllBare s'.gens) s₁ := by
    intro H hO hS hok hA hK
    have base_of : ∀ {b : Addr} {o : Obj}, s₁.heap.get? b = some o → H b = none → (hidT s₁.heap H).get? b = some o := fun e n => hidT_get e n
    have noA : ∀ {b : Addr} {o : Obj} {es : Array DictEntry} {ep : Nat}, s₁.heap.get? b = some o → o.data = .dict es ep → H b = none := fun {b o es ep} e d => by
      cases q : H b with
      | none => rfl
      | some u =>
        have e' : b = a := hA b (by rw [q]; simp)
        subst e'
        rw [ha] at e; cases e
        have d' : Data.seq vs.toArray _ = Data.dict es ep := d
        cases d'
    have nsK : ∀ {b : Addr} {m : Str → Option Value}, s₁.heap.Ns b m → (hidT s₁.heap H).Ns b m := fun {b m} ⟨o, es, ep, e, d, r⟩ => ⟨o, es, ep, base_of e (noA e d), d, r⟩
    have hKb : K.In (hidT s₁.heap H) := fun b o e => base_of (KX b o e) (by
      cases q : H b with
      | none => rfl
      | some u =>
        have e' : b = a := hA b (by rw [q]; simp)
        subst e'
        rw [hK (by rw [q]; simp)] at e; cases e)
    have hM : Mod K mg (hidT s₁.heap H) := ⟨hKb, nsK hns, ⟨mb, nsK hb, hbb⟩, let ⟨mc, h1, h2⟩ := hlim; ⟨mc, nsK h1, h2⟩⟩
    have e0 : Env0 P w K mg (hidT s₁.heap H) callerA [] s₁ H := ⟨rfl, hM, fun b o e => of_hidT e, Nat.le_of_eq (hidT_size _ _), trivial, fun b hb => absurd (show b ∈ ([] : List Addr) from hb) (by simp), hok, .of_eq hg⟩
    refine codeAny_mono ((F _ hKb (nsK hns)).run callerA [] s₁ H ⟨[.ref a], []⟩ [.ref a] [.ref a] _ _ hr e0 (hbind s₁ (.ref a)) (.cons rfl .nil) (hsp H hO hS)) fun r s' h => ?_
    cases r with
    | error e => exact (hCX H e s' h).elim
    | ok fl =>
      cases fl with
      | next => exact False.elim h
      | brk => exact False.elim h
      | cont => exact False.elim h
      | ret u =>
        obtain ⟨v, H', os, bare, un, hok', r', q⟩ := h
        have q' : v = .bl true := q
        subst q'
        obtain rfl : u = Value.bool true := r'
        refine ⟨rfl, OldK.of_keep fun b o e => ?_, os, bare⟩
        cases q : H b with
        | none => exact un.keep b o e q (by intro z; exact absurd (show b ∈ ([] : List Addr) from z) (by simp)) (by simp)
        | some u =>
          rcases hO b with z | ⟨ob, xs, z⟩
          · rw [q] at z; cases z
          · have z2 := un.frzs b ob _ z
            obtain ⟨e1, _⟩ := hok b _ z
            obtain ⟨e2, _⟩ := hok' b _ z2
            rw [e] at e1; cases e1
            exact e2
  cases hk : K.lookup a with
  | some o =>
    -- the script is one of the module's own objects
    have e := KX a o hk
    rw [ha] at e
    cases e
    refine core (fun _ => none) (fun _ => .inl rfl) (.inr ⟨_, vs.toArray, _, hk, rfl, rfl, rfl, by rw [List.size_toArray, lenV]; exact hl, by simpa using rv⟩) (fun b u z => by have z' : (none : Option HO) = some u := z; cases z') (fun b z => absurd rfl z) fun z => absurd rfl z
  | none =>
    refine core (fun b => if b = a then some (.frz { cls := .type "list", data := .seq vs.toArray } (.lst (ns.map V.int))) else none) (fun b => ?_) (.inl (.inr ⟨{ cls := .type "list", data := .seq vs.toArray }, if_pos rfl⟩)) (fun b u z => ?_) (fun b z => ?_) fun _ => hk
    · by_cases hb : b = a
      · exact .inr ⟨_, _, if_pos hb⟩
      · exact .inl (if_neg hb)
    · by_cases hb : b = a
      · have z' := (if_pos hb).symm.trans z
        cases z'
        subst hb
        exact ⟨ha, by rw [List.length_map]; exact hl, vs, _, rv, ha⟩
      · have z' := (if_neg hb).symm.trans z
        cases z'
    · by_cases hb : b = a
      · exact hb
      · exact absurd (if_neg hb) z
end L2

namespace L2
open PySem PySem.Spec PyProof.Rows

abbrev KOf {K : PySem.W.Frag} {h : Heap} (_ : K.In h) : PySem.W.Frag := K

/-- the goal that k_head leaves (case hc), from the law's promise. F gives the function object fd (K's own) once, then the promise over every base -/
theorem walk_of {l : PySem.W.OpenLaw} {n k : Nat} {q : Program} {loose : List Str} {XP : (Str → Option Value) → Heap → Prop} {YP : World → Heap → Prop} {d : DefRec} {K : Params → PySem.W.Frag} {CX : World → CXT} {sp : World → Sp} {x : Str}
    (hn : l.most = some n) (hn2 : n ≤ sizeLine) (hdf : d.params.defaults = []) (hr : Room k callerA)
    (hY : ∀ (w : World) (h : Heap), YP w h → (K w.params).In h)
    (F : ∀ (w : World) (mg : Str → Option Value) (fa : Addr) (h : Heap), (K w.params).In h → h.Ns mainGlobals mg → mg d.name = some (.ref fa) →
      ∃ fd : FuncData, (∀ (s : Shared) (u : Value), BindsTo s fd ⟨[u], []⟩ [(x, u)]) ∧
        ∀ base : Heap, (K w.params).In base → base.Ns mainGlobals mg → FnOk l.prog w (K w.params) mg base (CX w) k fa fd [x] (sp w))
    (hsp : ∀ (w : World) (H : Hp) (a : Addr) (ns : List Int), ns.length ≤ n → Only H → SqL (K w.params) H a (ns.map V.int) → sp w [.ref a] H (fun v _ => v = .bl true) fun _ _ _ => False)
    (hCX : ∀ (w : World) (H : Hp) (s : Shared) (e : Value) (s' : Shared), CX w [] H s (fun _ _ _ => False) e s' → False) :
    PySem.W.WalkO q loose XP YP l.row.toRowW d [] (fun f vs => PySem.call f vs) := by
  refine Att.attach_call hn hdf fun w s₀ s₁ mg mb fa o pm cd doc a vs ns G Y ho hd hcd hmg hobj hints hlen hg => ?_
  have KX := hY w _ Y
  obtain ⟨fd, hb, hF⟩ := F w mg fa _ KX G.T.g hmg
  exact law_call KX G.T.g G.T.b G.T.builtins G.T.nolimit hg hobj hints (Nat.le_trans hlen hn2) hr hF hb (fun H hO hS => hsp w H a ns hlen hO hS) fun H e s' => hCX w H s₁ e s'
end L2

/- THE LAST THEOREM (shape; LID, My.* are yours):
   My.Adr: a structure of the addresses that your layer names (classes, functions); My.Txt K t: a structure (Prop) of the equations over K;
   My.txt_mk : {K} {implicit addresses ..} (e1 : nsIn K mainGlobals "law" = some (some (.ref f))) (e2 : K.lookup f = some ⟨oc, od, .func (fnOf "law" "law" params body scope dV kV doc pm an cdv ct), sl⟩) (e3 : codeIn K cdv "law" = true) .. : ∃ t, My.Txt K t

set_option maxRecDepth 100000 in
set_option maxHeartbeats 0 in
theorem PySem.Challenge.cw_LID_holds : PySem.Challenge.rw_LID.Holds := by
  w_on; o_law; k_head; (case hw => w_witness2)
  k_fill
  refine L2.walk_of (l := PySem.Challenge.rw_LID) (n := 63) (k := 40) (x := "script") (CX := fun w => ..) (sp := fun _ => My.sp_law) rfl (by decide) rfl ⟨rfl, by decide, by decide⟩ (fun w h Y => PySem.W.kIn_of Y) ?F ?S ?C
  case F =>
    intro w mg fa h KX G hmg
    have T : ∃ t, My.Txt (L2.KOf KX) t := by
      dsimp only [L2.KOf]                          -- K must stand as «<heap const> w.params» for k_is
      refine' My.txt_mk ?e1 ?e2 ?e3 ..
      (case e1 => PySem.W.k_is)                    -- in the order: a name -> its address -> its object -> its parts
      (case e2 => PySem.W.k_is)
      ..
    obtain ⟨t, T⟩ := T
    have e0 := hmg.symm.trans (PySem.W.mg_of KX G T.law)
    cases e0                                       -- fa is the law's own address
    exact ⟨_, fun s u => .of_eq rfl, fun base kb nb => My.law_fn T kb nb⟩     -- if «.of_eq rfl» comes too early: refine' ⟨_, ?b, fun base kb nb => My.law_fn T kb nb⟩; exact fun s u => .of_eq rfl
  case S => exact fun w H a ns hl hO hS => ..
  case C => exact ..
(the tactic k_is has no namespace: write k_is) -/

/-! SHORT WORDS over the layer: a def of the text, its body, what a loop and a test want. -/
namespace L2
open PySem PySem.Spec PyProof.Rows

/-! ### the text by places -/
def defArgs (s : Stmt) : Arguments := match s with
  | .FunctionDef _ a _ _ _ _ _ _ _ _ => a
  | _ => { posonlyargs := [], args := [], vararg := none, kwonlyargs := [], kw_defaults := [], kwarg := none, defaults := [] }
def defBody (s : Stmt) : List Stmt := match s with
  | .FunctionDef _ _ b _ _ _ _ _ _ _ => b
  | _ => []
def defScope (s : Stmt) : Scope := match s with
  | .FunctionDef _ _ _ _ _ _ sc _ _ _ => sc
  | _ => { kind := .function, names := [], isGenerator := false, isCoroutine := false }

/-! ### no exception leaves a def -/
abbrev CX0 : CXT := fun _ _ _ _ _ _ => False
abbrev E0 : XK := fun _ _ _ => False
theorem pass0 {X : Cx} : Passes CX0 X E0 := fun _ _ _ _ _ _ _ h => h.elim

/-! ### a def (or method) of the text as it stands behind the top -/
structure Fun (K : PySem.W.Frag) (x qual : Str) (st : Stmt) (f : Addr) (fd : FuncData) : Prop where
  ex : ∃ (oc : Value) (od : Option Addr) (kV doc pm : Value) (an : Option Addr) (cdv ct : Value) (osl : Array (Option Value)),
    fd = PySem.W.fnOf x qual (defArgs st) (defBody st) (defScope st) .none kV doc pm an cdv ct ∧ K.lookup f = some ⟨oc, od, .func fd, osl⟩ ∧ PySem.W.codeIn K cdv qual = true
  kp : PySem.W.keepIn K (.ref f) = true
section
variable {P : Program} {w : World} {K : PySem.W.Frag} {mg : Str → Option Value} {base : Heap}
/-- THE RULE for a def: its body as a term of rules, and the reading of that term -/
theorem Fun.ok {x qual : Str} {st : Stmt} {f : Addr} {fd : FuncData} {N ps : List Str} {k : Nat} {sp : Sp} (F : Fun K x qual st f fd) (S : FnScope N ps (defScope st)) (len : ∀ vs H Q E, sp vs H Q E → vs.length = ps.length)
    (hbody : ∀ (cdv : Value) (A : Around) (outer : List Env) (s : Shared) (H : Hp) (vs : List V) (Q : VK) (E : XK), Room k (A.deeper (envOfC qual (defScope st) s.heap.objs.size f cdv)) → sp vs H Q E →
      ∃ t, PSs (cxOf CX0 P w K mg base N qual (defScope st) f cdv A outer s H E).nox (defBody st) t ∧ t { nx := fun _ H' => Q .non H', rt := Q } (start N vs) H) : FnOk P w K mg base CX0 (k + 1) f fd ps sp := by
  obtain ⟨oc, od, kV, doc, pm, an, cdv, ct, osl, rfl, lk, hcd⟩ := F.ex
  refine fn_of lk hcd S len fun A outer s H vs Q E hr hsp => ?_
  obtain ⟨t, h, q⟩ := hbody cdv A outer s H vs Q E hr hsp
  exact ⟨t, h.nox, q⟩
/-- how its arguments bind (no defaults): h is «fun _ _ _ _ _ _ us hl => match us, hl with | [_, _], _ => rfl», one _ a parameter -/
theorem Fun.binds {x qual : Str} {st : Stmt} {f : Addr} {fd : FuncData} {ps : List Str} (F : Fun K x qual st f fd)
    (h : ∀ (kV doc pm : Value) (an : Option Addr) (cdv ct : Value) (us : List Value), us.length = ps.length → bindArgs (PySem.W.fnOf x qual (defArgs st) (defBody st) (defScope st) .none kV doc pm an cdv ct) ⟨us, []⟩ = pure (ps.zip us)) : Binds K fd ps [] := by
  obtain ⟨oc, od, kV, doc, pm, an, cdv, ct, osl, rfl, lk, hcd⟩ := F.ex
  exact .all (h kV doc pm an cdv ct)
theorem fun_mk {x qual : Str} {st : Stmt} {f : Addr} {oc : Value} {od an : Option Addr} {osl : Array (Option Value)} {kV doc pm cdv ct : Value} (l : K.lookup f = some ⟨oc, od, .func (PySem.W.fnOf x qual (defArgs st) (defBody st) (defScope st) .none kV doc pm an cdv ct), osl⟩)
    (c : PySem.W.codeIn K cdv qual = true) (k : PySem.W.keepIn K (.ref f) = true) : Fun K x qual st f (PySem.W.fnOf x qual (defArgs st) (defBody st) (defScope st) .none kV doc pm an cdv ct) := ⟨⟨oc, od, kV, doc, pm, an, cdv, ct, osl, rfl, l, c⟩, k⟩
end
theorem hu_of {A : Around} {k : Nat} (hr : Room k A) : A.units + 1 < cLine := Nat.lt_of_le_of_lt (Nat.add_le_add_left (by decide : 1 ≤ 64) _) hr.units
theorem small1000 {n : Nat} (h : n ≤ 1000) : n < sizeLine := Nat.lt_of_le_of_lt h (by decide)

/-! ### expressions in short: the name that stands in the i-th slot -/
section
variable {X : Cx}
theorem pv (i : Nat) {x : Str} {pos : Pos} (hN : X.N[i]? = some x := by rfl) (hv : Vis X.env.scope x := by first | exact Or.inl rfl | exact Or.inr (Or.inl rfl) | exact Or.inr (Or.inr rfl)) (hd : (x == ("__debug__" : Str)) = false := by decide)
    (hcd : (x == ("__classdict__" : Str)) = false := by decide) : PE X (.Name x pos) (tVar i) := pe_var hN hv hd hcd
end

/-! ### tests -/
theorem iteF {A B : Prop} (h : B) : if false = true then A else B := by
  rw [if_neg Bool.false_ne_true]
  exact h
theorem iteT {A B : Prop} (h : A) : if true = true then A else B := by
  rw [if_pos rfl]
  exact h
theorem ite2 {c A B : Prop} [Decidable c] (h1 : c → A) (h2 : ¬ c → B) : if c then A else B := by
  by_cases h : c
  · rw [if_pos h]
    exact h1 h
  · rw [if_neg h]
    exact h2 h
/-! ### heaps -/
/-- all that was tracked is as it was -/
def Same (H H' : Hp) : Prop := ∀ b o, H b = some o → H' b = some o
theorem Same.refl (H : Hp) : Same H H := fun _ _ h => h
theorem Same.trans {H H1 H2 : Hp} (a : Same H H1) (b : Same H1 H2) : Same H H2 := fun c o h => b c o (a c o h)
theorem Same.free {H H' : Hp} (e : Same H H') {l : Addr} (h : H' l = Option.none) : H l = Option.none := by
  cases q : H l with
  | none => rfl
  | some o =>
    rw [e l o q] at h
    cases h
theorem Same.seq {K : PySem.W.Frag} {H H' : Hp} {a : Addr} {xs : List V} (e : Same H H') (h : SqL K H a xs) : SqL K H' a xs := by
  rcases h with (h | ⟨o, h⟩) | h
  · exact .inl (.inl (e _ _ h))
  · exact .inl (.inr ⟨o, e _ _ h⟩)
  · exact .inr h

end L2

set_option Elab.async false
set_option linter.all false
set_option maxRecDepth 100000
set_option maxHeartbeats 4000000
namespace L2
open PySem PySem.Spec PyProof.Rows

/-! ### a list comprehension of one clause -/
theorem compLoop_go {prog : Program} {w : World} {A : Around} {R : Result → Shared → Prop} {s : Shared} {elt target iter : Expr} {ifs : List Expr} {scope : Scope} {pos : Pos} {it acc : Value} {env : Env} (I : Nat → Shared → Prop)
    (turn : ∀ n s, I n s → wpAny (model prog w) A (pyNext it) (fun r s1 => match r with
      | none => R (.ok .next) s1
      | some v => wpAny (model prog w) A (letOwnedTupleGo target it v) (fun _ s2 => wpAny (model prog w) A (assign target env v) (fun _ s3 =>
          wpAny (model prog w) A (forIn ifs true fun c r => if r = true then do let ok ← isTrue c env (eval c env); pure (ForInStep.yield ok) else pure (ForInStep.yield r)) (fun ok s4 =>
            if ok = true then wpAny (model prog w) A (eval elt env) (fun x s5 =>
              wpAny (model prog w) A (call (.builtin "list.append") [acc, x]) (fun _ s6 => ∃ m, m < n ∧ I m s6) (fun _ _ => False) s5) (fun _ _ => False) s4
            else ∃ m, m < n ∧ I m s4) (fun _ _ => False) s3) (fun _ _ => False) s2) (fun _ _ => False) s1) (fun _ _ => False) s)
    (n : Nat) (h : I n s) : codeAny (model prog w) A (.compLoop (.ListComp elt [⟨target, iter, ifs, 0⟩] scope pos) 0 it acc env) R s := by
  refine codeAny_loop rfl I (fun n s hI => ?_) n h
  show wpAny _ A ((compTurn (.ListComp elt [⟨target, iter, ifs, 0⟩] scope pos) 0 it acc env).onRaise (fun x => do noteFrame x env; theTreesLotGoes x)) _ _ s
  refine wpAny_noted ?_
  rw [compTurn_list]
  refine wpAny_bind (wpAny_standAt (wpAny_bind (wpAny_mono (turn n s hI) (fun r s1 h1 => ?_) fun _ _ z => z.elim)))
  cases r with
  | none => exact wpAny_pure h1
  | some v =>
    refine wpAny_bind (wpAny_mono h1 (fun _ s2 h2 => ?_) fun _ _ z => z.elim)
    refine wpAny_bind (wpAny_mono h2 (fun _ s3 h3 => wpAny_bind (wpAny_mono h3 (fun ok s4 h4 => ?_) fun _ _ z => z.elim)) fun _ _ z => z.elim)
    cases ok with
    | false => exact wpAny_pure ⟨rfl, h4⟩
    | true =>
      exact wpAny_bind (wpAny_bind (wpAny_mono h4 (fun x s5 h5 => wpAny_bind (wpAny_mono h5 (fun _ s6 h6 => wpAny_pure (wpAny_pure ⟨rfl, h6⟩)) fun _ _ z => z.elim)) fun _ _ z => z.elim))

/-- the clause's tests -/
def PTs (X : Cx) (ifs : List Expr) (t : TT) : Prop :=
  ∀ (pins : List (Addr × Obj)) (s : Shared) (σ : St) (H : Hp) (Q : Bool → Hp → Prop), Inv X pins σ H s → t σ H Q →
    wpAny (model X.prog X.w) X.A (forIn ifs true fun c r => if r = true then do let ok ← isTrue c X.env (eval c X.env); pure (ForInStep.yield ok) else pure (ForInStep.yield r)) (TP X pins σ Q) X.xe s
def tNoIf : TT := fun _ H Q => Q true H
theorem pts_nil {X : Cx} : PTs X [] tNoIf := fun _ _ _ H _ I h => wpAny_tests_nil ⟨H, I, h⟩
theorem pts_one {X : Cx} {c : Expr} {t : TT} (hc : PT X c t) : PTs X [c] t := fun pins s σ H Q I h => wpAny_tests_one (hc pins s σ H Q I h)

/-- closureFor picks the cells of the frame around -/
theorem cells_for (env : Env) (g : (Str × NameKind) → List (Str × Addr) → Sem (ForInStep (List (Str × Addr)))) (hg : ∀ x cs, g x cs = if (x.2 == NameKind.free) = true then cellOf env x.1 >>= fun c => pure (ForInStep.yield ((x.1, c) :: cs)) else pure (ForInStep.yield cs)) :
    ∀ (names : List (Str × NameKind)) (cs : List (Str × Addr)), (∀ y ∈ names, y.2 = .free → ∃ c, env.cells.lookup y.1 = some c) → (∀ x c, cs.lookup x = some c → env.cells.lookup x = some c) →
    ∃ cl, forIn names cs g = pure cl ∧ (∀ x c, cl.lookup x = some c → env.cells.lookup x = some c) ∧ (∀ x, (x, NameKind.free) ∈ names ∨ (∃ c, cs.lookup x = some c) → ∃ c, cl.lookup x = some c) := by
  intro names
  induction names with
  | nil =>
    intro cs _ hcs
    exact ⟨cs, rfl, hcs, fun x h => h.elim (fun z => nomatch z) id⟩
  | cons y r ih =>
    intro cs hfr hcs
    obtain ⟨n, k⟩ := y
    by_cases hk : k = .free
    · subst hk
      obtain ⟨c, hc⟩ := hfr (n, .free) List.mem_cons_self rfl
      obtain ⟨cl, e, h1, h2⟩ := ih ((n, c) :: cs) (fun z hz => hfr z (List.mem_cons_of_mem _ hz)) (fun x c' hx => by
        by_cases hxn : x = n
        · subst hxn; simp [List.lookup_cons] at hx; rw [hc, hx]
        · have : (x == n) = false := by simpa using hxn
          simp [List.lookup_cons, this] at hx; exact hcs x c' hx)
      refine ⟨cl, ?_, h1, fun x hx => h2 x ?_⟩
      · rw [List.forIn_cons, hg]
        simp only [beq_self_eq_true, if_true]
        have ec : cellOf env n = pure c := by unfold cellOf; rw [hc]
        rw [ec]
        simpa using e
      · rcases hx with hx | ⟨c', hx⟩
        · rcases List.mem_cons.mp hx with z | z
          · cases z; exact .inr ⟨c, by simp [List.lookup_cons]⟩
          · exact .inl z
        · refine .inr ?_
          by_cases hxn : x = n
          · subst hxn; exact ⟨c, by simp [List.lookup_cons]⟩
          · have : (x == n) = false := by simpa using hxn
            exact ⟨c', by simpa [List.lookup_cons, this] using hx⟩
    · obtain ⟨cl, e, h1, h2⟩ := ih cs (fun z hz => hfr z (List.mem_cons_of_mem _ hz)) hcs
      refine ⟨cl, ?_, h1, fun x hx => h2 x ?_⟩
      · rw [List.forIn_cons, hg]
        have : (k == NameKind.free) = false := by simpa using hk
        simp only [this, Bool.false_eq_true, if_false]
        simpa using e
      · rcases hx with hx | hx
        · rcases List.mem_cons.mp hx with z | z
          · cases z; exact absurd rfl hk
          · exact .inl z
        · exact .inr hx
theorem closure_of {scope : Scope} {env : Env} (hfr : ∀ y ∈ scope.names, y.2 = .free → ∃ c, env.cells.lookup y.1 = some c) :
    ∃ cl, closureFor scope env = pure cl ∧ (∀ x c, cl.lookup x = some c → env.cells.lookup x = some c) ∧ ∀ x, (x, NameKind.free) ∈ scope.names → ∃ c, cl.lookup x = some c := by
  obtain ⟨cl, e, h1, h2⟩ := cells_for env _ (fun x cs => rfl) scope.names [] hfr (fun x c h => by simp at h)
  refine ⟨cl, ?_, h1, fun x hx => h2 x (.inl hx)⟩
  unfold closureFor
  simp only [bind_pure]
  refine Eq.trans ?_ e
  congr 1

/-- the block's context -/
def Cx.comp (X : Cx) (N : List Str) (scope : Scope) (cl : List (Str × Addr)) (s : Shared) (H : Hp) (fp : List Addr) (C : Addr) : Cx :=
  { X with N := N, s₀ := s, H₀ := H, env := compEnvC scope cl C X.env, outer := X.stack, stack := X.stack, ex := fp, fn := fun _ => false, pn := [], xe := fun _ _ => False }
/-- the block's slots: the names it closes over have their places (in the frame around), the others none -/
def inner (im : List (Option Nat)) (σ : St) : St := im.map fun o => match o with
  | none => none
  | some i => (σ[i]?).getD none
def CompAt (im : List (Option Nat)) (g : TG) (tc : TT) (te : TE) (σ : St) (Q : VK) (J : It) (H1 : Hp) : Prop := ∃ W : Nat → Nat → List V → Hp → Prop, (∃ m, W 0 m [] H1) ∧ ∀ i m ys H, W i m ys H →
  ys.length ≤ sizeLine ∧ ((J.stop i H ∧ ∀ D, H D = none → Q (.ref D) (upd H D (.lst ys))) ∨
    (J.go i H ∧ ∀ x H', J.yld i H x H' → g x (inner im σ) H' fun σ2 H2 => tc σ2 H2 fun b H3 =>
      if b = true then te σ2 H3 fun y H4 => ∃ m', m' < m ∧ W (i + 1) m' (ys ++ [y]) H4 else ∃ m', m' < m ∧ W (i + 1) m' ys H3))
def tComp (im : List (Option Nat)) (wi : TI) (g : TG) (tc : TT) (te : TE) : TE := fun σ H Q => wi σ H (CompAt im g tc te σ Q)

theorem lookup_relabel_free {env : Env} : ∀ {names : List (Str × NameKind)} {x : Str}, names.lookup x = some .free →
    (names.map fun (n, k) => if (k == NameKind.free && env.scope.kind == .function && env.kindOf n == some .cell) then (n, NameKind.cell) else (n, k)).lookup x = some .cell ∨
    (names.map fun (n, k) => if (k == NameKind.free && env.scope.kind == .function && env.kindOf n == some .cell) then (n, NameKind.cell) else (n, k)).lookup x = some .free
  | [], _, h => by simp at h
  | (n, k) :: r, x, h => by
    have ih := @lookup_relabel_free env r x
    cases hx : x == n with
    | true =>
      simp only [List.lookup_cons, hx] at h
      cases h
      by_cases hc : (NameKind.free == NameKind.free && env.scope.kind == .function && env.kindOf n == some .cell) = true
      · left; rw [List.map_cons]; simp only [if_pos hc, List.lookup_cons, hx]
      · right; rw [List.map_cons]; simp only [if_neg hc, List.lookup_cons, hx]
    | false =>
      simp only [List.lookup_cons, hx] at h
      rw [List.map_cons]
      by_cases hc : (k == NameKind.free && env.scope.kind == .function && env.kindOf n == some .cell) = true
      · simp only [if_pos hc, List.lookup_cons, hx]; exact ih h
      · simp only [if_neg hc, List.lookup_cons, hx]; exact ih h
theorem relabel_inv {env : Env} : ∀ {names : List (Str × NameKind)} {x : Str} {k : NameKind},
    (names.map fun (n, k) => if (k == NameKind.free && env.scope.kind == .function && env.kindOf n == some .cell) then (n, NameKind.cell) else (n, k)).lookup x = some k → (k = .cell ∨ k = .free) → (∀ y ∈ names, y.2 ≠ NameKind.cell) → (x, NameKind.free) ∈ names
  | [], _, _, h, _, _ => by simp at h
  | (n, k0) :: r, x, k, h, hk, hc => by
    rw [List.map_cons] at h
    have ih := @relabel_inv env r x k
    by_cases hcc : (k0 == NameKind.free && env.scope.kind == .function && env.kindOf n == some .cell) = true
    · simp only [if_pos hcc, List.lookup_cons] at h
      have hk0 : k0 = .free := by simp at hcc; exact hcc.1.1
      cases hx : x == n with
      | true => have e : x = n := by simpa using hx
                subst e; subst hk0; exact List.mem_cons_self
      | false => simp only [hx] at h; exact List.mem_cons_of_mem _ (ih h hk fun y hy => hc y (List.mem_cons_of_mem _ hy))
    · simp only [if_neg hcc, List.lookup_cons] at h
      cases hx : x == n with
      | true =>
        simp only [hx] at h
        cases h
        have e : x = n := by simpa using hx
        subst e
        rcases hk with z | z
        · exact absurd z (hc (x, k0) List.mem_cons_self)
        · subst z; exact List.mem_cons_self
      | false => simp only [hx] at h; exact List.mem_cons_of_mem _ (ih h hk fun y hy => hc y (List.mem_cons_of_mem _ hy))

section
variable {X : Cx} {N : List Str} {scope : Scope} {cl : List (Str × Addr)} {fp : List Addr} {C : Addr}
theorem Cx.comp_ok {pins : List (Addr × Obj)} {σ : St} {H : Hp} {s : Shared} (I : Inv X pins σ H s) (hkind : scope.kind = .function) (hcell : ∀ y ∈ scope.names, y.2 ≠ .cell)
    (h1 : ∀ x c, cl.lookup x = some c → X.env.cells.lookup x = some c) (h2 : ∀ x, (x, NameKind.free) ∈ scope.names → ∃ c, cl.lookup x = some c)
    (hf : ∀ b ∈ fp, FpOk X pins H b) (hC : s.heap.objs.size ≤ C) (hfs : ∀ b ∈ fp, b < C) : (X.comp N scope cl s H fp C).Ok where
  mod := I.ok.mod
  kind := hkind
  glob := I.ok.glob
  blt := I.ok.blt
  above := hC
  inj := fun x y c a b => I.ok.inj x y c (h1 x c a) (h1 y c b)
  has := fun x hx => by
    refine h2 x ?_
    rcases hx with hx | hx
    · exact relabel_inv hx (.inl rfl) hcell
    · exact relabel_inv hx (.inr rfl) hcell
  cab := fun x c z => nomatch z
  hd := I.ok.hd
  frames := I.ok.frames
  stk := .inl rfl
  exf := fun b hb => ⟨Nat.ne_of_lt (hfs b hb), fun x c e => (hf b hb).2.2.2.2.1 x c (h1 x c e)⟩
  bs := I.bs
  bsz := Nat.le_trans I.ok.bsz (Nat.le_trans I.ok.above (Nat.le_of_lt I.lt))
  noex := fun b o e hb => by
    obtain ⟨_, _, _, z, _⟩ := hf b hb
    rcases z with z | z
    · exact I.ok.noex b o e z
    · exact absurd (Nat.lt_of_lt_of_le (Heap.lt_size (I.ok.bs b o e).1) z) (Nat.lt_irrefl _)
  exfs := fun b hb hs => by
    obtain ⟨_, z1, z2, _⟩ := hf b hb
    rcases List.mem_cons.mp (I.stkSub b hs) with z | z
    · exact z1 z
    · exact z2 z
  funs := I.stack
  frf := I.stkFree

/-- a cell that stood at the block's entry stands -/
theorem Inv.cellK {pins : List (Addr × Obj)} {σ : St} {H H0 : Hp} {s s0 : Shared} (I : Inv (X.comp N scope cl s0 H0 fp C) pins σ H s) {pins0 : List (Addr × Obj)} {σ0 : St} (I0 : Inv X pins0 σ0 H0 s0)
    (h1 : ∀ x c, cl.lookup x = some c → X.env.cells.lookup x = some c) (hf : ∀ b ∈ fp, FpOk X pins0 H0 b) {x : Str} {c : Addr} (hc : cl.lookup x = some c) {v : Option Value} (q : s0.heap.IsCell c v) : s.heap.IsCell c v := by
  obtain ⟨o, e, d⟩ := q
  have hx := h1 x c hc
  have nf : c ∉ fp := fun z => (hf c z).2.2.2.2.1 x c hx rfl
  obtain ⟨sl, e'⟩ := I.base.any (show s0.heap.get? c = some o from e) (I0.freeC x c hx) nf
  exact ⟨_, e', d⟩
/-- the block's slots as at its entry -/
theorem Inv.reset {pins : List (Addr × Obj)} {σ : St} {H H0 : Hp} {s s0 : Shared} {im : List (Option Nat)} (I : Inv (X.comp N scope cl s0 H0 fp C) pins σ H s) {pins0 : List (Addr × Obj)} {σ0 : St} (I0 : Inv X pins0 σ0 H0 s0)
    (h1 : ∀ x c, cl.lookup x = some c → X.env.cells.lookup x = some c) (h2 : ∀ x, (x, NameKind.free) ∈ scope.names → ∃ c, cl.lookup x = some c) (hf : ∀ b ∈ fp, FpOk X pins0 H0 b) (hl : N.length = im.length)
    (him : ∀ (i : Nat) (x : Str) (j : Nat), N[i]? = some x → im[i]? = some (some j) → X.N[j]? = some x ∧ scope.names.lookup x = some .free ∧ (x, NameKind.free) ∈ scope.names ∧ (X.env.kindOf x = some .cell ∨ X.env.kindOf x = some .free)) :
    Inv (X.comp N scope cl s0 H0 fp C) pins (inner im σ0) H s := by
  refine ⟨I.ok, I.os, I.bare, I.base, ?_, I.cell, I.free, I.freeC, I.pin, I.hok, ?_⟩
  · obtain ⟨m, hn, _⟩ := I.loc
    refine ⟨m, hn, fun i x v e1 e2 _ => ?_⟩
    unfold inner at e2
    rw [List.getElem?_map] at e2
    cases q : im[i]? with
    | none => rw [q] at e2; cases e2
    | some o =>
      rw [q] at e2
      cases o with
      | none => cases e2
      | some j =>
        have e2' : (σ0[j]?).getD none = some v := by simpa using e2
        obtain ⟨a1, a2, a3, a4⟩ := him i x j e1 q
        have e3 : σ0[j]? = some (some v) := by
          cases z : σ0[j]? with
          | none => rw [z] at e2'; cases e2'
          | some w => rw [z] at e2'; simp at e2'; rw [e2']
        have vis : Vis X.env.scope x := .inr a4
        obtain ⟨m0, hn0, hl0⟩ := I0.loc
        obtain ⟨u, ru, lk⟩ := hl0 j x v a1 e3 vis
        refine ⟨u, ru, ?_⟩
        rcases lk with ⟨k, _⟩ | ⟨_, c, hc, q⟩
        · rcases a4 with a4 | a4 <;> (rw [a4] at k; cases k)
        · obtain ⟨c', hc'⟩ := h2 x a3
          have : c' = c := by have := h1 x c' hc'; rw [hc] at this; exact (Option.some.inj this).symm
          subst this
          refine .inr ⟨lookup_relabel_free a2, c', hc', I.cellK I0 h1 hf hc' q⟩
  · show (im.map _).length = N.length
    rw [List.length_map, hl]
end

section
variable {X : Cx}
theorem comp_core {elt tg iter : Expr} {ifs : List Expr} {scope : Scope} {pos : Pos} {wi : TI} {g : TG} {tc : TT} {te : TE} (N : List Str) (im : List (Option Nat))
    (hi : PI X tg iter wi)
    (hg : ∀ cl s H fp C, PG (X.comp N scope cl s H fp C) tg g)
    (ht : ∀ cl s H fp C, PTs (X.comp N scope cl s H fp C) ifs tc)
    (he : ∀ cl s H fp C, PE (X.comp N scope cl s H fp C) elt te)
    (hc : X.calm = true := by rfl) (hkind : scope.kind = .function := by rfl) (hcell : ∀ y ∈ scope.names, y.2 ≠ .cell := by decide +kernel)
    (hnames : ∀ y ∈ scope.names, y.2 = .local → scope.names.lookup y.1 = some .local := by decide +kernel)
    (hfree : (scope.names.all fun y => y.2 != .free || (X.env.kindOf y.1 == some .cell || X.env.kindOf y.1 == some .free)) = true := by rfl)
    (hl : N.length = im.length := by rfl)
    (him : ((N.zip im).all fun p => match p.2 with
      | none => true
      | some j => X.N[j]? == some p.1 && scope.names.lookup p.1 == some .free) = true := by rfl)
    (hs : ∀ x, foldedSetIterable iter X.env x = pure x := by intro _; rfl)
    {use : Option (Value → Sem Unit)} {QQ : Value → Shared → Prop} {pins : List (Addr × Obj)} {s : Shared} {σ : St} {H : Hp} {Q : VK} {pos2 : Pos} (I : Inv X pins σ H s) (h : tComp im wi g tc te σ H Q)
    (fin : ∀ (s4 : Shared) (m : Str → Option Value) (C D : Addr) (H4 : Hp), s4.heap.Ns C m → (∀ h', Heap.SameBut C s4.heap h' → Inv X pins σ H4 { s4 with heap := h' }) → H4 C = none → C ≠ X.env.locals → C ∉ X.fs → (∀ x c, X.env.cells.lookup x = some c → c ≠ C) → (∀ p ∈ X.pn ++ pins, C ≠ p.1) → X.s₀.heap.objs.size ≤ C → Q (.ref D) H4 →
      compPost (model X.prog X.w) X.A X.xe use QQ (.ref D) C (.ok .next) s4) :
    wpAny (model X.prog X.w) X.A (comprehension (.ListComp elt [⟨tg, iter, ifs, 0⟩] scope pos) scope X.env pos2 (newList []) false (eval iter X.env) use) QQ X.xe s := by
  have hfree' : ∀ y ∈ scope.names, y.2 = .free → (X.env.kindOf y.1 = some .cell ∨ X.env.kindOf y.1 = some .free) := fun y hy hyf => by
    have := List.all_eq_true.mp hfree y hy
    simpa [hyf] using this
  obtain ⟨cl, hclos, h1, h2⟩ := closure_of (scope := scope) (env := X.env) fun y hy hyf => I.ok.has y.1 (hfree' y hy hyf)
  have him' : ∀ (i : Nat) (x : Str) (j : Nat), N[i]? = some x → im[i]? = some (some j) → X.N[j]? = some x ∧ scope.names.lookup x = some .free ∧ (x, NameKind.free) ∈ scope.names ∧ (X.env.kindOf x = some .cell ∨ X.env.kindOf x = some .free) := fun i x j e1 e2 => by
    have hm : (x, some j) ∈ N.zip im := by
      refine List.mem_iff_getElem?.mpr ⟨i, ?_⟩
      rw [List.getElem?_zip_eq_some]; exact ⟨e1, e2⟩
    have z := List.all_eq_true.mp him _ hm
    simp at z
    have m : (x, NameKind.free) ∈ scope.names := by
      have lk := z.2
      clear z hm
      revert lk
      generalize scope.names = ns
      induction ns with
      | nil => intro lk; simp at lk
      | cons y r ih =>
        intro lk
        obtain ⟨n, k⟩ := y
        cases hx : x == n with
        | true => simp only [List.lookup_cons, hx] at lk; cases lk; have e : x = n := by simpa using hx
                  subst e; exact List.mem_cons_self
        | false => simp only [List.lookup_cons, hx] at lk; exact List.mem_cons_of_mem _ (ih lk)
    exact ⟨z.1, z.2, m, hfree' _ m rfl⟩
  refine wpAny_comprehension_free (use := use) rfl hs hclos hkind hnames (thn (hi pins s σ H _ I h) fun v s1 hh1 => thn hh1 fun itv s2 hh2 => ?_)
  obtain ⟨it, fp, tn, J, H2, e, I2, T, st2, f2, W, ⟨m0, w0⟩, turn⟩ := hh2
  subst e
  refine wpAny_newObj_type (wpAny_newFunctionEnv hcell (by intro y hy; simp at hy) (fun h₁ hns₁ hsb₁ => ?_) hkind)
  dsimp only at hns₁ hsb₁ ⊢
  have hD : s2.heap.objs.size = s2.heap.objs.size := rfl
  generalize hP : s2.heap.push { cls := .type "list", dict := none, data := .seq ([] : List Value).toArray } = P2 at hns₁ hsb₁ ⊢
  have hCs : P2.objs.size = s2.heap.objs.size + 1 := by rw [← hP, Heap.size_push]
  generalize hC : P2.objs.size = C at hns₁ hsb₁ ⊢
  have hC' : C = s2.heap.objs.size + 1 := by rw [← hC, hCs]
  generalize hDD : s2.heap.objs.size = D at hC' ⊢
  have hCle : s2.heap.objs.size ≤ C := by rw [hDD, hC']; exact Nat.le_succ _
  have hDC : D ≠ C := by rw [hC']; exact Nat.ne_of_lt (Nat.lt_succ_self _)
  have old : ∀ b o, s2.heap.get? b = some o → h₁.get? b = some o := fun b o e =>
    hsb₁.extBut b o (Nat.ne_of_lt (Nat.lt_of_lt_of_le (Heap.lt_size e) hCle)) (Heap.get?_push_of_some _ (hP ▸ Heap.get?_push_of_some _ e))
  have hacc : h₁.get? D = some { cls := .type "list", data := .seq ([] : List Value).toArray 0 } := by
    refine hsb₁.extBut _ _ hDC (Heap.get?_push_of_some _ ?_)
    rw [← hP, ← hDD]
    exact Heap.get?_push_size _ rfl
  have fpl : ∀ b ∈ fp, b < s2.heap.objs.size := fun b hb => by obtain ⟨o, e, _⟩ := T.obj _ _ st2 b hb; exact Heap.lt_size e
  have fpC : ∀ b ∈ fp, b < C := fun b hb => Nat.lt_of_lt_of_le (fpl b hb) hCle
  have fpD : ∀ b ∈ fp, b ≠ D := fun b hb => by have := fpl b hb; rw [hDD] at this; exact Nat.ne_of_lt this
  have Yok : (X.comp N scope cl s2 H2 fp C).Ok := Cx.comp_ok I2 hkind hcell h1 h2 f2 hCle fpC
  -- the block's invariant at its entry
  have IY0 : Inv (X.comp N scope cl s2 H2 fp C) [] (inner im σ) H2 { s2 with heap := h₁, toks := s2.toks + ([] : List (Str × Value)).length } := by
    have I3 : Inv (X.comp N scope cl s2 H2 fp C) [] (N.map fun _ => none) H2 { s2 with heap := h₁, toks := s2.toks + ([] : List (Str × Value)).length } := by
      refine ⟨Yok, rfl, I2.bare, Un.kept old, ⟨_, hns₁, fun i x v e1 e2 _ => ?_⟩, fun x c e => ?_, ?_, fun x c e => I2.freeC x c (h1 x c e), (fun p hp => nomatch hp), I2.hok.kept old, by rw [List.length_map]; rfl⟩
      · rw [List.getElem?_map] at e2
        cases q : N[i]? with
        | none => rw [q] at e2; cases e2
        | some o => rw [q] at e2; cases e2
      · obtain ⟨v, o, q, d⟩ := I2.cell x c (h1 x c e)
        exact ⟨v, o, old _ _ q, d⟩
      · show H2 C = none
        exact I2.hok.fresh hCle
    exact I3.reset I2 h1 h2 f2 hl him'
  have fpok : ∀ {H3 : Hp} {pp : List (Addr × Obj)}, (∀ b ∈ fp, H3 b = none) → (∀ p ∈ pp, p.1 = D) → ∀ b ∈ fp, FpOk (X.comp N scope cl s2 H2 fp C) pp H3 b := fun {H3 pp} hn hp b hb =>
    ⟨hn b hb, Nat.ne_of_lt (fpC b hb), fun z => Yok.exfs b hb z, .inl hb, fun x c e => (f2 b hb).2.2.2.2.1 x c (h1 x c e), fun p hpp => by
      rcases List.mem_append.mp hpp with z | z
      · exact nomatch z
      · rw [hp p z]; exact Ne.symm (fpD b hb)⟩
  have hH2D : H2 D = none := I2.hok.fresh (by rw [hDD]; exact Nat.le_refl _)
  have loop : ∀ s3 : Shared, s3 = { s2 with heap := h₁, toks := s2.toks + ([] : List (Str × Value)).length } →
      codeAny (model X.prog X.w) X.A (.compLoop (.ListComp elt [⟨tg, iter, ifs, 0⟩] scope pos) 0 (.ref it) (.ref D) (compEnvC scope cl C X.env))
        (compPost (model X.prog X.w) X.A X.xe use QQ (.ref D) C) s3 := by
    rintro s3 rfl
    refine compLoop_go (fun k s' => ∃ i ys its n σ' H', Inv (X.comp N scope cl s2 H2 fp C) [] σ' H' s' ∧ tn i s'.heap ∧ (∀ b ∈ fp, H' b = none) ∧ H' D = none ∧ s'.heap.get? D = some { cls := .type "list", data := .seq its n } ∧ Vals ys its.toList ∧ W i k ys H') ?_ m0
      ⟨0, [], _, 0, _, H2, IY0, T.keep _ _ _ st2 (fun b hb o e => old b o e), fun b hb => (f2 b hb).1, hH2D, hacc, .nil, w0⟩
    rintro k s' ⟨i, ys, its, n, σ', H3, I3, st3, fr3, hD3, e3, v3, w3⟩
    have I3' := I3.reset I2 h1 h2 f2 hl him'
    obtain ⟨hsz, alt⟩ := turn i k ys H3 w3
    have hDs : s2.heap.objs.size ≤ D := by rw [hDD]; exact Nat.le_refl _
    have hDfs : D ∉ (X.comp N scope cl s2 H2 fp C).fs := fun z => by
      obtain ⟨_, o, ho, _⟩ := Yok.funs.mem z
      exact absurd (Nat.lt_of_lt_of_le (Heap.lt_size ho) hDs) (Nat.lt_irrefl _)
    have hDc : ∀ x c, cl.lookup x = some c → c ≠ D := fun x c e z => by
      obtain ⟨v, q⟩ := I2.cell x c (h1 x c e)
      exact absurd (Nat.lt_of_lt_of_le q.lt (by rw [z]; exact hDs)) (Nat.lt_irrefl _)
    have I3p : Inv (X.comp N scope cl s2 H2 fp C) [(D, { cls := .type "list", data := .seq its n })] (inner im σ) H3 s' := I3'.pins_of fun p hp => by
      have : p = (D, { cls := .type "list", data := .seq its n }) := by simpa using hp
      subst this
      exact ⟨e3, hD3, hDC, hDfs, fun v z => by cases z⟩
    have onlyD : ∀ p ∈ [((D, { cls := .type "list", data := .seq its n }) : Addr × Obj)], p.1 = D := fun p hp => by
      have : p = (D, { cls := .type "list", data := .seq its n }) := by simpa using hp
      rw [this]
    rcases alt with ⟨stop, q⟩ | ⟨go, step⟩
    · refine thn (T.done (X.comp N scope cl s2 H2 fp C) rfl rfl rfl hc i _ s' _ H3 _ I3p (fpok fr3 onlyD) st3 stop) fun r s4 hh4 => ?_
      obtain ⟨hr, I4⟩ := hh4
      subst hr
      have e4 : s4.heap.get? D = some { cls := .type "list", data := .seq its n } := (I4.pin (D, _) (List.mem_append_right _ (by simp))).1
      obtain ⟨m, hn, _⟩ := I4.loc
      have KK : ∀ h', Heap.SameBut C s4.heap h' → Inv X pins σ (upd H3 D (.lst ys)) { s4 with heap := h' } := fun h' hs' => by
        have keep' : ∀ b o, b ≠ C → s4.heap.get? b = some o → h'.get? b = some o := fun b o hb e => hs'.extBut b o hb e
        have nC : ∀ b o, s2.heap.get? b = some o → b ≠ C := fun b o e => Nat.ne_of_lt (Nat.lt_of_lt_of_le (Heap.lt_size e) hCle)
        have nD : ∀ b o, s2.heap.get? b = some o → b ≠ D := fun b o e => Nat.ne_of_lt (Nat.lt_of_lt_of_le (Heap.lt_size e) hDs)
        have u4 := I4.base
        have un : Un (frs X.stack) fp H2 (upd H3 D (.lst ys)) s2.heap h' := by
          refine ⟨fun b o e nn hb hx => keep' b o (nC b o e) (u4.keep b o e nn hb hx), fun b o e nn hb hx => ?_, fun b o e nn hx => ?_, fun b o e hx => ?_, fun b xs e => ?_, fun b o xs e => ?_, fun b ps e => ?_⟩
          · obtain ⟨sl, z⟩ := u4.slot b o e nn hb hx
            exact ⟨sl, keep' b _ (nC b o e) z⟩
          · rw [upd_ne (nD b o e)]; exact u4.free b o e nn hx
          · obtain ⟨o', z⟩ := u4.there b o e hx
            exact ⟨o', keep' b _ (nC b o e) z⟩
          · rw [upd_ne (ne_of_none (u4.tups b xs e) hD3)]; exact u4.tups b xs e
          · rw [upd_ne (ne_of_none (u4.frzs b o xs e) hD3)]; exact u4.frzs b o xs e
          · obtain ⟨more, z⟩ := u4.tbls b ps e
            exact ⟨more, by rw [upd_ne (ne_of_none z hD3)]; exact z⟩
        have hH3C : H3 C = none := I4.free
        have hok : HOk X.prog X.w (upd H3 D (.lst ys)) h' := fun b o e => by
          by_cases hb : b = D
          · subst hb
            rw [upd_same] at e
            cases e
            refine ⟨hsz, its.toList, n, v3, ?_⟩
            have z := keep' _ _ hDC e4
            simpa using z
          · rw [upd_ne hb] at e
            refine (I4.hok b o e).stay (fun c v hcc z => keep' c v ?_ z) (fun c z => by rw [upd_ne (ne_of_none z hD3)]; exact z) fun c xs z => by rw [upd_ne (ne_of_none z hD3)]; exact z
            rintro rfl
            rcases hcc with z | z
            · rw [← z] at e; rw [hH3C] at e; cases e
            · rw [hH3C] at z; cases z
        refine I2.call' (s' := { s4 with heap := h' }) I4.os un hok I4.bare (fun b hb => ?_)
        obtain ⟨_, g1, _, g2, g3, g4⟩ := f2 b hb
        exact ⟨g2, g1, g3, g4⟩
      have hH3C : H3 C = none := I4.free
      refine fin s4 m C D _ hn KK ?_ ?_ ?_ ?_ ?_ ?_ (q D hD3)
      · rw [upd_ne (Ne.symm hDC)]; exact hH3C
      · exact Ne.symm (Nat.ne_of_lt (Nat.lt_of_lt_of_le I2.lt hCle))
      · exact I2.nofs hCle
      · intro x c e z
        obtain ⟨v, qq⟩ := I2.cell x c e
        exact absurd (Nat.lt_of_lt_of_le qq.lt (by rw [z]; exact hCle)) (Nat.lt_irrefl _)
      · intro p hp z
        have := (I2.pin p hp).1
        exact absurd (Nat.lt_of_lt_of_le (Heap.lt_size this) (by rw [← z]; exact hCle)) (Nat.lt_irrefl _)
      · exact Nat.le_trans I2.sz hCle
    · refine thn (T.item (X.comp N scope cl s2 H2 fp C) rfl rfl rfl hc i _ s' _ H3 _ I3p (fpok fr3 onlyD) st3 go) fun r s4 hh4 => ?_
      obtain ⟨u, hr, hh4⟩ := hh4
      subst hr
      refine thn hh4 fun _ s5 ⟨x, H5, I5, r5, y5, st5, fr5⟩ => ?_
      have I5' := I5.pinned (fpok fr5 onlyD) (T.obj _ _ st5)
      refine thn (hg cl s2 H2 fp C _ s5 _ H5 x u _ I5' r5 (step x H5 y5)) fun _ s6 ⟨σ6, H6, I6, q6⟩ => ?_
      refine thn (ht cl s2 H2 fp C _ s6 σ6 H6 _ I6 q6) fun b s7 ⟨H7, I7, q7⟩ => ?_
      have after : ∀ {s8 : Shared} {σ8 : St} {H8 : Hp}, Inv (X.comp N scope cl s2 H2 fp C) ([(D, { cls := .type "list", data := .seq its n })] ++ pinsAt fp s5.heap) σ8 H8 s8 → tn (i + 1) s8.heap ∧ (∀ b ∈ fp, H8 b = none) ∧ H8 D = none ∧ s8.heap.get? D = some { cls := .type "list", data := .seq its n } := fun {s8 σ8 H8} I8 => by
        refine ⟨T.keep _ _ _ st5 fun b hb o e => (I8.pin (b, o) (List.mem_append_right _ (List.mem_append_right _ (mem_pinsAt hb e)))).1, fun b hb => ?_, ?_⟩
        · obtain ⟨o, e, d⟩ := T.obj _ _ st5 b hb
          exact (I8.pin (b, o) (List.mem_append_right _ (List.mem_append_right _ (mem_pinsAt hb e)))).2.1
        · have z := I8.pin (D, { cls := .type "list", data := .seq its n }) (List.mem_append_right _ (List.mem_append_left _ (by simp)))
          exact ⟨z.2.1, z.1⟩
      cases b with
      | false =>
        rw [if_neg Bool.false_ne_true] at q7 ⊢
        obtain ⟨m', hm, w7⟩ := q7
        obtain ⟨a1, a2, a3, a4⟩ := after I7
        exact ⟨m', hm, i + 1, ys, its, n, σ6, H7, I7.pins_of (fun p hp => nomatch hp), a1, a2, a3, a4, v3, w7⟩
      | true =>
        rw [if_pos rfl] at q7 ⊢
        refine thn (he cl s2 H2 fp C _ s7 σ6 H7 _ I7 q7) fun u8 s8 ⟨y8, H8, I8, r8, m', hm, w8⟩ => ?_
        obtain ⟨a1, a2, a3, a4⟩ := after I8
        have hlen : its.size ≤ sizeLine := by
          have z := v3.length
          have el : its.toList.length = its.size := by simp
          omega
        refine append_at (hsz := hlen) a4 fun h9 hs9 e9 => ?_
        have I9 : Inv (X.comp N scope cl s2 H2 fp C) [] σ6 H8 { s8 with heap := h9, toks := s8.toks } :=
          Inv.turned (I8.pins_of (pins' := []) (fun p hp => nomatch hp)) (fun b o hb e => hs9.extBut b o hb e) a3 hDC (.inr hDs) hDc (fun p hp => by
            rcases List.mem_append.mp hp with z | z <;> exact nomatch z)
        refine ⟨m', hm, i + 1, ys ++ [y8], its.push u8, n + 1, σ6, H8, I9, T.keep _ _ _ a1 (fun b hb o e => hs9.extBut b o (fpD b hb) e), a2, a3, e9, ?_, w8⟩
        rw [Array.toList_push]
        exact Vals.append v3 (.cons r8 .nil)
  exact codeAny_compStart_list (loop _ rfl) (T.self _ 0 _ _ _ (T.keep _ _ _ st2 (fun b hb o e => old b o e)) (loop _ rfl))
theorem pe_comp {elt tg iter : Expr} {ifs : List Expr} {scope : Scope} {pos : Pos} {wi : TI} {g : TG} {tc : TT} {te : TE} (N : List Str) (im : List (Option Nat))
    (hi : PI X tg iter wi)
    (hg : ∀ cl s H fp C, PG (X.comp N scope cl s H fp C) tg g)
    (ht : ∀ cl s H fp C, PTs (X.comp N scope cl s H fp C) ifs tc)
    (he : ∀ cl s H fp C, PE (X.comp N scope cl s H fp C) elt te)
    (hc : X.calm = true := by rfl) (hkind : scope.kind = .function := by rfl) (hcell : ∀ y ∈ scope.names, y.2 ≠ .cell := by decide +kernel)
    (hnames : ∀ y ∈ scope.names, y.2 = .local → scope.names.lookup y.1 = some .local := by decide +kernel)
    (hfree : (scope.names.all fun y => y.2 != .free || (X.env.kindOf y.1 == some .cell || X.env.kindOf y.1 == some .free)) = true := by rfl)
    (hl : N.length = im.length := by rfl)
    (him : ((N.zip im).all fun p => match p.2 with
      | none => true
      | some j => X.N[j]? == some p.1 && scope.names.lookup p.1 == some .free) = true := by rfl)
    (hs : ∀ x, foldedSetIterable iter X.env x = pure x := by intro _; rfl) :
    PE X (.ListComp elt [⟨tg, iter, ifs, 0⟩] scope pos) (tComp im wi g tc te) := by
  intro pins s σ H Q I h
  rw [eval_ListComp]
  exact comp_core N im hi hg ht he hc hkind hcell hnames hfree hl him hs I h fun s4 m C D H4 hn KK _ _ _ _ _ _ q => ⟨m, hn, fun h' hs' => ⟨.ref D, H4, KK h' hs', rfl, q⟩⟩
/-- x = [..], a name of the def's own: the value is stored while the block still stands -/
theorem ps_setC {i : Nat} {y : Str} {elt tg iter : Expr} {ifs : List Expr} {scope : Scope} {pos pos' spos : Pos} {wi : TI} {g : TG} {tc : TT} {te : TE} (hN : X.N.Nodup) (hy : X.N[i]? = some y) (hx : Loc X.env.scope y) (N : List Str) (im : List (Option Nat))
    (hi : PI X tg iter wi)
    (hg : ∀ cl s H fp C, PG (X.comp N scope cl s H fp C) tg g)
    (ht : ∀ cl s H fp C, PTs (X.comp N scope cl s H fp C) ifs tc)
    (he : ∀ cl s H fp C, PE (X.comp N scope cl s H fp C) elt te)
    (hc : X.calm = true := by rfl) (hkind : scope.kind = .function := by rfl) (hcell : ∀ y ∈ scope.names, y.2 ≠ .cell := by decide +kernel)
    (hnames : ∀ y ∈ scope.names, y.2 = .local → scope.names.lookup y.1 = some .local := by decide +kernel)
    (hfree : (scope.names.all fun y => y.2 != .free || (X.env.kindOf y.1 == some .cell || X.env.kindOf y.1 == some .free)) = true := by rfl)
    (hl : N.length = im.length := by rfl)
    (him : ((N.zip im).all fun p => match p.2 with
      | none => true
      | some j => X.N[j]? == some p.1 && scope.names.lookup p.1 == some .free) = true := by rfl)
    (hs : ∀ x, foldedSetIterable iter X.env x = pure x := by intro _; rfl)
    (hsw : swapsWith (.ListComp elt [⟨tg, iter, ifs, 0⟩] scope pos) (some (.Name y pos')) spos.line X.env = pure true := by rfl) (hf : X.fn y = true ∨ X.env.scope.names.lookup y = some .local := by first | exact .inl rfl | exact .inr rfl | assumption) :
    PS X (.Assign [.Name y pos'] (.ListComp elt [⟨tg, iter, ifs, 0⟩] scope pos) spos) (tAsg (tComp im wi g tc te) (gName i)) := by
  intro pins s σ H D0 I h
  rw [exec_Assign_Name_used _ _ _ _ hsw]
  refine wpAny_bind (wpAny_standAt (wpAny_bind ?_))
  show wpAny _ X.A (do let _ ← comprehension (.ListComp elt [⟨tg, iter, ifs, 0⟩] scope pos) scope X.env _ (newList []) false (eval iter X.env) (some (assign (.Name y pos') X.env))) _ _ s
  refine wpAny_bind (wpAny_mono (comp_core (use := some (assign (.Name y pos') X.env)) (QQ := fun _ s' => SP X pins D0 .next s') N im hi hg ht he hc hkind hcell hnames hfree hl him hs I h ?_) (fun _ s' hq => wpAny_pure (wpAny_pure hq)) fun _ _ e => e)
  intro s4 m C D H4 hn KK hC1 hC2 hC3 hC4 hC5 hC6 q
  have I4 : Inv X pins σ H4 s4 := KK s4.heap (Heap.SameBut.refl _ _)
  obtain ⟨o, es, ep, ho, ro⟩ := id hn
  have I5 : Inv X ((C, o) :: pins) σ H4 s4 := I4.pins_of fun p hp => by
    rcases List.mem_cons.mp hp with z | z
    · subst z
      exact ⟨ho, hC1, hC2, hC3, fun v z => by rw [ro.1] at z; cases z⟩
    · exact I4.pin p (List.mem_append_right _ z)
  show wpAny _ X.A (assign (.Name y pos') X.env (.ref D)) _ _ _
  refine wpAny_assign_Name (store_ok I5 hN hy hx (show RelV (.ref D) (.ref D) from rfl) (fun s6 I6 => ?_) hf)
  have p6 := (I6.pin (C, o) (List.mem_append_right _ List.mem_cons_self)).1
  refine ⟨m, hn.at' fun o' e' => ?_, fun h' hs' => ?_⟩
  · rw [ho] at e'; cases e'; exact p6
  · have I7 : Inv X pins _ H4 s6 := I6.pins_of fun p hp => I6.pin p (List.mem_append_right _ (List.mem_cons_of_mem _ hp))
    exact ⟨_, H4, I7.turned (t' := s6.toks) (it := C) (fun b o hb e => hs'.extBut b o hb e) hC1 hC2 (.inr hC6) hC4 (fun p hp => Ne.symm (hC5 p hp)), q⟩
end
end L2

set_option Elab.async false
set_option linter.all false
set_option maxRecDepth 100000
set_option maxHeartbeats 4000000
namespace L2
open PySem PySem.Spec PyProof.Rows
section
variable {X : Cx}
/-! ### texts -/
def rSlS : V → Option Int → Option Int → Hp → VK → Prop := fun x lo hi H Q => ∃ z, x = .str z ∧ z.length ≤ sizeLine ∧ Q (.str (Txt.slice z lo hi)) H
theorem sl_str : SlR X rSlS := by
  intro pins s σ H x v vl vu lo hi sl Q I rx hs pl pu h
  obtain ⟨z, rfl, hz, q⟩ := h
  obtain ⟨t, rfl⟩ := rx
  refine ⟨"str", _, F.slot_str_getitem.lookup, typeIs_str _ _ _, ?_⟩
  have go : ∀ (l u : Option (Int × Tok)), vl = partValue l → vu = partValue u → l.map (·.1) = lo → u.map (·.1) = hi → wpAny (model X.prog X.w) X.A (getItem (.str z t) (.ref sl)) (EP X pins σ Q) X.xe s := by
    intro l u e1 e2 e3 e4
    subst e1 e2 e3 e4
    refine wpAny_getItem_str_slice (l := l) (u := u) (st := none) hs rfl ?_
    unfold sliceMade
    have q' : Q (.str (Txt.slice z (l.map (·.1)) (u.map (·.1)))) H := q
    unfold Txt.slice at q'
    have hlen : ((PySem.slicePicked z l u none).filterMap (z.cps[·]?)).toArray.size ≤ z.length := by
      rw [List.size_toArray]
      refine Nat.le_trans (List.length_filterMap_le _ _) ?_
      exact sliceIndices_le _ _ _
    show Made.post (if ((1 : Int) == 1 && (PySem.slicePicked z l u none).length == z.length) = true then _ else _) _ s
    unfold PySem.slicePicked at hlen ⊢
    simp only [Option.map_none, Option.getD_none] at hlen ⊢
    split
    · rename_i hc
      rw [if_pos hc] at q'
      exact ⟨.str _, H, I, ⟨_, rfl⟩, q'⟩
    · rename_i hc
      rw [if_neg hc] at q'
      exact ⟨Nat.le_trans hlen hz, .str _, H, I.tok _, ⟨_, rfl⟩, q'⟩
  cases pl with
  | none => cases pu with
    | none => exact go none none rfl rfl rfl rfl
    | int j t' => exact go none (some (j, t')) rfl rfl rfl rfl
  | int i t0 => cases pu with
    | none => exact go (some (i, t0)) none rfl rfl rfl rfl
    | int j t' => exact go (some (i, t0)) (some (j, t')) rfl rfl rfl rfl
/-! ### isinstance -/
theorem call_isinst : CallR X (.builtin "isinstance") (fun xs H Q => ∃ x t c b, xs = [x, .ty c] ∧ TyOf X.K H x t ∧ PySem.W.kitOne X.K t (.type c) = some b ∧ Q (.bl b) H) := by
  intro pins s σ H xs us Q I r h
  obtain ⟨x, t, c, b, rfl, ty, e, q⟩ := h
  obtain ⟨u, w', rfl, ru, rw'⟩ := vals2 r
  cases rw'
  exact isinst_ok I ru ty e fun tk => ⟨.bl b, H, I.tok _, rfl, q⟩
theorem isinst_tup {pins : List (Addr × Obj)} {σ : St} {H : Hp} {s : Shared} {A : Around} {E : Value → Shared → Prop} {Q : Value → Shared → Prop} {b : Bool} {x : V} {u t : Value} {tp : Addr} {its : List Value} {dd : Option Addr} {n : Nat} {sl : Array (Option Value)} (I : Inv X pins σ H s) (rx : RelV x u) (ty : TyOf X.K H x t)
    (htp : s.heap.get? tp = some ⟨.type "tuple", dd, .seq its.toArray n, sl⟩) (e : PySem.W.kitAny X.K t its = some b) (h : ∀ tk, Q (.bool b) { s with toks := tk }) :
    wpAny (model X.prog X.w) A (call (.builtin "isinstance") [u, .ref tp]) Q E s := by
  cases ty with
  | non => cases (show u = Value.none from rx); exact PySem.W.kia_tup PySem.W.kitx_none I.kIn True.intro htp e (fun z => nomatch z) h
  | bl y => cases (show u = Value.bool y from rx); exact PySem.W.kia_tup PySem.W.kitx_bool I.kIn True.intro htp e (fun z => nomatch z) h
  | int i => obtain ⟨t, q⟩ := (show ∃ t, u = Value.int i t from rx); cases q; exact PySem.W.kia_tup PySem.W.kitx_int I.kIn True.intro htp e (fun z => nomatch z) h
  | str y => obtain ⟨t, q⟩ := (show ∃ t, u = Value.str y t from rx); cases q; exact PySem.W.kia_tup PySem.W.kitx_str I.kIn True.intro htp e (fun z => nomatch z) h
  | flt y => obtain ⟨t, q⟩ := (show ∃ t, u = Value.float y t from rx); cases q; exact PySem.W.kia_tup PySem.W.kitx_float I.kIn True.intro htp e (fun z => nomatch z) h
  | @lst a xs ea =>
    cases (show u = Value.ref a from rx)
    obtain ⟨_, _, n, _, h1⟩ := (show ObjOk X.prog X.w H s.heap a (.lst xs) from I.hok a _ ea)
    exact PySem.W.kia_tup PySem.W.kitx_list I.kIn ⟨_, h1, rfl⟩ htp e (fun z => nomatch z) h
  | @frz a ob xs ea =>
    cases (show u = Value.ref a from rx)
    obtain ⟨_, _, _, n, _, h1⟩ := (show ObjOk X.prog X.w H s.heap a (.frz ob (.lst xs)) from I.hok a _ ea)
    exact PySem.W.kia_tup PySem.W.kitx_list I.kIn ⟨_, h1, rfl⟩ htp e (fun z => nomatch z) h
  | @tup a xs ea =>
    cases (show u = Value.ref a from rx)
    obtain ⟨_, _, _, p⟩ := (show ObjOk X.prog X.w H s.heap a (.tup xs) from I.hok a _ ea)
    obtain ⟨o, h1, h2, _⟩ := p
    exact PySem.W.kia_tup PySem.W.kitx_tuple I.kIn ⟨o, h1, h2⟩ htp e (fun z => nomatch z) h
  | @dK a kvs ea =>
    cases (show u = Value.ref a from rx)
    obtain ⟨_, _, vs, _, p⟩ := (show ObjOk X.prog X.w H s.heap a (.dK kvs) from I.hok a _ ea)
    obtain ⟨o, es, ep, h1, h2, _⟩ := p
    exact PySem.W.kia_tup PySem.W.kitx_dict I.kIn ⟨o, h1, h2.1⟩ htp e (fun z => nomatch z) h
  | @dT a kvs ea =>
    cases (show u = Value.ref a from rx)
    obtain ⟨_, _, xs, _, o, es, ep, h1, h2, _⟩ := (show ObjOk X.prog X.w H s.heap a (.dT kvs) from I.hok a _ ea)
    exact PySem.W.kia_tup PySem.W.kitx_dict I.kIn ⟨o, h1, h2.1⟩ htp e (fun z => nomatch z) h
  | @ins a C dx fs ea cl ha hn htk hm =>
    cases (show u = Value.ref a from rx)
    obtain ⟨mA, O, _⟩ := ins_get I.hok ea
    obtain ⟨od, J, _⟩ := O.look
    exact PySem.W.kia_tup (PySem.W.kitx_own (cl.get _) cl.hd ha hn htk hm) I.kIn J htp e (fun z => nomatch z) h
theorem tys_of : ∀ {cs : List String} {us : List Value}, Vals (cs.map V.ty) us → us = cs.map Value.type
  | [], _, r => by cases r; rfl
  | c :: cs, _, r => by
    cases r with
    | cons r1 r2 => cases r1; rw [tys_of r2]; rfl
theorem call_isinstT : CallR X (.builtin "isinstance") (fun xs H Q => ∃ (x : V) (t : Value) (tp : Addr) (cs : List String) (b : Bool), xs = [x, .ref tp] ∧ H tp = some (.tup (cs.map V.ty)) ∧ TyOf X.K H x t ∧ PySem.W.kitAny X.K t (cs.map Value.type) = some b ∧ Q (.bl b) H) := by
  intro pins s σ H xs us Q I r h
  obtain ⟨x, t, tp, cs, b, rfl, htp, ty, e, q⟩ := h
  obtain ⟨u, w', rfl, ru, rw'⟩ := vals2 r
  cases rw'
  obtain ⟨_, its, rv, p⟩ := (show ObjOk X.prog X.w H s.heap tp (.tup (cs.map V.ty)) from I.hok tp _ htp)
  have ei := tys_of rv
  subst ei
  obtain ⟨o, h1, h2, n, h3⟩ := p
  obtain ⟨oc, od, dt, sl⟩ := o
  have h2' : oc = .type "tuple" := h2
  have h3' : dt = .seq (cs.map Value.type).toArray n := h3
  subst h2' h3'
  exact isinst_tup I ru ty h1 e fun tk => ⟨.bl b, H, I.tok _, rfl, q⟩
/-! ### // by a larger number -/
def CDivB (i j : Int) : Prop := 0 < j ∧ j < 2 ^ 200
theorem op_fdivB : OpR X (binaryOp .FloorDiv) (rI CDivB fun i j => .int (i / j)) := opI fun i j _ _ _ _ _ hc q => by
  obtain ⟨h1, h2⟩ := hc
  rw [← Int.fdiv_eq_ediv_of_nonneg i (by omega)] at q
  refine floordiv_int (by omega) q (.inl (PyProof.noPylong_of_log2 ?_))
  have hj : j.natAbs ≠ 0 := by omega
  rw [Nat.log2_lt hj]
  have h3 : (j.natAbs : Int) < 2 ^ 200 := by omega
  have h4 : j.natAbs < 2 ^ 200 := by exact_mod_cast h3
  exact Nat.lt_of_lt_of_le h4 (Nat.pow_le_pow_right (by decide) (by decide))

/-! ### join, split -/
theorem strs_are : ∀ {ys : List Str} {us : List Value}, Vals (ys.map V.str) us → StrsAre us ys
  | [], _, r => by cases r; exact .nil
  | y :: ys, _, r => by
    cases r with
    | cons r1 r2 => obtain ⟨t, e⟩ := r1; subst e; exact .cons y t (strs_are r2)
def rJoin (K : PySem.W.Frag) : V → List V → Hp → VK → Prop := fun x vs H Q => ∃ z p ys, x = .str z ∧ vs = [.ref p] ∧ SqL K H p (ys.map V.str) ∧ (ys.map (·.length)).sum + ys.length * z.length ≤ 16777216 ∧ Q (.str (Txt.join z ys)) H
theorem mt_join : MtR X "str.join" (rJoin X.K) := by
  intro pins s σ H x xs v us Q I rx rs h
  obtain ⟨z, p, ys, rfl, rfl, hl, hz, q⟩ := h
  obtain ⟨t, rfl⟩ := rx
  obtain ⟨u, rfl, ru⟩ := vals1 rs
  cases ru
  obtain ⟨its, rv, pl, _⟩ := I.list hl
  exact join_list pl.isList (by simpa using strs_are rv) hz fun t' k => ⟨.str _, H, I.tok _, ⟨_, rfl⟩, q⟩
theorem vals_strs : ∀ (l : List (Str × Tok)), Vals ((l.map (·.1)).map V.str) (strValues l)
  | [] => .nil
  | (x, t) :: r => .cons ⟨t, rfl⟩ (vals_strs r)
def rSplit : V → List V → Hp → VK → Prop := fun x vs H Q => ∃ z y, x = .str z ∧ vs = [.str y] ∧ (y.length == 0) = false ∧ z.length ≤ sizeLine ∧ (Builtin.Str.partsBetween z (Builtin.Str.occurrences z y 0 z.length (z.length + 1)) y.length).length ≤ sizeLine ∧ (Txt.split z y).length ≤ sizeLine ∧
  ∀ p, H p = none → Q (.ref p) (upd H p (.lst ((Txt.split z y).map V.str)))
theorem mt_split : MtR X "str.split" rSplit := by
  intro pins s σ H x xs v us Q I rx rs h
  obtain ⟨z, y, rfl, rfl, h0, hz, hz2, hz3, q⟩ := h
  obtain ⟨t, rfl⟩ := rx
  obtain ⟨u, rfl, ⟨t', rfl⟩⟩ := vals1 rs
  have fin : ∀ (l : List (Str × Tok)) (tk : Nat) (n : Nat), l.map (·.1) = Txt.split z y → EP X pins σ Q (.ref s.heap.objs.size) { s with toks := tk, heap := s.heap.push { cls := .type "list", data := .seq (strValues l).toArray n } } := fun l tk n e => by
    refine ⟨.ref s.heap.objs.size, _, I.laid (t' := tk) (o := .lst ((Txt.split z y).map V.str)) (fun b ob q => Heap.get?_push_of_some _ q) (Nat.le_refl _) ?_, rfl, q _ (I.hok.fresh (Nat.le_refl _))⟩
    refine ⟨by rw [List.length_map]; exact hz3, strValues l, n, ?_, Heap.get?_push_size _ rfl⟩
    rw [← e]; exact vals_strs l
  cases h1 : (decide (z.length < y.length) || decide (Builtin.Str.strKind z < Builtin.Str.strKind y))
  · cases hf : (Builtin.Str.occurrences z y 0 z.length (z.length + 1)).isEmpty
    · refine call_meets F.slot_str_split (typeIs_str _ _ _) F.entry_str_split (F.args_str_split_2 _ _) (meets_str_split_sep z y t t' h1 h0 hf hz hz2) ?_
      show wants _ X.xe _ { s with toks := _, heap := s.heap.push { cls := .type "list", data := .seq (strsFrom s.toks (Builtin.Str.partsBetween z (Builtin.Str.occurrences z y 0 z.length (z.length + 1)) y.length)).toArray } }
      rw [strsFrom_eq]
      exact fin (numbered s.toks _) _ _ ((numbered_texts _ _).trans ((if_neg (ne_true_of_eq_false h1)).trans (if_neg (ne_true_of_eq_false hf))).symm)
    · exact call_meets F.slot_str_split (typeIs_str _ _ _) F.entry_str_split (F.args_str_split_2 _ _) (meets_str_split_not_found z y t t' h1 h0 hf)
        (fin [(z, t)] s.toks _ ((if_neg (ne_true_of_eq_false h1)).trans (if_pos hf)).symm)
  · exact call_meets F.slot_str_split (typeIs_str _ _ _) F.entry_str_split (F.args_str_split_2 _ _) (meets_str_split_cannot_occur z y t t' h1)
      (fin [(z, t)] s.toks _ (if_pos h1).symm)
/-! ### all, of a list of bools -/
end

/-! ### signs of a text, one by one -/
section
variable {X : Cx} {tg : Expr}
def Its (z : Str) : It := ⟨fun i _ => i < z.cps.size, fun i H x H' => H' = H ∧ ∃ c, z.cps[i]? = some c ∧ x = .str ⟨#[c]⟩, fun i _ => z.cps.size = i⟩
theorem turn_strA {P : Program} {w : World} {K : PySem.W.Frag} (it : Addr) (z : Str) (t : Tok) : Turn P w K tg (Its z) [it] it (fun i h => h.IsStrIter it "str_ascii_iterator" z t i) where
  mem := by simp
  obj := fun i h st b hb => by
    have e : b = it := by simpa using hb
    subst e
    obtain ⟨o, e, c, d⟩ := st
    exact ⟨o, e, fun v z => by rw [d] at z; cases z⟩
  keep := fun i h h' st k => by
    obtain ⟨o, e, r⟩ := st
    exact ⟨o, k it (by simp) o e, r⟩
  item := by
    intro X hP hw hK hc i pins s σ H E I hf st hg
    subst hP hw hK
    have hg' : i < z.cps.size := hg
    obtain ⟨f0, f1, f2, f3, f4, f5⟩ := hf it (by simp)
    refine wpAny_pyNext_ascii_item st (c := z.cps[i]) (by simp [hg']) fun h' st' sb => ?_
    have I1 : Inv X pins σ H { s with heap := h', toks := s.toks + 1 } := I.turned (fun b o hb e => (sb.2 b hb).trans e) f0 f1 f3 f4 f5
    obtain ⟨o, e, c, d⟩ := id st'
    exact ⟨_, rfl, go_of (s := { s with heap := h', toks := s.toks + 1 }) e c d (by decide) ⟨.str ⟨#[z.cps[i]]⟩, H, I1, ⟨_, rfl⟩, ⟨rfl, z.cps[i], by simp [hg'], rfl⟩, st', fun b hb => (hf b hb).1⟩⟩
  done := by
    intro X hP hw hK hc i pins s σ H E I hf st hg
    subst hP hw hK
    have hg' : z.cps.size = i := hg
    obtain ⟨f0, f1, f2, f3, f4, f5⟩ := hf it (by simp)
    exact wpAny_pyNext_ascii_end (I.ok.hd hc) st (by simp; omega) fun h' eb => ⟨rfl, I.turned (t' := s.toks) (fun b o hb e => eb b o hb e) f0 f1 f3 f4 f5⟩
  self := fun _ _ _ _ _ st h => wpAny_pyIter_striter_ascii st h
theorem turn_strW {P : Program} {w : World} {K : PySem.W.Frag} (it : Addr) (z : Str) (t : Tok) : Turn P w K tg (Its z) [it] it (fun i h => h.IsStrIter it "str_iterator" z t i) where
  mem := by simp
  obj := fun i h st b hb => by
    have e : b = it := by simpa using hb
    subst e
    obtain ⟨o, e, c, d⟩ := st
    exact ⟨o, e, fun v z => by rw [d] at z; cases z⟩
  keep := fun i h h' st k => by
    obtain ⟨o, e, r⟩ := st
    exact ⟨o, k it (by simp) o e, r⟩
  item := by
    intro X hP hw hK hc i pins s σ H E I hf st hg
    subst hP hw hK
    have hg' : i < z.cps.size := hg
    obtain ⟨f0, f1, f2, f3, f4, f5⟩ := hf it (by simp)
    refine wpAny_pyNext_wide_item st (c := z.cps[i]) (by simp [hg']) fun h' st' sb => ?_
    have I1 : Inv X pins σ H { s with heap := h', toks := s.toks + 1 } := I.turned (fun b o hb e => (sb.2 b hb).trans e) f0 f1 f3 f4 f5
    obtain ⟨o, e, c, d⟩ := id st'
    exact ⟨_, rfl, go_of (s := { s with heap := h', toks := s.toks + 1 }) e c d (by decide) ⟨.str ⟨#[z.cps[i]]⟩, H, I1, ⟨_, rfl⟩, ⟨rfl, z.cps[i], by simp [hg'], rfl⟩, st', fun b hb => (hf b hb).1⟩⟩
  done := by
    intro X hP hw hK hc i pins s σ H E I hf st hg
    subst hP hw hK
    have hg' : z.cps.size = i := hg
    obtain ⟨f0, f1, f2, f3, f4, f5⟩ := hf it (by simp)
    exact wpAny_pyNext_wide_end (I.ok.hd hc) st (by simp; omega) fun h' eb => ⟨rfl, I.turned (t' := s.toks) (fun b o hb e => eb b o hb e) f0 f1 f3 f4 f5⟩
  self := fun _ _ _ _ _ st h => wpAny_pyIter_striter_wide st h
def iStr (tl : TE) : TI := fun σ H R => tl σ H fun x H1 => ∃ z, x = .str z ∧ R (Its z) H1
theorem pi_str {l : Expr} {tl : TE} (hl : PE X l tl) : PI X tg l (iStr tl) := by
  intro pins s σ H R I h
  refine thn (hl pins s σ H _ I h) fun v s1 ⟨x, H1, I1, r1, q1⟩ => ?_
  obtain ⟨z, e, q⟩ := q1
  subst e
  obtain ⟨t, rfl⟩ := r1
  have fp : ∀ b ∈ [s1.heap.objs.size], FpOk X pins H1 b := fun b hb => by
    have e : b = s1.heap.objs.size := by simpa using hb
    subst e
    exact I1.fpOk (Nat.le_refl _) (I1.hok.fresh (Nat.le_refl _))
  cases ha : z.cps.all (· < 128)
  · exact wpAny_pyIter_wide ha ⟨s1.heap.objs.size, [s1.heap.objs.size], _, Its z, H1, rfl, I1.kept (t' := s1.toks) fun b o e => Heap.get?_push_of_some _ e, turn_strW _ z t, ⟨_, Heap.get?_push_size _ rfl, rfl, rfl⟩, fp, q⟩
  · exact wpAny_pyIter_ascii ha ⟨s1.heap.objs.size, [s1.heap.objs.size], _, Its z, H1, rfl, I1.kept (t' := s1.toks) fun b o e => Heap.get?_push_of_some _ e, turn_strA _ z t, ⟨_, Heap.get?_push_size _ rfl, rfl, rfl⟩, fp, q⟩
/-! ### two lists beside one another -/
def Itz (K : PySem.W.Frag) (a b : Addr) : It :=
  ⟨fun i H => ∃ xs ys x y, SqL K H a xs ∧ SqL K H b ys ∧ xs[i]? = some x ∧ ys[i]? = some y,
   fun i H u H' => ∃ T, u = .ref T ∧ H T = none ∧ (∀ xs ys, SqL K H a xs → SqL K H b ys → ∃ x y, xs[i]? = some x ∧ ys[i]? = some y ∧ H' = upd H T (.tup [x, y])),
   fun i H => ∃ xs ys, SqL K H a xs ∧ SqL K H b ys ∧ min xs.length ys.length = i⟩
theorem turn_zip {P : Program} {w : World} {K : PySem.W.Frag} {es : List Expr} {k : Nat} {tp : Pos} (z TI TO i1 i2 a b : Addr) (D : ZipApart z TI TO i1 i2 a b) :
    Turn P w K (.Tuple es k tp) (Itz K a b) [z, TI, TO, i1, i2] z (fun i h => IsZip h z TI TO .none ∧ IsPair h TI (.ref i1) (.ref i2) ∧ (∃ x y, IsPair h TO x y) ∧ h.IsListIter i1 a i ∧ h.IsListIter i2 b i) where
  mem := by simp
  obj := fun i h st c hc => by
    obtain ⟨s1, s2, ⟨x, y, s3⟩, ⟨o4, e4, c4, d4⟩, ⟨o5, e5, c5, d5⟩⟩ := st
    simp at hc
    rcases hc with rfl | rfl | rfl | rfl | rfl
    · exact ⟨_, s1, fun v q => by cases q⟩
    · exact ⟨_, s2, fun v q => by cases q⟩
    · exact ⟨_, s3, fun v q => by cases q⟩
    · exact ⟨_, e4, fun v q => by rw [d4] at q; cases q⟩
    · exact ⟨_, e5, fun v q => by rw [d5] at q; cases q⟩
  keep := fun i h h' st kk => by
    obtain ⟨s1, s2, ⟨x, y, s3⟩, s4, s5⟩ := st
    exact ⟨kk z (by simp) _ s1, kk TI (by simp) _ s2, ⟨x, y, kk TO (by simp) _ s3⟩, s4.at fun o e => kk i1 (by simp) o e, s5.at fun o e => kk i2 (by simp) o e⟩
  item := by
    intro X hP hw hK hc i pins s σ H E I hf st hg
    subst hP hw hK
    obtain ⟨xs, ys, x, y, h1, h2, hx, hy⟩ := hg
    obtain ⟨its1, rv1, p1, _⟩ := I.list h1
    obtain ⟨its2, rv2, p2, _⟩ := I.list h2
    have W := WalksT.zip2 (prog := X.prog) (w := X.w) (I.ok.hd hc) z TI TO i1 i2 a b D its1.toArray its2.toArray
    have l1 : i < its1.length := by rw [← rv1.length]; exact (List.getElem?_eq_some_iff.mp hx).1
    have l2 : i < its2.length := by rw [← rv2.length]; exact (List.getElem?_eq_some_iff.mp hy).1
    obtain ⟨s1, s2, s3, s4, s5⟩ := st
    refine W.item i s _ _ (by simp; omega) ⟨s1, s2, s3, s4, s5, p1.isList, p2.isList⟩ fun T vals h' tk hP hT hTup hMid kk => ?_
    refine ⟨_, rfl, W.go es k tp i T _ _ _ hMid fun h'' st'' kk2 => ?_⟩
    obtain ⟨u1, u2, hu1, hu2, rfl⟩ := hP
    obtain ⟨w1, hw1, r1⟩ := rv1.get hx
    obtain ⟨w2, hw2, r2⟩ := rv2.get hy
    have e1 : u1 = w1 := by have : its1[i]? = some u1 := by simpa using hu1
                            rw [hw1] at this; exact (Option.some.inj this).symm
    have e2 : u2 = w2 := by have : its2[i]? = some u2 := by simpa using hu2
                            rw [hw2] at this; exact (Option.some.inj this).symm
    subst e1 e2
    have hTn : H T = none := I.hok.fresh hT
    have Twr : T ∉ [z, TO, i1, i2] := W.apart i T _ hMid
    have keep2 : ∀ c o, c ∉ [z, TO, i1, i2] → s.heap.get? c = some o → h''.get? c = some o := fun c o hc e => kk2 c o hc (kk c o hc e)
    have frOf : ∀ c ∈ [z, TO, i1, i2], c ∈ [z, TI, TO, i1, i2] := fun c hc => by simp at hc ⊢; rcases hc with rfl | rfl | rfl | rfl <;> simp
    have nwr : ∀ c u, H c = some u → c ∉ [z, TO, i1, i2] := fun c u e hc => by rw [(hf c (frOf c hc)).1] at e; cases e
    have hTup2 : IsTup h'' T #[u1, u2] := by
      obtain ⟨o, e, r⟩ := hTup
      exact ⟨o, kk2 T o Twr e, r⟩
    have I2 : Inv X pins σ (upd H T (.tup [x, y])) { s with heap := h'', toks := tk } := by
      refine I.step (g' := s.gens) (d' := s.drawn) (ch := [z, TO, i1, i2]) (fun c hc => ?_) (fun c o _ _ hc e _ => keep2 c o hc e) (fun c o _ _ hc e _ => ⟨o.slots, keep2 c o hc e⟩) (fun c o hc e n => ?_) (fun c o hc e => ⟨o, keep2 c o hc e⟩)
        (fun c xs e => ?_) (fun c o xs e => ?_) (fun c ps e => ⟨#[], ?_⟩) (fun m hm => ?_) ?_ I.bare
      · obtain ⟨g0, g1, g2, g3, g4, g5⟩ := hf c (frOf c hc)
        exact ⟨g3, g1, g4, g5⟩
      · rw [upd_ne (Nat.ne_of_lt (Nat.lt_of_lt_of_le (Heap.lt_size e) hT))]; exact n
      · rw [upd_ne (ne_of_none e hTn)]; exact e
      · rw [upd_ne (ne_of_none e hTn)]; exact e
      · rw [upd_ne (ne_of_none e hTn), e]; simp
      · obtain ⟨o, es, ep, ho, r⟩ := hm
        refine ⟨o, es, ep, keep2 _ o (fun hc => ?_) ho, r⟩
        exact (hf _ (frOf _ hc)).2.1 rfl
      · intro c u e
        by_cases hcT : c = T
        · subst hcT
          rw [upd_same] at e
          cases e
          exact ⟨by show 2 ≤ sizeLine; rw [sizeLine_eq]; decide, [u1, u2], .cons r1 (.cons r2 .nil), hTup2⟩
        · rw [upd_ne hcT] at e
          refine (I.hok c u e).stay (fun d v hd q => keep2 d v ?_ q) (fun d q => by rw [upd_ne (ne_of_none q hTn)]; exact q) fun d xs q => by rw [upd_ne (ne_of_none q hTn)]; exact q
          rcases hd with rfl | hd
          · exact nwr d u e
          · exact nwr d _ hd
    obtain ⟨t1, t2, t3, t4, t5, _⟩ := st''
    refine ⟨.ref T, _, I2, rfl, ⟨T, rfl, hTn, fun xs' ys' h1' h2' => ⟨x, y, ?_, ?_, rfl⟩⟩, ⟨t1, t2, t3, t4, t5⟩, fun c hc => ?_⟩
    · rw [I.list_inj h1' h1]; exact hx
    · rw [I.list_inj h2' h2]; exact hy
    · obtain ⟨o, eo, _⟩ : ∃ o, s.heap.get? c = some o ∧ True := by
        simp at hc
        obtain ⟨x', y', s3⟩ := s3
        rcases hc with rfl | rfl | rfl | rfl | rfl
        · exact ⟨_, s1, trivial⟩
        · exact ⟨_, s2, trivial⟩
        · exact ⟨_, s3, trivial⟩
        · obtain ⟨o, e, _⟩ := s4; exact ⟨o, e, trivial⟩
        · obtain ⟨o, e, _⟩ := s5; exact ⟨o, e, trivial⟩
      rw [upd_ne (Nat.ne_of_lt (Nat.lt_of_lt_of_le (Heap.lt_size eo) hT))]
      exact (hf c hc).1
  done := by
    intro X hP hw hK hc i pins s σ H E I hf st hg
    subst hP hw hK
    obtain ⟨xs, ys, h1, h2, hi⟩ := hg
    obtain ⟨its1, rv1, p1, _⟩ := I.list h1
    obtain ⟨its2, rv2, p2, _⟩ := I.list h2
    have W := WalksT.zip2 (prog := X.prog) (w := X.w) (I.ok.hd hc) z TI TO i1 i2 a b D its1.toArray its2.toArray
    obtain ⟨s1, s2, s3, s4, s5⟩ := st
    have en : min its1.toArray.size its2.toArray.size = i := by
      have := rv1.length
      have := rv2.length
      simp; omega
    refine W.done s _ _ (by rw [en]; exact ⟨s1, s2, s3, s4, s5, p1.isList, p2.isList⟩) fun h' tk kk => ⟨rfl, ?_⟩
    have frOf : ∀ c ∈ [z, TO, i1, i2], c ∈ [z, TI, TO, i1, i2] := fun c hc => by simp at hc ⊢; rcases hc with rfl | rfl | rfl | rfl <;> simp
    have nwr : ∀ c u, H c = some u → c ∉ [z, TO, i1, i2] := fun c u e hc => by rw [(hf c (frOf c hc)).1] at e; cases e
    refine I.step (g' := s.gens) (d' := s.drawn) (ch := [z, TO, i1, i2]) (fun c hc => ?_) (fun c o _ _ hc e _ => kk c o hc e) (fun c o _ _ hc e _ => ⟨o.slots, kk c o hc e⟩) (fun c o hc e n => n) (fun c o hc e => ⟨o, kk c o hc e⟩)
        (fun c xs e => e) (fun c o xs e => e) (fun c ps e => ⟨#[], by rw [e]; simp⟩) (fun m hm => ?_) ?_ I.bare
    · obtain ⟨g0, g1, g2, g3, g4, g5⟩ := hf c (frOf c hc)
      exact ⟨g3, g1, g4, g5⟩
    · obtain ⟨o, es, ep, ho, r⟩ := hm
      refine ⟨o, es, ep, kk _ o (fun hc => ?_) ho, r⟩
      exact (hf _ (frOf _ hc)).2.1 rfl
    · intro c u e
      refine (I.hok c u e).stay (fun d v hd q => kk d v ?_ q) (fun d q => q) fun d xs q => q
      rcases hd with rfl | hd
      · exact nwr d u e
      · exact nwr d _ hd
  self := fun A i s Q E st h => by
    exact wpAny_pyIter_zip st.1 h
def iZip (K : PySem.W.Frag) (ta : TA) : TI := fun σ H R => ta σ H fun vs H1 => ∃ a b, vs = [.ref a, .ref b] ∧ (∃ xs, SqL K H1 a xs) ∧ (∃ ys, SqL K H1 b ys) ∧ R (Itz K a b) H1
theorem pi_zip {a b : Expr} {ta : TA} {p pos tp : Pos} {es : List Expr} {k : Nat} (hg : Gl X "zip") (hm : X.mg "zip" = none) (ha : PA X [a, b] ta) (hs : starEach [a, b] X.env = [(false, eval a X.env), (false, eval b X.env)] := by rfl) (hs2 : starEach [b] X.env = [(false, eval b X.env)] := by rfl) :
    PI X (.Tuple es k tp) (.Call (.Name "zip" p) [a, b] [] pos) (iZip X.K ta) := by
  intro pins s σ H R I h
  refine Call_ (ld_blt I hg hm boot_zip (PyProof.Rows.callWith_type1 (thn (ha pos pins s σ H _ I h) fun us s1 ⟨vs, H1, I1, r1, q1⟩ => ?_) (by rw [hs, hs2]) (by rw [hs2]; rfl)))
  obtain ⟨a', b', e, ⟨xs, h1⟩, ⟨ys, h2⟩, q⟩ := q1
  subst e
  obtain ⟨u, w', rfl, ru, rw'⟩ := vals2 r1
  cases ru
  cases rw'
  obtain ⟨its1, rv1, p1, _⟩ := I1.list h1
  obtain ⟨its2, rv2, p2, _⟩ := I1.list h2
  have a1 : a' < s1.heap.objs.size := by obtain ⟨_, e, _⟩ := p1.isList; exact Heap.lt_size e
  have a2 : b' < s1.heap.objs.size := by obtain ⟨_, e, _⟩ := p2.isList; exact Heap.lt_size e
  refine call_zip_2 p1.isList p2.isList fun h' hz hTI hTO hi1 hi2 _ hk => ?_
  refine wpAny_pyIter_zip hz ?_
  refine ⟨_, _, _, _, H1, rfl, I1.kept (t' := s1.toks) hk, turn_zip _ _ _ _ _ a' b' (zipApart_new a1 a2), ⟨hz, hTI, ⟨_, _, hTO⟩, hi1, hi2⟩, fun c hc => ?_, q⟩
  have hle : s1.heap.objs.size ≤ c := by
    simp at hc
    rcases hc with rfl | rfl | rfl | rfl | rfl
    · exact Nat.le_add_right _ _
    · exact Nat.le_add_right _ _
    · exact Nat.le_add_right _ _
    · exact Nat.le_refl _
    · exact Nat.le_add_right _ _
  exact I1.fpOk hle (I1.hok.fresh hle)
end
end L2

set_option Elab.async false
set_option linter.all false
set_option maxRecDepth 100000
set_option maxHeartbeats 4000000
namespace L2
open PySem PySem.Spec PyProof.Rows
section
variable {X : Cx}
/-! ### == and != of two lists of flat things -/
def eqLs (xs ys : List V) : Bool := (xs.length == ys.length) && (List.zipWith eqV xs ys).all id
theorem zip_all : ∀ (xs ys : List V), xs.length = ys.length → ((List.range xs.length).all fun j => eqV (xs.getD j .non) (ys.getD j .non)) = (List.zipWith eqV xs ys).all id := by
  intro xs ys h
  rw [Bool.eq_iff_iff, List.all_eq_true, List.all_eq_true]
  constructor
  · intro q b hb
    obtain ⟨i, hi⟩ := List.mem_iff_getElem?.mp hb
    rw [List.getElem?_zipWith] at hi
    cases e1 : xs[i]? with
    | none => rw [e1] at hi; cases hi
    | some x =>
      cases e2 : ys[i]? with
      | none => rw [e1, e2] at hi; cases hi
      | some y =>
        rw [e1, e2] at hi
        have lt := (List.getElem?_eq_some_iff.mp e1).1
        have z := q i (List.mem_range.mpr lt)
        simp only [List.getD_eq_getElem?_getD, e1, e2, Option.getD_some] at z
        have hi' : eqV x y = b := by simpa using hi
        rw [← hi', id, z]
  · intro q i hi
    have lt := List.mem_range.mp hi
    have lt2 : i < ys.length := by omega
    have e1 := List.getElem?_eq_getElem lt
    have e2 := List.getElem?_eq_getElem lt2
    have m : eqV xs[i] ys[i] ∈ List.zipWith eqV xs ys := by
      refine List.mem_iff_getElem?.mpr ⟨i, ?_⟩
      rw [List.getElem?_zipWith, e1, e2]
    have z := q _ m
    simp only [List.getD_eq_getElem?_getD, e1, e2, Option.getD_some]
    simpa using z
def rEqL (K : PySem.W.Frag) (neg : Bool) : R2 := fun x y H Q => ∃ p q xs ys, x = .ref p ∧ y = .ref q ∧ SqL K H p xs ∧ SqL K H q ys ∧ xs.all flatV = true ∧ ys.all flatV = true ∧ Q (.bl (if neg then !eqLs xs ys else eqLs xs ys)) H
theorem op_eqL (hu : X.A.units < cLine) : OpR X (compareOp .Eq) (rEqL X.K false) := by
  intro pins s σ H x y v u Q I rx ry h
  obtain ⟨p, q, xs, ys, rfl, rfl, h1, h2, f1, f2, k⟩ := h
  cases rx
  cases ry
  obtain ⟨its1, r1, p1, _⟩ := I.list h1
  obtain ⟨its2, r2, p2, _⟩ := I.list h2
  by_cases hl : xs.length = ys.length
  · refine SeqAt.eq_listAt (e := fun j => eqV (xs.getD j .non) (ys.getD j .non)) p1.isList p2.isList (by simp only [List.size_toArray]; rw [← r1.length, ← r2.length]; exact hl) hu (fun j j1 j2 => ?_) ⟨.bl _, H, I, rfl, ?_⟩
    · have l1 : j < xs.length := by rw [r1.length]; simpa using j1
      have l2 : j < ys.length := by rw [r2.length]; simpa using j2
      obtain ⟨u1, e1, ru1⟩ := r1.get (List.getElem?_eq_getElem l1)
      obtain ⟨u2, e2, ru2⟩ := r2.get (List.getElem?_eq_getElem l2)
      have a1 : its1.toArray[j] = u1 := by
        have : its1[j]? = some its1.toArray[j] := by simp
        rw [e1] at this; exact (Option.some.inj this).symm
      have a2 : its2.toArray[j] = u2 := by
        have : its2[j]? = some its2.toArray[j] := by simp
        rw [e2] at this; exact (Option.some.inj this).symm
      rw [a1, a2]
      have g1 : xs.getD j .non = xs[j] := by simp [List.getD_eq_getElem?_getD, List.getElem?_eq_getElem l1]
      have g2 : ys.getD j .non = ys[j] := by simp [List.getD_eq_getElem?_getD, List.getElem?_eq_getElem l2]
      show SeqAt.EqAt X.A.in1 s u1 u2 (eqV (xs.getD j .non) (ys.getD j .non))
      rw [g1, g2]
      exact eqAt_V ru1 ru2 (List.all_eq_true.mp f1 _ (List.getElem_mem l1)) (List.all_eq_true.mp f2 _ (List.getElem_mem l2))
    · have es : its1.toArray.size = xs.length := by rw [List.size_toArray]; exact r1.length.symm
      rw [es, zip_all xs ys hl]
      have k' : Q (.bl (eqLs xs ys)) H := k
      unfold eqLs at k'
      rw [hl] at k'
      simpa using k'
  · refine SeqAt.eq_list_lengthsAt p1.isList p2.isList ?_ hu ⟨.bl false, H, I, rfl, ?_⟩
    · simp only [List.size_toArray]; rw [← r1.length, ← r2.length]; simpa using hl
    · have k' : Q (.bl (eqLs xs ys)) H := k
      unfold eqLs at k'
      have : (xs.length == ys.length) = false := by simpa using hl
      rw [this, Bool.false_and] at k'
      exact k'
theorem op_neL (hu : X.A.units < cLine) : OpR X (compareOp .NotEq) (rEqL X.K true) := by
  intro pins s σ H x y v u Q I rx ry h
  obtain ⟨p, q, xs, ys, rfl, rfl, h1, h2, f1, f2, k⟩ := h
  cases rx
  cases ry
  obtain ⟨its1, r1, p1, _⟩ := I.list h1
  obtain ⟨its2, r2, p2, _⟩ := I.list h2
  have k0 : Q (.bl (!eqLs xs ys)) H := k
  by_cases hl : xs.length = ys.length
  · refine SeqAt.RcNeAt.lists (e := fun j => eqV (xs.getD j .non) (ys.getD j .non)) p1.isList p2.isList (by simp only [List.size_toArray]; rw [← r1.length, ← r2.length]; exact hl) hu (fun j j1 j2 => ?_) X.prog X.w X.xe _ ⟨.bl _, H, I, rfl, ?_⟩
    · have l1 : j < xs.length := by rw [r1.length]; simpa using j1
      have l2 : j < ys.length := by rw [r2.length]; simpa using j2
      obtain ⟨u1, e1, ru1⟩ := r1.get (List.getElem?_eq_getElem l1)
      obtain ⟨u2, e2, ru2⟩ := r2.get (List.getElem?_eq_getElem l2)
      have a1 : its1.toArray[j] = u1 := by
        have : its1[j]? = some its1.toArray[j] := by simp
        rw [e1] at this; exact (Option.some.inj this).symm
      have a2 : its2.toArray[j] = u2 := by
        have : its2[j]? = some its2.toArray[j] := by simp
        rw [e2] at this; exact (Option.some.inj this).symm
      rw [a1, a2]
      have g1 : xs.getD j .non = xs[j] := by simp [List.getD_eq_getElem?_getD, List.getElem?_eq_getElem l1]
      have g2 : ys.getD j .non = ys[j] := by simp [List.getD_eq_getElem?_getD, List.getElem?_eq_getElem l2]
      show SeqAt.EqAt X.A.in1 s u1 u2 (eqV (xs.getD j .non) (ys.getD j .non))
      rw [g1, g2]
      exact eqAt_V ru1 ru2 (List.all_eq_true.mp f1 _ (List.getElem_mem l1)) (List.all_eq_true.mp f2 _ (List.getElem_mem l2))
    · have es : its1.toArray.size = xs.length := by rw [List.size_toArray]; exact r1.length.symm
      rw [es, zip_all xs ys hl]
      unfold eqLs at k0
      rw [hl] at k0
      simpa using k0
  · refine SeqAt.RcNeAt.lists_lengths p1.isList p2.isList ?_ hu X.prog X.w X.xe _ ⟨.bl true, H, I, rfl, ?_⟩
    · simp only [List.size_toArray]; rw [← r1.length, ← r2.length]; simpa using hl
    · unfold eqLs at k0
      have : (xs.length == ys.length) = false := by simpa using hl
      rw [this, Bool.false_and] at k0
      exact k0
end
end L2

set_option Elab.async false
set_option linter.all false
set_option maxRecDepth 100000
set_option maxHeartbeats 4000000
namespace L2
open PySem PySem.Spec PyProof.Rows
/-! ### an exception in flight: its class, its dict, its arguments; st: no traceback yet, or the mark of the frame that holds it -/
def ExAt (B : Heap) (e : Addr) (c : Value) (dc : Option Addr) (a0 : Value) (st : Option Value) (h : Heap) : Prop :=
  ∃ vs : Array Value, h.get? e = some ⟨c, dc, .fields vs, #[]⟩ ∧ vs.size = 6 ∧ vs[0]? = some a0 ∧
    match st with
    | none => vs[1]? = some .none
    | some fl => ∃ (T : Addr) (oT : Obj) (ts : Array Value), vs[1]? = some (.ref T) ∧ B.get? T = none ∧ T ≠ e ∧ h.get? T = some oT ∧ oT.data = .fields ts ∧ 3 < ts.size ∧ ts[3]? = some fl
structure Fl (B : Heap) (l : List Env) (e : Addr) (c : Value) (dc : Option Addr) (a0 : Value) (st : Option Value) (h : Heap) : Prop where
  stays : B.StaysIn h
  ne : B.get? e = none
  frs : h.FunFrames B l
  ex : ExAt B e c dc a0 st h
section
variable {M : Model} {A : Around} {E : Value → Shared → Prop} {s : Shared} {B : Heap} {l : List Env} {env : Env} {outer : List Env} {e L : Addr} {c a0 : Value} {dc : Option Addr} {st : Option Value} {Q : Unit → Shared → Prop}
end

/-! ### an exception that left a def -/
/-- what stood at s stands in B (the frames at l up to slots, in h); tracked things as H' says -/
structure XUn (l : List Env) (H H' : Hp) (h0 B h : Heap) : Prop where
  keep : ∀ b o, h0.get? b = some o → H b = none → b ∉ frs l → B.get? b = some o
  slot : ∀ b o, h0.get? b = some o → H b = none → b ∈ frs l → ∃ sl, h.get? b = some { o with slots := sl }
  free : ∀ b o, h0.get? b = some o → H b = none → H' b = none
  there : ∀ b o, h0.get? b = some o → b ∉ frs l → ∃ o', B.get? b = some o'
  fthere : ∀ b o, h0.get? b = some o → b ∈ frs l → ∃ o', h.get? b = some o'
  tups : ∀ b xs, H b = some (.tup xs) → H' b = some (.tup xs)
  frzs : ∀ b o u, H b = some (.frz o u) → H' b = some (.frz o u)
  tbls : ∀ b ps, H b = some (.tbl ps) → ∃ more, H' b = some (.tbl (ps ++ more))
theorem XUn.un {l : List Env} {H H' : Hp} {h0 B h : Heap} (x : XUn l H H' h0 B h) (st : B.StaysIn h) : Un (frs l) [] H H' h0 h :=
  ⟨fun b o q n hb _ => st b o (x.keep b o q n hb), fun b o q n hb _ => x.slot b o q n hb, fun b o q n _ => x.free b o q n, fun b o q _ => by
    by_cases hb : b ∈ frs l
    · exact x.fthere b o q hb
    · obtain ⟨o', z⟩ := x.there b o q hb
      exact ⟨o', st b o' z⟩, x.tups, x.frzs, x.tbls⟩
def CX1 (P : Program) (w : World) : CXT := fun outer H s E e s' =>
  ∃ (ea t C : Addr) (dx : Option Addr) (H' : Hp) (B : Heap), e = .ref ea ∧ s'.os = s.os ∧ AllBare s'.gens ∧ Fl B outer ea (.ref C) dx (.ref t) (some .none) s'.heap ∧ HOk P w H' B ∧ XUn outer H H' s.heap B s'.heap ∧ H' ea = none ∧ s.heap.objs.size ≤ ea ∧ E (.ref C) dx H'
section
variable {P : Program} {w : World} {K : PySem.W.Frag} {mg : Str → Option Value} {base : Heap} {N : List Str} {qual : Str} {scope : Scope} {f : Addr} {cd : Value} {A : Around} {outer : List Env} {s0 : Shared} {H0 : Hp} {E : XK}
end
end L2

set_option Elab.async false
set_option linter.all false
set_option maxRecDepth 100000
set_option maxHeartbeats 4000000
namespace L2
open PySem PySem.Spec PyProof.Rows PySem.W PySem.Builtin PySem.Builtin.ObjectAttr
section
variable {prog : Program} {w : World} {K : PySem.W.Frag} {A : Around} {E : Value → Shared → Prop} {s : Shared} {e C f : Addr} {cd : ClassData} {name : Str} {v : Value} {vs : Array Value}
end
end L2

set_option Elab.async false
set_option linter.all false
set_option maxRecDepth 100000
set_option maxHeartbeats 4000000
namespace L2
open PySem PySem.Spec PyProof.Rows PySem.W
section
variable {X : Cx} {pins : List (Addr × Obj)} {σ : St} {H : Hp} {s : Shared} {C f : Addr} {cd : ClassData}
end
section
variable {X : Cx} {o value : Expr} {n : Str} {pos pos' : Pos} {ta tv : TE}
end
end L2

set_option Elab.async false
set_option linter.all false
set_option maxRecDepth 100000
set_option maxHeartbeats 4000000
namespace L2
open PySem PySem.Spec PyProof.Rows PySem.W
section
variable {X : Cx} {C f : Addr} {fd : FuncData} {cd : ClassData} {k : Nat} {n : Str} {ps : List Str}
end
section
variable {P : Program} {w : World} {K : PySem.W.Frag} {mg : Str → Option Value} {base : Heap} {N : List Str} {qual : Str} {scope : Scope} {fa : Addr} {cd0 : Value} {A : Around} {outer : List Env} {s0 : Shared} {H0 : Hp} {E : XK}
  {C f : Addr} {fd : FuncData} {cd : ClassData} {k : Nat} {n x : Str} {ps : List Str} {a : Expr} {te : TE} {p cpos pos : Pos}
end
end L2

set_option Elab.async false
set_option linter.all false
set_option maxRecDepth 100000
set_option maxHeartbeats 4000000
namespace L2
open PySem PySem.Spec PyProof.Rows PySem.W
/-! ### try .. except C as e, the exception caught -/
section
variable {X : Cx} {pins : List (Addr × Obj)} {σ : St} {H H' : Hp} {s s1 : Shared} {B h' : Heap} {ea C dx t : Addr} {fl : Value}
end
section
variable {X : Cx} {pins pn : List (Addr × Obj)} {σ : St} {H : Hp} {s : Shared} {XE : Value → Shared → Prop} {e : Addr}
end
end L2

set_option Elab.async false
set_option linter.all false
set_option maxRecDepth 100000
set_option maxHeartbeats 4000000
namespace L2
open PySem PySem.Spec PyProof.Rows PySem.W
section
variable {X : Cx} {x n : Str} {L : Addr} {j : Nat} {body suite : List Stmt} {b0 : Stmt} {p1 p2 p3 : Pos} {tb : XK → TS} {ts : Addr → TS}
end
end L2

set_option Elab.async false
set_option linter.all false
set_option maxRecDepth 100000
set_option maxHeartbeats 4000000
namespace L2
open PySem PySem.Spec PyProof.Rows PySem.W PySem.Builtin PySem.Builtin.ObjectAttr
section
variable {X : Cx} {e : Expr} {n : Str} {pos : Pos} {ta : TE}
end
end L2

set_option Elab.async false
set_option linter.all false
set_option maxRecDepth 100000
set_option maxHeartbeats 4000000
namespace L2
open PySem PySem.Spec PyProof.Rows PySem.W
/-! ### methods of a text -/
section
variable {X : Cx}
end
/-! ### f-texts -/
def tJ : Str → List TE → TE
  | out, [] => fun _ H Q => out.length ≤ sizeLine ∧ Q (.str out) H
  | out, t :: r => fun σ H Q => t σ H fun v H1 => ∃ y, v = .str y ∧ (out ++ y).length ≤ sizeLine ∧ tJ (out ++ y) r σ H1 Q
def tFv (te : TE) : TE := fun σ H Q => te σ H fun v H1 => (∃ y, v = .str y ∧ y.length ≤ sizeLine ∧ Q (.str y) H1) ∨ ∃ i, v = .int i ∧ i.natAbs.log2 < 1920 ∧ Q (.str (toString i)) H1
section
variable {X : Cx} {e e2 : Expr} {es : List Expr} {te : TE} {ts : List TE} {pos : Pos}
def PJ (X : Cx) (es : List Expr) (ts : List TE) : Prop := ∀ (out : Str) (pins : List (Addr × Obj)) (s : Shared) (σ : St) (H : Hp) (Q : VK), Inv X pins σ H s → tJ out ts σ H Q → wpAny (model X.prog X.w) X.A (joinParts out (evalEach es X.env)) (EP X pins σ Q) X.xe s
theorem pj_nil : PJ X [] [] := fun out pins s σ H Q I h => joinParts_nil ⟨.str out, H, I.tok _, ⟨_, rfl⟩, h.2⟩ h.1
theorem pj_cons (he : PE X e te) (hr : PJ X es ts) : PJ X (e :: es) (te :: ts) := by
  intro out pins s σ H Q I h
  show wpAny _ _ (joinParts out (eval e X.env :: evalEach es X.env)) _ _ s
  refine joinParts_cons (thn (he pins s σ H _ I h) fun v s1 hq => ?_)
  obtain ⟨x, H1, I1, rx, y, rfl, hz, q⟩ := hq
  obtain ⟨t, rfl⟩ := rx
  exact ⟨hz, hr _ pins s1 σ H1 Q I1 q⟩
theorem pe_fstr (h : PJ X (e :: e2 :: es) ts) : PE X (.JoinedStr (e :: e2 :: es) pos) (tJ Str.empty ts) := fun pins s σ H Q I hq => JoinedStr_many (h _ pins s σ H Q I hq)
theorem pe_fv (he : PE X e te) : PE X (.FormattedValue e (-1) none pos) (tFv te) := by
  intro pins s σ H Q I h
  refine FormattedValue_plain (thn (he pins s σ H _ I h) fun v s1 hq => ?_)
  obtain ⟨x, H1, I1, rx, hq⟩ := hq
  rcases hq with ⟨y, rfl, hy, q⟩ | ⟨i, rfl, hi, q⟩
  · obtain ⟨t, rfl⟩ := rx
    exact formatField_str (fun t' tk => ⟨.str y, H1, I1.tok _, ⟨_, rfl⟩, q⟩) hy
  · obtain ⟨t, rfl⟩ := rx
    exact formatField_int_small hi ⟨.str _, H1, I1.tok _, ⟨_, rfl⟩, q⟩
end
/-! ### an exception class of the text, with one field told to __init__ -/
end L2

set_option Elab.async false
set_option linter.all false
set_option maxRecDepth 100000
set_option maxHeartbeats 4000000
namespace L2
open PySem PySem.Spec PyProof.Rows PySem.W
/-! ### try .. except C as e, the names kept -/
section
variable {X : Cx} {CX : CXT} {k : Nat} {f : Addr} {fd : FuncData} {ps : List Str} {sp : Sp} {dvs : List V} {ds : List Value} {E : XK} {x : Str} {p pos : Pos} {e : Expr} {es : List Expr} {t : TA} {σ0 : St}
end
section
variable {X : Cx} {pins : List (Addr × Obj)} {σ σ2 : St} {H : Hp} {s : Shared} {h' : Heap}
end
section
variable {X : Cx} {x n : Str} {L : Addr} {j : Nat} {body suite : List Stmt} {b0 : Stmt} {p1 p2 p3 : Pos} {tb : XK → St → TS} {ts : Addr → TS}
end
end L2

set_option Elab.async false
set_option linter.all false
set_option maxRecDepth 100000
namespace L2
open PySem PySem.Spec PyProof.Rows

/-! ### lists of pairs as tables -/
section
variable {κ : Type} [DecidableEq κ]
def valV (kvs : List (κ × V)) (k : κ) : Option V := (kvs.find? fun kv => decide (kv.1 = k)).map (·.2)
/-- in its place, or at the end -/
def putK (kvs : List (κ × V)) (k : κ) (v : V) : List (κ × V) :=
  if (kvs.any fun kv => decide (kv.1 = k)) = true then kvs.map (fun kv => if kv.1 = k then (kv.1, v) else kv) else kvs ++ [(k, v)]
def dropK (kvs : List (κ × V)) (k : κ) : List (κ × V) := kvs.filter fun kv => decide (kv.1 ≠ k)

theorem valV_pos {p : κ × V} {r : List (κ × V)} {k : κ} (e : p.1 = k) : valV (p :: r) k = some p.2 := by simp [valV, List.find?_cons, e]
theorem valV_neg {p : κ × V} {r : List (κ × V)} {k : κ} (e : ¬ p.1 = k) : valV (p :: r) k = valV r k := by simp [valV, List.find?_cons, e]
theorem valV_any (k : κ) : ∀ kvs : List (κ × V), (kvs.any fun kv => decide (kv.1 = k)) = (valV kvs k).isSome
  | [] => rfl
  | p :: r => by
    rw [List.any_cons]
    by_cases e : p.1 = k
    · simp only [valV_pos e, decide_eq_true e, Bool.true_or, Option.isSome_some]
    · rw [valV_neg e, decide_eq_false e, Bool.false_or]; exact valV_any k r
theorem length_putK (kvs : List (κ × V)) (k : κ) (v : V) : (putK kvs k v).length ≤ kvs.length + 1 := by
  unfold putK
  split
  · rw [List.length_map]; omega
  · rw [List.length_append, List.length_cons, List.length_nil]; omega
theorem putK_new {kvs : List (κ × V)} {k : κ} (v : V) (h : valV kvs k = none) : putK kvs k v = kvs ++ [(k, v)] := by
  unfold putK
  rw [valV_any, h]
  exact if_neg (by decide)

theorem RelO.isSome_eq {o : Option V} {u : Option Value} (r : RelO o u) : o.isSome = u.isSome := by
  cases o with
  | none => cases u with
    | none => rfl
    | some _ => exact (show False from r).elim
  | some _ => cases u with
    | none => exact (show False from r).elim
    | some _ => rfl
theorem RelO.getD {o : Option V} {u : Option Value} {d : V} {d' : Value} (r : RelO o u) (rd : RelV d d') : RelV (o.getD d) (u.getD d') := by
  cases o with
  | none => cases u with
    | none => exact rd
    | some _ => exact (show False from r).elim
  | some _ => cases u with
    | none => exact (show False from r).elim
    | some _ => exact r

/-- raw tables of the same keys -/
theorem KV.val {kvs : List (κ × V)} {vs : List (κ × Value)} (r : KV kvs vs) (k : κ) : RelO (valV kvs k) (valueAt vs k) := by
  unfold KV at r
  induction r with
  | nil => exact True.intro
  | @cons p q ps qs h t ih =>
    obtain ⟨h1, h2⟩ := h
    by_cases e : p.1 = k
    · have e' : q.1 = k := h1.symm.trans e
      have b : valueAt (q :: qs) k = some q.2 := by simp [valueAt, List.find?_cons, e']
      rw [valV_pos e, b]; exact h2
    · have e' : ¬ q.1 = k := fun z => e (h1.trans z)
      have b : valueAt (q :: qs) k = valueAt qs k := by simp [valueAt, List.find?_cons, e']
      rw [valV_neg e, b]; exact ih
theorem KV.any {kvs : List (κ × V)} {vs : List (κ × Value)} (r : KV kvs vs) (k : κ) : (kvs.any fun kv => decide (kv.1 = k)) = vs.any fun kv => decide (kv.1 = k) := by
  unfold KV at r
  induction r with
  | nil => rfl
  | cons h t ih => rw [List.any_cons, List.any_cons, ih, h.1]
theorem KV.repl {kvs : List (κ × V)} {vs : List (κ × Value)} (r : KV kvs vs) (k : κ) {y : V} {u : Value} (ry : RelV y u) :
    KV (kvs.map fun kv => if kv.1 = k then (kv.1, y) else kv) (vs.map fun kv => if kv.1 = k then (kv.1, u) else kv) := by
  unfold KV at r ⊢
  induction r with
  | nil => exact .nil
  | @cons p q ps qs h t ih =>
    rw [List.map_cons, List.map_cons]
    refine .cons ?_ ih
    obtain ⟨h1, h2⟩ := h
    by_cases e : p.1 = k
    · rw [if_pos e, if_pos (h1.symm.trans e)]; exact ⟨h1, ry⟩
    · rw [if_neg e, if_neg (fun z => e (h1.trans z))]; exact ⟨h1, h2⟩
theorem KV.put {kvs : List (κ × V)} {vs : List (κ × Value)} (r : KV kvs vs) (k : κ) {y : V} {u : Value} (ry : RelV y u) : KV (putK kvs k y) (stored vs k u) := by
  unfold putK stored
  rw [r.any k]
  by_cases e : (vs.any fun kv => decide (kv.1 = k)) = true
  · rw [if_pos e, if_pos e]; exact r.repl k ry
  · rw [if_neg e, if_neg e]; exact Paired.snoc r ⟨rfl, ry⟩
theorem KV.drop {kvs : List (κ × V)} {vs : List (κ × Value)} (r : KV kvs vs) (k : κ) : KV (dropK kvs k) (without vs k) := by
  unfold KV at r ⊢
  unfold dropK without
  induction r with
  | nil => exact .nil
  | @cons p q ps qs h t ih =>
    obtain ⟨h1, h2⟩ := h
    rw [List.filter_cons, List.filter_cons]
    by_cases e : p.1 = k
    · have a : ¬ decide (p.1 ≠ k) = true := by simp [e]
      have b : ¬ decide (q.1 ≠ k) = true := by simp [h1.symm.trans e]
      rw [if_neg a, if_neg b]; exact ih
    · have e' : ¬ q.1 = k := fun z => e (h1.trans z)
      have a : decide (p.1 ≠ k) = true := by simp [e]
      have b : decide (q.1 ≠ k) = true := by simp [e']
      rw [if_pos a, if_pos b]; exact .cons ⟨h1, h2⟩ ih
theorem KV.keys {kvs : List (κ × V)} {vs : List (κ × Value)} (r : KV kvs vs) : kvs.map (·.1) = vs.map (·.1) := by
  unfold KV at r
  induction r with
  | nil => rfl
  | cons h t ih => rw [List.map_cons, List.map_cons, ih, h.1]
theorem KV.length {kvs : List (κ × V)} {vs : List (κ × Value)} (r : KV kvs vs) : kvs.length = vs.length := Paired.length r
end


/-! ### a tracked dict, its keys ints and texts or tuples of these -/
theorem kV_is {P : Program} {w : World} {k : Key} {u : Value} (r : RelV (kV k) u) : (mixKind P w).is k u = true := by
  cases k with
  | inl i => obtain ⟨t, e⟩ := (show ∃ t, u = Value.int i t from r); subst e; exact mixKind_int P w i t
  | inr x => obtain ⟨t, e⟩ := (show ∃ t, u = Value.str x t from r); subst e; exact mixKind_str P w x t
theorem items_are {P : Program} {w : World} : ∀ {ks : List Key} {us : List Value}, Vals (ks.map kV) us → ItemsAre (mixKind P w) ks us
  | [], _, r => by rw [List.map_nil] at r; cases r; exact .nil
  | k :: ks, _, r => by
    rw [List.map_cons] at r
    cases r with
    | cons h t => exact .cons (kV_is h) (items_are t)

/-- raw entries of a dict with tuple keys -/
abbrev KT (H : Hp) : List (List Key × V) → List (List Key × Addr × Value) → Prop := Paired fun p q => p.1 = q.1 ∧ H q.2.1 = some (.tup (p.1.map kV)) ∧ RelV p.2 q.2.2
theorem KT.val {H : Hp} {kvs : List (List Key × V)} {xs : List (List Key × Addr × Value)} (r : KT H kvs xs) (k : List Key) : RelO (valV kvs k) ((atKey xs k).map (·.2)) := by
  induction r with
  | nil => exact True.intro
  | @cons p q ps qs h t ih =>
    obtain ⟨h1, _, h2⟩ := h
    by_cases e : p.1 = k
    · have e' : q.1 = k := h1.symm.trans e
      have b : atKey (q :: qs) k = some q.2 := by simp [atKey, List.find?_cons, e']
      rw [valV_pos e, b]; exact h2
    · have e' : ¬ q.1 = k := fun z => e (h1.trans z)
      have b : atKey (q :: qs) k = atKey qs k := by simp [atKey, List.find?_cons, e']
      rw [valV_neg e, b]; exact ih
theorem KT.repl {H : Hp} {kvs : List (List Key × V)} {xs : List (List Key × Addr × Value)} (r : KT H kvs xs) (k : List Key) {y : V} {u : Value} (ry : RelV y u) :
    KT H (kvs.map fun kv => if kv.1 = k then (kv.1, y) else kv) (xs.map (putAt k u)) := by
  induction r with
  | nil => exact .nil
  | @cons p q ps qs h t ih =>
    rw [List.map_cons, List.map_cons]
    refine .cons ?_ ih
    obtain ⟨h1, h2, h3⟩ := h
    unfold putAt
    by_cases e : p.1 = k
    · rw [if_pos e, if_pos (h1.symm.trans e)]; exact ⟨h1, h2, ry⟩
    · rw [if_neg e, if_neg (fun z => e (h1.trans z))]; exact ⟨h1, h2, h3⟩
theorem KT.put {H : Hp} {kvs : List (List Key × V)} {xs : List (List Key × Addr × Value)} (r : KT H kvs xs) (k : List Key) {b : Addr} {y : V} {u : Value} (hb : H b = some (.tup (k.map kV))) (ry : RelV y u) :
    KT H (putK kvs k y) (storedH xs k b u) := by
  have e : (kvs.any fun kv => decide (kv.1 = k)) = (atKey xs k).isSome := by
    rw [valV_any, (r.val k).isSome_eq, Option.isSome_map]
  unfold putK storedH
  rw [e]
  by_cases q : (atKey xs k).isSome = true
  · rw [if_pos q, if_pos q]; exact r.repl k ry
  · rw [if_neg q, if_neg q]; exact Paired.snoc r ⟨rfl, hb, ry⟩
theorem KT.keeps {H H' : Hp} {kvs : List (List Key × V)} {xs : List (List Key × Addr × Value)} (r : KT H kvs xs) (ht : ∀ b ys, H b = some (.tup ys) → H' b = some (.tup ys)) : KT H' kvs xs :=
  Paired.mapP r fun _ _ z => ⟨z.1, ht _ _ z.2.1, z.2.2⟩

section
variable {P : Program} {w : World} {H : Hp} {h : Heap} {a : Addr}
theorem rd_of {u : HO} (ok : HOk P w H h) (e : Rd H a u) : ObjOk P w H h a u := e.ok ok
theorem dk_rd {kvs : List (Key × V)} (ok : HOk P w H h) (e : Rd H a (.dK kvs)) : kvs.length ≤ sizeLine ∧ (a == sysModules) = false ∧ ∃ vs, KV kvs vs ∧ h.DictOf (mixKind P w) a vs :=
  show ObjOk P w H h a (.dK kvs) from rd_of ok e
theorem dk_of {kvs : List (Key × V)} (ok : HOk P w H h) (e : H a = some (.dK kvs)) : kvs.length ≤ sizeLine ∧ (a == sysModules) = false ∧ ∃ vs, KV kvs vs ∧ h.DictOf (mixKind P w) a vs := dk_rd ok (.inl e)
/-- a tracked tuple of ints and texts is a key -/
theorem key_of {ks : List Key} (ok : HOk P w H h) (e : H a = some (.tup (ks.map kV))) : (tupleKind (mixKind P w)).is h ks a := by
  obtain ⟨_, its, r, o, h1, h2, n, h3⟩ := (show ObjOk P w H h a (.tup (ks.map kV)) from ok a _ e)
  exact ⟨o, its.toArray, n, h1, h2, h3, by simpa using items_are r⟩
theorem dt_rd {kvs : List (List Key × V)} (ok : HOk P w H h) (e : Rd H a (.dT kvs)) : kvs.length ≤ sizeLine ∧ (a == sysModules) = false ∧
    ∃ xs, KT H kvs xs ∧ h.DictOfH (tupleKind (mixKind P w)) a xs := by
  obtain ⟨z, y, xs, r, o, es, ep, h1, h2, h3, h4, h5⟩ := (show ObjOk P w H h a (.dT kvs) from rd_of ok e)
  refine ⟨z, y, xs, r, o, es, ep, h1, h2, h3, h4, fun x hx => ?_, h5⟩
  have all : ∀ {l : List (List Key × V)} {m : List (List Key × Addr × Value)}, KT H l m → ∀ x ∈ m, (tupleKind (mixKind P w)).is h x.1 x.2.1 := by
    intro l m q
    induction q with
    | nil => intro x hx; exact nomatch hx
    | @cons p q ps qs hq t ih =>
      intro x hx
      rcases List.mem_cons.mp hx with e | hx
      · subst e
        exact key_of ok (by rw [← hq.1]; exact hq.2.1)
      · exact ih x hx
  exact all r x hx
theorem dt_of {kvs : List (List Key × V)} (ok : HOk P w H h) (e : H a = some (.dT kvs)) : kvs.length ≤ sizeLine ∧ (a == sysModules) = false ∧
    ∃ xs, KT H kvs xs ∧ h.DictOfH (tupleKind (mixKind P w)) a xs := dt_rd ok (.inl e)
end

/-- what the dict at a holds at the key y -/
def DGet (H : Hp) (a : Addr) (y : V) (r : Option V) : Prop :=
  (∃ kvs k, Rd H a (.dK kvs) ∧ y = kV k ∧ r = valV kvs k) ∨ ∃ kvs k b, Rd H a (.dT kvs) ∧ y = .ref b ∧ H b = some (.tup (k.map kV)) ∧ r = valV kvs k
/-- the heap behind a[y] = v -/
def DPut (H : Hp) (a : Addr) (y v : V) (H' : Hp) : Prop :=
  (∃ kvs k, H a = some (.dK kvs) ∧ y = kV k ∧ kvs.length < sizeLine ∧ H' = upd H a (.dK (putK kvs k v))) ∨
  ∃ kvs k b, H a = some (.dT kvs) ∧ y = .ref b ∧ H b = some (.tup (k.map kV)) ∧ kvs.length < sizeLine ∧ H' = upd H a (.dT (putK kvs k v))
theorem DGet.k {H : Hp} {a : Addr} {kvs : List (Key × V)} {k : Key} (e : H a = some (.dK kvs)) : DGet H a (kV k) (valV kvs k) := .inl ⟨kvs, k, .inl e, rfl, rfl⟩
theorem DGet.t {H : Hp} {a b : Addr} {kvs : List (List Key × V)} {k : List Key} (e : H a = some (.dT kvs)) (eb : H b = some (.tup (k.map kV))) : DGet H a (.ref b) (valV kvs k) := .inr ⟨kvs, k, b, .inl e, rfl, eb, rfl⟩
theorem DPut.k {H : Hp} {a : Addr} {kvs : List (Key × V)} {k : Key} {v : V} (e : H a = some (.dK kvs)) (hl : kvs.length < sizeLine) : DPut H a (kV k) v (upd H a (.dK (putK kvs k v))) := .inl ⟨kvs, k, e, rfl, hl, rfl⟩
theorem DPut.t {H : Hp} {a b : Addr} {kvs : List (List Key × V)} {k : List Key} {v : V} (e : H a = some (.dT kvs)) (eb : H b = some (.tup (k.map kV))) (hl : kvs.length < sizeLine) :
    DPut H a (.ref b) v (upd H a (.dT (putK kvs k v))) := .inr ⟨kvs, k, b, e, rfl, eb, hl, rfl⟩


section
variable {X : Cx} {pins : List (Addr × Obj)} {σ : St} {H : Hp} {s : Shared} {a : Addr} {y v : V} {u r : Value} {o : Option V} {A : Around} {E : Value → Shared → Prop}

theorem Inv.big (I : Inv X pins σ H s) : sysModules < s.heap.objs.size := by
  have h : mainGlobals < s.heap.objs.size := (I.mod.glob.keeps I.bk).lt
  exact Nat.lt_trans (by decide) h

/-- d[y], there -/
theorem d_getItem {Q : Value → Shared → Prop} (hu : A.units + 1 < cLine) (I : Inv X pins σ H s) (g : DGet H a y (some v)) (ry : RelV y u) (h : ∀ w' s', Inv X pins σ H s' → RelV v w' → Q w' s') :
    wpAny (model X.prog X.w) A (getItem (.ref a) u) Q E s := by
  rcases g with ⟨kvs, k, e, ey, l⟩ | ⟨kvs, k, b, e, ey, eb, l⟩
  · subst ey
    obtain ⟨z, hd, vs, rel, dd⟩ := dk_rd I.hok e
    obtain ⟨w', hw, rw'⟩ := RelO.some_of (v := v) (o := valueAt vs k) (by rw [l]; exact rel.val k)
    exact wpAny_getItem_of (kV_is ry) dd.mapOf hw (h w' _ (I.tok _) rw')
  · subst ey
    cases (show u = Value.ref b from ry)
    obtain ⟨z, hd, xs, rel, dd⟩ := dt_rd I.hok e
    obtain ⟨w', hw, rw'⟩ := RelO.some_of (v := v) (o := (atKey xs k).map (·.2)) (by rw [l]; exact rel.val k)
    obtain ⟨p, hp, hp2⟩ := Option.map_eq_some_iff.mp hw
    refine wpAny_getItem_heap (tupleKind_room_in1 hu) (key_of I.hok eb) dd hp ?_
    rw [hp2]
    exact h w' _ (I.tok _) rw'
/-- y in d -/
theorem d_in {Q : Value → Shared → Prop} (hu : A.units + 1 < cLine) (I : Inv X pins σ H s) (g : DGet H a y o) (ry : RelV y u) (h : ∀ s', Inv X pins σ H s' → Q (.bool o.isSome) s') :
    wpAny (model X.prog X.w) A (compareOp .In u (.ref a)) Q E s := by
  rcases g with ⟨kvs, k, e, ey, l⟩ | ⟨kvs, k, b, e, ey, eb, l⟩
  · subst ey
    obtain ⟨z, hd, vs, rel, dd⟩ := dk_rd I.hok e
    refine wpAny_in_of (kV_is ry) hd dd.mapOf ?_
    rw [← (rel.val k).isSome_eq, ← l]
    exact h _ (I.tok _)
  · subst ey
    cases (show u = Value.ref b from ry)
    obtain ⟨z, hd, xs, rel, dd⟩ := dt_rd I.hok e
    refine wpAny_in_heap (tupleKind_room_in1 hu) (key_of I.hok eb) hd dd ?_
    have q := (rel.val k).isSome_eq
    rw [Option.isSome_map] at q
    rw [← q, ← l]
    exact h _ (I.tok _)
/-- a dict's object is replaced -/
theorem d_write {h' : Heap} {t' : Nat} {ob : HO} (I : Inv X pins σ H s) (mu : Mut (H a)) (hs : Heap.SameBut a s.heap h') (he : ∃ q, h'.get? a = some q) (new : ObjOk X.prog X.w (upd H a ob) h' a ob) :
    Inv X pins σ (upd H a ob) { s with heap := h', toks := t' } :=
  I.write (x := a) (e := a) mu (.inl rfl) (fun b q hb z => (hs.2 b hb).trans z) he new
theorem dk_new {P : Program} {w : World} {H' : Hp} {h' : Heap} {kvs : List (Key × V)} {vs : List (Key × Value)} (z : kvs.length ≤ sizeLine) (hd : (a == sysModules) = false) (rel : KV kvs vs) (dd : h'.DictOf (mixKind P w) a vs) :
    ObjOk P w H' h' a (.dK kvs) := ⟨z, hd, vs, rel, dd⟩
/-- d[y] = v -/
theorem d_setItem {H' : Hp} {Q : Unit → Shared → Prop} (hu : A.units + 1 < cLine) (I : Inv X pins σ H s) (g : DPut H a y v H') (ry : RelV y u) (rv : RelV v r) (h : ∀ s', Inv X pins σ H' s' → Q () s') :
    wpAny (model X.prog X.w) A (setItem (.ref a) u r) Q E s := by
  rcases g with ⟨kvs, k, e, ey, l, eH⟩ | ⟨kvs, k, b, e, ey, eb, l, eH⟩
  · subst ey eH
    obtain ⟨z, hd, vs, rel, dd⟩ := dk_of I.hok e
    have hz : vs.length ≤ sizeLine := by rw [← rel.length]; exact z
    have hl : (putK kvs k v).length ≤ sizeLine := by have := length_putK kvs k v; omega
    refine wpAny_setItem_pairs (hsz := hz) (kV_is ry) dd fun h' dd' hs => h _ ?_
    have he : ∃ q, h'.get? a = some q := let ⟨q, _, _, hq, _⟩ := dd'; ⟨q, hq⟩
    exact d_write I (by rw [e]; exact True.intro) hs he (dk_new hl hd (rel.put k rv) dd')
  · subst ey eH
    cases (show u = Value.ref b from ry)
    obtain ⟨z, hd, xs, rel, dd⟩ := dt_of I.hok e
    have hz : xs.length ≤ sizeLine := by rw [← Paired.length rel]; exact z
    have hl : (putK kvs k v).length ≤ sizeLine := by have := length_putK kvs k v; omega
    refine wpAny_setItem_heap (hsz := hz) (tupleKind_room_in1 hu) (key_of I.hok eb) dd fun h' dd' hs => h _ ?_
    obtain ⟨q, es, ep, hq, h2, h3, h4, _, h5⟩ := dd'
    refine d_write I (by rw [e]; exact True.intro) hs ⟨q, hq⟩ ⟨hl, hd, _, (rel.put k eb rv).keeps fun c ys ec => ?_, q, es, ep, hq, h2, h3, h4, h5⟩
    rw [upd_ne (ne_of ec e (fun z => nomatch z))]
    exact ec
end

section
variable {X : Cx} {pins : List (Addr × Obj)} {σ : St} {H : Hp} {s : Shared} {a : Addr} {kvs : List (Key × V)} {k : Key} {u : Value} {A : Around} {E : Value → Shared → Prop}
end


/-! ### readings and rules -/
/-- the element of a subscription, not a slice -/
def NoSl (i : Expr) : Prop := ∀ ov iv, subscripted i false ov iv = operate [ov, iv] (getItem ov iv)
theorem subD_of {prog : Program} {w : World} {A : Around} {E : Value → Shared → Prop} {s : Shared} {env : Env} {value slice : Expr} {pos : Pos} {T id : String} {Q : Value → Shared → Prop}
    (hl : typeLookup (.type T) "__getitem__" = pure (some (.builtin id))) (hs : NoSl slice)
    (h : wpAny (model prog w) A (eval value env) (fun o s₁ => wpAny (model prog w) A (eval slice env) (fun i s₂ => s₂.TypeIs o T ∧ wpAny (model prog w) A (getItem o i) Q E s₂) E s₁) E s) :
    wpAny (model prog w) A (eval (.Subscript value slice pos) env) Q E s := by
  refine Subscript_ (wpAny_mono h (fun o s₁ h₁ => wpAny_mono h₁ (fun i s₂ h₂ => ?_) fun _ _ x => x) fun _ _ x => x)
  obtain ⟨hT, h₂⟩ := h₂
  unfold subscriptTail
  refine wpAny_bind ?_
  rw [getitemInPython_of_ne hT.not_modules]
  refine wpAny_bind (wpAny_specialOf hT hl ?_)
  have fin : wpAny (model prog w) A (subscripted slice false o i) (fun r s₃ => wpAny (model prog w) A (letTemporaryGo value o r >>= fun _ => pure r) Q E s₃) E s₂ := by
    rw [hs o i]
    exact wpAny_operating (wpAny_mono h₂ (fun r s₃ h₃ => wpAny_bind (wpAny_letTemporaryGo (wpAny_pure h₃))) fun _ _ x => x)
  first
    | exact wpAny_pure (wpAny_bind fin)
    | exact wpAny_bind (wpAny_pure (wpAny_bind fin))
    | exact wpAny_bind fin

theorem dict_typeIs {X : Cx} {pins : List (Addr × Obj)} {σ : St} {H : Hp} {s : Shared} {a : Addr} {y : V} {o : Option V} (I : Inv X pins σ H s) (g : DGet H a y o) : s.TypeIs (.ref a) "dict" := by
  rcases g with ⟨kvs, k, e, _, _⟩ | ⟨kvs, k, b, e, _, _, _⟩
  · obtain ⟨_, _, vs, _, dd⟩ := dk_rd I.hok e
    exact dd.typeIs
  · obtain ⟨_, _, xs, _, dd⟩ := dt_rd I.hok e
    exact dd.typeIs
/-- d[y] -/
def tDGet (td ty : TE) : TE := fun σ H Q => td σ H fun x H1 => ty σ H1 fun y H2 => ∃ a v, x = .ref a ∧ DGet H2 a y (some v) ∧ Q v H2
/-- y in d, y not in d -/
def tDIn (ty td : TE) : TE := fun σ H Q => ty σ H fun y H1 => td σ H1 fun x H2 => ∃ a o, x = .ref a ∧ DGet H2 a y o ∧ Q (.bl o.isSome) H2
/-- d[y] = v -/
def sDPut (td ty tv : TE) : TS := fun D σ H => tv σ H fun v H1 => td σ H1 fun x H2 => ty σ H2 fun y H3 => ∃ a H4, x = .ref a ∧ DPut H3 a y v H4 ∧ D.nx σ H4
section
variable {X : Cx} {o i e value : Expr} {pos pos' tpos : Pos} {td ty tv : TE}
theorem pe_dget (hu : X.A.units + 1 < cLine) (ho : PE X o td) (hi : PE X i ty) (hs : NoSl i) : PE X (.Subscript o i pos) (tDGet td ty) := by
  intro pins s σ H Q I h
  refine subD_of PySem.F.slot_dict_getitem.lookup hs (thn (ho pins s σ H _ I h) fun u s1 ⟨x, H1, I1, rx, q1⟩ => thn (hi pins s1 σ H1 _ I1 q1) fun iv s2 ⟨y, H2, I2, ry, a, v, ex, g, q2⟩ => ?_)
  subst ex
  obtain rfl : u = Value.ref a := rx
  exact ⟨dict_typeIs I2 g, d_getItem hu I2 g ry fun w' s3 I3 rw' => ⟨v, H2, I3, rw', q2⟩⟩
theorem pc_din (hu : X.A.units + 1 < cLine) (hi : PE X i ty) (ho : PE X o td) : PC X .In i o (tDIn ty td) := by
  intro pins s σ H Q I h
  refine thn (hi pins s σ H _ I h) fun iv s1 ⟨y, H1, I1, ry, q1⟩ => thn (ho pins s1 σ H1 _ I1 q1) fun u s2 ⟨x, H2, I2, rx, a, ov, ex, g, q2⟩ => ?_
  subst ex
  obtain rfl : u = Value.ref a := rx
  exact d_in hu I2 g ry fun s3 I3 => ⟨.bl ov.isSome, H2, I3, rfl, q2⟩
theorem ps_dput (hu : X.A.units + 1 < cLine) (ho : PE X o td) (hi : PE X i ty) (hv : PE X value tv) (hs : swapsWith value (some (.Subscript o i pos')) pos.line X.env = pure false) :
    PS X (.Assign [.Subscript o i pos'] value pos) (sDPut td ty tv) := by
  intro pins s σ H D I h
  refine wpAny_Assign_Subscript (thn (hv pins s σ H _ I h) fun r s1 ⟨v, H1, I1, rv, q1⟩ => thn (ho pins s1 σ H1 _ I1 q1) fun u s2 ⟨x, H2, I2, rx, q2⟩ => thn (hi pins s2 σ H2 _ I2 q2) fun iv s3 ⟨y, H3, I3, ry, a, H4, ex, g, q3⟩ => ?_) hs
  subst ex
  obtain rfl : u = Value.ref a := rx
  exact d_setItem hu I3 g ry rv fun s4 I4 => ⟨σ, H4, I4, q3⟩
end


/-! ### displays -/
theorem dk_empty {P : Program} {w : World} {H : Hp} (h : Heap) (hb : sysModules < h.objs.size) : ObjOk P w H (h.push { cls := .type "dict", data := .dict #[] }) h.objs.size (.dK []) :=
  ⟨Nat.zero_le _, beq_eq_false_iff_ne.mpr (Ne.symm (Nat.ne_of_lt hb)), [], .nil, Heap.DictOf.new h⟩
section
variable {X : Cx} {pos : Pos}
end

/-- the pairs of a display, from the left -/
def tPairs : List (TE × TE) → St → Hp → (List (V × V) → Hp → Prop) → Prop
  | [], _, H, Q => Q [] H
  | (tk, tv) :: r, σ, H, Q => tk σ H fun x H1 => tv σ H1 fun y H2 => tPairs r σ H2 fun ps H3 => Q ((x, y) :: ps) H3
abbrev VV : List (V × V) → List (Value × Value) → Prop := Paired fun p q => RelV p.1 q.1 ∧ RelV p.2 q.2
def PPs (X : Cx) (pos : Pos) (keys : List (Option Expr)) (values : List Expr) (trs : List (TE × TE)) : Prop :=
  ∀ (pins : List (Addr × Obj)) (s : Shared) (σ : St) (H : Hp) (Q : List (V × V) → Hp → Prop), Inv X pins σ H s → tPairs trs σ H Q →
    wpAny (model X.prog X.w) X.A (evalPairs (pairTrees keys values X.env pos)) (fun vs s' => ∃ ps H', Inv X pins σ H' s' ∧ VV ps vs ∧ Q ps H') X.xe s
theorem pps_nil {X : Cx} {pos : Pos} : PPs X pos [] [] [] := fun pins s σ H Q I h => pairTrees_nil_walk ⟨[], H, I, .nil, h⟩
theorem pps_cons {X : Cx} {pos : Pos} {k v : Expr} {ks : List (Option Expr)} {vs : List Expr} {tk tv : TE} {trs : List (TE × TE)} (hk : PE X k tk) (hv : PE X v tv) (hr : PPs X pos ks vs trs) :
    PPs X pos (some k :: ks) (v :: vs) ((tk, tv) :: trs) := fun pins s σ H Q I h =>
  pairTrees_cons_walk (thn (hk pins s σ H _ I h) fun u s1 ⟨x, H1, I1, rx, q1⟩ => thn (hv pins s1 σ H1 _ I1 q1) fun w2 s2 ⟨y, H2, I2, ry, q2⟩ =>
    thn (hr pins s2 σ H2 _ I2 q2) fun ws s3 ⟨ps, H3, I3, rel, q3⟩ => ⟨(x, y) :: ps, H3, I3, .cons ⟨rx, ry⟩ rel, q3⟩)

def mergeK (kvs more : List (Key × V)) : List (Key × V) := more.foldl (fun acc kv => putK acc kv.1 kv.2) kvs
theorem KV.merge : ∀ {more : List (Key × V)} {rs : List (Key × Value)} {kvs : List (Key × V)} {vs : List (Key × Value)}, KV more rs → KV kvs vs → KV (mergeK kvs more) (merged vs rs) := by
  intro more rs kvs vs r
  unfold KV at r
  induction r generalizing kvs vs with
  | nil => intro q; exact q
  | @cons p q ps qs h t ih =>
    intro r0
    have e : KV (putK kvs p.1 p.2) (stored vs q.1 q.2) := by
      have := r0.put p.1 h.2
      rw [← h.1]; exact this
    exact ih e
theorem length_mergeK : ∀ (more kvs : List (Key × V)), (mergeK kvs more).length ≤ kvs.length + more.length
  | [], kvs => by show kvs.length ≤ kvs.length + 0; omega
  | p :: r, kvs => by
    have h1 := length_mergeK r (putK kvs p.1 p.2)
    have h2 := length_putK kvs p.1 p.2
    show (mergeK (putK kvs p.1 p.2) r).length ≤ _
    rw [List.length_cons]; omega
theorem carries_of {P : Program} {w : World} : ∀ {kvs : List (Key × V)} {ws : List (Value × Value)}, VV (kvs.map fun kv => (kV kv.1, kv.2)) ws → ∃ rs, Carries (mixKind P w) ws rs ∧ KV kvs rs
  | [], _, r => by rw [List.map_nil] at r; cases r; exact ⟨[], True.intro, .nil⟩
  | p :: kvs, _, r => by
    rw [List.map_cons] at r
    cases r with
    | @cons a b as bs h t =>
      obtain ⟨rs, c, q⟩ := carries_of (P := P) (w := w) t
      obtain ⟨b1, b2⟩ := b
      exact ⟨(p.1, b2) :: rs, ⟨kV_is h.1, rfl, c⟩, .cons ⟨rfl, h.2⟩ q⟩
/-- {k: v, ..} with keys ints and texts; the new dict stands empty while the pairs are made -/
def tDisp (trs : List (TE × TE)) : TE := fun σ H Q => ∀ p, H p = none → tPairs trs σ (upd H p (.dK [])) fun ps H2 => H2 p = some (.dK []) ∧ ∃ kvs : List (Key × V), ps = kvs.map (fun kv => (kV kv.1, kv.2)) ∧ kvs.length ≤ 15 ∧ Q (.ref p) (upd H2 p (.dK (mergeK [] kvs)))
theorem pe_disp {X : Cx} {pos : Pos} {keys : List (Option Expr)} {values : List Expr} {trs : List (TE × TE)} (h : PPs X pos keys values trs) (hall : keys.all (·.isSome) = true) (hl : keys.length = values.length) (h0 : keys ≠ [])
    (h15 : keys.length ≤ 15) : PE X (.Dict keys values pos) (tDisp trs) := by
  intro pins s σ H Q I q
  have hn := I.hok.fresh (Nat.le_refl s.heap.objs.size)
  have I1 := I.laid (a := s.heap.objs.size) (o := .dK []) (h' := s.heap.push { cls := .type "dict", data := .dict #[] }) (t' := s.toks) (fun _ _ q => Heap.get?_push_of_some _ q) (Nat.le_refl _) (dk_empty s.heap I.big)
  refine wpAny_Dict_walk (knd := mixKind X.prog X.w) hall hl h0 h15 (thn (h pins _ σ _ _ I1 (q _ hn)) fun ws s2 ⟨ps, H2, I2, rel, e, kvs, ep, lk, q2⟩ => ?_)
  subst ep
  obtain ⟨rs, c, rk⟩ := carries_of (P := X.prog) (w := X.w) rel
  obtain ⟨z, hd, vs0, r0, dd⟩ := dk_of I2.hok e
  cases r0
  refine ⟨rs, c, dd, fun h' dd' hs => ⟨.ref s.heap.objs.size, _, ?_, rfl, q2⟩⟩
  have hz : (mergeK [] kvs).length ≤ sizeLine := by
    have h1 := length_mergeK kvs []
    rw [List.length_nil] at h1
    rw [sizeLine_eq]; omega
  have he : ∃ q, h'.get? s.heap.objs.size = some q := let ⟨q, _, _, hq, _⟩ := dd'; ⟨q, hq⟩
  exact d_write I2 (by rw [e]; exact True.intro) hs he (dk_new hz hd (rk.merge .nil) dd')


/-! ### methods -/
structure M2 (X : Cx) (o : Expr) (m : Str) (apos : Pos) (e f : Expr) (cpos : Pos) : Prop where
  base : attributeBase o m X.env (eval o X.env) = eval o X.env
  few : ((backTo cpos (starEach [e, f] X.env)).all (fun x => !x.1) && (backToKw cpos (keywordEach [] X.env)).all (fun x => x.1.isSome)
    && decide (([e, f] : List Expr).length + ([] : List Keyword).length + (if ([] : List Keyword).isEmpty then 0 else 1) < 30)) = true
  line : (apos.endLine == cpos.line) = true
  trees : backTo cpos (starEach [e, f] X.env) = [(false, eval e X.env), (false, eval f X.env)]

/-- a is a dict, whatever its keys -/
def IsD (H : Hp) (a : Addr) : Prop := (∃ kvs, Rd H a (.dK kvs)) ∨ ∃ kvs, Rd H a (.dT kvs)
theorem isD_at {X : Cx} {pins : List (Addr × Obj)} {σ : St} {H : Hp} {s : Shared} {a : Addr} (I : Inv X pins σ H s) (d : IsD H a) :
    s.TypeIs (.ref a) "dict" ∧ (∀ b, Value.ref a = .ref b → ∃ ob, s.heap.get? b = some ob ∧ ob.dict = none) ∧ (a == sysModules) = false := by
  rcases d with ⟨kvs, e⟩ | ⟨kvs, e⟩
  · obtain ⟨_, hd, vs, _, dd⟩ := dk_rd I.hok e
    refine ⟨dd.typeIs, fun b q => ?_, hd⟩
    cases q
    obtain ⟨ob, _, _, h1, h2, _⟩ := dd
    exact ⟨ob, h1, h2.2.1⟩
  · obtain ⟨_, hd, xs, _, dd⟩ := dt_rd I.hok e
    refine ⟨dd.typeIs, fun b q => ?_, hd⟩
    cases q
    obtain ⟨ob, _, _, h1, h2, _⟩ := dd
    exact ⟨ob, h1, h2.2.1⟩

section
variable {X : Cx} {pins : List (Addr × Obj)} {σ : St} {H : Hp} {s : Shared} {a : Addr} {y d : V} {u r : Value} {o : Option V} {A : Around} {E : Value → Shared → Prop}
/-- d.get(y, x) -/
theorem d_get2 {Q : Value → Shared → Prop} (hu : A.units + 1 < cLine) (I : Inv X pins σ H s) (g : DGet H a y o) (ry : RelV y u) (rd : RelV d r) (h : ∀ w' s', Inv X pins σ H s' → RelV (o.getD d) w' → Q w' s') :
    wpAny (model X.prog X.w) A (call (.builtin "dict.get") [.ref a, u, r]) Q E s := by
  rcases g with ⟨kvs, k, e, ey, l⟩ | ⟨kvs, k, b, e, ey, eb, l⟩
  · subst ey
    obtain ⟨z, hd, vs, rel, dd⟩ := dk_rd I.hok e
    refine call_meetsIn PySem.F.slot_dict_get dd.typeIs PySem.F.entry_dict_get (PySem.F.args_dict_get_3 _ _ _) (meets_dict_get_default (mixKind X.prog X.w) a (kV_is ry) hd r) ⟨_, dd.mapOf, h _ _ (I.tok _) ?_⟩
    rw [l]
    exact (rel.val k).getD rd
  · subst ey
    cases (show u = Value.ref b from ry)
    obtain ⟨z, hd, xs, rel, dd⟩ := dt_rd I.hok e
    refine call_meetsIn PySem.F.slot_dict_get dd.typeIs PySem.F.entry_dict_get (PySem.F.args_dict_get_3 _ _ _) (meetsH_dict_get_default (tupleKind (mixKind X.prog X.w)) a b hd r) ⟨tupleKind_room_in1 hu, k, xs, key_of I.hok eb, dd, h _ _ (I.tok _) ?_⟩
    rw [l]
    exact (rel.val k).getD rd
end

def tDGet2 (td ty tx : TE) : TE := fun σ H Q => td σ H fun x H1 => ∃ a, x = .ref a ∧ IsD H1 a ∧ ty σ H1 fun y H2 => tx σ H2 fun z H3 => ∃ o, DGet H3 a y o ∧ Q (o.getD z) H3
section
variable {X : Cx} {o e f : Expr} {apos cpos : Pos} {td ty tx : TE}
theorem pe_dget2 (hu : X.A.units + 1 < cLine) (ho : PE X o td) (he : PE X e ty) (hf : PE X f tx) (m : M2 X o "get" apos e f cpos) : PE X (.Call (.Attribute o "get" apos) [e, f] [] cpos) (tDGet2 td ty tx) := by
  intro pins s σ H Q I h
  refine wpAny_Call_method m.base m.few m.line PySem.F.plainAttrs_dict PySem.F.slot_dict_get PySem.F.type_dict_get (thn (ho pins s σ H _ I h) fun u s1 ⟨x, H1, I1, rx, a, ex, d, q1⟩ => ?_)
  subst ex
  obtain rfl : u = Value.ref a := rx
  obtain ⟨t1, t2, _⟩ := isD_at I1 d
  refine ⟨t1, t2, ?_⟩
  rw [m.trees]
  refine Calls.callWith_builtin rfl (Calls.evalArgs_plain (Calls.spliced_cons (thn (he pins s1 σ H1 _ I1 q1) fun iv s2 ⟨y, H2, I2, ry, q2⟩ =>
    Calls.spliced_cons (thn (hf pins s2 σ H2 _ I2 q2) fun fv s3 ⟨z, H3, I3, rz, ov, g, q3⟩ => Calls.spliced_nil ?_))))
  exact d_get2 hu I3 g ry rz fun w' s4 I4 rw' => ⟨_, H3, I4, rw', q3⟩
end

/-! ### dict(d): a copy -/
section
variable {X : Cx} {pins : List (Addr × Obj)} {σ : St} {H : Hp} {s : Shared} {a : Addr} {kvs : List (Key × V)} {A : Around} {E : Value → Shared → Prop}
theorem d_copyOf {Q : Value → Shared → Prop} (I : Inv X pins σ H s) (e : Rd H a (.dK kvs)) (h : ∀ p s', H p = none → Inv X pins σ (upd H p (.dK kvs)) s' → Q (.ref p) s') : wpAny (model X.prog X.w) A (call (.type "dict") [.ref a]) Q E s := by
  obtain ⟨z, hd, vs, rel, dd⟩ := dk_rd I.hok e
  refine kt_call_dict hd dd (by rw [← rel.length]; exact z) fun h' dd' hs => ?_
  refine h _ _ (I.hok.fresh (Nat.le_refl _)) (I.laid (a := s.heap.objs.size) (o := .dK kvs) (t' := s.toks) (fun b q hq => ?_) (Nat.le_refl _) (dk_new z (beq_eq_false_iff_ne.mpr (Ne.symm (Nat.ne_of_lt I.big))) rel dd'))
  exact (hs.2 b (Nat.ne_of_lt (Heap.lt_size hq))).trans (Heap.get?_push_of_some _ hq)
end


section
variable {X : Cx} {pins : List (Addr × Obj)} {σ : St} {H : Hp} {s : Shared} {a : Addr} {y : V} {u : Value} {A : Around} {E : Value → Shared → Prop}
end
section
variable {X : Cx}
end
/-! ### a dict's pairs: keys that differ -/
section
variable {κ : Type} [DecidableEq κ]
end
end L2

set_option Elab.async false
set_option linter.all false
set_option maxRecDepth 100000
set_option maxHeartbeats 4000000
namespace L2
open PySem PySem.Spec PyProof.Rows PySem.W
theorem ent_loop : entryFor table "dict.update.loop" = some Builtin.«dict.update.loop» := entryFor_of_tree (by kernel_rfl)
theorem pl_loop : plainId "dict.update.loop" = true := by decide +kernel
theorem list_keys : typeLookup (.type "list") "keys" = pure none := by rw [typeLookup_type, builtinLookup_eq_fast]; kernel_rfl
/-- a list has no keys -/
theorem keys_miss {prog : Program} {w : World} {A : Around} {E : Value → Shared → Prop} {s : Shared} {a : Addr} {xs : Array Value} {k : Nat} {sl : Array (Option Value)} {Q : Option Value → Shared → Prop} (hh : A.handled = none)
    (hx : s.heap.get? a = some { cls := .type "list", dict := none, data := .seq xs k, slots := sl }) (h : ∀ h' tk, (∀ b o, s.heap.get? b = some o → h'.get? b = some o) → Q none { s with heap := h', toks := tk }) :
    wpAny (model prog w) A (getAttr? (.ref a) "keys") Q E s := by
  obtain ⟨hp, g, d, tk, os⟩ := s
  have hT : ∀ tk', (⟨hp, g, d, tk', os⟩ : Shared).TypeIs (.ref a) "list" := fun _ => ⟨_, hx, rfl⟩
  have f1 := sub_AttributeError
  have f3 := F.slot_list_getattribute.lookup
  have f4 := F.slot_list_getattribute.bind (.ref a)
  have f5 := am_list_getattr_none
  unfold getAttr? getAttrBy?
  refine wpAny_bind (wpAny_mkText (wpAny_bind (wpAny_attempt ?_)))
  unfold getAttrBy
  repeat (any_goals (first | assumption | exact hT _ | ((with_reducible show wpAny _ _ (call (Value.builtin "list.__getattribute__") _ _) _ _ _); refine call_meets F.slot_list_getattribute (hT _) am_entry_list_getattribute (F.args_list_getattribute_2 _ _) (meets_getattribute_miss_list a xs k sl "keys" _ list_keys (by decide +kernel) (by decide +kernel)) ⟨hx, hh, fun h' tk' e hx' => ?_⟩) | wp_step))
  obtain ⟨t', u', he⟩ := hx'.there
  show wpAny _ _ (getattributeRaised _ _ _ _ _ _ _) _ _ _
  unfold getattributeRaised
  repeat (any_goals (first | assumption | wp_step))
  exact h _ _ hx'.keeps
section
variable {prog : Program} {w : World} {A : Around} {s : Shared} {it l d : Addr} {items : Array Value}
def foldP (ps : List (Key × Value)) : List (Key × Value) := ps.foldl (fun a p => stored a p.1 p.2) []
theorem foldP_snoc (ps : List (Key × Value)) (p : Key × Value) : foldP (ps ++ [p]) = stored (foldP ps) p.1 p.2 := by unfold foldP; rw [List.foldl_append]; rfl
theorem stored_len (a : List (Key × Value)) (k : Key) (v : Value) : (stored a k v).length ≤ a.length + 1 := by
  unfold stored
  split
  · rw [List.length_map]; omega
  · rw [List.length_append]; simp
theorem foldP_len (ps : List (Key × Value)) : (foldP ps).length ≤ ps.length := by
  have g : ∀ (ps a : List (Key × Value)), (ps.foldl (fun a p => stored a p.1 p.2) a).length ≤ a.length + ps.length := by
    intro ps
    induction ps with
    | nil => intro a; exact Nat.le_refl _
    | cons p ps ih =>
      intro a
      have h1 := ih (stored a p.1 p.2)
      have h2 := stored_len a p.1 p.2
      rw [List.foldl_cons, List.length_cons]
      omega
  have := g ps []
  rw [List.length_nil, Nat.zero_add] at this
  exact this
/-- the pairs that a list holds -/
def PairsAt (h : Heap) (d it : Addr) (items : Array Value) (ps : List (Key × Value)) : Prop := items.size = ps.length ∧ ∀ (j : Nat) (p : Key × Value), ps[j]? = some p → ∃ T kv, items[j]? = some (.ref T) ∧ h.IsTuple T #[kv, p.2] ∧ keyIs p.1 kv = true ∧ T ≠ it ∧ T ≠ d
theorem loop_pairs (hh : A.handled = none) (hli : l ≠ it) (hld : l ≠ d) (hdi : d ≠ it) (ps : List (Key × Value)) (hz : ps.length ≤ sizeLine) : ∀ (n i : Nat) (s : Shared) (R : Result → Shared → Prop), ps.length - i = n → i ≤ ps.length → s.heap.IsListIter it l i → s.heap.IsList l items → PairsAt s.heap d it items ps →
    s.heap.DictOf (mixKind prog w) d (foldP (ps.take i)) →
    (∀ h' tk, h'.DictOf (mixKind prog w) d (foldP ps) → (∀ b o, b ≠ it → b ≠ d → s.heap.get? b = some o → h'.get? b = some o) → R (.ok (.ret .none)) { s with heap := h', toks := tk }) →
    codeAny (model prog w) A (.builtin "dict.update.loop" ⟨[.ref d, .ref it, rawInt i, .none], []⟩) R s := by
  intro n
  induction n with
  | zero =>
    intro i s R hn hi hit hl hp hd hR
    refine codeAny_builtin ent_loop ?_
    rw [Around.under_plainId pl_loop _]
    unfold Builtin.«dict.update.loop»
    have e : i = ps.length := by omega
    refine wpAny_bind (wpAny_pyNext_list_end hh hit hl (by rw [Array.getElem?_eq_none]; rw [hp.1]; omega) fun h' he => ?_)
    refine wpAny_bind (m := Builtin.Dict.addKeywords d []) (wpAny_pure (wpAny_pure ?_))
    have e2 : ps.take i = ps := by rw [e, List.take_length]
    rw [e2] at hd
    exact hR h' s.toks (hd.extBut he hdi) fun b o hb _ q => he b o hb q
  | succ n ih =>
    intro i s R hn hi hit hl hp hd hR
    refine codeAny_builtin ent_loop ?_
    rw [Around.under_plainId pl_loop _]
    unfold Builtin.«dict.update.loop»
    obtain ⟨p, hpi⟩ : ∃ p, ps[i]? = some p := ⟨_, List.getElem?_eq_getElem (by omega)⟩
    obtain ⟨T, kv, h1, h2, h3, h4, h5⟩ := hp.2 i p hpi
    refine wpAny_bind (wpAny_pyNext_list_item hit hl h1 fun h' hit' sb => ?_)
    have hT := h2.extBut sb.extBut h4
    have hd1 := hd.extBut sb.extBut hdi
    have hl1 := hl.extBut sb.extBut hli
    refine wpAny_bind (wpAny_holding (wpAny_bind (wpAny_tryCatch ?_)))
    unfold Builtin.Dict.pairItems
    obtain ⟨oT, hoT, hcT, nT, hdT⟩ := id hT
    refine wpAny_bind (wpAny_typeOf (s := { s with heap := h' }) (T := "tuple") ⟨oT, hoT, hcT⟩ ?_)
    rw [if_pos (by decide)]
    refine wpAny_bind (wpAny_seqItems hoT hdT (wpAny_pure ?_))
    show wpAny _ _ (holding [kv, p.2] (dictSet d kv p.2)) _ _ _
    have hlen : (foldP (ps.take i)).length ≤ sizeLine := by
      have a1 := foldP_len (ps.take i)
      have a2 : (ps.take i).length ≤ ps.length := by rw [List.length_take]; omega
      omega
    refine wpAny_holding (wpAny_dictSet_pairs (s := { s with heap := h' }) (hsz := hlen) (knd := mixKind prog w) h3 hd1 fun h2' hd2 sb2 => ?_)
    refine wpAny_pure ⟨Code.quiet_builtin _ (by decide +kernel), ?_⟩
    have et : ps.take (i + 1) = ps.take i ++ [p] := by rw [List.take_add_one, hpi]; rfl
    have ei : ((i : Int) + 1) = ((i + 1 : Nat) : Int) := by omega
    show codeAny (model prog w) A (.builtin "dict.update.loop" ⟨[.ref d, .ref it, rawInt ((i : Int) + 1), .none], []⟩) R _
    rw [ei]
    refine ih (i + 1) _ R (by omega) (by have := (List.getElem?_eq_some_iff.mp hpi).1; omega) (hit'.extBut sb2.extBut (Ne.symm hdi)) (hl1.extBut sb2.extBut hld) ⟨hp.1, fun j q hq => ?_⟩ (by rw [et, foldP_snoc]; exact hd2) fun h3' tk hd3 hk => ?_
    · obtain ⟨T', kv', a1, a2, a3, a4, a5⟩ := hp.2 j q hq
      exact ⟨T', kv', a1, (a2.extBut sb.extBut a4).extBut sb2.extBut a5, a3, a4, a5⟩
    · exact hR h3' tk hd3 fun b o hb1 hb2 q => hk b o hb1 hb2 (sb2.extBut b o hb2 (sb.extBut b o hb1 q))
theorem dict_of_pairs {E : Value → Shared → Prop} {Q : Value → Shared → Prop} {n : Nat} (hh : A.handled = none) (ho : s.heap.get? l = some { cls := .type "list", dict := none, data := .seq items n, slots := #[] }) (ps : List (Key × Value)) (hz : ps.length ≤ sizeLine)
    (hp : items.size = ps.length ∧ ∀ (j : Nat) (p : Key × Value), ps[j]? = some p → ∃ T kv, items[j]? = some (.ref T) ∧ s.heap.IsTuple T #[kv, p.2] ∧ keyIs p.1 kv = true)
    (h : ∀ h' tk, h'.DictOf (mixKind prog w) s.heap.objs.size (foldP ps) → (∀ b o, s.heap.get? b = some o → h'.get? b = some o) → Q (.ref s.heap.objs.size) { s with heap := h', toks := tk }) :
    wpAny (model prog w) A (call (.type "dict") [.ref l]) Q E s := by
  refine callType_codes (Q₁ := fun obj s₁ => obj = .ref s.heap.objs.size ∧ s₁ = { s with heap := s.heap.push { cls := .type "dict", data := .dict #[] } }) F.kt_called_dict (F.kt_typeCall_dict_1 _) F.entry_dict_init (kt_code_dict_new _ ⟨rfl, rfl⟩) ?_
  rintro obj s₁ ⟨rfl, rfl⟩
  have hnew : (s.heap.push { cls := .type "dict", data := .dict #[] }).DictOf (mixKind prog w) s.heap.objs.size [] := Heap.DictOf.new s.heap
  have up : ∀ b o, s.heap.get? b = some o → (s.heap.push { cls := .type "dict", data := .dict #[] }).get? b = some o := fun b o q => Heap.get?_push_of_some _ q
  have hlt : l < s.heap.objs.size := Heap.lt_size ho
  refine ⟨hnew.typeIs, F.args_dict_init_2 _ _, ?_⟩
  unfold Builtin.«dict.__init__»
  refine wpAny_bind ?_
  unfold Builtin.Dict.selfAndRest
  refine wpAny_bind (wpAny_notOrdered_dict hnew.typeIs ?_)
  show wpAny _ _ (pure (s.heap.objs.size, [Value.ref l])) _ _ _
  refine wpAny_pure ?_
  show wpAny _ _ (Builtin.Dict.updateFrom "dict.__init__" s.heap.objs.size (.ref l) [] .none) _ _ _
  unfold Builtin.Dict.updateFrom
  refine wpAny_bind (wpAny_typeOf (T := "list") ⟨_, up l _ ho, rfl⟩ ?_)
  rw [if_pos (by decide)]
  refine wpAny_bind (keys_miss (A := A.in1.in1) hh (up l _ ho) fun h1 tk1 k1 => ?_)
  rw [if_pos (by rfl)]
  have k01 : ∀ b o, s.heap.get? b = some o → h1.get? b = some o := fun b o q => k1 b o (up b o q)
  have hl1 : h1.IsList l items := ⟨_, k01 l _ ho, rfl, n, rfl⟩
  have hd1 : h1.DictOf (mixKind prog w) s.heap.objs.size [] := hnew.at fun o q => k1 _ o q
  refine wpAny_bind (wpAny_rule (wpAny_bind (wpAny_pyIter_list (s := { s with heap := h1, toks := tk1 }) hl1 (wpAny_pure ⟨Code.quiet_builtin _ (by decide +kernel), ?_⟩))))
  have hsz : s.heap.objs.size < h1.objs.size := by
    obtain ⟨_, _, _, e, _⟩ := hd1
    exact Heap.lt_size e
  have tlt : ∀ T xs, s.heap.IsTuple T xs → T < s.heap.objs.size := fun T xs ⟨_, e, _⟩ => Heap.lt_size e
  refine loop_pairs (l := l) (items := items) (A := A.in1) hh (Nat.ne_of_lt (Nat.lt_trans hlt hsz)) (Nat.ne_of_lt hlt) (Nat.ne_of_lt hsz) ps hz _ 0 _ _ rfl (Nat.zero_le _) ⟨_, Heap.get?_push_size _ rfl, rfl, rfl⟩ (hl1.push _) ⟨hp.1, fun j p hj => ?_⟩ (hd1.push _) fun h' tk hd' hk => ?_
  · obtain ⟨T, kv, a1, a2, a3⟩ := hp.2 j p hj
    have := tlt T _ a2
    exact ⟨T, kv, a1, (a2.at fun o q => Heap.get?_push_of_some _ (k01 _ o q)), a3, Nat.ne_of_lt (Nat.lt_trans this hsz), Nat.ne_of_lt this⟩
  · refine ⟨rfl, h h' tk hd' fun b o q => hk b o ?_ ?_ (Heap.get?_push_of_some _ (k01 b o q))⟩
    · exact Nat.ne_of_lt (Nat.lt_trans (Heap.lt_size q) hsz)
    · exact Nat.ne_of_lt (Heap.lt_size q)
end
section
variable {X : Cx}
/-! ### sorted, of a list of texts -/
theorem vals_of_strs : ∀ {us : List Value} {ys : List Str}, StrsAre us ys → Vals (ys.map V.str) us := by
  intro us ys h
  induction h with
  | nil => exact .nil
  | cons y t _ ih => exact .cons ⟨t, rfl⟩ ih
theorem call_sortedS : CallR X (.builtin "sorted") (fun xs H Q => ∃ p ss, xs = [.ref p] ∧ SqL X.K H p (ss.map V.str) ∧ ss.length < 64 ∧ ∀ ss' l, ss'.Perm ss → sortedS ss' = true → H l = none → Q (.ref l) (upd H l (.lst (ss'.map V.str)))) := by
  intro pins s σ H xs us Q I r h
  obtain ⟨p, ss, rfl, hq, hz, q⟩ := h
  obtain ⟨u, rfl, ru⟩ := vals1 r
  cases ru
  obtain ⟨its, rv, pl, _⟩ := I.list hq
  have hS := strs_are rv
  have hl : its.length < 64 := by rw [← rv.length, List.length_map]; exact hz
  refine sorted_strs pl.isList (by simpa using hS) hl fun out ss' a1 a2 a3 => ?_
  obtain ⟨e, he⟩ := sortedAll_at s.heap its out
  have hf : H (s.heap.objs.size + 1) = none := I.hok.fresh (Nat.le_succ _)
  have hl' : ss'.length = ss.length := a2.length_eq
  exact ⟨.ref (s.heap.objs.size + 1), _, I.laid (t' := s.toks) (o := .lst (ss'.map V.str)) (fun b o z => sortedAll_old z) (Nat.le_succ _) ⟨by rw [List.length_map, hl', sizeLine_eq]; omega, out.toList, e, vals_of_strs a1, he⟩, rfl, q ss' _ a2 a3 hf⟩
/-! ### list(d), the keys of a dict -/
theorem rel_key {k : Key} {v : Value} (h : keyIs k v = true) : RelV (kV k) v := by
  rcases keyIs_shape h with ⟨i, t, rfl, rfl⟩ | ⟨x, t, rfl, rfl⟩
  · exact ⟨t, rfl⟩
  · exact ⟨t, rfl⟩
theorem vals_keys : ∀ (ks : List Key) (acc : List Value), acc.length = ks.length → (∀ (j : Nat) (v : Value), acc[j]? = some v → ∃ k, ks[j]? = some k ∧ keyIs k v = true) → Vals (ks.map kV) acc
  | [], [], _, _ => .nil
  | k :: ks, v :: acc, hl, h => by
    obtain ⟨k', e, hk⟩ := h 0 v rfl
    have e' : k = k' := by simpa using e
    subst e'
    exact .cons (rel_key hk) (vals_keys ks acc (by simpa using hl) fun j u hu => by simpa using h (j + 1) u (by simpa using hu))
  | [], _ :: _, hl, _ => by simp at hl
  | _ :: _, [], hl, _ => by simp at hl
theorem call_listD (hc : X.calm = true) : CallR X (.type "list") (fun xs H Q => ∃ d kvs, xs = [.ref d] ∧ Rd H d (.dK kvs) ∧ ∀ l, H l = none → Q (.ref l) (upd H l (.lst ((kvs.map (·.1)).map kV)))) := by
  intro pins s σ H xs us Q I r h
  obtain ⟨d, kvs, rfl, hd, q⟩ := h
  obtain ⟨u, rfl, ru⟩ := vals1 r
  cases ru
  obtain ⟨z, lo, vs, rel, dd⟩ := dk_rd I.hok hd
  obtain ⟨ep, hat⟩ := dd.dictAt
  refine kdl_call (kdl_dict (knd := mixKind X.prog X.w) (kvs := vs) (ep := ep) lo) (I.ok.hd hc) hat (by rw [← rel.length]; exact z) fun h' tk acc c kp he hit => ?_
  have hl : acc.toList.length = kvs.length := by rw [Array.length_toList, hit.1, rel.length]
  have hv : Vals ((kvs.map (·.1)).map kV) acc.toList := vals_keys _ _ (by rw [List.length_map]; exact hl) fun j v hj => by
    obtain ⟨k, x, e, hk⟩ := hit.2 j v (by rw [← Array.getElem?_toList]; exact hj)
    refine ⟨k, ?_, hk⟩
    rw [rel.keys, List.getElem?_map, e]
    rfl
  refine ⟨.ref s.heap.objs.size, _, I.laid (t' := tk) (o := .lst ((kvs.map (·.1)).map kV)) kp (Nat.le_refl _) ⟨by rw [List.length_map, List.length_map]; exact z, acc.toList, c, hv, ?_⟩, rfl, q _ (I.hok.fresh (Nat.le_refl _))⟩
  rw [Array.toArray_toList]
  exact he
/-! ### dict(l), of a list of pairs -/
def foldK (kvs : List (Key × V)) : List (Key × V) := kvs.foldl (fun a p => putK a p.1 p.2) []
theorem kv_fold {kvs : List (Key × V)} {vs : List (Key × Value)} (r : KV kvs vs) : KV (foldK kvs) (foldP vs) := by
  have g : ∀ {kvs : List (Key × V)} {vs : List (Key × Value)}, KV kvs vs → ∀ {a : List (Key × V)} {b : List (Key × Value)}, KV a b → KV (kvs.foldl (fun a p => putK a p.1 p.2) a) (vs.foldl (fun a p => stored a p.1 p.2) b) := by
    intro kvs vs h
    unfold KV at h
    induction h with
    | nil => intro a b h; exact h
    | @cons p q _ _ h1 _ ih =>
      intro a b h
      rw [List.foldl_cons, List.foldl_cons]
      have z := KV.put h p.1 h1.2
      rw [← h1.1]
      exact ih z
  exact g r .nil
theorem pair_vals {P : Program} {w : World} {H : Hp} {h : Heap} (hok : HOk P w H h) : ∀ (ts : List Addr) (kvs : List (Key × V)) (us : List Value), ts.length = kvs.length → (∀ (j : Nat) (t : Addr) (kv : Key × V), ts[j]? = some t → kvs[j]? = some kv → H t = some (.tup [kV kv.1, kv.2])) → Vals (ts.map V.ref) us →
    ∃ vs : List (Key × Value), KV kvs vs ∧ us.length = vs.length ∧ ∀ (j : Nat) (p : Key × Value), vs[j]? = some p → ∃ T kv, us[j]? = some (.ref T) ∧ h.IsTuple T #[kv, p.2] ∧ keyIs p.1 kv = true
  | [], [], us, _, _, r => by cases r; exact ⟨[], .nil, rfl, fun j p hj => by simp at hj⟩
  | t :: ts, kv :: kvs, us, hl, hH, r => by
    cases r with
    | cons r1 r2 =>
      cases r1
      obtain ⟨vs, h1, h2, h3⟩ := pair_vals hok ts kvs _ (by simpa using hl) (fun j t' kv' a b => hH (j + 1) t' kv' (by simpa using a) (by simpa using b)) r2
      obtain ⟨_, its, rv, pl⟩ := (show ObjOk P w H h t (.tup [kV kv.1, kv.2]) from hok t _ (hH 0 t kv rfl rfl))
      obtain ⟨u1, u2, rfl, ru1, ru2⟩ := vals2 rv
      refine ⟨(kv.1, u2) :: vs, .cons ⟨rfl, ru2⟩ h1, by rw [List.length_cons, List.length_cons, h2], fun j p hj => ?_⟩
      cases j with
      | zero =>
        have e : (kv.1, u2) = p := by simpa using hj
        subst e
        exact ⟨t, u1, rfl, pl, kV_is (P := P) (w := w) ru1⟩
      | succ j =>
        obtain ⟨T, k, a1, a2, a3⟩ := h3 j p (by simpa using hj)
        exact ⟨T, k, by simpa using a1, a2, a3⟩
  | [], _ :: _, _, hl, _, _ => by simp at hl
  | _ :: _, [], _, hl, _, _ => by simp at hl
theorem foldK_len (kvs : List (Key × V)) : (foldK kvs).length ≤ kvs.length := by
  have g : ∀ (ps a : List (Key × V)), (ps.foldl (fun a p => putK a p.1 p.2) a).length ≤ a.length + ps.length := by
    intro ps
    induction ps with
    | nil => intro a; exact Nat.le_refl _
    | cons p ps ih =>
      intro a
      have h1 := ih (putK a p.1 p.2)
      have h2 := length_putK a p.1 p.2
      rw [List.foldl_cons, List.length_cons]
      omega
  have := g kvs []
  rw [List.length_nil, Nat.zero_add] at this
  exact this
theorem call_dictP (hc : X.calm = true) : CallR X (.type "dict") (fun xs H Q => ∃ (p : Addr) (ts : List Addr) (kvs : List (Key × V)), xs = [.ref p] ∧ H p = some (.lst (ts.map V.ref)) ∧ ts.length = kvs.length ∧
    (∀ (j : Nat) (t : Addr) (kv : Key × V), ts[j]? = some t → kvs[j]? = some kv → H t = some (.tup [kV kv.1, kv.2])) ∧ ∀ d, H d = none → Q (.ref d) (upd H d (.dK (foldK kvs)))) := by
  intro pins s σ H xs us Q I r h
  obtain ⟨p, ts, kvs, rfl, hp, hl, hH, q⟩ := h
  obtain ⟨u, rfl, ru⟩ := vals1 r
  cases ru
  obtain ⟨hz, its, n, rv, hg⟩ := (show ObjOk X.prog X.w H s.heap p (.lst (ts.map V.ref)) from I.hok p _ hp)
  obtain ⟨vs, h1, h2, h3⟩ := pair_vals I.hok ts kvs its hl hH rv
  have hz' : kvs.length ≤ sizeLine := by rw [← hl]; rw [List.length_map] at hz; exact hz
  refine dict_of_pairs (I.ok.hd hc) hg vs (by rw [← h1.length]; exact hz') ⟨by rw [List.size_toArray]; exact h2, fun j p hj => ?_⟩ fun h' tk hd kp => ?_
  · obtain ⟨T, kv, a1, a2, a3⟩ := h3 j p hj
    exact ⟨T, kv, by simpa using a1, a2, a3⟩
  · refine ⟨.ref s.heap.objs.size, _, I.laid (t' := tk) (o := .dK (foldK kvs)) kp (Nat.le_refl _) ⟨Nat.le_trans (foldK_len kvs) hz', ?_, foldP vs, kv_fold h1, hd⟩, rfl, q _ (I.hok.fresh (Nat.le_refl _))⟩
    exact beq_eq_false_iff_ne.mpr (Nat.ne_of_gt I.big)
end
end L2

set_option Elab.async false
set_option linter.all false
set_option maxRecDepth 100000
set_option maxHeartbeats 4000000
namespace L2
open PySem PySem.Spec PyProof.Rows PySem.W
/-! ### a dict that is walked: frozen while that lasts -/
section
variable {X : Cx} {pins : List (Addr × Obj)} {σ : St} {H : Hp} {s : Shared} {d : Addr} {kvs : List (Key × V)} {o : Obj}
/-- another word for the same object -/
theorem Inv.reword {u u' : HO} (I : Inv X pins σ H s) (e : H d = some u) (e' : ObjOk X.prog X.w (upd H d u') s.heap d u') (hu : ∀ xs, u ≠ .tup xs) (hw : ∀ a, u ≠ .own a) (ht : ∀ ps, u ≠ .tbl ps) (hf : ∀ o v, X.H₀ d ≠ some (.frz o v)) : Inv X pins σ (upd H d u') s := by
  have nd : ∀ b, H b = none → b ≠ d := fun b q z => by rw [z, e] at q; cases q
  refine ⟨I.ok, I.os, I.bare, ⟨I.base.keep, I.base.slot, fun b o q n hx => ?_, I.base.there, fun b xs q => ?_, fun b o v q => ?_, fun b ps q => ?_⟩, I.loc, I.cell, ?_, fun x c q => ?_, fun p hp => ?_, fun b v q => ?_, I.len⟩
  · have z := I.base.free b o q n hx
    rw [upd_ne (nd b z)]; exact z
  · have z := I.base.tups b xs q
    rw [upd_ne fun y => hu xs (Option.some.inj ((y ▸ e).symm.trans z))]; exact z
  · have z := I.base.frzs b o v q
    rw [upd_ne (show b ≠ d from fun y => hf o v (by rw [← y]; exact q))]; exact z
  · obtain ⟨m, z⟩ := I.base.tbls b ps q
    exact ⟨m, by rw [upd_ne fun y => ht _ (Option.some.inj ((y ▸ e).symm.trans z))]; exact z⟩
  · rw [upd_ne (nd _ I.free)]; exact I.free
  · rw [upd_ne (nd _ (I.freeC x c q))]; exact I.freeC x c q
  · obtain ⟨a1, a2, a3⟩ := I.pin p hp
    exact ⟨a1, by rw [upd_ne (nd _ a2)]; exact a2, a3⟩
  · by_cases hb : b = d
    · subst hb
      rw [upd_same] at q
      cases q
      exact e'
    · rw [upd_ne hb] at q
      refine (I.hok b v q).stay (fun _ _ _ z => z) (fun c z => ?_) fun c xs z => ?_
      · rw [upd_ne fun y => hw b (Option.some.inj ((y ▸ e).symm.trans z))]; exact z
      · rw [upd_ne fun y => hu xs (Option.some.inj ((y ▸ e).symm.trans z))]; exact z
theorem Inv.h0 (I : Inv X pins σ H s) (e : H d = some (.dK kvs)) : ∀ o v, X.H₀ d ≠ some (.frz o v) := fun o v q => by
  have z := I.base.frzs d o v q
  rw [e] at z; cases z
theorem Inv.freeze (I : Inv X pins σ H s) (e : H d = some (.dK kvs)) : ∃ o, Inv X pins σ (upd H d (.frz o (.dK kvs))) s := by
  obtain ⟨z, lo, vs, rel, o, es, ep, ho, r⟩ := dk_of I.hok e
  exact ⟨o, I.reword e ⟨ho, z, lo, vs, rel, o, es, ep, ho, r⟩ (fun _ y => nomatch y) (fun _ y => nomatch y) (fun _ y => nomatch y) (I.h0 e)⟩
theorem Inv.thaw (I : Inv X pins σ H s) (e : H d = some (.frz o (.dK kvs))) (hf : ∀ o v, X.H₀ d ≠ some (.frz o v)) : Inv X pins σ (upd H d (.dK kvs)) s := by
  obtain ⟨ho, z, lo, vs, rel, dd⟩ := (show ObjOk X.prog X.w H s.heap d (.frz o (.dK kvs)) from I.hok d _ e)
  exact I.reword e ⟨z, lo, vs, rel, dd⟩ (fun _ y => nomatch y) (fun _ y => nomatch y) (fun _ y => nomatch y) hf
end
/-- behind a walk over a dict -/
def tThaw (H0 : Hp) (t : TE) : TE := fun σ H Q => t σ H fun v H1 => Q v H1 ∨ ∃ d o kvs, H1 d = some (.frz o (.dK kvs)) ∧ (∀ o u, H0 d ≠ some (.frz o u)) ∧ Q v (upd H1 d (.dK kvs))
theorem pe_thaw {X : Cx} {e : Expr} {t : TE} (h : PE X e t) : PE X e (tThaw X.H₀ t) := by
  intro pins s σ H Q I hq
  refine thn (h pins s σ H _ I hq) fun u s1 ⟨x, H1, I1, r, q⟩ => ?_
  rcases q with q | ⟨d, o, kvs, e, hf, q⟩
  · exact ⟨x, H1, I1, r, q⟩
  · exact ⟨x, _, I1.thaw e hf, r, q⟩
/-- the keys of the dict at d, in their order -/
def Itd (d : Addr) (o : Obj) (kvs : List (Key × V)) : It :=
  ⟨fun i H => H d = some (.frz o (.dK kvs)) ∧ i < kvs.length, fun i H x H' => H' = H ∧ ∃ k, (kvs.map (·.1))[i]? = some k ∧ x = kV k, fun i H => H d = some (.frz o (.dK kvs)) ∧ kvs.length ≤ i⟩
theorem at_frz {P : Program} {w : World} {H : Hp} {h : Heap} {d : Addr} {o : Obj} {kvs : List (Key × V)} (hok : HOk P w H h) (e : H d = some (.frz o (.dK kvs))) :
    ∃ vs es ep, KV kvs vs ∧ (d == sysModules) = false ∧ h.DictAt (mixKind P w) d vs ep ∧ o.data = .dict es ep := by
  obtain ⟨ho, z, lo, vs, rel, o', es, ep, ho', hc, hd, r⟩ := (show ObjOk P w H h d (.frz o (.dK kvs)) from hok d _ e)
  rw [ho] at ho'
  cases ho'
  exact ⟨vs, es, ep, rel, lo, ⟨o, es, ho, hc, hd, r⟩, hd⟩
theorem turn_dict {P : Program} {w : World} {K : PySem.W.Frag} {tg : Expr} (d it : Addr) (o : Obj) (kvs : List (Key × V)) (es : Array DictEntry) (ep : Nat) (hd : o.data = .dict es ep) :
    Turn P w K tg (Itd d o kvs) [it] it (fun i h => h.IsKeyIter it d i kvs.length ep) where
  mem := by simp
  obj := fun i h st b hb => by
    have e : b = it := by simpa using hb
    subst e
    obtain ⟨o, e, c, dd⟩ := st
    exact ⟨o, e, fun v z => by rw [dd] at z; cases z⟩
  keep := fun i h h' st k => st.at fun o e => k it (by simp) o e
  item := by
    intro X hP hw hK hc i pins s σ H E I hf st hg
    subst hP hw hK
    obtain ⟨he, hlt⟩ := hg
    obtain ⟨vs, es', ep', rel, lo, hat, hd'⟩ := at_frz I.hok he
    rw [hd] at hd'
    cases hd'
    obtain ⟨f0, f1, f2, f3, f4, f5⟩ := hf it (by simp)
    obtain ⟨⟨k, x⟩, hx⟩ : ∃ p, vs[i]? = some p := ⟨_, List.getElem?_eq_getElem (by rw [← rel.length]; exact hlt)⟩
    rw [rel.length] at st
    refine wpAny_pyNext_dict_item st hat hx fun key h' hkey st' sb => ?_
    have I1 : Inv X pins σ H { s with heap := h' } := I.turned (t' := s.toks) (fun b o hb e => (sb.2 b hb).trans e) f0 f1 f3 f4 f5
    obtain ⟨o1, e1, c1, d1⟩ := id st'
    refine ⟨key, rfl, go_of (s := { s with heap := h' }) e1 c1 d1 (by decide) ⟨kV k, H, I1, rel_key hkey, ⟨rfl, k, ?_, rfl⟩, by rw [rel.length]; exact st', fun b hb => (hf b hb).1⟩⟩
    rw [rel.keys, List.getElem?_map, hx]; rfl
  done := by
    intro X hP hw hK hc i pins s σ H E I hf st hg
    subst hP hw hK
    obtain ⟨he, hle⟩ := hg
    obtain ⟨vs, es', ep', rel, lo, hat, hd'⟩ := at_frz I.hok he
    rw [hd] at hd'
    cases hd'
    obtain ⟨f0, f1, f2, f3, f4, f5⟩ := hf it (by simp)
    rw [rel.length] at st
    exact wpAny_pyNext_dict_end (I.ok.hd hc) st hat (by rw [List.getElem?_eq_none]; rw [← rel.length]; exact hle) fun h' eb => ⟨rfl, I.turned (t' := s.toks) (fun b o hb e => eb b o hb e) f0 f1 f3 f4 f5⟩
  self := fun _ _ _ _ _ st h => wpAny_pyIter_keyiter st h
def iDict (tl : TE) : TI := fun σ H R => tl σ H fun x H1 => ∃ d kvs, x = .ref d ∧ ((H1 d = some (.dK kvs) ∧ ∀ o, R (Itd d o kvs) (upd H1 d (.frz o (.dK kvs)))) ∨ ∃ o, H1 d = some (.frz o (.dK kvs)) ∧ R (Itd d o kvs) H1)
theorem pi_dict {X : Cx} {tg l : Expr} {tl : TE} (hl : PE X l tl) : PI X tg l (iDict tl) := by
  intro pins s σ H R I h
  refine thn (hl pins s σ H _ I h) fun v s1 hq => ?_
  obtain ⟨x, H1, I1, r1, d, kvs, rfl, q⟩ := hq
  cases r1
  have go : ∀ {H2 : Hp} {o : Obj}, Inv X pins σ H2 s1 → H2 d = some (.frz o (.dK kvs)) → R (Itd d o kvs) H2 → wpAny (model X.prog X.w) X.A (pyIter (.ref d)) (PIE X pins σ tg R) X.xe s1 := fun {H2 o} I2 he q2 => by
    obtain ⟨vs, es, ep, rel, lo, hat, hd⟩ := at_frz I2.hok he
    refine wpAny_pyIter_dict lo hat ⟨s1.heap.objs.size, [s1.heap.objs.size], _, _, H2, rfl, I2.kept (t' := s1.toks) (fun b o e => Heap.get?_push_of_some _ e), turn_dict d _ o kvs es ep hd, ⟨_, Heap.get?_push_size _ rfl, rfl, ?_⟩, fun b hb => ?_, q2⟩
    · rw [rel.length]; rfl
    · have e : b = s1.heap.objs.size := by simpa using hb
      subst e
      exact I2.fpOk (Nat.le_refl _) (I2.hok.fresh (Nat.le_refl _))
  rcases q with ⟨e, q⟩ | ⟨o, e, q⟩
  · obtain ⟨o, I2⟩ := I1.freeze e
    exact go I2 upd_same (q o)
  · exact go I1 e q
end L2

set_option Elab.async false
set_option linter.all false
set_option maxRecDepth 100000
set_option maxHeartbeats 4000000
namespace L2
open PySem PySem.Spec PyProof.Rows PySem.W
/-! ### two tuples beside one another -/
section
variable {prog : Program} {w : World} {A : Around} {E : Value → Shared → Prop} {s : Shared}
theorem next_tup {i t : Addr} {k : Nat} {xs : Array Value} {x : Value} {Q : Value → Shared → Prop} (st : s.heap.IsTupleIter i t k) (ht : s.heap.IsTuple t xs) (hx : xs[k]? = some x)
    (q : ∀ h', h'.IsTupleIter i t (k + 1) → Heap.SameBut i s.heap h' → Q x { s with heap := h' }) : wpAny (model prog w) A (Builtin.SmallTypes.nextOf (.ref i)) Q E s := by
  obtain ⟨oi, e1, c1, d1⟩ := id st
  obtain ⟨ot, e2, _, n2, d2⟩ := ht
  unfold Builtin.SmallTypes.nextOf
  refine wpAny_bind (wpAny_callSpecial?_slot (name := Str.ofString "__next__") st.typeIs F.slot_tuple_iterator_next (wpAny_call_entry F.slot_tuple_iterator_next st.typeIs F.entry_tuple_iterator_next ?_ (F.args_tuple_iterator_next_1 _)))
  show wpAny _ _ (field (.ref i) 0 >>= _) _ _ s
  refine wpAny_bind (wpAny_field e1 d1 (x := .ref t) rfl ?_)
  show wpAny _ _ (if (Value.ref t == Value.none) = true then _ else _) _ _ s
  rw [if_neg (show ¬ ((Value.ref t == Value.none) = true) from nofun)]
  show wpAny _ _ (field (.ref i) 1 >>= _) _ _ s
  refine wpAny_bind (wpAny_field e1 d1 (x := .int k 0) rfl ?_)
  show wpAny _ _ (seqItems? (.ref t) >>= _) _ _ s
  refine wpAny_bind (wpAny_seqItems e2 d2 ?_)
  simp only [hx, Int.toNat_natCast]
  refine wpAny_bind (wpAny_setField e1 d1 (by simp) (wpAny_pure ⟨x, rfl, wpAny_pure (q _ ⟨_, Heap.get?_update_self _ e1 (Obj.isFreed_of_fields (Obj.data_mapFields d1 _)), (Obj.cls_mapFields ..).trans c1, ?_⟩ (Heap.SameBut.update ..))⟩))
  rw [Obj.data_mapFields d1]
  simp [rawInt]
theorem stop_tup {i t : Addr} {k : Nat} {xs : Array Value} {Q : Value → Shared → Prop} (hh : A.handled = none) (st : s.heap.IsTupleIter i t k) (ht : s.heap.IsTuple t xs) (hx : xs[k]? = none)
    (q : ∀ h' e, Heap.ExtBut i s.heap h' → (∃ o, h'.get? e = some o ∧ o.cls = .type "StopIteration") → E (.ref e) { s with heap := h' }) : wpAny (model prog w) A (Builtin.SmallTypes.nextOf (.ref i)) Q E s := by
  obtain ⟨oi, e1, c1, d1⟩ := id st
  obtain ⟨ot, e2, _, n2, d2⟩ := ht
  unfold Builtin.SmallTypes.nextOf
  refine wpAny_bind (wpAny_callSpecial?_slot (name := Str.ofString "__next__") st.typeIs F.slot_tuple_iterator_next (wpAny_call_entry F.slot_tuple_iterator_next st.typeIs F.entry_tuple_iterator_next ?_ (F.args_tuple_iterator_next_1 _)))
  show wpAny _ _ (field (.ref i) 0 >>= _) _ _ s
  refine wpAny_bind (wpAny_field e1 d1 (x := .ref t) rfl ?_)
  show wpAny _ _ (if (Value.ref t == Value.none) = true then _ else _) _ _ s
  rw [if_neg (show ¬ ((Value.ref t == Value.none) = true) from nofun)]
  show wpAny _ _ (field (.ref i) 1 >>= _) _ _ s
  refine wpAny_bind (wpAny_field e1 d1 (x := .int k 0) rfl ?_)
  show wpAny _ _ (seqItems? (.ref t) >>= _) _ _ s
  refine wpAny_bind (wpAny_seqItems e2 d2 ?_)
  simp only [hx, Int.toNat_natCast]
  refine wpAny_bind (wpAny_rule (wpAny_bind (wpAny_setField e1 d1 (by simp) ?_)))
  show wpAny _ _ (newExc (.type "StopIteration") [] >>= _) _ _ _
  refine wpAny_bind ?_
  simp only [newTuple, newExc]
  refine wpAny_bind (wpAny_newObj_type ?_ (by size_fits))
  refine wpAny_bind (m := firstArgMember _ _) (wpAny_of_eq (a := Value.none) (by first | (simp only [firstArgMember]; rfl) | rfl) (wpAny_newObj_type ?_ (by size_fits)))
  simp only [raiseNew]
  refine wpAny_bind (wpAny_handled ?_)
  rw [show A.in1.handled = none from hh]
  exact wpAny_bind (wpAny_pure (wpAny_throw (q _ _ (((Heap.SameBut.update ..).extBut.push _).push _) ⟨_, Heap.get?_push_size _ rfl, rfl⟩)))
end
end L2

set_option Elab.async false
set_option linter.all false
set_option maxRecDepth 100000
set_option maxHeartbeats 4000000
namespace L2
open PySem PySem.Spec PyProof.Rows PySem.W
section
variable {X : Cx}
end
end L2

set_option Elab.async false
set_option linter.all false
set_option maxRecDepth 100000
set_option maxHeartbeats 4000000
namespace L2
open PySem PySem.Spec PyProof.Rows
section
variable {X : Cx} {e : Expr} {te : TE} {pos p2 : Pos}
/-! ### a list the other way about -/
def tRev (K : PySem.W.Frag) (te : TE) : TE := fun σ H Q => te σ H fun x H1 => ∃ a xs, x = .ref a ∧ SqL K H1 a xs ∧ ∀ p, H1 p = none → Q (.ref p) (upd H1 p (.lst xs.reverse))
theorem pe_rev {k : Nat} {p3 p4 : Pos} (he : PE X e te) : PE X (.Subscript e (.Slice none none (some (.UnaryOp .USub (.Constant (.int 1) k p3) p4)) p2) pos) (tRev X.K te) := by
  intro pins s σ H Q I h
  refine Subscript_ (thn (he pins s σ H _ I h) fun v s1 ⟨x, H1, I1, r1, q1⟩ => ?_)
  refine wpAny_Slice ?_
  rw [evalPart_none]
  refine wpAny_pure (wpAny_pure ?_)
  have hp : PE X (.UnaryOp .USub (.Constant (.int 1) k p3) p4) (tUn (rU fun i => .int (-i)) (tC (.int 1))) := pe_un un_neg pe_int
  refine thn (po_some hp pins s1 σ H1 (fun o H' => o = some (-1) ∧ H' = H1) I1 ⟨_, rfl, _, rfl, rfl, rfl⟩) fun vs s2 ⟨o, H2, I2, ps, eo, eh⟩ => ?_
  subst eo eh
  obtain ⟨a, xs, rfl, hx, q⟩ := q1
  cases r1
  have I4 : Inv X pins σ H2 { s2 with heap := s2.heap.push { cls := .type "slice", data := .fields #[.none, .none, vs] } } := I2.kept (t' := s2.toks) fun b ob q => Heap.get?_push_of_some _ q
  obtain ⟨its, r, ht, hz⟩ := I4.list hx
  have hlen := r.length
  refine tail_any (ops := [.ref a, .ref s2.heap.objs.size]) ht.isList.typeIs slot_list_getitem.lookup ?_ (by with_unfolding_all rfl)
  refine wpAny_getItem_list_slice ht.isList (Heap.IsSliceOf.new ..) .none .none ps (by simp) ?_ (by rw [List.size_toArray] <;> omega)
  rw [PySem.W.krv_pick]
  refine ⟨.ref _, _, I4.laid (t' := s2.toks) (o := .lst xs.reverse) (fun b ob q => Heap.get?_push_of_some _ q) (Nat.le_refl _) ?_, rfl, q _ (I4.hok.fresh (Nat.le_refl _))⟩
  refine ⟨by rw [List.length_reverse]; exact hz, its.reverse, 0, ?_, Heap.get?_push_size _ rfl⟩
  exact Vals.reverse r
end
/-! ### extend by a tuple -/
section
open AutoSeq1
set_option maxRecDepth 8000
theorem extT (l b : Addr) (xs ys : Array Value) (n m : Nat) (dd : Option Addr) (sl : Array (Option Value)) (h0 : ¬(!xs.isEmpty && Builtin.List.listTooLong (xs.size + ys.size)) = true) (h1 : xs.size ≤ sizeLine) (h2 : xs.size + ys.size ≤ sizeLine + 1) :
    Meets (Builtin.«list.extend» ⟨[.ref l, .ref b], []⟩) (fun _ R s => s.heap.get? l = some ⟨.type "list", none, .seq xs n, #[]⟩ ∧ s.heap.get? b = some ⟨.type "tuple", dd, .seq ys m, sl⟩ ∧ R (.ok (.ret Value.none)) { s with heap := s.heap.update l (Obj.mapSeq fun x => x ++ ys), toks := s.toks }) :=
  .of_wp fun prog w A R s h => by
    obtain ⟨hp, g, d, tk, os⟩ := s
    obtain ⟨hl, hb, h⟩ := h
    have f1 := idx_int; have f2 := AutoSeq1.sub_tuple_tuple; have f3 := AutoSeq1.sub_list_list; have f4 := AutoSeq1.sub_tuple_list; have f5 := AutoSeq1.sub_list_tuple
    have hz' : (xs ++ ys).size ≤ sizeLine + 1 := by rw [Array.size_append]; exact h2
    wp_walk using (wpAny_updateSeq hl rfl (hz := h1) (_hz' := hz')), wpAny_loadPart' hl, wpAny_loadPart' hb
    exact ⟨_, rfl, h⟩
end
def rExtT (K : PySem.W.Frag) : V → List V → Hp → VK → Prop := fun x vs H Q => ∃ l b xs zs, x = .ref l ∧ vs = [.ref b] ∧ H l = some (.lst xs) ∧ SqT K H b zs ∧ xs.length + zs.length ≤ sizeLine ∧ Q .non (upd H l (.lst (xs ++ zs)))
theorem mt_extT {X : Cx} : MtM X "list.extend" (rExtT X.K) := by
  intro pins s σ H x vs v us Q I rx rv h
  obtain ⟨l, b, xs, zs, rfl, rfl, hH, hB, hz, q⟩ := h
  cases rx
  obtain ⟨u, rfl, ru⟩ := rv.one
  cases ru
  obtain ⟨z, its, n, r, hl, e⟩ := I.lstM hH
  obtain ⟨its2, r2, ⟨⟨oc, od, odt, osl⟩, e2, ec, n2, en⟩, z2⟩ := I.tuple hB
  simp only at ec en
  subst ec en
  have hl2 := r2.length
  have hsz : its.toArray.size + its2.toArray.size ≤ sizeLine := by rw [List.size_toArray, List.size_toArray]; omega
  have hlong : ¬ (!its.toArray.isEmpty && Builtin.List.listTooLong (its.toArray.size + its2.toArray.size)) = true := by
    rw [notLongL hsz, Bool.and_false]; exact Bool.false_ne_true
  refine call_meets F.slot_list_extend ⟨_, e, rfl⟩ F.entry_list_extend (F.args_list_extend_2 _ _) (extT l b its.toArray its2.toArray n n2 _ _ hlong (by rw [List.size_toArray]; omega) (by omega)) ⟨e, e2, ?_⟩
  refine ⟨.non, _, I.lset (its' := its ++ its2) hH e (by simp) (r.append r2) ?_, rfl, q⟩
  rw [List.length_append]; omega
end L2

set_option Elab.async false
set_option linter.all false
set_option maxRecDepth 100000
set_option maxHeartbeats 4000000
namespace L2
open PySem PySem.Spec PyProof.Rows PySem.W PySem.Calls
/-! ### a def that a name of the frame holds -/
section
variable {X : Cx} {CX : CXT} {k : Nat} {f : Addr} {fd : FuncData} {ps : List Str} {sp : Sp} {dvs : List V} {ds : List Value} {E : XK} {x : Str} {p pos : Pos} {e : Expr} {es : List Expr} {t : TA}
def KeptAt (K : PySem.W.Frag) (f : Addr) (h : Heap) : Prop := (K.In h ∧ PySem.W.keepIn K (.ref f) = true) ∨ PySem.W.FnAt f h
def KeptBy (P : Program) (w : World) (K : PySem.W.Frag) (base : Heap) (f : Addr) (sp : Sp) : Prop := ∀ vs H Q E (h : Heap), HOk P w H h → K.In h → (∀ b o, base.get? b = some o → h.get? b = some o) → sp vs H Q E → KeptAt K f h
theorem keeps_at {M : Model} {K : PySem.W.Frag} (h : Heap) (X : KeptAt K f h) : ∃ k, (k = Keeper.frame ∨ k = Keeper.machine ∨ k = Keeper.boundFrame) ∧ Looks M h (keeperOf (.ref f)) k := by
  rcases X with ⟨a, b⟩ | a
  · exact PySem.W.keeps_K b h a
  · exact PySem.W.keeps_F h a
def tCallV (i : Nat) (f : Addr) (sp : Sp) (dvs : List V) (E : XK) (t : TA) : TE := fun σ H Q => σ[i]? = some (some (.ref f)) ∧ t σ H fun vs H1 => sp (vs ++ dvs) H1 Q E
theorem pe_callV {i : Nat} (F : FnOk X.prog X.w X.K X.mg X.base CX k f fd ps sp) (hr : Room k X.A) (hN : X.N[i]? = some x) (hv : Vis X.env.scope x) (hk : KeptBy X.prog X.w X.K X.base f sp) (hb : Binds X.K fd ps ds) (hd : Vals dvs ds) (hx : Passes CX X E)
    (ha : PA X (e :: es) t) (hdb : (x == ("__debug__" : Str)) = false := by decide) (hcd : (x == ("__classdict__" : Str)) = false := by decide) (he : starEach (e :: es) X.env = (false, eval e X.env) :: starEach es X.env := by rfl) (hpl : (backTo pos (starEach es X.env)).any (·.1) = false := by rfl) :
    PE X (.Call (.Name x p) (e :: es) [] pos) (tCallV i f sp dvs E t) := by
  intro pins s σ H Q I h
  obtain ⟨hs, h⟩ := h
  refine wpAny_Call_Name_kw (thn (pe_var (pos := p) hN hv hdb hcd pins s σ H (fun v H' => v = .ref f ∧ H' = H) I ⟨_, hs, rfl, rfl⟩) fun u s1 ⟨v, H1, I1, r, ev, eh⟩ => ?_)
  subst ev eh
  cases r
  have hh := thn (ha pos pins s1 σ H1 _ I1 h) (Q' := fun us s2 => KeptAt X.K f s2.heap ∧ wpAny (model X.prog X.w) X.A (call (.ref f) ([] ++ us)) (EP X pins σ Q) X.xe s2) fun us s2 ⟨vs, H2, I2, r2, q⟩ => ⟨hk _ _ _ _ _ I2.hok I2.kIn I2.bk q, run_fn F hr hb hd hx I2 r2 q⟩
  rw [he] at hh
  show wpAny _ _ (callWith pos (.ref f) [] (backTo pos (starEach (e :: es) X.env)) []) _ _ _
  rw [he]
  exact PySem.W.callWith_of (P := KeptAt X.K f) (by show ((false || (backTo pos (starEach es X.env)).any (·.1)) || false) = false; rw [hpl]; rfl) keeps_at (evalArgs_plain hh)
theorem kept_in {P : Program} {w : World} {K : PySem.W.Frag} {base : Heap} {f : Addr} {sp : Sp} (h : PySem.W.keepIn K (.ref f) = true) : KeptBy P w K base f sp := fun _ _ _ _ _ _ k _ _ => .inl ⟨k, h⟩
end

/-! ### del xs[k:] -/
theorem del_tail (sel : Int → Int → Int → Nat → Bool) (hs : ∀ a b i, sel a b 1 i = (decide (a ≤ (i : Int)) && decide ((i : Int) < b) && ((i : Int) - a) % 1 == 0)) (xs : List Value) (k : Nat) (hk : k ≤ xs.length) :
    (xs.zipIdx.filterMap fun x => if sel (k : Int) (xs.length : Int) 1 x.2 = true then none else some x.1) = xs.take k := by
  have gen : ∀ (xs : List Value) (n b : Nat), n + xs.length ≤ b → (xs.zipIdx n).filterMap (fun x => if sel (k : Int) (b : Int) 1 x.2 = true then none else some x.1) = xs.take (k - n) := by
    intro xs
    induction xs with
    | nil => intro n b _; simp
    | cons x xs ih =>
      intro n b hb
      rw [List.length_cons] at hb
      rw [List.zipIdx_cons, List.filterMap_cons]
      have hsel : sel (k : Int) (b : Int) 1 n = decide (k ≤ n) := by
        rw [hs, Int.emod_one]
        have h2 : decide ((n : Int) < (b : Int)) = true := decide_eq_true (by omega)
        rw [h2]
        by_cases h : k ≤ n
        · rw [decide_eq_true h, decide_eq_true (by omega : (k : Int) ≤ (n : Int))]; rfl
        · rw [decide_eq_false h, decide_eq_false (by omega : ¬ (k : Int) ≤ (n : Int))]; rfl
      have := ih (n + 1) b (by omega)
      rw [this]
      dsimp only
      rw [hsel]
      by_cases h : k ≤ n
      · rw [decide_eq_true h]
        have e1 : k - n = 0 := by omega
        have e2 : k - (n + 1) = 0 := by omega
        rw [e1, e2]; rfl
      · rw [decide_eq_false h]
        have e1 : k - n = (k - (n + 1)) + 1 := by omega
        rw [e1]; rfl
  have := gen xs 0 xs.length (by omega)
  simpa using this
section
variable {prog : Program} {w : World} {A : Around} {E : Value → Shared → Prop} {s : Shared}
theorem delItem_tail {l sl : Addr} {its : List Value} {n k : Nat} {vl : Value} {Q : Unit → Shared → Prop} (ho : s.heap.get? l = some { cls := .type "list", data := .seq its.toArray n })
    (hsl : s.heap.IsSliceOf sl vl .none .none) (pl : IsPart vl (some (k : Int))) (hk : k ≤ its.length) (hz : its.length ≤ sizeLine)
    (h : ∀ F : Array Value → Array Value, F its.toArray = (its.take k).toArray → Q () { s with heap := s.heap.update l (Obj.mapSeq F) }) : wpAny (model prog w) A (delItem (.ref l) (.ref sl)) Q E s := by
  have hT : s.TypeIs (.ref l) "list" := ⟨_, ho, rfl⟩
  obtain ⟨os, hos, hcs, hds⟩ := id hsl
  have hTs : s.TypeIs (.ref sl) "slice" := ⟨os, hos, hcs⟩
  refine wpAny_delItem_slot hT (by decide) F.slot_list_delitem (wpAny_call_entry F.slot_list_delitem hT F.entry_list_delitem ?_ (F.args_list_delitem_2 _ _))
  show wpAny _ _ (Builtin.List.listSubscript? (.ref sl) >>= _) _ _ s
  refine wpAny_bind ?_
  unfold Builtin.List.listSubscript?
  refine wpAny_bind (wpAny_specialOf hTs slice_no_index ?_)
  simp only [Option.isNone_none, if_true]
  refine wpAny_pure ?_
  show wpAny _ _ (typeOf (.ref sl) >>= _) _ _ s
  refine wpAny_bind (wpAny_typeOf hTs ?_)
  rw [if_neg (by decide)]
  rw [listSliceParts_eq]
  refine wpAny_bind (wpAny_bind (wpAny_field hos hds (x := .none) rfl (wpAny_bind (wpAny_listPart .none ?_))))
  rw [if_neg (show ¬ ((rawPart none == rawInt 0) = true) from Bool.false_ne_true)]
  refine wpAny_bind (wpAny_field hos hds (x := vl) rfl (wpAny_bind (wpAny_listPart pl ?_)))
  refine wpAny_bind (wpAny_field hos hds (x := .none) rfl (wpAny_bind (wpAny_listPart .none (wpAny_pure ?_))))
  refine wpAny_bind (m := Builtin.List.listItems (.ref l)) ?_
  unfold Builtin.List.listItems
  refine wpAny_bind (wpAny_seqItems ho rfl (wpAny_pure ?_))
  refine wpAny_bind (wpAny_of_eq (sliceIndices_raw (some (k : Int)) none none its.toArray.size (by simp)) ?_)
  have hb : sliceBounds (some (k : Int)) none none its.toArray.size = ((k : Int), (its.length : Int), 1) := by
    unfold sliceBounds
    simp only [Option.getD_none, List.size_toArray]
    rw [if_neg (by omega : ¬ ((k : Int) < 0))]
    have e : max (0 : Int) (min (k : Int) (its.length : Int)) = (k : Int) := by omega
    simp [e]
    try omega
  rw [hb]
  refine wpAny_bind (wpAny_rule (wpAny_bind (m := Builtin.List.listUpdate (.ref l) _) ?_))
  show wpAny _ _ (updateSeq l _) _ _ _
  refine wpAny_updateSeq ho rfl (wpAny_bind (wpAny_letGo (wpAny_pure ⟨_, rfl, h _ ?_⟩))) (hz := by rw [List.size_toArray]; exact hz) (_hz' := ?_)
  · show (List.filterMap _ its.toArray.toList.zipIdx).toArray = _
    rw [List.toList_toArray]
    dsimp only
    refine congrArg List.toArray (del_tail _ ?hs its k hk)
    intro a b i; rfl
  · show (List.filterMap _ its.toArray.toList.zipIdx).toArray.size ≤ _
    rw [List.toList_toArray, List.size_toArray]
    refine Nat.le_trans (List.length_filterMap_le _ _) ?_
    rw [List.length_zipIdx]; omega
end
section
variable {X : Cx} {o e : Expr} {td te : TE} {pos tpos p2 : Pos}
def sDelT (td te : TE) : TS := fun D σ H => td σ H fun x H1 => te σ H1 fun y H2 => ∃ l xs, ∃ k : Nat, x = .ref l ∧ H2 l = some (.lst xs) ∧ y = .int k ∧ k ≤ xs.length ∧ D.nx σ (upd H2 l (.lst (xs.take k)))
theorem ps_delT (ho : PE X o td) (hi : PE X e te) : PS X (.Delete [.Subscript o (.Slice (some e) none none p2) tpos] pos) (sDelT td te) := by
  intro pins s σ H D I h
  refine wpAny_Delete (wpAny_deleteEach_cons (wpAny_delete_Subscript (thn (ho pins s σ H _ I h) fun u s1 ⟨x, H1, I1, rx, q1⟩ => ?_)))
  refine wpAny_Slice ?_
  rw [evalPart_some]
  refine thn (hi pins s1 σ H1 _ I1 q1) fun iv s2 ⟨y, H2, I2, ry, l, xs, k, ex, hl, ey, hk, q⟩ => ?_
  rw [evalPart_none]
  refine wpAny_pure (wpAny_pure ?_)
  subst ex ey
  cases rx
  obtain ⟨t, rfl⟩ := ry
  have I4 : Inv X pins σ H2 { s2 with heap := s2.heap.push { cls := .type "slice", data := .fields #[.int k t, .none, .none] } } := I2.kept (t' := s2.toks) fun b ob q => Heap.get?_push_of_some _ q
  obtain ⟨z, its, n, r, hlen, e'⟩ := I4.lstM hl
  have hkl : k ≤ its.length := by have := r.length; omega
  have hz : its.length ≤ sizeLine := by have := r.length; omega
  refine delItem_tail e' (Heap.IsSliceOf.new ..) (.int _ _) hkl hz fun F hF => wpAny_deleteEach_nil ⟨σ, _, ?_, q⟩
  refine I4.lset (t' := s2.toks) (its' := its.take k) hl e' hF (r.take k) ?_
  have := r.length
  rw [List.length_take]; omega
end
end L2

set_option Elab.async false
set_option linter.all false
set_option maxRecDepth 100000
set_option maxHeartbeats 4000000
namespace L2
open PySem PySem.Spec PyProof.Rows PySem.W
/-! ### enumerate of a tuple, of a list -/
section
open AutoSeq1 (wpAny_loadPart')
theorem meets_enumerate_newT (l : Addr) (items : Array Value) (n : Nat) (dct : Option Addr) (sl : Array (Option Value)) :
    Meets (Builtin.«enumerate.__new__» ⟨[.type "enumerate", .ref l], []⟩) (fun _ R s => s.heap.get? l = some { cls := .type "tuple", dict := dct, data := .seq items n, slots := sl } ∧
      R (.ok (.ret (.ref (s.heap.push { cls := .type "tuple_iterator", data := .fields #[.ref l, .int 0 0] }).objs.size)))
        { s with heap := (s.heap.push { cls := .type "tuple_iterator", data := .fields #[.ref l, .int 0 0] }).push { cls := .type "enumerate", data := .fields #[.none, .bool false, .ref s.heap.objs.size, rawInt 0, .none, .none] } }) :=
  .of_wp fun prog w A R s h => by
    obtain ⟨hp, g, d, tk, os⟩ := s; obtain ⟨hl, h⟩ := h
    have hsub := sub_enumerate
    have hL : Heap.IsTuple (Shared.heap ⟨hp, g, d, tk, os⟩) l items := ⟨_, hl, rfl, n, rfl⟩
    wp_walk using wpAny_loadPart' hl
    refine wpAny_stack_any fun st => wpAny_pure ?_
    split
    · rename_i c _ _ _ _ _
      cases (c == Value.type "enumerate")
      · wp_walk using wpAny_loadPart' hl, wpAny_pyIter_tuple hL
        exact ⟨_, rfl, h⟩
      · wp_walk using wpAny_loadPart' hl, wpAny_pyIter_tuple hL
        exact ⟨_, rfl, h⟩
    · wp_walk using wpAny_loadPart' hl, wpAny_pyIter_tuple hL
      exact ⟨_, rfl, h⟩
end
theorem call_enumerate_tuple {prog : Program} {w : World} {A : Around} {E : Value → Shared → Prop} {s : Shared} {l : Addr} {items : Array Value} {Q : Value → Shared → Prop} (hL : s.heap.IsTuple l items)
    (h : ∀ h', IsEnum h' (s.heap.objs.size + 1) s.heap.objs.size 0 .none → h'.IsTupleIter s.heap.objs.size l 0 → h'.objs.size = s.heap.objs.size + 2 →
      (∀ b o, s.heap.get? b = some o → h'.get? b = some o) → Q (.ref (s.heap.objs.size + 1)) { s with heap := h' }) :
    wpAny (model prog w) A (call (.type "enumerate") [.ref l]) Q E s := by
  obtain ⟨⟨oc, od, odt, osl⟩, hl, hc, n, hd⟩ := hL
  simp only at hc hd
  subst hc hd
  refine callType_new F.called_enumerate (by decide) (F.typeCall_enumerate_1 _) (F.newCall_enumerate_1 _) (fun obj => F.args_object_init_2 obj _) F.entry_enumerate_new
    (meets_enumerate_newT l items n od osl) ⟨hl, ?_⟩
  have hz : (s.heap.push { cls := .type "tuple_iterator", data := .fields #[.ref l, .int 0 0] }).objs.size = s.heap.objs.size + 1 := Heap.size_push ..
  show _ ∧ _
  rw [hz]
  have he : IsEnum ((s.heap.push { cls := .type "tuple_iterator", data := .fields #[.ref l, .int 0 0] }).push
      { cls := .type "enumerate", data := .fields #[.none, .bool false, .ref s.heap.objs.size, rawInt 0, .none, .none] }) (s.heap.objs.size + 1) s.heap.objs.size 0 .none := by
    have := Heap.get?_push_size (s.heap.push { cls := .type "tuple_iterator", data := .fields #[.ref l, .int 0 0] })
      (o := { cls := .type "enumerate", data := .fields #[.none, .bool false, .ref s.heap.objs.size, rawInt 0, .none, .none] }) rfl
    rw [hz] at this; exact this
  refine ⟨⟨_, he, rfl⟩, h _ he ⟨_, Heap.get?_push_of_some _ (Heap.get?_push_size _ rfl), rfl, rfl⟩ (by rw [Heap.size_push, hz]) fun b o x => Heap.get?_push_of_some _ (Heap.get?_push_of_some _ x)⟩
theorem draws_tuple {prog : Program} {w : World} {A : Around} (hh : A.handled = none) (it l : Addr) (hne : l ≠ it) (items : Array Value) :
    Draws prog w A it [it, l] items.size (fun i v => items[i]? = some v) (fun i h => h.IsTupleIter it l i ∧ h.IsTuple l items) where
  live := fun _ _ st => let ⟨o, ho, _⟩ := st.1; ⟨o, ho⟩
  frame := fun _ _ _ st hk => ⟨let ⟨o, e, r⟩ := st.1; ⟨o, hk it (by simp) o e, r⟩, let ⟨o, e, r⟩ := st.2; ⟨o, hk l (by simp) o e, r⟩⟩
  item := fun i s Q E hi st hQ => by
    refine next_tup st.1 st.2 (x := items[i]) (by simp [hi]) fun h' hit' hs' => ?_
    exact hQ _ h' s.toks (by simp [hi]) ⟨hit', st.2.extBut hs'.extBut hne⟩ hs'
  done := fun s Q E st hE => stop_tup hh st.1 st.2 (by simp) hE

def ItET (K : PySem.W.Frag) (a : Addr) : It :=
  ⟨fun i H => ∃ xs x, SqT K H a xs ∧ xs[i]? = some x,
   fun i H u H' => ∃ T, u = .ref T ∧ H T = none ∧ (∀ xs, SqT K H a xs → ∃ x, xs[i]? = some x ∧ H' = upd H T (.tup [.int i, x])),
   fun i H => ∃ xs, SqT K H a xs ∧ xs.length = i⟩
theorem turn_enumT {P : Program} {w : World} {K : PySem.W.Frag} {es : List Expr} {k : Nat} {tp : Pos} (e it a : Addr) (hei : e ≠ it) :
    Turn P w K (.Tuple es k tp) (ItET K a) [e, it] e (fun i h => (∃ old, IsEnum h e it i old) ∧ h.IsTupleIter it a i) where
  mem := by simp
  obj := fun i h st c hc => by
    obtain ⟨⟨old, s1⟩, ⟨o4, e4, c4, d4⟩⟩ := st
    simp at hc
    rcases hc with rfl | rfl
    · exact ⟨_, s1, fun v q => by cases q⟩
    · exact ⟨_, e4, fun v q => by rw [d4] at q; cases q⟩
  keep := fun i h h' st kk => by
    obtain ⟨⟨old, s1⟩, ⟨o4, e4, r4⟩⟩ := st
    exact ⟨⟨old, kk e (by simp) _ s1⟩, ⟨o4, kk it (by simp) o4 e4, r4⟩⟩
  item := by
    intro X hP hw hK hc i pins s σ H E I hf st hg
    subst hP hw hK
    obtain ⟨xs, x, h1, hx⟩ := hg
    obtain ⟨its1, rv1, p1, _⟩ := I.tuple h1
    obtain ⟨u1, hw1, r1⟩ := rv1.get hx
    obtain ⟨⟨old, he⟩, hit⟩ := st
    have tp : s.heap.IsTuple a its1.toArray := p1
    have hea : e ≠ a := fun z => by
      obtain ⟨o, q, c, _⟩ := tp
      rw [← z, he] at q; cases q; simp at c
    have hia : it ≠ a := fun z => by
      obtain ⟨o, q, c, _⟩ := tp
      obtain ⟨o2, q2, c2, _⟩ := hit
      rw [← z, q2] at q; cases q; rw [c2] at c; simp at c
    have hlt : i < its1.toArray.size := by
      have := List.getElem?_eq_some_iff.mp hw1
      obtain ⟨w1, _⟩ := this
      simpa using w1
    refine wpAny_pyNext_enum_itemD (draws_tuple (show X.A.in1.handled = none from I.ok.hd hc) it a hia.symm its1.toArray) he ⟨hit, tp⟩ hlt hei (by simp; exact ⟨hei, hea⟩) fun u h' tk hu c1 c2 c3 csz kk => ?_
    have eu : u = u1 := by
      have hu' : its1[i]? = some u := by simpa using hu
      rw [hw1] at hu'; exact (Option.some.inj hu').symm
    subst eu
    refine ⟨_, rfl, wpAny_letOwnedTupleGo_enum c1 fun h'' c1' sb => ?_⟩
    have kk2 : ∀ c o, c ≠ e → h'.get? c = some o → h''.get? c = some o := fun c o hn q => sb.extBut c o hn q
    have hTn : H s.heap.objs.size = none := I.hok.fresh (Nat.le_refl _)
    have keep2 : ∀ c o, c ∉ [e, it] → s.heap.get? c = some o → h''.get? c = some o := fun c o hc q => kk2 c o (fun y => hc (by simp [y])) (kk c o (fun y => hc (by simp [y])) (fun y => hc (by simp [y])) q)
    have nwr : ∀ c u, H c = some u → c ∉ [e, it] := fun c u q hc => by rw [(hf c hc).1] at q; cases q
    have elt : e < s.heap.objs.size := Heap.lt_size he
    have hTup2 : IsTup h'' s.heap.objs.size #[.int i tk, u] := ⟨_, kk2 _ _ (Nat.ne_of_gt elt) c3, rfl, _, rfl⟩
    have I2 : Inv X pins σ (upd H s.heap.objs.size (.tup [.int i, x])) { s with heap := h'', toks := tk + 1 } := by
      refine I.step (t' := tk + 1) (g' := s.gens) (d' := s.drawn) (ch := [e, it]) (fun c hc => ?_) (fun c o _ _ hc q _ => keep2 c o hc q) (fun c o _ _ hc q _ => ⟨o.slots, keep2 c o hc q⟩) (fun c o hc q n => ?_) (fun c o hc q => ⟨o, keep2 c o hc q⟩)
        (fun c xs q => ?_) (fun c o xs q => ?_) (fun c ps q => ⟨#[], ?_⟩) (fun m hm => ?_) ?_ I.bare
      · obtain ⟨g0, g1, g2, g3, g4, g5⟩ := hf c hc
        exact ⟨g3, g1, g4, g5⟩
      · rw [upd_ne (Nat.ne_of_lt (Heap.lt_size q))]; exact n
      · rw [upd_ne (ne_of_none q hTn)]; exact q
      · rw [upd_ne (ne_of_none q hTn)]; exact q
      · rw [upd_ne (ne_of_none q hTn), q]; simp
      · obtain ⟨o, es, ep, ho, r⟩ := hm
        refine ⟨o, es, ep, keep2 _ o (fun hc => ?_) ho, r⟩
        exact (hf _ hc).2.1 rfl
      · intro c u' q
        by_cases hcT : c = s.heap.objs.size
        · rw [hcT, upd_same] at q
          cases q
          rw [hcT]
          exact ⟨by show 2 ≤ sizeLine; rw [sizeLine_eq]; decide, [.int i tk, u], .cons ⟨_, rfl⟩ (.cons r1 .nil), hTup2⟩
        · rw [upd_ne hcT] at q
          refine (I.hok c u' q).stay (fun d v hd q' => keep2 d v ?_ q') (fun d q' => by rw [upd_ne (ne_of_none q' hTn)]; exact q') fun d xs q' => by rw [upd_ne (ne_of_none q' hTn)]; exact q'
          rcases hd with rfl | hd
          · exact nwr d u' q
          · exact nwr d _ hd
    refine ⟨.ref s.heap.objs.size, _, I2, rfl, ⟨_, rfl, hTn, fun xs' h1' => ⟨x, ?_, rfl⟩⟩, ⟨⟨_, c1'⟩, ?_⟩, fun c hc => ?_⟩
    · rw [I.tuple_inj h1' h1]; exact hx
    · obtain ⟨o, q, r⟩ := c2.1; exact ⟨o, kk2 _ _ (Ne.symm hei) q, r⟩
    · obtain ⟨o, eo⟩ : ∃ o, s.heap.get? c = some o := by
        simp at hc
        rcases hc with rfl | rfl
        · exact ⟨_, he⟩
        · obtain ⟨o, q, _⟩ := hit; exact ⟨o, q⟩
      rw [upd_ne (Nat.ne_of_lt (Heap.lt_size eo))]
      exact (hf c hc).1
  done := by
    intro X hP hw hK hc i pins s σ H E I hf st hg
    subst hP hw hK
    obtain ⟨xs, h1, hi⟩ := hg
    obtain ⟨its1, rv1, p1, _⟩ := I.tuple h1
    obtain ⟨⟨old, he⟩, hit⟩ := st
    have tp : s.heap.IsTuple a its1.toArray := p1
    have hia : it ≠ a := fun z => by
      obtain ⟨o, q, c, _⟩ := tp
      obtain ⟨o2, q2, c2, _⟩ := hit
      rw [← z, q2] at q; cases q; rw [c2] at c; simp at c
    have el : i = its1.toArray.size := by have := rv1.length; simp; omega
    subst el
    obtain ⟨f0, f1, f2, f3, f4, f5⟩ := hf it (by simp)
    refine wpAny_pyNext_enum_endD (draws_tuple (show X.A.in1.handled = none from I.ok.hd hc) it a hia.symm its1.toArray) he ⟨hit, tp⟩ fun h' kk => ⟨rfl, I.turned (t' := s.toks) (fun b o hb e => kk b o hb e) f0 f1 f3 f4 f5⟩
  self := fun A i s Q E st h => by
    obtain ⟨⟨old, he⟩, _⟩ := st
    exact wpAny_pyIter_enum he h
section
variable {X : Cx}
def iEnT (K : PySem.W.Frag) (ta : TA) : TI := fun σ H R => ta σ H fun vs H1 => ∃ a, vs = [.ref a] ∧ (∃ xs, SqT K H1 a xs) ∧ R (ItET K a) H1
theorem pi_enumT {a : Expr} {ta : TA} {p pos tp : Pos} {es : List Expr} {k : Nat} (hg : Gl X "enumerate") (hm : X.mg "enumerate" = none) (ha : PA X [a] ta) (hs : starEach [a] X.env = [(false, eval a X.env)] := by rfl) :
    PI X (.Tuple es k tp) (.Call (.Name "enumerate" p) [a] [] pos) (iEnT X.K ta) := by
  intro pins s σ H R I h
  refine Call_ (ld_blt I hg hm (by decide +kernel : bootBuiltins "enumerate" = some (.type "enumerate")) (PyProof.Rows.callWith_type1 (thn (ha pos pins s σ H _ I h) fun us s1 hq => ?_) (by rw [hs]; rfl) (by rfl)))
  obtain ⟨vs, H1, I1, r1, a', rfl, ⟨xs, h1⟩, q⟩ := hq
  obtain ⟨u, rfl, ru⟩ := vals1 r1
  cases ru
  obtain ⟨its1, rv1, p1, _⟩ := I1.tuple h1
  have tp : s1.heap.IsTuple a' its1.toArray := p1
  refine call_enumerate_tuple tp fun h' he hit _ hk => wpAny_pyIter_enum he ?_
  refine ⟨_, _, _, _, H1, rfl, I1.kept (t' := s1.toks) hk, turn_enumT _ _ a' (Nat.succ_ne_self _), ⟨⟨_, he⟩, hit⟩, fun c hc => ?_, q⟩
  have hle : s1.heap.objs.size ≤ c := by
    simp at hc
    rcases hc with rfl | rfl <;> first | exact Nat.le_add_right _ _ | exact Nat.le_refl _
  exact I1.fpOk hle (I1.hok.fresh hle)
end
theorem for_enumT {K : PySem.W.Frag} {a : Addr} {xs : List V} {g : TG} {tb : TS} {D : Ends} {σ : St} {H : Hp} (Pv : Nat → St → Hp → Prop) (h0 : Pv 0 σ H) (hl : ∀ i σ H, i ≤ xs.length → Pv i σ H → SqT K H a xs)
    (hs : ∀ i x σ H T, xs[i]? = some x → Pv i σ H → H T = none → g (.ref T) σ (upd H T (.tup [.int i, x])) fun σ2 H2 => tb { D with nx := Pv (i + 1), ct := Pv (i + 1), bk := D.nx } σ2 H2) (hd : ∀ σ H, Pv xs.length σ H → D.nx σ H) :
    ∃ W : Nat → Nat → St → Hp → Prop, (∃ m, W 0 m σ H) ∧ ∀ i m σ H, W i m σ H →
      ((ItET K a).stop i H ∧ D.nx σ H) ∨ ((ItET K a).go i H ∧ ∃ N : St → Hp → Prop, (∀ σ' H', N σ' H' → ∃ m', m' < m ∧ W (i + 1) m' σ' H') ∧ ∀ x H', (ItET K a).yld i H x H' → g x σ H' fun σ2 H2 => tb { D with nx := N, ct := N, bk := D.nx } σ2 H2) := by
  refine ⟨fun i m σ H => m = xs.length - i ∧ i ≤ xs.length ∧ Pv i σ H, ⟨xs.length, by simp, Nat.zero_le _, h0⟩, ?_⟩
  rintro i m σ H ⟨rfl, hi, p⟩
  have q := hl i σ H hi p
  by_cases hlt : i < xs.length
  · refine .inr ⟨⟨xs, xs[i], q, by simp [hlt]⟩, Pv (i + 1), fun σ' H' p' => ⟨xs.length - (i + 1), by omega, rfl, hlt, p'⟩, fun x H' y => ?_⟩
    obtain ⟨T, e, hT, y⟩ := y
    subst e
    obtain ⟨x, hx, rfl⟩ := y xs q
    exact hs i x σ _ T hx p hT
  · have e : i = xs.length := by omega
    subst e
    exact .inl ⟨⟨xs, q, rfl⟩, hd σ H p⟩

section
variable {X : Cx}
end
end L2

set_option Elab.async false
set_option linter.all false
set_option maxRecDepth 100000
set_option maxHeartbeats 4000000
namespace L2
open PySem PySem.Spec PyProof.Rows PySem.W
/-! ### a cut: what is wanted in between -/
section
variable {X : Cx} {e : Expr} {st : Stmt} {te : TE} {tt : TT} {ts : TS}
def tCut (te : TE) : TE := fun σ H Q => ∃ R : VK, te σ H R ∧ ∀ v H', R v H' → Q v H'
theorem pe_cut (he : PE X e te) : PE X e (tCut te) := fun pins s σ H Q I ⟨R, h, q⟩ => thn (he pins s σ H R I h) fun u s1 ⟨v, H1, I1, r, z⟩ => ⟨v, H1, I1, r, q v H1 z⟩
def tCutT (tt : TT) : TT := fun σ H Q => ∃ R : Bool → Hp → Prop, tt σ H R ∧ ∀ v H', R v H' → Q v H'
theorem pt_cut (he : PT X e tt) : PT X e (tCutT tt) := fun pins s σ H Q I ⟨R, h, q⟩ => thn (he pins s σ H R I h) fun b s1 ⟨H1, I1, z⟩ => ⟨H1, I1, q b H1 z⟩
def sCut (ts : TS) : TS := fun D σ H => ∃ N : St → Hp → Prop, ts { D with nx := N } σ H ∧ ∀ σ' H', N σ' H' → D.nx σ' H'
theorem ps_cut (hs : PS X st ts) : PS X st (sCut ts) := fun pins s σ H D I ⟨N, h, q⟩ => thn (hs pins s σ H { D with nx := N } I h) fun f s1 z => by
  cases f with
  | next => obtain ⟨σ', H', I', z⟩ := z; exact ⟨σ', H', I', q σ' H' z⟩
  | brk => exact z
  | cont => exact z
  | ret u => exact z
end
theorem base_dict (ks : List (Option Expr)) (vs : List Expr) (pos : Pos) (m : Str) (env : Env) (x : Sem Value) : attributeBase (.Dict ks vs pos) m env x = x := rfl
/-- the last ones -/
theorem cut_tail (xs ys : List V) : cutV (xs ++ ys) (some (xs.length : Int)) none = ys := by
  have h : ¬ ((xs.length : Int) < 0) := by omega
  unfold cutV HT.sIx
  simp [h]
end L2

set_option Elab.async false
set_option linter.all false
set_option maxRecDepth 100000
set_option maxHeartbeats 4000000
namespace L2
open PySem PySem.Spec PyProof.Rows PySem.W
/-! ### the same in a box, for what must not be run ahead (a display of constants) -/
structure Box (p : Prop) : Prop where un : p
section
variable {X : Cx} {st : Stmt} {rest : List Stmt} {t u : TS} {e o f : Expr} {te td ty tx : TE} {pos apos cpos : Pos}
theorem bss_cons (h1 : Box (PS X st t)) (h2 : Box (PSs X rest u)) : Box (PSs X (st :: rest) (tSeq t u)) := ⟨pss_cons h1.un h2.un⟩
theorem bss_one (h1 : Box (PS X st t)) : Box (PSs X [st] t) := ⟨pss_one h1.un⟩
theorem bs_ret (he : Box (PE X e te)) : Box (PS X (.Return (some e) pos) (tRet te)) := ⟨ps_ret he.un⟩
theorem be_dget2 (hu : X.A.units + 1 < cLine) (ho : Box (PE X o td)) (he : Box (PE X e ty)) (hf : Box (PE X f tx)) (m : M2 X o "get" apos e f cpos) : Box (PE X (.Call (.Attribute o "get" apos) [e, f] [] cpos) (tDGet2 td ty tx)) := ⟨pe_dget2 hu ho.un he.un hf.un m⟩
theorem bps_nil : Box (PPs X pos [] [] []) := ⟨pps_nil⟩
theorem bps_cons {k v : Expr} {ks : List (Option Expr)} {vs : List Expr} {tk tv : TE} {trs : List (TE × TE)} (hk : Box (PE X k tk)) (hv : Box (PE X v tv)) (hr : Box (PPs X pos ks vs trs)) : Box (PPs X pos (some k :: ks) (v :: vs) ((tk, tv) :: trs)) := ⟨pps_cons hk.un hv.un hr.un⟩
theorem be_disp {keys : List (Option Expr)} {values : List Expr} {trs : List (TE × TE)} (h : Box (PPs X pos keys values trs)) (hall : keys.all (·.isSome) = true) (hl : keys.length = values.length) (h0 : keys ≠ []) (h15 : keys.length ≤ 15) : Box (PE X (.Dict keys values pos) (tDisp trs)) := ⟨pe_disp h.un hall hl h0 h15⟩
end
end L2

set_option Elab.async false
set_option linter.all false
set_option maxRecDepth 100000
set_option maxHeartbeats 4000000
namespace L2
open PySem PySem.Spec PyProof.Rows PySem.W
/-! ### a lambda that takes one name from the frame around it -/
end L2

set_option Elab.async false
set_option linter.all false
set_option maxRecDepth 100000
set_option maxHeartbeats 4000000
namespace L2
open PySem PySem.Spec PyProof.Rows PySem.W
/-! ### a lambda made; the table of the code around it -/
def CodeO (c : Addr) (qual : Str) : HO := .ext fun h => h.CodeRec (.ref c) qual
def TabHit (H : Hp) (Pt c' : Addr) (qual : Str) (pos : Pos) : Prop := H Pt = some (.tbl #[rawInt pos.line, rawInt pos.col, .ref c']) ∧ H c' = some (CodeO c' qual)
def TabI (H : Hp) (Pt : Addr) (qual : Str) (pos : Pos) : Prop := H Pt = some (.tbl #[]) ∨ ∃ c', TabHit H Pt c' qual pos
def BM (mg : Str → Option Value) (base : Heap) : Prop := ∃ bm ob, mg "__builtins__" = some (.ref bm) ∧ bm ≠ builtinsNs ∧ base.get? bm = some ob ∧ ob.cls = .type "module" ∧ ob.dict = some builtinsNs ∧ ob.data = .plain
theorem BM.keeps {mg : Str → Option Value} {b b' : Heap} (h : BM mg b) (k : ∀ a o, b.get? a = some o → b'.get? a = some o) : BM mg b' := let ⟨bm, ob, h1, h2, h3, h4⟩ := h; ⟨bm, ob, h1, h2, k _ _ h3, h4⟩
section
variable {X : Cx}
end
end L2

set_option Elab.async false
set_option linter.all false
set_option maxRecDepth 100000
set_option maxHeartbeats 4000000
namespace L2
open PySem PySem.Spec PyProof.Rows PySem.W
/-! ### g(e, lambda ..) -/
theorem Mod.keeps {K : PySem.W.Frag} {mg : Str → Option Value} {b b' : Heap} (m : Mod K mg b) (k : ∀ a o, b.get? a = some o → b'.get? a = some o) : Mod K mg b' :=
  ⟨m.kin.keeps k, m.glob.keeps k, let ⟨mb, h1, h2⟩ := m.blt; ⟨mb, h1.keeps k, h2⟩, m.nolimit.keeps k⟩
section
variable {X : Cx} {CX : CXT} {k : Nat} {g : Addr} {gd : FuncData} {gps : List Str} {E : XK} {x : Str} {p pos lpos : Pos} {e : Expr} {te : TE} {params : Arguments} {body : Expr} {scope : Scope} {Pt c0 : Addr} {qual y : Str} {i : Nat}
end

/-! ### the head, with tables of code that grow -/
end L2

set_option Elab.async false
set_option linter.all false
set_option maxRecDepth 100000
set_option maxHeartbeats 4000000
namespace L2
open PySem PySem.Spec PyProof.Rows PySem.W
section
variable {X : Cx}
/-! ### == and != of two tuples of as many flat things -/
theorem eqT_items {A : Around} {s : Shared} {xs ys : List V} {its1 its2 : List Value} (r1 : Vals xs its1) (r2 : Vals ys its2) (f1 : xs.all flatV = true) (f2 : ys.all flatV = true) (j : Nat) (j1 : j < its1.toArray.size) (j2 : j < its2.toArray.size) :
    SeqAt.EqAt A s its1.toArray[j] its2.toArray[j] (eqV (xs.getD j .non) (ys.getD j .non)) := by
  have l1 : j < xs.length := by rw [r1.length]; simpa using j1
  have l2 : j < ys.length := by rw [r2.length]; simpa using j2
  obtain ⟨u1, e1, ru1⟩ := r1.get (List.getElem?_eq_getElem l1)
  obtain ⟨u2, e2, ru2⟩ := r2.get (List.getElem?_eq_getElem l2)
  have a1 : its1.toArray[j] = u1 := by
    have : its1[j]? = some its1.toArray[j] := by simp
    rw [e1] at this; exact (Option.some.inj this).symm
  have a2 : its2.toArray[j] = u2 := by
    have : its2[j]? = some its2.toArray[j] := by simp
    rw [e2] at this; exact (Option.some.inj this).symm
  have g1 : xs.getD j .non = xs[j] := by simp [List.getD_eq_getElem?_getD, List.getElem?_eq_getElem l1]
  have g2 : ys.getD j .non = ys[j] := by simp [List.getD_eq_getElem?_getD, List.getElem?_eq_getElem l2]
  rw [a1, a2, g1, g2]
  exact eqAt_V ru1 ru2 (List.all_eq_true.mp f1 _ (List.getElem_mem l1)) (List.all_eq_true.mp f2 _ (List.getElem_mem l2))
theorem eqT_all {xs ys : List V} {its1 its2 : List Value} (r1 : Vals xs its1) (r2 : Vals ys its2) (hl : xs.length = ys.length) :
    ((List.range (min its1.toArray.size its2.toArray.size)).all (fun j => eqV (xs.getD j .non) (ys.getD j .non)) && its1.toArray.size == its2.toArray.size) = (List.zipWith eqV xs ys).all id := by
  have e1 : its1.toArray.size = xs.length := by rw [List.size_toArray]; exact r1.length.symm
  have e2 : its2.toArray.size = xs.length := by rw [List.size_toArray, ← r2.length, hl]
  rw [e1, e2, Nat.min_self, zip_all xs ys hl]
  simp
/-! ### is True, is False -/
/-! ### products of any size that is not out of all bounds -/
/-! ### any, of a list of bools -/
/-! ### match, by texts -/
end
/-! ### a def that makes a lambda: the code of its frame is known -/
section
variable {P : Program} {w : World} {K : PySem.W.Frag} {mg : Str → Option Value} {base : Heap}
end
/-- all is as it was but for the table -/
def SameX (Pt : Addr) (H H' : Hp) : Prop := ∀ b o, b ≠ Pt → H b = some o → H' b = some o
theorem SameX.trans {Pt : Addr} {H H1 H2 : Hp} (a : SameX Pt H H1) (b : SameX Pt H1 H2) : SameX Pt H H2 := fun c o n h => b c o n (a c o n h)
theorem SameX.then {Pt : Addr} {H H1 H2 : Hp} (a : SameX Pt H H1) (b : Same H1 H2) : SameX Pt H H2 := fun c o n h => b c o (a c o n h)
theorem TabI.same {Pt : Addr} {q : Str} {pos : Pos} {H H' : Hp} (h : TabI H Pt q pos) (g : Same H H') : TabI H' Pt q pos := by
  rcases h with h | ⟨c, h1, h2⟩
  · exact .inl (g _ _ h)
  · exact .inr ⟨c, g _ _ h1, g _ _ h2⟩
theorem TabHit.same {Pt c : Addr} {q : Str} {pos : Pos} {H H' : Hp} (h : TabHit H Pt c q pos) (g : Same H H') : TabHit H' Pt c q pos := ⟨g _ _ h.1, g _ _ h.2⟩
theorem TabI.some {Pt : Addr} {q : Str} {pos : Pos} {H : Hp} (h : TabI H Pt q pos) : ∃ ps, H Pt = Option.some (.tbl ps) := by
  rcases h with h | ⟨c, h1, h2⟩
  · exact ⟨_, h⟩
  · exact ⟨_, h1⟩
end L2

set_option Elab.async false
set_option linter.all false
set_option maxRecDepth 100000
set_option maxHeartbeats 4000000
namespace L2
open PySem PySem.Spec PyProof.Rows PySem.W
/-! ### more in a box -/
section
variable {X : Cx} {e o : Expr} {es : List Expr} {te to : TE} {t : TA} {pos apos cpos : Pos} {name : Str} {T id : String} {r : V → List V → Hp → VK → Prop}
end
/-! ### x, y = (e, e') -/
section
variable {X : Cx} {e : Expr} {te : TE} {pos tpos px py : Pos} {x y : Str} {i j k : Nat}
end
end L2

set_option Elab.async false
set_option linter.all false
set_option maxRecDepth 100000
set_option maxHeartbeats 4000000
namespace L2
open PySem PySem.Spec PyProof.Rows PySem.W
/-! ### repr of a dict of flat things -/
section
variable {X : Cx}
/-! ### the place of a text in a text -/
end
end L2

set_option Elab.async false
set_option linter.all false
set_option maxRecDepth 100000
set_option maxHeartbeats 4000000
namespace L2
open PySem PySem.Spec PyProof.Rows PySem.W PySem.Builtin PySem.Builtin.ObjectAttr
/-! ### exceptions of a class with no __init__ of its own -/
section
variable {prog : Program} {w : World} {K : PySem.W.Frag} {A : Around} {E : Value → Shared → Prop} {s : Shared} {C : Addr}
end
section
variable {P : Program} {w : World} {K : PySem.W.Frag} {mg : Str → Option Value} {base : Heap} {N : List Str} {qual : Str} {scope : Scope} {fa : Addr} {cd0 : Value} {A : Around} {outer : List Env} {s0 : Shared} {H0 : Hp} {E : XK}
  {C : Addr} {k : Nat} {x : Str} {p cpos pos : Pos}
end
/-! ### try .. except L as e, for exceptions with a dict or with none -/
section
variable {X : Cx} {pins : List (Addr × Obj)} {σ : St} {H H' : Hp} {s s1 : Shared} {B h' : Heap} {ea C t : Addr} {dx : Option Addr} {fl : Value}
end
section
variable {X : Cx} {x n : Str} {L : Addr} {j : Nat} {body suite : List Stmt} {b0 : Stmt} {p1 p2 p3 : Pos} {tb : XK → St → TS} {ts : Addr → TS}
end
section
variable {X : Cx}
end
section
variable {P : Program} {w : World} {K : PySem.W.Frag} {mg : Str → Option Value} {base : Heap} {N : List Str} {qual : Str} {scope : Scope} {f : Addr} {cv : Value} {cl : List (Str × Addr)} {A : Around} {outer : List Env} {s0 : Shared} {H0 : Hp} {E : XK}
end
/-! ### an exception class of the text that tells nothing -/
section
variable {P : Program} {w : World} {K : PySem.W.Frag} {mg : Str → Option Value} {base : Heap}
end
end L2

set_option Elab.async false
set_option linter.all false
set_option maxRecDepth 100000
set_option maxHeartbeats 4000000
namespace L2
open PySem PySem.Spec PyProof.Rows PySem.W
section
variable {X : Cx}
/-- t + t', of tuples: one of the two where the other is empty -/
def rAddT (K : PySem.W.Frag) : R2 := fun x y H Q => ∃ p p' xs ys, x = .ref p ∧ y = .ref p' ∧ SqT K H p xs ∧ SqT K H p' ys ∧ xs.length + ys.length ≤ sizeLine ∧
  (xs = [] → Q (.ref p') H) ∧ (xs ≠ [] → ys = [] → Q (.ref p) H) ∧ (xs ≠ [] → ys ≠ [] → ∀ n, H n = none → Q (.ref n) (upd H n (.tup (xs ++ ys))))
theorem op_addT : OpR X (binaryOp .Add) (rAddT X.K) := by
  intro pins s σ H x y v u Q I rx ry h
  obtain ⟨p, p', xs, ys, rfl, rfl, hp, hp', hz, q0, q1, q2⟩ := h
  cases rx; cases ry
  obtain ⟨vs, r, ht, _⟩ := I.tuple hp
  obtain ⟨ws, r', hb, _⟩ := I.tuple hp'
  have l1 := r.length
  have l2 := r'.length
  obtain ⟨⟨cls, dd, data, sl⟩, ho, hc, n, hd⟩ := id ht
  obtain ⟨⟨cls2, dd2, data2, sl2⟩, ho2, hc2, n2, hd2⟩ := id hb
  simp only at hc hd hc2 hd2
  subst hc hd hc2 hd2
  by_cases hv : xs = []
  · have hv' : vs = [] := by subst hv; cases r; rfl
    exact concat_meets ⟨_, ho, rfl⟩ ⟨_, ho2, rfl⟩ noFill_tuple_add seq_tuple_add PySem.F.slot_tuple_add PySem.F.entry_tuple_add (PySem.F.args_tuple_add_2 _ _)
      (tuple_addW0 p p' vs.toArray ws.toArray n n2 dd dd2 sl sl2 (by simp [hv'])) ⟨ho, ho2, .ref p', H, I, rfl, q0 hv⟩
  · have hv' : vs ≠ [] := fun z => hv (by subst z; cases r; rfl)
    by_cases hw : ys = []
    · have hw' : ws = [] := by subst hw; cases r'; rfl
      exact concat_meets ⟨_, ho, rfl⟩ ⟨_, ho2, rfl⟩ noFill_tuple_add seq_tuple_add PySem.F.slot_tuple_add PySem.F.entry_tuple_add (PySem.F.args_tuple_add_2 _ _)
        (tuple_addW1 p p' vs.toArray ws.toArray n n2 dd dd2 sl sl2 (by simpa using hv') (by simp [hw'])) ⟨ho, ho2, .ref p, H, I, rfl, q1 hv hw⟩
    · have hw' : ws ≠ [] := fun z => hw (by subst z; cases r'; rfl)
      refine concat_meets ⟨_, ho, rfl⟩ ⟨_, ho2, rfl⟩ noFill_tuple_add seq_tuple_add PySem.F.slot_tuple_add PySem.F.entry_tuple_add (PySem.F.args_tuple_add_2 _ _)
        (tuple_addW2 p p' vs.toArray ws.toArray n n2 dd dd2 sl sl2 (by simpa using hv') (by simpa using hw') (by rw [List.size_toArray, List.size_toArray, ← l1, ← l2]; exact hz)) ⟨ho, ho2, ?_⟩
      have hf : H s.heap.objs.size = none := I.hok.fresh (Nat.le_refl _)
      refine ⟨.ref s.heap.objs.size, upd H s.heap.objs.size (.tup (xs ++ ys)), I.laid (t' := s.toks) (fun b u e => Heap.get?_push_of_some _ e) (Nat.le_refl _) ?_, rfl, q2 hv hw _ hf⟩
      exact ⟨by rw [List.length_append]; exact hz, vs ++ ws, r.append r', ⟨_, Heap.get?_push_size _ rfl, rfl, 0, by simp⟩⟩
end
end L2

set_option Elab.async false
set_option linter.all false
set_option maxRecDepth 100000
set_option maxHeartbeats 4000000
namespace L2
open PySem PySem.Spec PyProof.Rows PySem.W
/-! ### still more in a box -/
section
variable {X : Cx} {t u : TS} {pos : Pos}
end
end L2

set_option Elab.async false
set_option linter.all false
set_option maxRecDepth 100000
set_option maxHeartbeats 4000000
namespace L2
open PySem PySem.Spec PyProof.Rows PySem.W
section
variable {X : Cx}
/-- dict(d) -/
theorem call_dictC : CallR X (.type "dict") (fun xs H Q => ∃ d kvs, xs = [.ref d] ∧ Rd H d (.dK kvs) ∧ ∀ p, H p = none → Q (.ref p) (upd H p (.dK kvs))) := by
  intro pins s σ H xs us Q I r h
  obtain ⟨d, kvs, rfl, hd, q⟩ := h
  obtain ⟨u, rfl, ru⟩ := vals1 r
  cases ru
  exact d_copyOf I hd fun p s' hp I' => ⟨.ref p, _, I', rfl, q p hp⟩
end
end L2

set_option Elab.async false
set_option linter.all false
set_option maxRecDepth 100000
set_option maxHeartbeats 4000000
namespace L2
open PySem PySem.Spec PyProof.Rows PySem.W
section
variable {P : Program} {w : World} {KT : Type} [DecidableEq KT] {kn : KeyKind P w KT} {A : Around} {E : Value → Shared → Prop} {s : Shared}
end
end L2

set_option Elab.async false
set_option linter.all false
set_option maxRecDepth 100000
set_option maxHeartbeats 4000000
namespace L2
open PySem PySem.Spec PyProof.Rows PySem.W
section
variable {P : Program} {w : World} {A : Around} {E : Value → Shared → Prop} {s : Shared}
end
end L2

set_option Elab.async false
set_option linter.all false
set_option maxRecDepth 100000
set_option maxHeartbeats 4000000
namespace L2
open PySem PySem.Spec PyProof.Rows PySem.W
/-! ### enumerate(l, start=k) -/
section
open AutoSeq1 (wpAny_loadPart')
end
section
variable {prog : Program} {w : World} {A : Around} {E : Value → Shared → Prop} {s : Shared}
end
section
variable {X : Cx}
end
end L2

set_option Elab.async false
set_option linter.all false
set_option maxRecDepth 100000
set_option maxHeartbeats 4000000
namespace L2
open PySem PySem.Spec PyProof.Rows PySem.W
/-! ### sorted(d) -/
section
variable {prog : Program} {w : World} {A : Around} {E : Value → Shared → Prop} {s : Shared}
end
section
variable {X : Cx}
end
/-! ### repr of things in things -/
def flatD : V → Option PyData
  | .non => some .none
  | .bl b => some (.bool b)
  | .int i => some (.int i)
  | .str x => some (.str x)
  | _ => none
def keyD : Key → PyData
  | .inl i => .int i
  | .inr x => .str x
/-- what things read as; lists among them if b -/
inductive RdL (b : Bool) (H : Hp) : List V → List PyData → Prop
  | nil : RdL b H [] []
  | flat {v : V} {d : PyData} {vs : List V} {ds : List PyData} : flatD v = some d → RdL b H vs ds → RdL b H (v :: vs) (d :: ds)
  | tup {a : Addr} {xs : List V} {es : List PyData} {vs : List V} {ds : List PyData} : H a = some (.tup xs) → RdL b H xs es → RdL b H vs ds → RdL b H (.ref a :: vs) (.tuple es :: ds)
  | lst {a : Addr} {xs : List V} {es : List PyData} {vs : List V} {ds : List PyData} : b = true → H a = some (.lst xs) → RdL b H xs es → RdL b H vs ds → RdL b H (.ref a :: vs) (.list es :: ds)
  | dic {a : Addr} {kvs : List (Key × V)} {es : List PyData} {vs : List V} {ds : List PyData} : H a = some (.dK kvs) → RdL b H (kvs.map (·.2)) es → RdL b H vs ds → RdL b H (.ref a :: vs) (.dict ((kvs.map fun kv => keyD kv.1).zip es) :: ds)
theorem RdL.length {b : Bool} {H : Hp} {vs : List V} {ds : List PyData} (r : RdL b H vs ds) : ds.length = vs.length := by
  induction r with
  | nil => rfl
  | flat _ _ ih => simp [ih]
  | tup _ _ _ _ ih => simp [ih]
  | lst _ _ _ _ _ ih => simp [ih]
  | dic _ _ _ _ ih => simp [ih]
theorem RdL.same {b : Bool} {H H' : Hp} {vs : List V} {ds : List PyData} (r : RdL b H vs ds) (g : ∀ a o, H a = some o → H' a = some o) : RdL b H' vs ds := by
  induction r with
  | nil => exact .nil
  | flat h _ ih => exact .flat h ih
  | tup h _ _ ih1 ih2 => exact .tup (g _ _ h) ih1 ih2
  | lst hb h _ _ ih1 ih2 => exact .lst hb (g _ _ h) ih1 ih2
  | dic h _ _ ih1 ih2 => exact .dic (g _ _ h) ih1 ih2
section
variable {X : Cx}
end
end L2

set_option Elab.async false
set_option linter.all false
set_option maxRecDepth 100000
set_option maxHeartbeats 4000000
namespace L2
open PySem PySem.Spec PyProof.Rows PySem.W
/-- a def that may refuse, where it does not -/
theorem FnOk.calm {P : Program} {w : World} {K : PySem.W.Frag} {mg : Str → Option Value} {base : Heap} {k : Nat} {f : Addr} {fd : FuncData} {ps : List Str} {sp : Sp} (F : FnOk P w K mg base (CX1 P w) k f fd ps sp) :
    FnOk P w K mg base CX0 k f fd ps (fun vs H Q _ => sp vs H Q fun _ _ _ => False) :=
  ⟨fun vs H Q E q => F.len vs H Q _ q, fun A outer s H args us vs Q E hr he hb hv hs => codeAny_mono (F.run A outer s H args us vs Q _ hr he hb hv hs) fun r s' h => by
    cases r with
    | ok fl => cases fl <;> exact h
    | error e => obtain ⟨_, _, _, _, _, _, _, _, _, _, _, _, _, _, z⟩ := h; exact z.elim⟩
/-- either promise -/
theorem FnOk.or {P : Program} {w : World} {K : PySem.W.Frag} {mg : Str → Option Value} {base : Heap} {CX : CXT} {k : Nat} {f : Addr} {fd : FuncData} {ps : List Str} {sp sp' : Sp} (F : FnOk P w K mg base CX k f fd ps sp) (G : FnOk P w K mg base CX k f fd ps sp') :
    FnOk P w K mg base CX k f fd ps (fun vs H Q E => sp vs H Q E ∨ sp' vs H Q E) :=
  ⟨fun vs H Q E q => q.elim (F.len vs H Q E) (G.len vs H Q E), fun A outer s H args us vs Q E hr he hb hv hs => hs.elim (F.run A outer s H args us vs Q E hr he hb hv) (G.run A outer s H args us vs Q E hr he hb hv)⟩
end L2

set_option Elab.async false
set_option linter.all false
set_option maxRecDepth 100000
set_option maxHeartbeats 4000000
namespace L2
open PySem PySem.Spec PyProof.Rows PySem.W
/-! ### a text, n times -/
end L2

set_option Elab.async false
set_option linter.all false
set_option maxRecDepth 100000
set_option maxHeartbeats 4000000
namespace L2
open PySem PySem.Spec PyProof.Rows PySem.W
end L2

set_option Elab.async false
set_option linter.all false
set_option maxRecDepth 100000
set_option maxHeartbeats 4000000
namespace L2
open PySem PySem.Spec PyProof.Rows PySem.W
/-! ### a table of the module, keyed by texts -/
def TabK (K : PySem.W.Frag) (a : Addr) (D : List (Str × V)) : Prop := ∃ (o : Obj) (es : Array DictEntry) (ep : Nat), K.lookup a = some o ∧ o.cls = .type "dict" ∧ o.data = .dict es ep ∧ KTD.Rows (fun v u => RelV v u) es.toList D
section
variable {prog : Program} {w : World} {A : Around} {E : Value → Shared → Prop} {s : Shared}
theorem tab_get {a : Addr} {o : Obj} {es : Array DictEntry} {ep : Nat} {D : List (Str × V)} {k : Str} {tk : Tok} {v : V} {Q : Value → Shared → Prop} (ho : s.heap.get? a = some o) (hc : o.cls = .type "dict") (hd : o.data = .dict es ep) (hr : KTD.Rows (fun v u => RelV v u) es.toList D)
    (hk : KTD.datumAt k D = some v) (h : ∀ u, RelV v u → Q u { s with toks := s.toks + 1 }) : wpAny (model prog w) A (getItem (.ref a) (.str k tk)) Q E s := by
  have hT : s.TypeIs (.ref a) "dict" := ⟨o, ho, hc⟩
  unfold getItem
  try with_reducible refine wpAny_holding ?_
  refine wpAny_bind (wpAny_sequenceKey hT (by decide) (wpAny_bind (wpAny_callSpecial?_slot (name := Str.ofString "__getitem__") hT PySem.F.slot_dict_getitem (wpAny_call_entry PySem.F.slot_dict_getitem hT PySem.F.entry_dict_getitem ?_ (PySem.F.args_dict_getitem_2 _ _)))))
  show wpAny _ _ (dictGet a (.str k tk) >>= _) _ _ s
  refine wpAny_bind ?_
  unfold dictGet
  try with_reducible refine wpAny_holding ?_
  refine wpAny_bind (wpAny_pyHash_str (wpAny_bind (KTD.kt_dictFind_strs (s := { s with toks := s.toks + 1 }) ho hd (by obtain ⟨l⟩ := es; simpa using hr.exact) ?_)))
  obtain ⟨u, hu, ru⟩ := hr.find_some hk
  have hf : findBy (fun k v => v.isStr k) es k = some u := by
    rw [← hu]
    obtain ⟨l⟩ := es
    simp [findBy]
  rw [findBy_of_findIdx?] at hf
  cases hi : es.findIdx? fun e => e.key.isStr k with
  | none => rw [hi] at hf; cases hf
  | some i =>
    rw [hi] at hf
    refine wpAny_bind (wpAny_dictEntries (s := { s with toks := s.toks + 1 }) ho hd (wpAny_pure ?_))
    have hf' : (es[i]?).map (·.val) = some u := hf
    rw [hf']
    exact wpAny_pure ⟨u, rfl, wpAny_pure (h u ru)⟩
end
section
variable {X : Cx} {o i : Expr} {pos : Pos} {td ty : TE}
def tTabGet (K : PySem.W.Frag) (td ty : TE) : TE := fun σ H Q => td σ H fun x H1 => ty σ H1 fun y H2 => ∃ a D k v, x = .ref a ∧ TabK K a D ∧ y = .str k ∧ KTD.datumAt k D = some v ∧ Q v H2
theorem pe_tabget (ho : PE X o td) (hi : PE X i ty) (hs : NoSl i) : PE X (.Subscript o i pos) (tTabGet X.K td ty) := by
  intro pins s σ H Q I h
  refine subD_of PySem.F.slot_dict_getitem.lookup hs (thn (ho pins s σ H _ I h) fun u s1 ⟨x, H1, I1, rx, q1⟩ => thn (hi pins s1 σ H1 _ I1 q1) fun iv s2 ⟨y, H2, I2, ry, a, D, k, v, ex, T, ey, hk, q2⟩ => ?_)
  subst ex ey
  obtain rfl : u = Value.ref a := rx
  obtain ⟨t, rfl⟩ := ry
  obtain ⟨ob, es, ep, hl, hc, hd, hr⟩ := T
  have ho := I2.kIn _ _ hl
  exact ⟨⟨ob, ho, hc⟩, tab_get ho hc hd hr hk fun u ru => ⟨v, H2, I2.tok _, ru, q2⟩⟩
end
/-! ### word, *things = a tuple -/
section
variable {prog : Program} {w : World} {A : Around} {E : Value → Shared → Prop} {s : Shared}
theorem unpack_star {l : Addr} {x : Value} {r : List Value} {Q : List Value → Shared → Prop} (hl : IsTup s.heap l (x :: r).toArray) (hh : A.handled = none) (hz : r.length ≤ 1000)
    (h : ∀ (h' : Heap) (tk : Nat), (∀ b o, s.heap.get? b = some o → h'.get? b = some o) → Q [x, .ref h'.objs.size] { s with heap := h'.push (listOf r.toArray 0), toks := tk }) : wpAny (model prog w) A (unpackItems (.ref l) 2 (some 1)) Q E s := by
  have hlt : l ≠ s.heap.objs.size := by obtain ⟨o, ho, _⟩ := hl; exact Nat.ne_of_lt (Heap.lt_size ho)
  unfold unpackItems
  refine wpAny_bind ?_
  unfold notIterableAtAll
  refine wpAny_bind (wpAny_specialOf hl.typeIs slot_tuple_iter.lookup (wpAny_pure ?_))
  simp only [Bool.false_eq_true, if_false]
  refine wpAny_bind (wpAny_holding (iter_tuple hl ?_))
  refine wpAny_bind (wpAny_holding (draw_tuple hlt 1 0 _ _ ⟨_, Heap.get?_push_size _ rfl, rfl, rfl⟩ (hl.push _) (by simp) fun h₁ hit₁ hs₁ => ?_))
  have hl₁ : IsTup h₁ l (x :: r).toArray := (hl.push _).extBut hs₁.extBut hlt
  obtain ⟨oi, hoi, _⟩ := id hit₁
  obtain ⟨ol, hol, _⟩ := id hl₁
  show wpAny _ _ (if ([x] : List Value).length < 1 then _ else _) _ _ _
  rw [if_neg (by simp)]
  refine wpAny_bind (wpAny_holding (kun_collect (s := { s with heap := h₁ }) (T := "tuple_iterator") (.inr (.inr (.inr rfl))) (Walks.tuple (A := A.in1) hh s.heap.objs.size l hlt (x :: r).toArray) (fun j u st => st.1.typeIs) (k := 1) (by simp) ⟨hit₁, hl₁⟩ (Heap.lt_size hoi) (Heap.lt_size hol) (fun h₂ tk hk => ?_) (by rw [sizeLine_eq]; simp; omega)))
  show wpAny _ _ (if r.length < 2 - 1 - 1 then _ else _) _ _ _
  rw [if_neg (by omega)]
  show wpAny _ _ (newList (r.take (r.length - 0)) >>= fun d => pure ([x] ++ [d] ++ r.drop (r.length - 0))) _ _ _
  rw [Nat.sub_zero, List.take_length, List.drop_length]
  have he : ∀ b o, s.heap.get? b = some o → h₂.get? b = some o := fun b o e => hk b o (Nat.ne_of_lt (Heap.lt_size e)) (hs₁.extBut b o (Nat.ne_of_lt (Heap.lt_size e)) (Heap.get?_push_of_some _ e))
  exact wpAny_bind (wpAny_newList (wpAny_pure (h h₂ tk he)) (by rw [sizeLine_eq]; omega))
end
section
variable {X : Cx} {pos : Pos}
theorem pgs_star {e : Expr} {p : Pos} {es : List Expr} {t : TG} {u : TGs} (h1 : PG X e t) (h2 : PGs X es u)
    (hs : (assignEach (.Starred e p :: es) X.env).map (·.2) = assign e X.env :: (assignEach es X.env).map (·.2) := by rfl) : PGs X (.Starred e p :: es) (gCons t u) := by
  intro pins s σ H vs us Q I r h
  obtain ⟨v, vr, e1, h⟩ := h
  subst e1
  cases r with
  | cons r rr =>
    rw [hs]
    refine assignInOrder_cons (thn (h1 pins s σ H _ _ _ I r h) fun _ s1 ⟨σ1, H1, I1, q1⟩ => ?_)
    exact h2 pins s1 σ1 H1 _ _ Q I1 rr q1
def gStar (K : PySem.W.Frag) (t : TGs) : TG := fun v σ H Q => ∃ a x xs, v = .ref a ∧ SqT K H a (x :: xs) ∧ xs.length ≤ 1000 ∧ ∀ l, H l = none → t [x, .ref l] σ (upd H l (.lst xs)) Q
theorem pg_star {es : List Expr} {k : Nat} {t : TGs} (hc : X.calm = true) (h : PGs X es t) (hn : (assignEach es X.env).length = 2 := by rfl) (hst : (assignEach es X.env).findIdx? (·.1) = some 1 := by rfl) : PG X (.Tuple es k pos) (gStar X.K t) := by
  intro pins s σ H v u Q I r hw
  obtain ⟨a, x, xs, e1, hq, hl, hw⟩ := hw
  subst e1
  cases r
  obtain ⟨its, rv, ht, hz⟩ := I.tuple hq
  cases rv with
  | @cons _ ux _ ur r1 r2 =>
    rw [assign_Tuple]
    refine wpAny_bind (wpAny_standAt ?_)
    unfold unpack
    rw [hn, hst]
    have hlen : ur.length = xs.length := r2.length.symm
    refine wpAny_bind (wpAny_holding (unpack_star ht (I.ok.hd hc) (by omega) fun h' tk hk => ?_))
    have I1 : Inv X pins σ H { s with heap := h', toks := tk } := I.kept (t' := tk) hk
    have hf : H h'.objs.size = none := I1.hok.fresh (Nat.le_refl _)
    have I2 : Inv X pins σ (upd H h'.objs.size (.lst xs)) { s with heap := h'.push (listOf ur.toArray 0), toks := tk } := I1.laid (t' := tk) (fun b o e => Heap.get?_push_of_some _ e) (Nat.le_refl _) ⟨by rw [sizeLine_eq]; omega, ur, 0, r2, Heap.get?_push_size _ rfl⟩
    exact h pins _ σ _ [x, .ref h'.objs.size] _ Q I2 (.cons r1 (.cons rfl .nil)) (hw _ hf)
end
/-! ### action(*things), action a name of the frame, things a list -/
section
variable {X : Cx} {CX : CXT} {k : Nat} {f : Addr} {fd : FuncData} {ps : List Str} {sp : Sp} {E : XK} {x : Str} {p p3 pos : Pos} {e : Expr} {te : TE}
def tCallS (K : PySem.W.Frag) (i : Nat) (f : Addr) (sp : Sp) (E : XK) (te : TE) : TE := fun σ H Q => σ[i]? = some (some (.ref f)) ∧ te σ H fun y H1 => ∃ l vs, y = .ref l ∧ H1 l = some (.lst vs) ∧ vs.length ≤ 1000 ∧ sp vs H1 Q E
theorem pe_callS {i : Nat} (F : FnOk X.prog X.w X.K X.mg X.base CX k f fd ps sp) (hr : Room k X.A) (hN : X.N[i]? = some x) (hv : Vis X.env.scope x) (hk : PySem.W.keepIn X.K (.ref f) = true) (hb : Binds X.K fd ps []) (hx : Passes CX X E) (he : PE X e te)
    (hdb : (x == ("__debug__" : Str)) = false := by decide) (hcd : (x == ("__classdict__" : Str)) = false := by decide) (hs : starEach [.Starred e p3] X.env = [(true, eval e X.env)] := by rfl) :
    PE X (.Call (.Name x p) [.Starred e p3] [] pos) (tCallS X.K i f sp E te) := by
  intro pins s σ H Q I h
  obtain ⟨hσ, h⟩ := h
  refine wpAny_Call_Name_kw (thn (pe_var (pos := p) hN hv hdb hcd pins s σ H (fun v H' => v = .ref f ∧ H' = H) I ⟨_, hσ, rfl, rfl⟩) fun u s1 ⟨v, H1, I1, r, ev, eh⟩ => ?_)
  subst ev eh
  cases r
  refine PySem.W.callWith_S (h₀ := X.base) I1.ok.mod.kin hk (thn (he pins s1 σ H1 _ I1 h) fun yv s2 ⟨y, H2, I2, ry, l, vs, ey, hl, hz, q⟩ => ?_) hs
  subst ey
  obtain rfl : yv = Value.ref l := ry
  obtain ⟨z, its, n, rv, ho⟩ := (show ObjOk X.prog X.w H2 s2.heap l (.lst vs) from I2.hok l _ hl)
  have hL : s2.heap.IsList l its.toArray := ⟨_, ho, rfl, n, rfl⟩
  have hT' : s2.TypeIs (.ref l) "list" := ⟨_, ho, rfl⟩
  unfold PySem.W.StarOf notIterableAtAll
  refine wpAny_bind (wpAny_specialOf hT' PySem.F.slot_list_iter.lookup (wpAny_pure ⟨rfl, wpAny_collect_seq l (.inl rfl) ho rfl rfl (fun h' hk2 => ?_) (by rw [List.size_toArray, ← rv.length]; exact z)⟩))
  have I3 : Inv X pins σ H2 { s2 with heap := h' } := I2.kept (t' := s2.toks) hk2
  refine ⟨I3.kIn, ?_⟩
  exact run_fn (dvs := []) (ds := []) F hr hb .nil hx I3 (by simpa using rv) (by simpa using q)
end
end L2

set_option Elab.async false
set_option linter.all false
set_option maxRecDepth 100000
set_option maxHeartbeats 4000000
namespace L2
open PySem PySem.Spec PyProof.Rows
/-! ### tuples in tuples as a dict's keys -/
section
variable (P : Program) (w : World) (h : Heap)
def CanHash (r : Nat) (v : Value) (z : Int) (n : Nat) : Prop :=
  ∀ (A : Around) (E : Value → Shared → Prop) (s : Shared) (Q : Int → Shared → Prop), A.units + r < cLine → s.heap = h → Q z { s with toks := s.toks + n } → wpAny (model P w) A (PySem.pyHash v) Q E s
def CanEq (r : Nat) (u v : Value) (b : Bool) : Prop :=
  ∀ (A : Around) (E : Value → Shared → Prop) (s : Shared) (Q : Bool → Shared → Prop), A.units + r < cLine → s.heap = h → Q b s → wpAny (model P w) A (PySem.eqBool u v) Q E s
def CanQuiet (d : Nat) (v : Value) : Prop :=
  ∀ (A : Around) (E : Value → Shared → Prop) (s : Shared) (Q : Bool → Shared → Prop), s.heap = h → Q true s → wpAny (model P w) A (eqIsQuiet d v) Q E s
end
section
variable {P : Program} {w : World} {h : Heap}
theorem CanQuiet.val {d : Nat} {v : Value} (q : carriedByValue v = true) : CanQuiet P w h d v := fun A E s Q _ k => by
  rw [eqIsQuiet_byValue d q]; exact wpAny_pure k
theorem CanHash.key {r : Nat} {k : Key} {v : Value} (e : (mixKind P w).is k v = true) : CanHash P w h r v ((mixKind P w).hash k) 1 := fun A E s Q _ _ q => (mixKind P w).pyHash e q
theorem CanEq.key {r : Nat} {k k' : Key} {v v' : Value} (e : (mixKind P w).is k v = true) (e' : (mixKind P w).is k' v' = true) : CanEq P w h r v v' (decide (k = k')) := fun A E s Q _ _ q => (mixKind P w).eqBool e e' q
theorem CanEq.bl {r : Nat} {a b : Bool} : CanEq P w h r (.bool a) (.bool b) (a == b) := fun A E s Q _ _ q => SeqAt.EqAt.bool_bool a b P w E Q q
theorem CanHash.bl {r : Nat} {b : Bool} : CanHash P w h r (.bool b) (if b then 1 else 0) 1 := fun A E s Q _ _ q => by
  have hT : s.TypeIs (.bool b) "bool" := rfl
  unfold pyHash
  first | unfold pyHashByItsType | skip
  have hv : [Value.bool b].any Value.onHeap = false := rfl
  refine wpAny_bind (wpAny_cRoomFor_or (.inl hv) ?_)
  refine wpAny_bind (wpAny_specialOf hT F.slot_bool_hash.lookup ?_)
  show wpAny _ _ (if (some (Value.builtin "int.__hash__") == some Value.none) = true then _ else _) Q E s
  rw [if_neg (by rw [beq_builtin_none]; exact Bool.false_ne_true)]
  refine wpAny_bind (wpAny_specialOf hT F.slot_bool_hash.lookup ?_)
  show wpAny _ _ (callSpecialIfBoundUnlessNone? (.bool b) "__hash__" _ >>= _) Q E s
  cases b
  · refine wpAny_bind (wpAny_callSpecialIfBoundUnlessNone?_slot hT F.slot_bool_hash (wpAny_call_entry F.slot_bool_hash hT entry_int_hash (show wpAny _ _ (do ret (← mkInt 0)) _ _ s from wpAny_ret_mkInt ?_) (args_int_hash _)))
    show wpAny _ _ (if (decide (-(2 : Int) ^ 63 ≤ 0) && decide ((0 : Int) < 2 ^ 63)) = true then _ else _) Q E _
    rw [if_pos (by decide)]
    exact wpAny_pure q
  · refine wpAny_bind (wpAny_callSpecialIfBoundUnlessNone?_slot hT F.slot_bool_hash (wpAny_call_entry F.slot_bool_hash hT entry_int_hash (show wpAny _ _ (do ret (← mkInt 1)) _ _ s from wpAny_ret_mkInt ?_) (args_int_hash _)))
    show wpAny _ _ (if (decide (-(2 : Int) ^ 63 ≤ 1) && decide ((1 : Int) < 2 ^ 63)) = true then _ else _) Q E _
    rw [if_pos (by decide)]
    exact wpAny_pure q
theorem typ_tup {s : Shared} {a : Addr} {its : Array Value} (e : IsTup s.heap a its) : s.TypeIs (.ref a) "tuple" := let ⟨o, ho, hc, _⟩ := e; ⟨o, ho, hc⟩
/-- the hash of a tuple out of its items' -/
theorem hash_tup {r : Nat} {a : Addr} {its : Array Value} {zs : List (Int × Nat)} (e : IsTup h a its) (hi : Paired (fun (p : Int × Nat) v => CanHash P w h r v p.1 p.2) zs its.toList) :
    CanHash P w h (r + 1) (.ref a) (reduceHash (Builtin.Tuple.tupleHashOf (zs.map (·.1)))) ((zs.map (·.2)).sum + 1) := by
  intro A E s Q hu hh q
  subst hh
  have hT := typ_tup e
  obtain ⟨o, ho, _, n, hd⟩ := e
  unfold pyHash
  first | unfold pyHashByItsType | skip
  first | refine wpAny_bind (wpAny_cRoomFor_or (.inr (by omega)) ?_) | skip
  refine wpAny_bind (wpAny_specialOf hT F.slot_tuple_hash.lookup ?_)
  show wpAny _ _ (if (some (Value.builtin "tuple.__hash__") == some Value.none) = true then _ else _) Q E s
  rw [if_neg (by rw [beq_builtin_none]; exact Bool.false_ne_true)]
  refine wpAny_bind (wpAny_specialOf hT F.slot_tuple_hash.lookup ?_)
  show wpAny _ _ (callSpecialIfBoundUnlessNone? (.ref a) "__hash__" _ >>= _) Q E s
  refine wpAny_bind (wpAny_callSpecialIfBoundUnlessNone?_slot hT F.slot_tuple_hash (wpAny_call_entry F.slot_tuple_hash hT F.entry_tuple_hash ?_ (F.args_tuple_hash_1 _)))
  show wpAny _ _ (Builtin.Tuple.tupleItemsOf (.ref a) >>= _) _ _ s
  refine wpAny_bind (wpAny_tupleItemsOf ho hd ?_)
  refine wpAny_bind ?_
  rw [← Array.forIn_toList]
  refine wpAny_forIn_list _
    (fun rest (b : Array Int) s' => ∃ done left, zs = done ++ left ∧ Paired (fun (p : Int × Nat) v => CanHash P w s.heap r v p.1 p.2) left rest ∧ b.toList = done.map (·.1) ∧ s' = { s with toks := s.toks + (done.map (·.2)).sum })
    _ ?_ ?_ _ _ ⟨[], zs, rfl, hi, rfl, rfl⟩
  · rintro x rest b s' ⟨done, left, rfl, hl, hb, rfl⟩
    cases hl with
    | @cons k _ ks' _ h1 hl' =>
      have hu' : A.in1.units + r < cLine := by show A.units + 1 + r < cLine; omega
      refine wpAny_bind (h1 A.in1 _ _ _ hu' rfl ?_)
      first
        | exact wpAny_pure ⟨done ++ [k], ks', by simp, hl', by simp [hb], by simp [Nat.add_assoc]⟩
        | exact wpAny_bind (wpAny_pure (wpAny_pure ⟨done ++ [k], ks', by simp, hl', by simp [hb], by simp [Nat.add_assoc]⟩))
  · rintro b s' ⟨done, left, rfl, hl, hb, rfl⟩
    cases hl
    rw [List.append_nil] at q
    show wpAny _ _ (retInt (Builtin.Tuple.tupleHashOf b.toList)) _ _ _
    rw [hb]
    refine wpAny_ret_mkInt ?_
    show wpAny _ _ (if (decide (-(2 : Int) ^ 63 ≤ Builtin.Tuple.tupleHashOf (done.map (·.1))) && decide (Builtin.Tuple.tupleHashOf (done.map (·.1)) < 2 ^ 63)) = true then _ else _) Q E _
    unfold reduceHash at q
    by_cases hr : (decide (-(2 : Int) ^ 63 ≤ Builtin.Tuple.tupleHashOf (done.map (·.1))) && decide (Builtin.Tuple.tupleHashOf (done.map (·.1)) < 2 ^ 63)) = true
    · rw [if_pos hr]
      rw [if_pos hr] at q
      exact wpAny_pure (by simpa [Nat.add_assoc] using q)
    · rw [if_neg hr]
      rw [if_neg hr] at q
      exact wpAny_bind (wpAny_rule (wpAny_pure (by simpa [Nat.add_assoc] using q)))
/-- == of two tuples of one length out of their items' -/
theorem eq_tup {r : Nat} {a b : Addr} {xs ys : List Value} (ha : IsTup h a xs.toArray) (hb : IsTup h b ys.toArray) {f : Value → Value → Bool}
    (hi : ∀ (j : Nat) (u v : Value), xs[j]? = some u → ys[j]? = some v → CanEq P w h r u v (f u v)) (hf : ∀ u ∈ xs, f u u = true) :
    CanEq P w h (r + 1) (.ref a) (.ref b) ((xs.length == ys.length) && (List.zipWith f xs ys).all id) := by
  intro A E s Q hu hh q
  subst hh
  have hTa := typ_tup ha
  have hTb := typ_tup hb
  unfold eqBool
  try with_reducible refine wpAny_holding ?_
  show wpAny _ _ (if (Value.ref a == Value.ref b) = true then _ else _) Q E s
  obtain ⟨oa, hoa, _, na, hda⟩ := ha
  obtain ⟨ob, hob, _, nb, hdb⟩ := hb
  by_cases hab : (Value.ref a == Value.ref b) = true
  · rw [if_pos hab]
    have e : a = b := by have := eq_of_beq hab; injection this
    subst e
    have eo : oa = ob := Option.some.inj (hoa.symm.trans hob)
    subst eo
    rw [hda] at hdb
    injection hdb with e1 _
    have e2 : xs = ys := by simpa using e1
    subst e2
    have z : ((xs.length == xs.length) && (List.zipWith f xs xs).all id) = true := by
      have : ∀ l : List Value, (∀ u ∈ l, f u u = true) → (List.zipWith f l l).all id = true := by
        intro l
        induction l with
        | nil => intro _; rfl
        | cons x l ih => intro hl; rw [List.zipWith_cons_cons, List.all_cons, ih fun u hu => hl u (List.mem_cons_of_mem _ hu), id, hl x List.mem_cons_self]; rfl
      rw [this xs hf]; simp
    rw [z] at q
    exact wpAny_bind (wpAny_rule (wpAny_pure q))
  · rw [if_neg hab]
    refine wpAny_bind (wpAny_richCompare_same_room (op := .Eq) hTa hTb F.slot_tuple_eq
      (wpAny_call_entry F.slot_tuple_eq hTa F.entry_tuple_eq ?_ (F.args_tuple_eq_2 _ _)) (by omega))
    show wpAny _ _ (isInstance (.ref b) (.type "tuple") >>= _) _ _ s
    refine wpAny_bind (wpAny_isInstance hTb isSubtype_tuple_tuple ?_)
    simp only [Bool.not_true, Bool.false_eq_true, if_false]
    refine wpAny_bind (wpAny_tupleItemsOf hoa hda ?_)
    refine wpAny_bind (wpAny_tupleItemsOf hob hdb ?_)
    refine wpAny_bind ?_
    refine wpAny_forIn_list _
      (fun rest rr s' => rr.1 = none ∧ s' = s ∧ ∃ xs' ys' : List Value, rest = List.zip xs' ys' ∧ (∀ (j : Nat) (u v : Value), xs'[j]? = some u → ys'[j]? = some v → CanEq P w s.heap r u v (f u v)) ∧ ((xs'.length == ys'.length) && (List.zipWith f xs' ys').all id) = ((xs.length == ys.length) && (List.zipWith f xs ys).all id)
        ∧ (xs'.length == ys'.length) = (xs.length == ys.length))
      _ ?_ ?_ _ _ ⟨rfl, rfl, xs, ys, by simp, hi, rfl, rfl⟩
    · rintro ⟨u, v⟩ rest r' s' ⟨hr, rfl, xs', ys', hz, hx', hdec, hlen⟩
      cases xs' with
      | nil => simp at hz
      | cons u' xs'' =>
        cases ys' with
        | nil => simp at hz
        | cons v' ys'' =>
          simp only [List.zip_cons_cons, List.cons.injEq, Prod.mk.injEq] at hz
          obtain ⟨⟨rfl, rfl⟩, rfl⟩ := hz
          have hu' : A.in1.units + r < cLine := by show A.units + 1 + r < cLine; omega
          refine wpAny_bind (hx' 0 u v rfl rfl A.in1 _ _ _ hu' rfl ?_)
          cases hk : f u v with
          | true =>
            simp only [Bool.not_true, Bool.false_eq_true, if_false]
            refine wpAny_pure ⟨rfl, rfl, xs'', ys'', rfl, fun j u v h1 h2 => hx' (j + 1) u v (by simpa using h1) (by simpa using h2), ?_, by simpa using hlen⟩
            rw [← hdec]
            simp [hk]
          | false =>
            simp only [Bool.not_false, if_true]
            have hf : ((xs.length == ys.length) && (List.zipWith f xs ys).all id) = false := by rw [← hdec]; simp [hk]
            rw [hf] at q
            exact wpAny_bind (wpAny_pure (wpAny_pure (wpAny_pure ⟨_, rfl, (fun e => nomatch e), wpAny_truthy_bool q⟩)))
    · rintro ⟨r1, r2⟩ s' ⟨hr, rfl, xs', ys', hz, _, hdec, hlen⟩
      simp only at hr
      subst hr
      refine wpAny_pure ?_
      have hfin : (xs.toArray.size == ys.toArray.size) = ((xs.length == ys.length) && (List.zipWith f xs ys).all id) := by
        rw [← hdec]
        show (xs.length == ys.length) = _
        rw [← hlen]
        cases xs' with
        | nil =>
          cases ys' with
          | nil => simp
          | cons _ _ => simp
        | cons _ _ =>
          cases ys' with
          | nil => simp
          | cons _ _ => simp at hz
      refine ⟨.bool (xs.toArray.size == ys.toArray.size), rfl, (fun e => nomatch e), wpAny_truthy_bool ?_⟩
      rw [hfin]; exact q
theorem quiet_tup {d : Nat} {a : Addr} {its : Array Value} (e : IsTup h a its) (hi : ∀ v ∈ its.toList, CanQuiet P w h d v) : CanQuiet P w h (d + 1) (.ref a) := by
  intro A E s Q hh q
  subst hh
  have hT := typ_tup e
  obtain ⟨o, ho, _, n, hd⟩ := e
  unfold eqIsQuiet
  refine wpAny_bind (wpAny_specialOf hT F.slot_tuple_eq.lookup ?_)
  show wpAny _ _ (isInstance (.ref a) (.type "tuple") >>= _) _ _ s
  refine wpAny_bind (wpAny_isInstance hT isSubtype_tuple_tuple ?_)
  simp only [Bool.not_true, Bool.false_eq_true, if_false]
  refine wpAny_bind (wpAny_seqItems ho hd ?_)
  refine wpAny_bind ?_
  show wpAny _ _ (forIn its _ _) _ _ s
  rw [← Array.forIn_toList]
  refine wpAny_forIn_list _ (fun rest r s' => r.1 = none ∧ s' = s ∧ ∀ v ∈ rest, CanQuiet P w s.heap d v) _ ?_ ?_ _ _ ⟨rfl, rfl, hi⟩
  · rintro v rest r s' ⟨hr, rfl, hall⟩
    refine wpAny_bind (hall v List.mem_cons_self _ _ _ _ rfl ?_)
    simp only [Bool.not_true, Bool.false_eq_true, if_false]
    exact wpAny_pure ⟨rfl, rfl, fun u hu' => hall u (List.mem_cons_of_mem _ hu')⟩
  · rintro ⟨r1, r2⟩ s' ⟨hr, rfl, _⟩
    simp only at hr
    subst hr
    exact wpAny_pure q
end
end L2

set_option Elab.async false
set_option linter.all false
set_option maxRecDepth 100000
set_option maxHeartbeats 4000000
namespace L2
open PySem PySem.Spec PyProof.Rows
/-! ### ((name, (False, value)), ..) as a key -/
section
variable {P : Program} {w : World} {h : Heap}
theorem CanHash.cast {r : Nat} {v : Value} {z z' : Int} {n n' : Nat} (c : CanHash P w h r v z n) (ez : z = z') (en : n = n') : CanHash P w h r v z' n' := by subst ez; subst en; exact c
theorem CanHash.mono {r r' : Nat} {v : Value} {z : Int} {n : Nat} (c : CanHash P w h r v z n) (l : r ≤ r') : CanHash P w h r' v z n := fun A E s Q hu => c A E s Q (by omega)
theorem CanEq.mono {r r' : Nat} {u v : Value} {b : Bool} (c : CanEq P w h r u v b) (l : r ≤ r') : CanEq P w h r' u v b := fun A E s Q hu => c A E s Q (by omega)
theorem CanQuiet.mono : ∀ {d : Nat} {v : Value}, CanQuiet P w h d v → True := fun _ => trivial
theorem zip_dec {α : Type} [DecidableEq α] {R : α → Value → Prop} {f : Value → Value → Bool} (hf : ∀ p p' u v, R p u → R p' v → f u v = decide (p = p')) :
    ∀ {ks ks' : List α} {xs ys : List Value}, Paired R ks xs → Paired R ks' ys → ((xs.length == ys.length) && (List.zipWith f xs ys).all id) = decide (ks = ks')
  | _, _, _, _, .nil, .nil => by simp
  | _, _, _, _, .nil, .cons _ _ => by simp
  | _, _, _, _, .cons _ _, .nil => by simp
  | _, _, _, _, .cons (a := p) r t, .cons (a := p') r' t' => by
    have ih := zip_dec hf t t'
    rw [List.zipWith_cons_cons, List.all_cons, hf _ _ _ _ r r']
    by_cases e : p = p'
    · subst e
      simp only [List.length_cons, decide_true, id]
      rw [Bool.true_and]
      have z : ∀ a b : Nat, (a + 1 == b + 1) = (a == b) := fun a b => by simp
      rw [z, ih]
      simp
    · simp [e]
theorem tup_uniq {a : Addr} {x y : Array Value} (e : IsTup h a x) (e' : IsTup h a y) : x = y := by
  obtain ⟨o, h1, _, n, d1⟩ := e
  obtain ⟨o', h2, _, n', d2⟩ := e'
  cases Option.some.inj (h1.symm.trans h2)
  rw [d1] at d2
  injection d2
end
section
variable (P : Program) (w : World) (h : Heap)
def LkAt (k : Key) (q : Addr) : Prop := ∃ v, IsTup h q [.bool false, v].toArray ∧ (mixKind P w).is k v = true
def PrAt (p : Str × Key) (v : Value) : Prop := ∃ a q t, v = .ref a ∧ IsTup h a [.str p.1 t, .ref q].toArray ∧ LkAt P w h p.2 q
def RowAt (ks : List (Str × Key)) (a : Addr) : Prop := ∃ its : List Value, IsTup h a its.toArray ∧ Paired (PrAt P w h) ks its
def lkHash (k : Key) : Int := reduceHash (Builtin.Tuple.tupleHashOf [0, (mixKind P w).hash k])
def prHash (p : Str × Key) : Int := reduceHash (Builtin.Tuple.tupleHashOf [(mixKind P w).hash (.inr p.1), lkHash P w p.2])
def rowHash (ks : List (Str × Key)) : Int := reduceHash (Builtin.Tuple.tupleHashOf (ks.map (prHash P w)))
end
section
variable {P : Program} {w : World} {h : Heap}
theorem LkAt.inj {k k' : Key} {q : Addr} (x : LkAt P w h k q) (y : LkAt P w h k' q) : k = k' := by
  obtain ⟨v, e, i⟩ := x
  obtain ⟨v', e', i'⟩ := y
  have z := tup_uniq e e'
  have z' : v = v' := by simpa using z
  subst z'
  exact (mixKind P w).inj v k k' i i'
theorem PrAt.inj {p p' : Str × Key} {v : Value} (x : PrAt P w h p v) (y : PrAt P w h p' v) : p = p' := by
  obtain ⟨a, q, t, rfl, e, l⟩ := x
  obtain ⟨a', q', t', e0, e', l'⟩ := y
  injection e0 with e0; subst e0
  have z := tup_uniq e e'
  have z0 : ([.str p.1 t, .ref q] : List Value) = [.str p'.1 t', .ref q'] := congrArg Array.toList z
  injection z0 with za zb
  injection za with z1 _
  injection zb with zc _
  injection zc with z2
  subst z2
  exact Prod.ext z1 (l.inj l')
theorem RowAt.inj {x y : List (Str × Key)} {a : Addr} (hx : RowAt P w h x a) (hy : RowAt P w h y a) : x = y := by
  obtain ⟨i, e, r⟩ := hx
  obtain ⟨i', e', r'⟩ := hy
  have z : i = i' := by simpa using (tup_uniq e e')
  subst z
  clear e e'
  induction r generalizing y with
  | nil => cases r'; rfl
  | cons a _ ih => cases r' with
    | cons b t => rw [a.inj b, ih t]
theorem LkAt.hash {k : Key} {q : Addr} (x : LkAt P w h k q) : CanHash P w h 1 (.ref q) (lkHash P w k) 3 := by
  obtain ⟨v, e, i⟩ := x
  exact hash_tup (r := 0) (zs := [(0, 1), ((mixKind P w).hash k, 1)]) e (.cons CanHash.bl (.cons (CanHash.key i) .nil))
theorem PrAt.hash {p : Str × Key} {v : Value} (x : PrAt P w h p v) : CanHash P w h 2 v (prHash P w p) 5 := by
  obtain ⟨a, q, t, rfl, e, l⟩ := x
  exact hash_tup (r := 1) (zs := [((mixKind P w).hash (.inr p.1), 1), (lkHash P w p.2, 3)]) e (.cons (CanHash.key (k := .inr p.1) (mixKind_str P w p.1 t)) (.cons l.hash .nil))
theorem row_items : ∀ {ks : List (Str × Key)} {its : List Value}, Paired (PrAt P w h) ks its → Paired (fun (p : Int × Nat) v => CanHash P w h 2 v p.1 p.2) (ks.map fun p => (prHash P w p, 5)) its
  | _, _, .nil => .nil
  | _, _, .cons a t => .cons (F := fun (p : Int × Nat) v => CanHash P w h 2 v p.1 p.2) a.hash (row_items t)
theorem row_fst {α : Type} (g : α → Int) (ks : List α) : (ks.map fun p => (g p, 5)).map (fun p : Int × Nat => p.1) = ks.map g := by
  rw [List.map_map]; rfl
theorem row_snd {α : Type} (g : α → Int) (ks : List α) : ((ks.map fun p => (g p, 5)).map (fun p : Int × Nat => p.2)).sum + 1 = 5 * ks.length + 1 := by
  induction ks with
  | nil => rfl
  | cons p ks ih => simp only [List.map_cons, List.sum_cons, List.length_cons] at ih ⊢; omega
theorem RowAt.hash {ks : List (Str × Key)} {a : Addr} (x : RowAt P w h ks a) : CanHash P w h 3 (.ref a) (rowHash P w ks) (5 * ks.length + 1) := by
  obtain ⟨its, e, r⟩ := x
  have key := hash_tup (r := 2) (zs := ks.map fun p => (prHash P w p, 5)) e (row_items r)
  exact key.cast (congrArg (fun l => reduceHash (Builtin.Tuple.tupleHashOf l)) (row_fst _ ks)) (row_snd _ ks)
open Classical in
theorem LkAt.eq {k k' : Key} {q q' : Addr} (x : LkAt P w h k q) (y : LkAt P w h k' q') : CanEq P w h 1 (.ref q) (.ref q') (decide (k = k')) := by
  obtain ⟨v, e, i⟩ := x
  obtain ⟨v', e', i'⟩ := y
  have nb : ∀ {b : Bool} {k : Key}, ¬ (mixKind P w).is k (.bool b) = true := fun {b k} z => by
    have : keyIs k (.bool b) = true := z
    rcases keyIs_shape this with ⟨_, _, _, e⟩ | ⟨_, _, _, e⟩ <;> cases e
  have hv : ∀ {k k' : Key} {u u' : Value}, (mixKind P w).is k u = true → (mixKind P w).is k' u' = true → decide (∃ j, (mixKind P w).is j u = true ∧ (mixKind P w).is j u' = true) = decide (k = k') := fun {k k' u u'} a b => by
    rw [decide_eq_decide]
    constructor
    · rintro ⟨j, c, d⟩
      exact ((mixKind P w).inj _ _ _ a c).trans ((mixKind P w).inj _ _ _ d b)
    · rintro rfl; exact ⟨_, a, b⟩
  have key := eq_tup (P := P) (w := w) (r := 0) (xs := [.bool false, v]) (ys := [.bool false, v']) (f := fun u v => (u == .bool false && v == .bool false) || decide (∃ j, (mixKind P w).is j u = true ∧ (mixKind P w).is j v = true)) e e' (by
      intro j u u' h1 h2
      rcases j with _ | _ | j
      · simp only [List.getElem?_cons_zero, Option.some.injEq] at h1 h2
        subst h1 h2
        have z := CanEq.bl (P := P) (w := w) (h := h) (r := 0) (a := false) (b := false)
        simpa using z
      · simp only [List.getElem?_cons_succ, List.getElem?_cons_zero, Option.some.injEq] at h1 h2
        subst h1 h2
        have n1 : (v == Value.bool false) = false := beq_eq_false_iff_ne.mpr fun z => by subst z; exact nb i
        rw [n1, Bool.false_and, Bool.false_or, hv i i']
        exact CanEq.key i i'
      · simp at h1) (by
      intro u hu
      simp only [List.mem_cons, List.not_mem_nil, or_false] at hu
      rcases hu with rfl | rfl
      · simp
      · rw [hv i i]; simp)
  have n1 : (v == Value.bool false) = false := beq_eq_false_iff_ne.mpr fun z => by subst z; exact nb i
  simp only [List.length_cons, List.length_nil, beq_self_eq_true, List.zipWith_cons_cons, List.zipWith_nil_left, List.all_cons, List.all_nil, Bool.and_true, Bool.true_and, id, Bool.true_or, n1, Bool.false_and, Bool.false_or, hv i i'] at key
  exact key
open Classical in
theorem PrAt.eq {p p' : Str × Key} {v v' : Value} (x : PrAt P w h p v) (y : PrAt P w h p' v') : CanEq P w h 2 v v' (decide (p = p')) := by
  obtain ⟨a, q, t, rfl, e, l⟩ := x
  obtain ⟨a', q', t', rfl, e', l'⟩ := y
  have hr : ∀ {k k' : Key} {q q' : Addr}, LkAt P w h k q → LkAt P w h k' q' → decide (∃ j b b', (Value.ref q = .ref b) ∧ Value.ref q' = .ref b' ∧ LkAt P w h j b ∧ LkAt P w h j b') = decide (k = k') := fun {k k' q q'} a b => by
    rw [decide_eq_decide]
    constructor
    · rintro ⟨j, b1, b2, h1, h2, c, d⟩
      injection h1 with h1; injection h2 with h2; subst h1 h2
      exact (a.inj c).trans (d.inj b)
    · rintro rfl; exact ⟨_, _, _, rfl, rfl, a, b⟩
  have hs : ∀ (s s' : Str) (t t' : Tok), decide (∃ z u u', Value.str s t = .str z u ∧ Value.str s' t' = .str z u') = decide (s = s') := fun s s' t t' => by
    rw [decide_eq_decide]
    constructor
    · rintro ⟨z, u, u', h1, h2⟩; injection h1 with h1; injection h2 with h2; exact h1.trans h2.symm
    · rintro rfl; exact ⟨_, _, _, rfl, rfl⟩
  have c1 : ∀ (s : Str) (t : Tok) (v' : Value), decide (∃ j b b', (Value.str s t = .ref b) ∧ v' = .ref b' ∧ LkAt P w h j b ∧ LkAt P w h j b') = false := fun s t v' => decide_eq_false (by rintro ⟨_, _, _, z, _⟩; cases z)
  have c2 : ∀ (b : Addr) (v' : Value), decide (∃ z u u', Value.ref b = .str z u ∧ v' = .str z u') = false := fun b v' => decide_eq_false (by rintro ⟨_, _, _, z, _⟩; cases z)
  have key := eq_tup (P := P) (w := w) (r := 1) (xs := [.str p.1 t, .ref q]) (ys := [.str p'.1 t', .ref q']) (f := fun u v => decide (∃ z t t', u = .str z t ∧ v = .str z t') || decide (∃ j b b', u = .ref b ∧ v = .ref b' ∧ LkAt P w h j b ∧ LkAt P w h j b')) e e' (by
      intro j u u' h1 h2
      rcases j with _ | _ | j
      · simp only [List.getElem?_cons_zero, Option.some.injEq] at h1 h2
        subst h1 h2
        rw [hs, c1, Bool.or_false]
        have z := CanEq.key (P := P) (w := w) (h := h) (r := 1) (k := .inr p.1) (k' := .inr p'.1) (mixKind_str P w p.1 t) (mixKind_str P w p'.1 t')
        have z2 : decide ((Sum.inr p.1 : Key) = Sum.inr p'.1) = decide (p.1 = p'.1) := by rw [decide_eq_decide]; exact ⟨fun z => Sum.inr.inj z, fun z => by rw [z]⟩
        rw [z2] at z
        exact z
      · simp only [List.getElem?_cons_succ, List.getElem?_cons_zero, Option.some.injEq] at h1 h2
        subst h1 h2
        rw [c2, Bool.false_or, hr l l']
        exact l.eq l'
      · simp at h1) (by
      intro u hu
      simp only [List.mem_cons, List.not_mem_nil, or_false] at hu
      rcases hu with rfl | rfl
      · rw [hs]; simp
      · rw [hr l l]; simp)
  simp only [List.length_cons, List.length_nil, beq_self_eq_true, List.zipWith_cons_cons, List.zipWith_nil_left, List.all_cons, List.all_nil, Bool.and_true, Bool.true_and, id, hs, c1, c2, Bool.or_false, Bool.false_or, hr l l'] at key
  have fin : (decide (p.1 = p'.1) && decide (p.2 = p'.2)) = decide (p = p') := by
    by_cases e1 : p.1 = p'.1
    · by_cases e2 : p.2 = p'.2
      · simp [e1, e2, Prod.ext_iff]
      · simp [e2, Prod.ext_iff]
    · simp [e1, Prod.ext_iff]
  rw [← fin]
  exact key
open Classical in
theorem RowAt.eq {ks ks' : List (Str × Key)} {a b : Addr} (x : RowAt P w h ks a) (y : RowAt P w h ks' b) : CanEq P w h 3 (.ref a) (.ref b) (decide (ks = ks')) := by
  obtain ⟨its, e, r⟩ := x
  obtain ⟨its', e', r'⟩ := y
  have hp : ∀ (p p' : Str × Key) (u v : Value), PrAt P w h p u → PrAt P w h p' v → decide (∃ j, PrAt P w h j u ∧ PrAt P w h j v) = decide (p = p') := fun p p' u v a b => by
    rw [decide_eq_decide]
    constructor
    · rintro ⟨j, c, d⟩; exact (a.inj c).trans (d.inj b)
    · rintro rfl; exact ⟨_, a, b⟩
  have get : ∀ {ks : List (Str × Key)} {xs : List Value}, Paired (PrAt P w h) ks xs → ∀ (j : Nat) (u : Value), xs[j]? = some u → ∃ p, PrAt P w h p u := by
    intro ks xs r
    induction r with
    | nil => intro j u z; simp at z
    | cons a _ ih =>
      intro j u z
      cases j with
      | zero => simp at z; subst z; exact ⟨_, a⟩
      | succ j => exact ih j u (by simpa using z)
  have key := eq_tup (P := P) (w := w) (r := 2) (f := fun u v => decide (∃ j, PrAt P w h j u ∧ PrAt P w h j v)) e e' (by
      intro j u u' h1 h2
      obtain ⟨p, hp1⟩ := get r j u h1
      obtain ⟨p', hp2⟩ := get r' j u' h2
      show CanEq P w h 2 u u' (decide (∃ j, PrAt P w h j u ∧ PrAt P w h j u'))
      rw [hp p p' u u' hp1 hp2]
      exact hp1.eq hp2) (by
      intro u hu
      obtain ⟨j, hj⟩ := List.mem_iff_getElem?.mp hu
      obtain ⟨p, hp1⟩ := get r j u hj
      show decide (∃ j, PrAt P w h j u ∧ PrAt P w h j u) = true
      rw [hp p p u u hp1 hp1]; simp)
  rw [zip_dec hp r r'] at key
  exact key
theorem LkAt.quiet {d : Nat} {k : Key} {q : Addr} (x : LkAt P w h k q) : CanQuiet P w h (d + 1) (.ref q) := by
  obtain ⟨v, e, i⟩ := x
  refine quiet_tup e fun u hu => ?_
  simp only [List.mem_cons, List.not_mem_nil, or_false] at hu
  rcases hu with rfl | rfl
  · exact CanQuiet.val rfl
  · exact CanQuiet.val ((mixKind P w).byValue _ _ i)
theorem PrAt.quiet {d : Nat} {p : Str × Key} {v : Value} (x : PrAt P w h p v) : CanQuiet P w h (d + 2) v := by
  obtain ⟨a, q, t, rfl, e, l⟩ := x
  refine quiet_tup e fun u hu => ?_
  simp only [List.mem_cons, List.not_mem_nil, or_false] at hu
  rcases hu with rfl | rfl
  · exact CanQuiet.val rfl
  · exact l.quiet
theorem RowAt.quiet {ks : List (Str × Key)} {a : Addr} (x : RowAt P w h ks a) : CanQuiet P w h 8 (.ref a) := by
  obtain ⟨its, e, r⟩ := x
  refine quiet_tup (d := 7) e fun u hu => ?_
  clear e
  have hu' : u ∈ its := hu
  clear hu
  induction r with
  | nil => exact nomatch hu'
  | cons a _ ih =>
    rcases List.mem_cons.mp hu' with rfl | hu'
    · exact a.quiet (d := 5)
    · exact ih hu'
theorem tup_keepD {h h' : Heap} {a d : Addr} {o : Obj} {es ep} {its : Array Value} (x : IsTup h a its) (ho : h.get? d = some o) (hd : o.data = .dict es ep) (hs : Heap.SameBut d h h') : IsTup h' a its := by
  obtain ⟨o', ho', hc, n, hd'⟩ := x
  have hne : a ≠ d := by
    rintro rfl
    obtain rfl : o' = o := Option.some.inj (ho'.symm.trans ho)
    rw [hd] at hd'; exact nomatch hd'
  exact ⟨o', (hs.2 a hne).trans ho', hc, n, hd'⟩
theorem RowAt.keepD {h h' : Heap} {a d : Addr} {o : Obj} {es ep} {ks : List (Str × Key)} (x : RowAt P w h ks a) (ho : h.get? d = some o) (hd : o.data = .dict es ep) (hs : Heap.SameBut d h h') : RowAt P w h' ks a := by
  obtain ⟨its, e, r⟩ := x
  refine ⟨its, tup_keepD e ho hd hs, ?_⟩
  clear e
  induction r with
  | nil => exact .nil
  | cons a _ ih =>
    obtain ⟨b, q, t, e1, e2, v, e3, e4⟩ := a
    exact .cons ⟨b, q, t, e1, tup_keepD e2 ho hd hs, v, tup_keepD e3 ho hd hs, e4⟩ ih
def rowKind (P : Program) (w : World) : HeapKind P w (List (Str × Key)) where
  is := RowAt P w
  hash := rowHash P w
  draws := fun ks => 5 * ks.length + 1
  room := fun A => A.units + 3 < cLine
  inj := fun x y => x.inj y
  keeps := fun x ho hd hs => x.keepD ho hd hs
  pyHash := fun hu hk q => hk.hash _ _ _ _ hu rfl q
  eqBool := fun hu hx hy q => hx.eq hy _ _ _ _ hu rfl q
  quiet := fun hk q => hk.quiet _ _ _ _ rfl q
end
end L2

set_option Elab.async false
set_option linter.all false
set_option maxRecDepth 100000
set_option maxHeartbeats 4000000
namespace L2
open PySem PySem.Spec PyProof.Rows
abbrev RK := List (Str × Key)
/-! ### a dict whose keys are likenesses of rows -/
def LkV (H : Hp) (p : Str × Key) (v : V) : Prop := ∃ c q, v = .ref c ∧ H c = some (.tup [.str p.1, .ref q]) ∧ H q = some (.tup [.bl false, kV p.2])
def RowKey (H : Hp) (ks : RK) (b : Addr) : Prop := ∃ items : List V, H b = some (.tup items) ∧ Paired (LkV H) ks items
theorem RowKey.keeps {H H' : Hp} {ks : RK} {b : Addr} (x : RowKey H ks b) (ht : ∀ c ys, H c = some (.tup ys) → H' c = some (.tup ys)) : RowKey H' ks b := by
  obtain ⟨items, e, r⟩ := x
  exact ⟨items, ht _ _ e, Paired.mapP r fun p v ⟨c, q, h1, h2, h3⟩ => ⟨c, q, h1, ht _ _ h2, ht _ _ h3⟩⟩
theorem RowKey.at {P : Program} {w : World} {H : Hp} {h : Heap} {ks : RK} {b : Addr} (x : RowKey H ks b) (ok : HOk P w H h) : RowAt P w h ks b := by
  have tp : ∀ c ys, H c = some (.tup ys) → ∃ its : List Value, Vals ys its ∧ IsTup h c its.toArray := fun c ys e => by
    obtain ⟨_, its, r, t⟩ := (show ObjOk P w H h c (.tup ys) from ok c _ e)
    exact ⟨its, r, t⟩
  obtain ⟨items, e, r⟩ := x
  obtain ⟨its, rv, t⟩ := tp _ _ e
  refine ⟨its, t, ?_⟩
  clear e t
  induction r generalizing its with
  | nil => cases rv; exact .nil
  | cons a _ ih =>
    cases rv with
    | cons rx rt =>
      refine .cons ?_ (ih _ rt)
      obtain ⟨c, q, rfl, h2, h3⟩ := a
      cases rx
      obtain ⟨i2, r2, t2⟩ := tp _ _ h2
      obtain ⟨i3, r3, t3⟩ := tp _ _ h3
      cases r2 with
      | cons a1 a2 =>
        obtain ⟨tk, rfl⟩ := a1
        cases a2 with
        | cons b1 b2 =>
          cases b1; cases b2
          cases r3 with
          | cons c1 c2 =>
            cases c1
            cases c2 with
            | cons d1 d2 =>
              cases d2
              exact ⟨c, q, tk, rfl, t2, _, t3, kV_is d1⟩
def DNo (P : Program) (w : World) (a : Addr) (kvs : List (RK × Addr × V)) : HO := .ext fun h => (a == sysModules) = false ∧ ∃ (xs : List (RK × Addr × Value)) (o : Obj) (es : Array DictEntry) (ep : Nat),
  Paired (fun (p : RK × Addr × V) (q : RK × Addr × Value) => p.1 = q.1 ∧ p.2.1 = q.2.1 ∧ RelV p.2.2 q.2.2) kvs xs ∧ h.get? a = some o ∧ o.ExactDict ∧ o.data = .dict es ep ∧ es.toList = xs.map (entryOfKey (rowKind P w))
def DN (P : Program) (w : World) (H : Hp) (a : Addr) (m : List (RK × V)) : Prop :=
  ∃ kvs : List (RK × Addr × V), H a = some (DNo P w a kvs) ∧ kvs.map (fun x => (x.1, x.2.2)) = m ∧ (∀ x ∈ kvs, RowKey H x.1 x.2.1) ∧ (m.map (·.1)).Nodup ∧ m.length ≤ sizeLine
theorem DN.keeps {P : Program} {w : World} {H H' : Hp} {a : Addr} {m : List (RK × V)} (x : DN P w H a m) (e : H' a = H a) (ht : ∀ c ys, H c = some (.tup ys) → H' c = some (.tup ys)) : DN P w H' a m := by
  obtain ⟨kvs, h1, h2, h3, h4⟩ := x
  exact ⟨kvs, e.trans h1, h2, fun x hx => (h3 x hx).keeps ht, h4⟩
abbrev KN : List (RK × V) → List (RK × Addr × Value) → Prop := Paired fun p q => p.1 = q.1 ∧ RelV p.2 q.2.2
theorem KN.val {m : List (RK × V)} {xs : List (RK × Addr × Value)} (r : KN m xs) (k : RK) : RelO (valV m k) ((atKey xs k).map (·.2)) := by
  induction r with
  | nil => exact True.intro
  | @cons p q ps qs h t ih =>
    obtain ⟨h1, h2⟩ := h
    by_cases e : p.1 = k
    · have e' : q.1 = k := h1.symm.trans e
      have b : atKey (q :: qs) k = some q.2 := by simp [atKey, List.find?_cons, e']
      rw [valV_pos e, b]; exact h2
    · have e' : ¬ q.1 = k := fun z => e (h1.trans z)
      have b : atKey (q :: qs) k = atKey qs k := by simp [atKey, List.find?_cons, e']
      rw [valV_neg e, b]; exact ih
abbrev KN3 : List (RK × Addr × V) → List (RK × Addr × Value) → Prop := Paired fun p q => p.1 = q.1 ∧ p.2.1 = q.2.1 ∧ RelV p.2.2 q.2.2
theorem KN3.to {kvs : List (RK × Addr × V)} {xs : List (RK × Addr × Value)} (r : KN3 kvs xs) : KN (kvs.map fun x => (x.1, x.2.2)) xs := by
  induction r with
  | nil => exact .nil
  | cons h _ ih => exact .cons ⟨h.1, h.2.2⟩ ih
theorem KN3.keys {kvs : List (RK × Addr × V)} {xs : List (RK × Addr × Value)} (r : KN3 kvs xs) : kvs.map (·.1) = xs.map (·.1) := by
  induction r with
  | nil => rfl
  | cons h _ ih => rw [List.map_cons, List.map_cons, ih, h.1]
def storedV (kvs : List (RK × Addr × V)) (k : RK) (b : Addr) (v : V) : List (RK × Addr × V) :=
  if (kvs.any fun x => decide (x.1 = k)) = true then kvs.map (fun x => if x.1 = k then (x.1, x.2.1, v) else x) else kvs ++ [(k, b, v)]
theorem KN3.put {kvs : List (RK × Addr × V)} {xs : List (RK × Addr × Value)} (r : KN3 kvs xs) (k : RK) {b : Addr} {y : V} {u : Value} (ry : RelV y u) : KN3 (storedV kvs k b y) (storedH xs k b u) := by
  have e : (kvs.any fun x => decide (x.1 = k)) = (atKey xs k).isSome := by
    have z := (r.to.val k).isSome_eq
    rw [Option.isSome_map] at z
    rw [← z, ← valV_any, List.any_map]; rfl
  unfold storedV storedH
  rw [e]
  by_cases q : (atKey xs k).isSome = true
  · rw [if_pos q, if_pos q]
    clear e q
    induction r with
    | nil => exact .nil
    | @cons p q ps qs h t ih =>
      rw [List.map_cons, List.map_cons]
      refine .cons ?_ ih
      obtain ⟨h1, h2, h3⟩ := h
      unfold putAt
      by_cases e : p.1 = k
      · rw [if_pos e, if_pos (h1.symm.trans e)]; exact ⟨h1, h2, ry⟩
      · rw [if_neg e, if_neg (fun z => e (h1.trans z))]; exact ⟨h1, h2, h3⟩
  · rw [if_neg q, if_neg q]; exact Paired.snoc r ⟨rfl, rfl, ry⟩
section
variable {P : Program} {w : World} {H : Hp} {h : Heap} {a : Addr} {m : List (RK × V)}
end
section
variable {X : Cx} {pins : List (Addr × Obj)} {σ : St} {H : Hp} {s : Shared} {a b : Addr} {v : V} {r : Value} {A : Around} {E : Value → Shared → Prop} {m : List (RK × V)} {k : RK}
end
/-! readings and rules -/
section
variable {X : Cx} {o i e f value : Expr} {pos pos' tpos apos cpos : Pos} {td ty tx tv : TE}
end
end L2

set_option Elab.async false
set_option linter.all false
set_option maxRecDepth 100000
set_option maxHeartbeats 4000000
namespace L2
open PySem PySem.Spec PyProof.Rows
/-! ### dicts == dicts -/
section
variable {P : Program} {w : World} {A : Around} {E : Value → Shared → Prop} {s : Shared}
end
end L2

set_option Elab.async false
set_option linter.all false
set_option maxRecDepth 100000
set_option maxHeartbeats 4000000
namespace L2
open PySem PySem.Spec PyProof.Rows
/-! ### lists of dicts: in, count, index -/
section
variable {P : Program} {w : World} {A : Around} {s : Shared}
end
section
open MeetsSeq MeetsSeq2 MeetsSeq3 SeqRoads2 AutoSeq1
variable {P : Program} {w : World}
end
section
variable {X : Cx} {pins : List (Addr × Obj)} {σ : St} {H : Hp} {s : Shared}
end
end L2

set_option Elab.async false
set_option linter.all false
set_option maxRecDepth 100000
set_option maxHeartbeats 4000000
namespace L2
open PySem PySem.Spec PyProof.Rows
section
variable {X : Cx} {pins : List (Addr × Obj)} {σ : St} {H : Hp} {s : Shared}
end
end L2

set_option Elab.async false
set_option linter.all false
set_option maxRecDepth 100000
set_option maxHeartbeats 4000000
namespace HT
open PySem PySem.Spec PyProof.Rows
section
variable {prog : Program} {w : World} {A : Around} {E : Value → Shared → Prop} {s : Shared}
theorem getItem_tuple_all {t sl : Addr} {items : Array Value} {vl vu : Value} {lo hi : Option Int} {Q : Value → Shared → Prop} (ht : IsTup s.heap t items) (hs : s.heap.IsSliceOf sl vl vu .none) (pl : IsPart vl lo) (pu : IsPart vu hi)
    (h1 : sIx items.size 0 lo = 0) (h2 : sIx items.size items.size hi = items.size) (h : Q (.ref t) s) : wpAny (model prog w) A (getItem (.ref t) (.ref sl)) Q E s := by
  obtain ⟨os, hos, hcs, hds⟩ := id hs
  have hTs : s.TypeIs (.ref sl) "slice" := ⟨os, hos, hcs⟩
  unfold getItem
  try with_reducible refine wpAny_holding ?_
  first | refine wpAny_bind (wpAny_pure ?_) | skip
  refine wpAny_bind (wpAny_sequenceKey ht.typeIs (by decide) ?_); refine wpAny_bind (wpAny_callSpecial?_slot (name := Str.ofString "__getitem__") ht.typeIs PyProof.Rows.slot_tuple_getitem (wpAny_call_entry PyProof.Rows.slot_tuple_getitem ht.typeIs entry_tuple_getitem ?_ (args_tuple_getitem _ _)))
  show wpAny _ _ (Builtin.Tuple.tupleItemsOf (.ref t) >>= _) _ _ s; refine wpAny_bind (tupleItemsOf_ ht ?_); refine wpAny_bind (wpAny_typeOf hTs ?_)
  rw [if_pos (by decide)]; refine wpAny_bind (sliceApplied_gen hs pl pu ?_)
  have yes : (((sIx items.size 0 lo : Nat) : Int) == 0 && (1 : Int) == 1 && (sIx items.size items.size hi - sIx items.size 0 lo) == items.size) = true := by rw [h1, h2]; simp
  show wpAny _ _ (if (((sIx items.size 0 lo : Nat) : Int) == 0 && (1 : Int) == 1 && (sIx items.size items.size hi - sIx items.size 0 lo) == items.size) = true then _ else _) _ _ s
  rw [if_pos yes]
  unfold Builtin.Tuple.tupleIsExact
  refine wpAny_bind (wpAny_bind (wpAny_typeOf ht.typeIs (wpAny_pure ?_)))
  rw [if_pos (by decide)]
  exact wpAny_bind (wpAny_rule (wpAny_pure ⟨_, rfl, wpAny_pure h⟩))
end
end HT
namespace L2
open PySem PySem.Spec PyProof.Rows
section
variable {X : Cx}
/-- t[lo:hi], the whole of it or not -/
def rSlTA (K : PySem.W.Frag) : V → Option Int → Option Int → Hp → VK → Prop := fun x lo hi H Q => ∃ a xs, x = .ref a ∧ SqT K H a xs ∧ HT.sIx xs.length 0 lo = 0 ∧ HT.sIx xs.length xs.length hi = xs.length ∧ Q (.ref a) H
theorem sl_tupA : SlR X (rSlTA X.K) := by
  intro pins s σ H x v vl vu lo hi sl Q I rx hs pl pu h
  obtain ⟨a, xs, rfl, hx, h1, h2, q⟩ := h
  cases rx
  obtain ⟨its, r, ht, hz⟩ := I.tuple hx
  have hlen : its.toArray.size = xs.length := by rw [List.size_toArray]; exact r.length.symm
  refine ⟨"tuple", _, PyProof.Rows.slot_tuple_getitem.lookup, ht.typeIs, ?_⟩
  exact HT.getItem_tuple_all ht hs pl pu (by rw [hlen]; exact h1) (by rw [hlen]; exact h2) ⟨.ref a, H, I, rfl, q⟩
theorem sl_tupB : SlR X (fun x lo hi H Q => rSlT X.K x lo hi H Q ∨ rSlTA X.K x lo hi H Q) := SlR.or sl_tup sl_tupA
end
end L2

set_option Elab.async false
set_option linter.all false
set_option maxRecDepth 100000
set_option maxHeartbeats 4000000
namespace L2
open PySem PySem.Spec PyProof.Rows PySem.W
section
variable {X : Cx}
/-! ### join over a tuple -/
def rJoinT (K : PySem.W.Frag) : V → List V → Hp → VK → Prop := fun x vs H Q => ∃ z p ys, x = .str z ∧ vs = [.ref p] ∧ SqT K H p (ys.map V.str) ∧ (ys.map (·.length)).sum + ys.length * z.length ≤ 16777216 ∧ Q (.str (Txt.join z ys)) H
theorem mt_joinT : MtR X "str.join" (rJoinT X.K) := by
  intro pins s σ H x xs v us Q I rx rs h
  obtain ⟨z, p, ys, rfl, rfl, hl, hz, q⟩ := h
  obtain ⟨t, rfl⟩ := rx
  obtain ⟨u, rfl, ru⟩ := vals1 rs
  cases ru
  obtain ⟨its, rv, pl, _⟩ := I.tuple hl
  exact join_tuple pl (by simpa using strs_are rv) hz fun t' k => ⟨.str _, H, I.tok _, ⟨_, rfl⟩, q⟩
/-! ### == of two tuples of flat things, as many or not -/
def eqTs (xs ys : List V) : Bool := xs.length == ys.length && (List.zipWith eqV xs ys).all id
def rEqT2 (K : PySem.W.Frag) (neg : Bool) : R2 := fun x y H Q => ∃ p q xs ys, x = .ref p ∧ y = .ref q ∧ SqT K H p xs ∧ SqT K H q ys ∧ xs.all flatV = true ∧ ys.all flatV = true ∧ Q (.bl (if neg then !eqTs xs ys else eqTs xs ys)) H
theorem eqT_all2 {xs ys : List V} {its1 its2 : List Value} (r1 : Vals xs its1) (r2 : Vals ys its2) :
    ((List.range (min its1.toArray.size its2.toArray.size)).all (fun j => eqV (xs.getD j .non) (ys.getD j .non)) && its1.toArray.size == its2.toArray.size) = eqTs xs ys := by
  unfold eqTs
  by_cases hl : xs.length = ys.length
  · rw [eqT_all r1 r2 hl, hl]; simp
  · have e1 : its1.toArray.size = xs.length := by rw [List.size_toArray]; exact r1.length.symm
    have e2 : its2.toArray.size = ys.length := by rw [List.size_toArray]; exact r2.length.symm
    rw [e1, e2]
    have : (xs.length == ys.length) = false := by simpa using hl
    rw [this]; simp
theorem op_eqT2 (hu : X.A.units < cLine) : OpR X (compareOp .Eq) (rEqT2 X.K false) := by
  intro pins s σ H x y v u Q I rx ry h
  obtain ⟨p, q, xs, ys, rfl, rfl, h1, h2, f1, f2, k⟩ := h
  cases rx
  cases ry
  obtain ⟨its1, r1, p1, _⟩ := I.tuple h1
  obtain ⟨its2, r2, p2, _⟩ := I.tuple h2
  refine SeqAt.eq_tupleAt (e := fun j => eqV (xs.getD j .non) (ys.getD j .non)) (show s.heap.IsTuple p its1.toArray from p1) (show s.heap.IsTuple q its2.toArray from p2) hu (eqT_items r1 r2 f1 f2) ⟨.bl _, H, I, rfl, ?_⟩
  rw [eqT_all2 r1 r2]
  exact k
theorem op_neT2 (hu : X.A.units < cLine) : OpR X (compareOp .NotEq) (rEqT2 X.K true) := by
  intro pins s σ H x y v u Q I rx ry h
  obtain ⟨p, q, xs, ys, rfl, rfl, h1, h2, f1, f2, k⟩ := h
  cases rx
  cases ry
  obtain ⟨its1, r1, p1, _⟩ := I.tuple h1
  obtain ⟨its2, r2, p2, _⟩ := I.tuple h2
  refine SeqAt.RcNeAt.tuples (e := fun j => eqV (xs.getD j .non) (ys.getD j .non)) (show s.heap.IsTuple p its1.toArray from p1) (show s.heap.IsTuple q its2.toArray from p2) hu (eqT_items r1 r2 f1 f2) X.prog X.w X.xe _ ⟨.bl _, H, I, rfl, ?_⟩
  rw [eqT_all2 r1 r2]
  exact k
/-! ### a loop over a dict: thawed behind it -/
def sThaw (H0 : Hp) (ts : TS) : TS := fun D σ H => ts { D with nx := fun σ' H' => D.nx σ' H' ∨ ∃ d o kvs, H' d = some (.frz o (.dK kvs)) ∧ (∀ o u, H0 d ≠ some (.frz o u)) ∧ D.nx σ' (upd H' d (.dK kvs)) } σ H
theorem ps_thaw {st : Stmt} {ts : TS} (hs : PS X st ts) : PS X st (sThaw X.H₀ ts) := fun pins s σ H D I h => thn (hs pins s σ H _ I h) fun f s1 z => by
  cases f with
  | next =>
    obtain ⟨σ', H', I', z⟩ := z
    rcases z with z | ⟨d, o, kvs, e, hf, z⟩
    · exact ⟨σ', H', I', z⟩
    · exact ⟨σ', _, I'.thaw e hf, z⟩
  | brk => exact z
  | cont => exact z
  | ret u => exact z
theorem op_in_seqK {K : PySem.W.Frag} (h : X.K = K) : OpR X (compareOp .In) (rIn K false) := by subst h; exact op_in_seq
theorem op_notIn_seqK {K : PySem.W.Frag} (h : X.K = K) : OpR X (compareOp .NotIn) (rIn K true) := by subst h; exact op_notIn_seq
end
end L2

set_option Elab.async false
set_option linter.all false
set_option maxRecDepth 100000
set_option maxHeartbeats 4000000
namespace My
open PySem L2
def top (i : Nat) : Stmt := PySem.Challenge.pw_logdelve_k12_questions_written.main.body.getD i (.Pass ⟨0, 0, 0, 0⟩)
set_option genInjectivity false in
set_option genSizeOf false in
structure Adr where
  f_value_text : Addr
  d_value_text : FuncData
  f_term_text : Addr
  d_term_text : FuncData
  f_part_text : Addr
  d_part_text : FuncData
  f_leaf_text : Addr
  d_leaf_text : FuncData
  f_bracketed : Addr
  d_bracketed : FuncData
  f_level_of : Addr
  d_level_of : FuncData
  f_built_up : Addr
  d_built_up : FuncData
  f_parts_in : Addr
  d_parts_in : FuncData
  f_question_text : Addr
  d_question_text : FuncData
  f_stage_text : Addr
  d_stage_text : FuncData
  f_from_text : Addr
  d_from_text : FuncData
  f_with_text : Addr
  d_with_text : FuncData
  f_names_text : Addr
  d_names_text : FuncData
  f_sort_text : Addr
  d_sort_text : FuncData
  f_sessions_text : Addr
  d_sessions_text : FuncData
  f_join_text : Addr
  d_join_text : FuncData
  f_fold_text : Addr
  d_fold_text : FuncData
  f_thing_text : Addr
  d_thing_text : FuncData
  f_by_text : Addr
  d_by_text : FuncData
  f_begin : Addr
  d_begin : FuncData
  f_take : Addr
  d_take : FuncData
  f_of : Addr
  d_of : FuncData
  f_same : Addr
  d_same : FuncData
  f_kept_word : Addr
  d_kept_word : FuncData
  f_letters : Addr
  d_letters : FuncData
  f_drawn_name : Addr
  d_drawn_name : FuncData
  f_drawn_word : Addr
  d_drawn_word : FuncData
  f_number : Addr
  d_number : FuncData
  f_value : Addr
  d_value : FuncData
  f_L_value_text : Addr
  d_L_value_text : FuncData
  f_kinds : Addr
  d_kinds : FuncData
  f_own : Addr
  d_own : FuncData
  f_leaf : Addr
  d_leaf : FuncData
  f_term : Addr
  d_term : FuncData
  f_two_parts : Addr
  d_two_parts : FuncData
  f_level : Addr
  d_level : FuncData
  f_wrapped : Addr
  d_wrapped : FuncData
  f_text : Addr
  d_text : FuncData
  f_some : Addr
  d_some : FuncData
  f_by : Addr
  d_by : FuncData
  f_with_kind : Addr
  d_with_kind : FuncData
  f_less_kinds : Addr
  d_less_kinds : FuncData
  f_joined_kinds : Addr
  d_joined_kinds : FuncData
  f_fold_stage : Addr
  d_fold_stage : FuncData
  f_timed_stage : Addr
  d_timed_stage : FuncData
  f_stage : Addr
  d_stage : FuncData
  f_question : Addr
  d_question : FuncData
  f_L_by_text : Addr
  d_L_by_text : FuncData
  f_L_stage_text : Addr
  d_L_stage_text : FuncData
  f_asking : Addr
  d_asking : FuncData
  f_sources : Addr
  d_sources : FuncData
  f_law : Addr
  d_law : FuncData
  u_NOT_LEVEL : Value
  u_COMPARISON_LEVEL : Value
  u_LEAF_LEVEL : Value
  u_KEPT : Value
  a_LEAVES : Addr
  a_LEVELS : Addr
  a_LEVELS_0 : Addr
  a_LEVELS_1 : Addr
  a_LEVELS_2 : Addr
  a_LEVELS_3 : Addr
  a_LEVELS_4 : Addr
  a_LEVELS_5 : Addr
  a_WRITERS : Addr
structure Txt (K : PySem.W.Frag) (mg : Str → Option Value) (a : Adr) : Prop where
  F_value_text : Fun K "value_text" "value_text" (top 1) a.f_value_text a.d_value_text
  m_value_text : mg "value_text" = some (.ref a.f_value_text)
  b_value_text : Binds K a.d_value_text ["value"] []
  F_term_text : Fun K "term_text" "term_text" (top 9) a.f_term_text a.d_term_text
  m_term_text : mg "term_text" = some (.ref a.f_term_text)
  b_term_text : Binds K a.d_term_text ["term"] []
  F_part_text : Fun K "part_text" "part_text" (top 10) a.f_part_text a.d_part_text
  m_part_text : mg "part_text" = some (.ref a.f_part_text)
  b_part_text : Binds K a.d_part_text ["part", "texts"] []
  F_leaf_text : Fun K "leaf_text" "leaf_text" (top 11) a.f_leaf_text a.d_leaf_text
  m_leaf_text : mg "leaf_text" = some (.ref a.f_leaf_text)
  b_leaf_text : Binds K a.d_leaf_text ["leaf"] []
  F_bracketed : Fun K "bracketed" "bracketed" (top 12) a.f_bracketed a.d_bracketed
  m_bracketed : mg "bracketed" = some (.ref a.f_bracketed)
  b_bracketed : Binds K a.d_bracketed ["text", "needed"] []
  F_level_of : Fun K "level_of" "level_of" (top 13) a.f_level_of a.d_level_of
  m_level_of : mg "level_of" = some (.ref a.f_level_of)
  b_level_of : Binds K a.d_level_of ["term"] []
  F_built_up : Fun K "built_up" "built_up" (top 14) a.f_built_up a.d_built_up
  m_built_up : mg "built_up" = some (.ref a.f_built_up)
  b_built_up : Binds K a.d_built_up ["term", "told_of"] []
  F_parts_in : Fun K "parts_in" "parts_in" (top 15) a.f_parts_in a.d_parts_in
  m_parts_in : mg "parts_in" = some (.ref a.f_parts_in)
  b_parts_in : Binds K a.d_parts_in ["term"] []
  F_question_text : Fun K "question_text" "question_text" (top 18) a.f_question_text a.d_question_text
  m_question_text : mg "question_text" = some (.ref a.f_question_text)
  b_question_text : Binds K a.d_question_text ["question"] []
  F_stage_text : Fun K "stage_text" "stage_text" (top 19) a.f_stage_text a.d_stage_text
  m_stage_text : mg "stage_text" = some (.ref a.f_stage_text)
  b_stage_text : Binds K a.d_stage_text ["stage"] []
  F_from_text : Fun K "from_text" "from_text" (top 20) a.f_from_text a.d_from_text
  m_from_text : mg "from_text" = some (.ref a.f_from_text)
  b_from_text : Binds K a.d_from_text ["names"] []
  F_with_text : Fun K "with_text" "with_text" (top 21) a.f_with_text a.d_with_text
  m_with_text : mg "with_text" = some (.ref a.f_with_text)
  b_with_text : Binds K a.d_with_text ["name", "term"] []
  F_names_text : Fun K "names_text" "names_text" (top 22) a.f_names_text a.d_names_text
  m_names_text : mg "names_text" = some (.ref a.f_names_text)
  b_names_text : Binds K a.d_names_text ["names"] []
  F_sort_text : Fun K "sort_text" "sort_text" (top 23) a.f_sort_text a.d_sort_text
  m_sort_text : mg "sort_text" = some (.ref a.f_sort_text)
  b_sort_text : Binds K a.d_sort_text ["name", "down"] []
  F_sessions_text : Fun K "sessions_text" "sessions_text" (top 24) a.f_sessions_text a.d_sessions_text
  m_sessions_text : mg "sessions_text" = some (.ref a.f_sessions_text)
  b_sessions_text : Binds K a.d_sessions_text ["gap", "names"] []
  F_join_text : Fun K "join_text" "join_text" (top 25) a.f_join_text a.d_join_text
  m_join_text : mg "join_text" = some (.ref a.f_join_text)
  b_join_text : Binds K a.d_join_text ["source", "name", "within"] []
  F_fold_text : Fun K "fold_text" "fold_text" (top 26) a.f_fold_text a.d_fold_text
  m_fold_text : mg "fold_text" = some (.ref a.f_fold_text)
  b_fold_text : Binds K a.d_fold_text ["things", "names"] []
  F_thing_text : Fun K "thing_text" "thing_text" (top 27) a.f_thing_text a.d_thing_text
  m_thing_text : mg "thing_text" = some (.ref a.f_thing_text)
  b_thing_text : Binds K a.d_thing_text ["thing"] []
  F_by_text : Fun K "by_text" "by_text" (top 28) a.f_by_text a.d_by_text
  m_by_text : mg "by_text" = some (.ref a.f_by_text)
  b_by_text : Binds K a.d_by_text ["names"] []
  F_begin : Fun K "_law_begin" "_law_begin" (top 31) a.f_begin a.d_begin
  m_begin : mg "_law_begin" = some (.ref a.f_begin)
  b_begin : Binds K a.d_begin ["_law_script"] []
  F_take : Fun K "_law_take" "_law_take" (top 32) a.f_take a.d_take
  m_take : mg "_law_take" = some (.ref a.f_take)
  b_take : Binds K a.d_take ["_law_draw", "_law_many"] []
  F_of : Fun K "_law_of" "_law_of" (top 33) a.f_of a.d_of
  m_of : mg "_law_of" = some (.ref a.f_of)
  b_of : Binds K a.d_of ["_law_draw", "_law_some_here"] []
  F_same : Fun K "_law_same" "_law_same" (top 34) a.f_same a.d_same
  m_same : mg "_law_same" = some (.ref a.f_same)
  b_same : Binds K a.d_same ["_law_told", "_law_due"] []
  F_kept_word : Fun K "_law_kept_word" "_law_kept_word" (top 35) a.f_kept_word a.d_kept_word
  m_kept_word : mg "_law_kept_word" = some (.ref a.f_kept_word)
  b_kept_word : Binds K a.d_kept_word ["_law_text_here"] []
  F_letters : Fun K "_law_letters" "_law_letters" (top 36) a.f_letters a.d_letters
  m_letters : mg "_law_letters" = some (.ref a.f_letters)
  b_letters : Binds K a.d_letters ["_law_draw", "_law_signs", "_law_most"] []
  F_drawn_name : Fun K "_law_drawn_name" "_law_drawn_name" (top 37) a.f_drawn_name a.d_drawn_name
  m_drawn_name : mg "_law_drawn_name" = some (.ref a.f_drawn_name)
  b_drawn_name : Binds K a.d_drawn_name ["_law_draw"] []
  F_drawn_word : Fun K "_law_drawn_word" "_law_drawn_word" (top 38) a.f_drawn_word a.d_drawn_word
  m_drawn_word : mg "_law_drawn_word" = some (.ref a.f_drawn_word)
  b_drawn_word : Binds K a.d_drawn_word ["_law_draw"] []
  F_number : Fun K "_law_number" "_law_number" (top 39) a.f_number a.d_number
  m_number : mg "_law_number" = some (.ref a.f_number)
  b_number : Binds K a.d_number ["_law_draw"] []
  F_value : Fun K "_law_value" "_law_value" (top 40) a.f_value a.d_value
  m_value : mg "_law_value" = some (.ref a.f_value)
  b_value : Binds K a.d_value ["_law_draw", "_law_sort"] []
  F_L_value_text : Fun K "_law_value_text" "_law_value_text" (top 41) a.f_L_value_text a.d_L_value_text
  m_L_value_text : mg "_law_value_text" = some (.ref a.f_L_value_text)
  b_L_value_text : Binds K a.d_L_value_text ["_law_value_here"] []
  F_kinds : Fun K "_law_kinds" "_law_kinds" (top 42) a.f_kinds a.d_kinds
  m_kinds : mg "_law_kinds" = some (.ref a.f_kinds)
  b_kinds : Binds K a.d_kinds ["_law_draw"] []
  F_own : Fun K "_law_own" "_law_own" (top 43) a.f_own a.d_own
  m_own : mg "_law_own" = some (.ref a.f_own)
  b_own : Binds K a.d_own ["_law_kinds_here"] []
  F_leaf : Fun K "_law_leaf" "_law_leaf" (top 44) a.f_leaf a.d_leaf
  m_leaf : mg "_law_leaf" = some (.ref a.f_leaf)
  b_leaf : Binds K a.d_leaf ["_law_draw", "_law_kinds_here", "_law_sort"] []
  F_term : Fun K "_law_term" "_law_term" (top 45) a.f_term a.d_term
  m_term : mg "_law_term" = some (.ref a.f_term)
  b_term : Binds K a.d_term ["_law_draw", "_law_kinds_here", "_law_sort", "_law_deep"] []
  F_two_parts : Fun K "_law_two_parts" "_law_two_parts" (top 46) a.f_two_parts a.d_two_parts
  m_two_parts : mg "_law_two_parts" = some (.ref a.f_two_parts)
  b_two_parts : Binds K a.d_two_parts ["_law_draw", "_law_kinds_here", "_law_sort", "_law_deep", "_law_sign"] []
  F_level : Fun K "_law_level" "_law_level" (top 47) a.f_level a.d_level
  m_level : mg "_law_level" = some (.ref a.f_level)
  b_level : Binds K a.d_level ["_law_term_here"] []
  F_wrapped : Fun K "_law_wrapped" "_law_wrapped" (top 48) a.f_wrapped a.d_wrapped
  m_wrapped : mg "_law_wrapped" = some (.ref a.f_wrapped)
  b_wrapped : Binds K a.d_wrapped ["_law_term_here", "_law_least"] []
  F_text : Fun K "_law_text" "_law_text" (top 49) a.f_text a.d_text
  m_text : mg "_law_text" = some (.ref a.f_text)
  b_text : Binds K a.d_text ["_law_term_here"] []
  F_some : Fun K "_law_some" "_law_some" (top 50) a.f_some a.d_some
  m_some : mg "_law_some" = some (.ref a.f_some)
  b_some : Binds K a.d_some ["_law_draw", "_law_names"] []
  F_by : Fun K "_law_by" "_law_by" (top 51) a.f_by a.d_by
  m_by : mg "_law_by" = some (.ref a.f_by)
  b_by : Binds K a.d_by ["_law_draw", "_law_names"] []
  F_with_kind : Fun K "_law_with_kind" "_law_with_kind" (top 52) a.f_with_kind a.d_with_kind
  m_with_kind : mg "_law_with_kind" = some (.ref a.f_with_kind)
  b_with_kind : Binds K a.d_with_kind ["_law_kinds_here", "_law_name", "_law_sort"] []
  F_less_kinds : Fun K "_law_less_kinds" "_law_less_kinds" (top 53) a.f_less_kinds a.d_less_kinds
  m_less_kinds : mg "_law_less_kinds" = some (.ref a.f_less_kinds)
  b_less_kinds : Binds K a.d_less_kinds ["_law_kinds_here", "_law_names", "_law_keep"] []
  F_joined_kinds : Fun K "_law_joined_kinds" "_law_joined_kinds" (top 54) a.f_joined_kinds a.d_joined_kinds
  m_joined_kinds : mg "_law_joined_kinds" = some (.ref a.f_joined_kinds)
  b_joined_kinds : Binds K a.d_joined_kinds ["_law_kinds_here", "_law_own_here"] []
  F_fold_stage : Fun K "_law_fold_stage" "_law_fold_stage" (top 55) a.f_fold_stage a.d_fold_stage
  m_fold_stage : mg "_law_fold_stage" = some (.ref a.f_fold_stage)
  b_fold_stage : Binds K a.d_fold_stage ["_law_draw", "_law_kinds_here"] []
  F_timed_stage : Fun K "_law_timed_stage" "_law_timed_stage" (top 56) a.f_timed_stage a.d_timed_stage
  m_timed_stage : mg "_law_timed_stage" = some (.ref a.f_timed_stage)
  b_timed_stage : Binds K a.d_timed_stage ["_law_draw", "_law_kinds_here", "_law_sources_here", "_law_own_here"] []
  F_stage : Fun K "_law_stage" "_law_stage" (top 57) a.f_stage a.d_stage
  m_stage : mg "_law_stage" = some (.ref a.f_stage)
  b_stage : Binds K a.d_stage ["_law_draw", "_law_kinds_here", "_law_sources_here", "_law_own_here"] []
  F_question : Fun K "_law_question" "_law_question" (top 58) a.f_question a.d_question
  m_question : mg "_law_question" = some (.ref a.f_question)
  b_question : Binds K a.d_question ["_law_draw", "_law_kinds_here", "_law_sources_here", "_law_most"] []
  F_L_by_text : Fun K "_law_by_text" "_law_by_text" (top 59) a.f_L_by_text a.d_L_by_text
  m_L_by_text : mg "_law_by_text" = some (.ref a.f_L_by_text)
  b_L_by_text : Binds K a.d_L_by_text ["_law_names"] []
  F_L_stage_text : Fun K "_law_stage_text" "_law_stage_text" (top 60) a.f_L_stage_text a.d_L_stage_text
  m_L_stage_text : mg "_law_stage_text" = some (.ref a.f_L_stage_text)
  b_L_stage_text : Binds K a.d_L_stage_text ["_law_stage_here"] []
  F_asking : Fun K "_law_asking" "_law_asking" (top 61) a.f_asking a.d_asking
  m_asking : mg "_law_asking" = some (.ref a.f_asking)
  b_asking : Binds K a.d_asking ["_law_question_here"] []
  F_sources : Fun K "_law_sources" "_law_sources" (top 62) a.f_sources a.d_sources
  m_sources : mg "_law_sources" = some (.ref a.f_sources)
  b_sources : Binds K a.d_sources ["_law_draw"] []
  F_law : Fun K "law" "law" (top 63) a.f_law a.d_law
  m_law : mg "law" = some (.ref a.f_law)
  b_law : Binds K a.d_law ["_law_script"] []
  g_NOT_LEVEL : mg "NOT_LEVEL" = some a.u_NOT_LEVEL ∧ RelV (.int 2) a.u_NOT_LEVEL
  g_COMPARISON_LEVEL : mg "COMPARISON_LEVEL" = some a.u_COMPARISON_LEVEL ∧ RelV (.int 3) a.u_COMPARISON_LEVEL
  g_LEAF_LEVEL : mg "LEAF_LEVEL" = some a.u_LEAF_LEVEL ∧ RelV (.int 6) a.u_LEAF_LEVEL
  g_KEPT : mg "KEPT" = some a.u_KEPT ∧ RelV (.str "@") a.u_KEPT
  g_LEAVES : mg "LEAVES" = some (.ref a.a_LEAVES) ∧ RelV (.ref a.a_LEAVES) (.ref a.a_LEAVES)
  t_LEAVES : ∀ H, SqT K H a.a_LEAVES [(.str "number"), (.str "word"), (.str "flag"), (.str "field"), (.str "has")]
  g_LEVELS : mg "LEVELS" = some (.ref a.a_LEVELS) ∧ RelV (.ref a.a_LEVELS) (.ref a.a_LEVELS)
  t_LEVELS : ∀ H, SqT K H a.a_LEVELS [.ref a.a_LEVELS_0, .ref a.a_LEVELS_1, .ref a.a_LEVELS_2, .ref a.a_LEVELS_3, .ref a.a_LEVELS_4, .ref a.a_LEVELS_5]
  t_LEVELS_0 : ∀ H, SqT K H a.a_LEVELS_0 [(.str "or")]
  t_LEVELS_1 : ∀ H, SqT K H a.a_LEVELS_1 [(.str "and")]
  t_LEVELS_2 : ∀ H, SqT K H a.a_LEVELS_2 [(.str "not")]
  t_LEVELS_3 : ∀ H, SqT K H a.a_LEVELS_3 [(.str "="), (.str "!="), (.str "<"), (.str "<="), (.str ">"), (.str ">=")]
  t_LEVELS_4 : ∀ H, SqT K H a.a_LEVELS_4 [(.str "+"), (.str "-")]
  t_LEVELS_5 : ∀ H, SqT K H a.a_LEVELS_5 [(.str "*")]
  g_WRITERS : mg "WRITERS" = some (.ref a.a_WRITERS) ∧ RelV (.ref a.a_WRITERS) (.ref a.a_WRITERS)
  t_WRITERS : TabK K a.a_WRITERS [("from", .ref a.f_from_text), ("where", .ref a.f_term_text), ("with", .ref a.f_with_text), ("keep", .ref a.f_names_text), ("drop", .ref a.f_names_text), ("sort", .ref a.f_sort_text), ("first", .ref a.f_value_text), ("every", .ref a.f_value_text), ("sessions", .ref a.f_sessions_text), ("join", .ref a.f_join_text), ("fold", .ref a.f_fold_text)]
  n_len : mg "len" = none
  n_all : mg "all" = none
  n_isinstance : mg "isinstance" = none
  n_bool : mg "bool" = none
  n_int : mg "int" = none
  n_str : mg "str" = none
  n_list : mg "list" = none
  n_dict : mg "dict" = none
  n_tuple : mg "tuple" = none
  n_range : mg "range" = none
  n_zip : mg "zip" = none
  n_sorted : mg "sorted" = none
  n_enumerate : mg "enumerate" = none
theorem sc_value_text : FnScope ["value"] ["value"] (defScope (top 1)) := ⟨rfl, rfl, rfl, by decide +kernel, rfl, by decide +kernel, by decide +kernel⟩
theorem sc_term_text : FnScope ["term"] ["term"] (defScope (top 9)) := ⟨rfl, rfl, rfl, by decide +kernel, rfl, by decide +kernel, by decide +kernel⟩
theorem sc_part_text : FnScope ["part", "texts", "level", "left_level", "left", "right"] ["part", "texts"] (defScope (top 10)) := ⟨rfl, rfl, rfl, by decide +kernel, rfl, by decide +kernel, by decide +kernel⟩
theorem sc_leaf_text : FnScope ["leaf", "kind", "thing"] ["leaf"] (defScope (top 11)) := ⟨rfl, rfl, rfl, by decide +kernel, rfl, by decide +kernel, by decide +kernel⟩
theorem sc_bracketed : FnScope ["text", "needed"] ["text", "needed"] (defScope (top 12)) := ⟨rfl, rfl, rfl, by decide +kernel, rfl, by decide +kernel, by decide +kernel⟩
theorem sc_level_of : FnScope ["term", "level", "signs"] ["term"] (defScope (top 13)) := ⟨rfl, rfl, rfl, by decide +kernel, rfl, by decide +kernel, by decide +kernel⟩
theorem sc_built_up : FnScope ["term", "told_of", "told", "part", "many", "ahead", "made"] ["term", "told_of"] (defScope (top 14)) := ⟨rfl, rfl, rfl, by decide +kernel, rfl, by decide +kernel, by decide +kernel⟩
theorem sc_parts_in : FnScope ["term", "waiting", "parts", "part"] ["term"] (defScope (top 15)) := ⟨rfl, rfl, rfl, by decide +kernel, rfl, by decide +kernel, by decide +kernel⟩
theorem sc_question_text : FnScope ["question"] ["question"] (defScope (top 18)) := ⟨rfl, rfl, rfl, by decide +kernel, rfl, by decide +kernel, by decide +kernel⟩
theorem sc_stage_text : FnScope ["stage", "word", "things", "action", "text"] ["stage"] (defScope (top 19)) := ⟨rfl, rfl, rfl, by decide +kernel, rfl, by decide +kernel, by decide +kernel⟩
theorem sc_from_text : FnScope ["names"] ["names"] (defScope (top 20)) := ⟨rfl, rfl, rfl, by decide +kernel, rfl, by decide +kernel, by decide +kernel⟩
theorem sc_with_text : FnScope ["name", "term"] ["name", "term"] (defScope (top 21)) := ⟨rfl, rfl, rfl, by decide +kernel, rfl, by decide +kernel, by decide +kernel⟩
theorem sc_names_text : FnScope ["names"] ["names"] (defScope (top 22)) := ⟨rfl, rfl, rfl, by decide +kernel, rfl, by decide +kernel, by decide +kernel⟩
theorem sc_sort_text : FnScope ["name", "down", "way"] ["name", "down"] (defScope (top 23)) := ⟨rfl, rfl, rfl, by decide +kernel, rfl, by decide +kernel, by decide +kernel⟩
theorem sc_sessions_text : FnScope ["gap", "names"] ["gap", "names"] (defScope (top 24)) := ⟨rfl, rfl, rfl, by decide +kernel, rfl, by decide +kernel, by decide +kernel⟩
theorem sc_join_text : FnScope ["source", "name", "within"] ["source", "name", "within"] (defScope (top 25)) := ⟨rfl, rfl, rfl, by decide +kernel, rfl, by decide +kernel, by decide +kernel⟩
theorem sc_fold_text : FnScope ["things", "names"] ["things", "names"] (defScope (top 26)) := ⟨rfl, rfl, rfl, by decide +kernel, rfl, by decide +kernel, by decide +kernel⟩
theorem sc_thing_text : FnScope ["thing", "name", "how", "field"] ["thing"] (defScope (top 27)) := ⟨rfl, rfl, rfl, by decide +kernel, rfl, by decide +kernel, by decide +kernel⟩
theorem sc_by_text : FnScope ["names"] ["names"] (defScope (top 28)) := ⟨rfl, rfl, rfl, by decide +kernel, rfl, by decide +kernel, by decide +kernel⟩
theorem sc_begin : FnScope ["_law_script"] ["_law_script"] (defScope (top 31)) := ⟨rfl, rfl, rfl, by decide +kernel, rfl, by decide +kernel, by decide +kernel⟩
theorem sc_take : FnScope ["_law_draw", "_law_many", "_law_cell", "_law_digit", "_law_one"] ["_law_draw", "_law_many"] (defScope (top 32)) := ⟨rfl, rfl, rfl, by decide +kernel, rfl, by decide +kernel, by decide +kernel⟩
theorem sc_of : FnScope ["_law_draw", "_law_some_here"] ["_law_draw", "_law_some_here"] (defScope (top 33)) := ⟨rfl, rfl, rfl, by decide +kernel, rfl, by decide +kernel, by decide +kernel⟩
theorem sc_same : FnScope ["_law_told", "_law_due"] ["_law_told", "_law_due"] (defScope (top 34)) := ⟨rfl, rfl, rfl, by decide +kernel, rfl, by decide +kernel, by decide +kernel⟩
theorem sc_kept_word : FnScope ["_law_text_here", "_law_kept"] ["_law_text_here"] (defScope (top 35)) := ⟨rfl, rfl, rfl, by decide +kernel, rfl, by decide +kernel, by decide +kernel⟩
theorem sc_letters : FnScope ["_law_draw", "_law_signs", "_law_most"] ["_law_draw", "_law_signs", "_law_most"] (defScope (top 36)) := ⟨rfl, rfl, rfl, by decide +kernel, rfl, by decide +kernel, by decide +kernel⟩
theorem sc_drawn_name : FnScope ["_law_draw", "_law_name"] ["_law_draw"] (defScope (top 37)) := ⟨rfl, rfl, rfl, by decide +kernel, rfl, by decide +kernel, by decide +kernel⟩
theorem sc_drawn_word : FnScope ["_law_draw"] ["_law_draw"] (defScope (top 38)) := ⟨rfl, rfl, rfl, by decide +kernel, rfl, by decide +kernel, by decide +kernel⟩
theorem sc_number : FnScope ["_law_draw", "_law_fork"] ["_law_draw"] (defScope (top 39)) := ⟨rfl, rfl, rfl, by decide +kernel, rfl, by decide +kernel, by decide +kernel⟩
theorem sc_value : FnScope ["_law_draw", "_law_sort"] ["_law_draw", "_law_sort"] (defScope (top 40)) := ⟨rfl, rfl, rfl, by decide +kernel, rfl, by decide +kernel, by decide +kernel⟩
theorem sc_L_value_text : FnScope ["_law_value_here"] ["_law_value_here"] (defScope (top 41)) := ⟨rfl, rfl, rfl, by decide +kernel, rfl, by decide +kernel, by decide +kernel⟩
theorem sc_kinds : FnScope ["_law_draw", "_law_names", "_law_sorts"] ["_law_draw"] (defScope (top 42)) := ⟨rfl, rfl, rfl, by decide +kernel, rfl, by decide +kernel, by decide +kernel⟩
theorem sc_own : FnScope ["_law_kinds_here", "_law_found"] ["_law_kinds_here"] (defScope (top 43)) := ⟨rfl, rfl, rfl, by decide +kernel, rfl, by decide +kernel, by decide +kernel⟩
theorem sc_leaf : FnScope ["_law_draw", "_law_kinds_here", "_law_sort", "_law_names"] ["_law_draw", "_law_kinds_here", "_law_sort"] (defScope (top 44)) := ⟨rfl, rfl, rfl, by decide +kernel, rfl, by decide +kernel, by decide +kernel⟩
theorem sc_term : FnScope ["_law_draw", "_law_kinds_here", "_law_sort", "_law_deep", "_law_sign", "_law_fork", "_law_kind"] ["_law_draw", "_law_kinds_here", "_law_sort", "_law_deep"] (defScope (top 45)) := ⟨rfl, rfl, rfl, by decide +kernel, rfl, by decide +kernel, by decide +kernel⟩
theorem sc_two_parts : FnScope ["_law_draw", "_law_kinds_here", "_law_sort", "_law_deep", "_law_sign", "_law_left"] ["_law_draw", "_law_kinds_here", "_law_sort", "_law_deep", "_law_sign"] (defScope (top 46)) := ⟨rfl, rfl, rfl, by decide +kernel, rfl, by decide +kernel, by decide +kernel⟩
theorem sc_level : FnScope ["_law_term_here"] ["_law_term_here"] (defScope (top 47)) := ⟨rfl, rfl, rfl, by decide +kernel, rfl, by decide +kernel, by decide +kernel⟩
theorem sc_wrapped : FnScope ["_law_term_here", "_law_least", "_law_text_here"] ["_law_term_here", "_law_least"] (defScope (top 48)) := ⟨rfl, rfl, rfl, by decide +kernel, rfl, by decide +kernel, by decide +kernel⟩
theorem sc_text : FnScope ["_law_term_here", "_law_level_here", "_law_left"] ["_law_term_here"] (defScope (top 49)) := ⟨rfl, rfl, rfl, by decide +kernel, rfl, by decide +kernel, by decide +kernel⟩
theorem sc_some : FnScope ["_law_draw", "_law_names", "_law_found"] ["_law_draw", "_law_names"] (defScope (top 50)) := ⟨rfl, rfl, rfl, by decide +kernel, rfl, by decide +kernel, by decide +kernel⟩
theorem sc_by : FnScope ["_law_draw", "_law_names"] ["_law_draw", "_law_names"] (defScope (top 51)) := ⟨rfl, rfl, rfl, by decide +kernel, rfl, by decide +kernel, by decide +kernel⟩
theorem sc_with_kind : FnScope ["_law_kinds_here", "_law_name", "_law_sort", "_law_found"] ["_law_kinds_here", "_law_name", "_law_sort"] (defScope (top 52)) := ⟨rfl, rfl, rfl, by decide +kernel, rfl, by decide +kernel, by decide +kernel⟩
theorem sc_less_kinds : FnScope ["_law_kinds_here", "_law_names", "_law_keep"] ["_law_kinds_here", "_law_names", "_law_keep"] (defScope (top 53)) := ⟨rfl, rfl, rfl, by decide +kernel, rfl, by decide +kernel, by decide +kernel⟩
theorem sc_joined_kinds : FnScope ["_law_kinds_here", "_law_own_here", "_law_found", "_law_name"] ["_law_kinds_here", "_law_own_here"] (defScope (top 54)) := ⟨rfl, rfl, rfl, by decide +kernel, rfl, by decide +kernel, by decide +kernel⟩
theorem sc_fold_stage : FnScope ["_law_draw", "_law_kinds_here", "_law_names", "_law_by_here", "_law_free", "_law_numbers", "_law_folds", "_law_after", "_law_name", "_law_how", "_law_field"] ["_law_draw", "_law_kinds_here"] (defScope (top 55)) := ⟨rfl, rfl, rfl, by decide +kernel, rfl, by decide +kernel, by decide +kernel⟩
theorem sc_timed_stage : FnScope ["_law_draw", "_law_kinds_here", "_law_sources_here", "_law_own_here", "_law_fork", "_law_names", "_law_like", "_law_stage_here", "_law_far"] ["_law_draw", "_law_kinds_here", "_law_sources_here", "_law_own_here"] (defScope (top 56)) := ⟨rfl, rfl, rfl, by decide +kernel, rfl, by decide +kernel, by decide +kernel⟩
theorem sc_stage : FnScope ["_law_draw", "_law_kinds_here", "_law_sources_here", "_law_own_here", "_law_fork", "_law_names", "_law_term_here", "_law_sort", "_law_name", "_law_word", "_law_some_here"] ["_law_draw", "_law_kinds_here", "_law_sources_here", "_law_own_here"] (defScope (top 57)) := ⟨rfl, rfl, rfl, by decide +kernel, rfl, by decide +kernel, by decide +kernel⟩
theorem sc_question : FnScope ["_law_draw", "_law_kinds_here", "_law_sources_here", "_law_most", "_law_names", "_law_found", "_law_own_here", "_law_here", "_law_step", "_law_stage_here"] ["_law_draw", "_law_kinds_here", "_law_sources_here", "_law_most"] (defScope (top 58)) := ⟨rfl, rfl, rfl, by decide +kernel, rfl, by decide +kernel, by decide +kernel⟩
theorem sc_L_by_text : FnScope ["_law_names"] ["_law_names"] (defScope (top 59)) := ⟨rfl, rfl, rfl, by decide +kernel, rfl, by decide +kernel, by decide +kernel⟩
theorem sc_L_stage_text : FnScope ["_law_stage_here", "_law_word", "_law_folds"] ["_law_stage_here"] (defScope (top 60)) := ⟨rfl, rfl, rfl, by decide +kernel, rfl, by decide +kernel, by decide +kernel⟩
theorem sc_asking : FnScope ["_law_question_here"] ["_law_question_here"] (defScope (top 61)) := ⟨rfl, rfl, rfl, by decide +kernel, rfl, by decide +kernel, by decide +kernel⟩
theorem sc_sources : FnScope ["_law_draw"] ["_law_draw"] (defScope (top 62)) := ⟨rfl, rfl, rfl, by decide +kernel, rfl, by decide +kernel, by decide +kernel⟩
theorem sc_law : FnScope ["_law_script", "_law_draw", "_law_kinds_here", "_law_sources_here", "_law_turn", "_law_question_here", "_law_here"] ["_law_script"] (defScope (top 63)) := ⟨rfl, rfl, rfl, by decide +kernel, rfl, by decide +kernel, by decide +kernel⟩
/-! ### plain functions -/
theorem same_new {H : Hp} {p : Addr} (h : H p = none) (o : HO) : Same H (upd H p o) := fun b u q => by rw [upd_ne (ne_of_none q h)]; exact q
theorem small {n : Nat} (h : n ≤ 1000) : n ≤ sizeLine := Nat.le_of_lt (small1000 h)
def kw : List Str := ["and", "or", "not", "has", "yes", "no", "by", "up", "down", "count", "sum", "least", "most", "unlike", "all", "within"]
def kept (x : Str) : Bool := inV (.str x) (kw.map V.str)
def isLet (c : Nat) : Bool := decide (97 ≤ c) && decide (c ≤ 122)
def isFig (c : Nat) : Bool := decide (48 ≤ c) && decide (c ≤ 57)
def sz (x : Str) : Bool := decide (1 ≤ x.length) && decide (x.length ≤ 12)
def bwl (x : Str) : Bool := match x.cps.toList with
  | [] => false
  | c :: _ => isLet c
def wsg (c : Nat) : Bool := isLet c || isFig c
def wordB (x : Str) : Bool := sz x && (bwl x && x.cps.toList.all wsg)
section
variable {P : Program} {w : World} {K : PySem.W.Frag} {mg : Str → Option Value} {base : Heap} {a : Adr}
/-- a text goes in, a flag comes out -/
def spTB (p : Str → Bool) : Sp := fun vs H Q _ => ∃ x, vs = [.str x] ∧ x.length ≤ sizeLine ∧ ∀ H', Same H H' → Q (.bl (p x)) H'
abbrev kwT : Str := "and or not has yes no by up down count sum least most unlike all within"
theorem kw_split : Txt.split kwT " " = kw := by decide +kernel
theorem kw_parts : (Builtin.Str.partsBetween kwT (Builtin.Str.occurrences kwT " " 0 kwT.length (kwT.length + 1)) (" " : Str).length).length = 16 := by decide +kernel
theorem kw_len : kwT.length = 71 := by decide +kernel
/-- the written words, parted -/
theorem split_kw {H : Hp} {Q : VK} (q : ∀ p, H p = none → Q (.ref p) (upd H p (.lst (kw.map V.str)))) : rSplit (.str kwT) [.str " "] H Q :=
  ⟨kwT, " ", rfl, rfl, by decide +kernel, by rw [kw_len]; exact small (by decide), by rw [kw_parts]; exact small (by decide), by rw [kw_split]; exact small (by decide), by rw [kw_split]; exact q⟩
theorem ok_kept_word (T : Txt K mg a) : FnOk P w K mg base CX0 1 a.f_kept_word a.d_kept_word ["_law_text_here"] (spTB kept) := by
  refine T.F_kept_word.ok sc_kept_word (fun vs H Q E h => ?_) (fun cdv A outer s H vs Q E hr h => ?_)
  · obtain ⟨x, rfl, _⟩ := h; rfl
  obtain ⟨x, rfl, hx, q⟩ := h
  refine ⟨_, (pss_cons (ps_set (i := 1) sc_kept_word.nd rfl (by first | exact Or.inl rfl | exact Or.inr rfl) pe_str) (pss_one (ps_ret (pe_cmpR op_in_seq (pv 0) (pe_bm PySem.F.plainAttrs_str PySem.F.slot_str_split PySem.F.type_str_split mt_split (pv 1) (pa_cons pe_str pa_nil)) (by with_unfolding_all rfl))))), ?_⟩
  refine ⟨_, rfl, _, rfl, rfl, ?_⟩
  dsimp only [tCons, tC, tNil]
  refine split_kw fun p hp => ?_
  exact ⟨p, kw.map V.str, rfl, .inl (SqL.of upd_same), rfl, (by decide +kernel), q _ (same_new hp _)⟩
end

end My

set_option Elab.async false
set_option linter.all false
set_option maxRecDepth 100000
set_option maxHeartbeats 4000000
namespace My
open PySem L2
/-! ### the draw -/
def Drw (H : Hp) (d : Addr) : Prop := ∃ (l : Addr) (ns : List Int) (p c s : Int), H d = some (.lst [.ref l, .int p, .int c, .int s]) ∧ H l = some (.lst (ns.map V.int)) ∧ 0 ≤ p ∧ 0 ≤ s ∧ s < 2305843009213693951
/-- the list that the draw reads -/
def Fst (H : Hp) (d l : Addr) : Prop := ∃ xs, H d = some (.lst (.ref l :: xs))
structure Ev (d : Addr) (H H' : Hp) : Prop where
  same : ∀ b o, b ≠ d → H b = some o → H' b = some o
  fst : ∀ l, Fst H d l → Fst H' d l
  drw : Drw H' d
theorem fstT {H H' : Hp} {d l : Addr} {xs ys : List V} (hd : H d = some (.lst (.ref l :: xs))) (h : H' d = some (.lst (.ref l :: ys))) : ∀ l', Fst H d l' → Fst H' d l' := fun l' ⟨zs, e⟩ => by
  rw [hd] at e; cases e; exact ⟨ys, h⟩
theorem Ev.trans {d : Addr} {H H1 H2 : Hp} (e1 : Ev d H H1) (e2 : Ev d H1 H2) : Ev d H H2 := ⟨fun b o hb e => e2.same b o hb (e1.same b o hb e), fun l h => e2.fst l (e1.fst l h), e2.drw⟩
theorem Ev.refl {d : Addr} {H : Hp} (h : Drw H d) : Ev d H H := ⟨fun _ _ _ e => e, fun _ h => h, h⟩
theorem Drw.keep {d : Addr} {H H' : Hp} (h : Drw H d) (g : Same H H') : Drw H' d := by
  obtain ⟨l, ns, p, c, s, h1, h2, r⟩ := h
  exact ⟨l, ns, p, c, s, g _ _ h1, g _ _ h2, r⟩
theorem Ev.of {d : Addr} {H H' : Hp} (h : Drw H d) (g : Same H H') : Ev d H H' := ⟨fun b o _ e => g b o e, fun l z => let ⟨xs, e⟩ := z; ⟨xs, g _ _ e⟩, h.keep g⟩
theorem Ev.then {d : Addr} {H H1 H2 : Hp} (e : Ev d H H1) (g : Same H1 H2) : Ev d H H2 := e.trans (Ev.of e.drw g)
theorem Drw.some {d : Addr} {H : Hp} (h : Drw H d) : ∃ xs, H d = some (.lst xs) := by obtain ⟨l, ns, p, c, s, h1, _⟩ := h; exact ⟨_, h1⟩
theorem Drw.fst {d : Addr} {H : Hp} (h : Drw H d) : ∃ l xs, Fst H d l ∧ H l = Option.some (HO.lst xs) := by obtain ⟨l, ns, p, c, s, h1, h2, _⟩ := h; exact ⟨l, _, ⟨_, h1⟩, h2⟩
theorem Drw.updL {d l x : Addr} {H : Hp} {o : HO} (h : Drw H d) (hl : Fst H d l) (hx : x ≠ d) (hxl : l ≠ x) : Drw (upd H x o) d := by
  obtain ⟨l', ns, p, c, s, h1, h2, r⟩ := h
  obtain ⟨xs, e⟩ := hl
  have e2 : l' = l := by rw [h1] at e; cases e; rfl
  subst e2
  exact ⟨l', ns, p, c, s, by rw [upd_ne (Ne.symm hx)]; exact h1, by rw [upd_ne hxl]; exact h2, r⟩
theorem Drw.ne_of_none {d b : Addr} {H : Hp} (h : Drw H d) (hb : H b = Option.none) : b ≠ d := fun z => by
  obtain ⟨xs, e⟩ := h.some
  rw [z, e] at hb; cases hb
/-- an item of a list at a written place -/
theorem ixd {K : PySem.W.Frag} {σ : St} {H : Hp} {Q : VK} {d : Addr} {xs : List V} {i : Nat} (k : Nat) {v : V} (hσ : σ[i]? = some (some (.ref d))) (hd : H d = some (.lst xs)) (hk : xs[k]? = some v) (q : Q v H) : tOp (rIxL K) (tVar i) (tC (.int (k : Nat))) σ H Q :=
  ⟨_, hσ, d, xs, _, v, rfl, rfl, SqL.of hd, atI_nat hk, q⟩
def spTake : Sp := fun vs H Q _ => ∃ (d : Addr) (m : Int), vs = [.ref d, .int m] ∧ Drw H d ∧ 1 ≤ m ∧ m < 2 ^ 200 ∧ ∀ r H', 0 ≤ r → r < m → Ev d H H' → Q (.int r) H'
section
variable {P : Program} {w : World} {K : PySem.W.Frag} {mg : Str → Option Value} {base : Heap} {a : Adr}
theorem ok_take (T : Txt K mg a) : FnOk P w K mg base CX0 1 a.f_take a.d_take ["_law_draw", "_law_many"] spTake := by
  refine T.F_take.ok sc_take (fun vs H Q E h => ?_) (fun cdv A outer s H vs Q E hr h => ?_)
  · obtain ⟨x, s, rfl, _⟩ := h; rfl
  obtain ⟨d, m, rfl, hD, hm1, hm2, q⟩ := h
  obtain ⟨l, ns, p, c, s0, hd, hl, hp, hs0, hs1⟩ := hD
  have hld : l ≠ d := fun z => by
    subst z
    rw [hd] at hl
    cases ns with
    | nil => cases hl
    | cons n ns => injection hl with hl; injection hl with hl; injection hl with h1 _; cases h1
  refine ⟨_, (pss_cons (ps_if (PW.pt (pw_and (pt_cmpR op_lt (pe_ix ix_list (pv 0) pe_int (fun _ _ => rfl)) (pv 1) (nomark _)) (pw_and1 (pt_cmpR op_lt (pe_ix ix_list (pv 0) pe_int (fun _ _ => rfl)) (pe_callB call_len rfl T.n_len PySem.boot_len (pa_cons (pe_ix ix_list (pv 0) pe_int (fun _ _ => rfl)) pa_nil)) (nomark _))))) (pss_cons (ps_set (i := 2) sc_take.nd rfl (by first | exact Or.inl rfl | exact Or.inr rfl) (pe_ix ix_seq (pe_ix ix_list (pv 0) pe_int (fun _ _ => rfl)) (pe_ix ix_list (pv 0) pe_int (fun _ _ => rfl)) (fun _ _ => rfl))) (pss_cons (ps_asg (pe_op op_add (pe_ix ix_list (pv 0) pe_int (fun _ _ => rfl)) pe_int) (pg_sub (pv 0) pe_int set_list)) (pss_cons (ps_asg pe_int (pg_sub (pv 0) pe_int set_list)) (pss_cons (ps_if (pt_cmpR op_ge (pv 2) (pe_op op_pow pe_int pe_int) (nomark _)) (pss_one (ps_asg (pv 2) (pg_sub (pv 0) pe_int set_list))) pss_nil) (pss_one (ps_asg (pe_op op_mod (pe_op op_add (pe_op op_add (pe_op op_mul (pe_ix ix_list (pv 0) pe_int (fun _ _ => rfl)) pe_int) (pe_op op_mul (pv 2) pe_int)) (pe_ix ix_list (pv 0) pe_int (fun _ _ => rfl))) pe_int) (pg_sub (pv 0) pe_int set_list))))))) pss_nil) (pss_cons (ps_if (pt_cmpR op_ge (pe_ix ix_list (pv 0) pe_int (fun _ _ => rfl)) (pv 1) (nomark _)) (pss_cons (ps_set (i := 3) sc_take.nd rfl (by first | exact Or.inl rfl | exact Or.inr rfl) (pe_op op_mod (pe_ix ix_list (pv 0) pe_int (fun _ _ => rfl)) (pv 1))) (pss_cons (ps_asg (pe_op op_fdivB (pe_ix ix_list (pv 0) pe_int (fun _ _ => rfl)) (pv 1)) (pg_sub (pv 0) pe_int set_list)) (pss_one (ps_ret (pv 3))))) pss_nil) (pss_cons (ps_set (i := 4) sc_take.nd rfl (by first | exact Or.inl rfl | exact Or.inr rfl) (pe_op op_mod (pe_op op_mul (pe_ix ix_list (pv 0) pe_int (fun _ _ => rfl)) (pe_ix ix_list (pv 0) pe_int (fun _ _ => rfl))) pe_int)) (pss_cons (ps_asg (pe_op op_mod (pe_op op_add (pe_op op_add (pe_op op_mul (pv 4) pe_int) (pe_op op_mul (pe_ix ix_list (pv 0) pe_int (fun _ _ => rfl)) pe_int)) pe_int) pe_int) (pg_sub (pv 0) pe_int set_list)) (pss_one (ps_ret (pe_op op_mod (pe_op op_fdivB (pe_ix ix_list (pv 0) pe_int (fun _ _ => rfl)) pe_int) (pv 1)))))))), ?_⟩
  refine ixd 2 rfl hd rfl ⟨_, rfl, _, _, rfl, rfl, _, rfl, ?_⟩
  refine ite2 (fun c1 => ?_) (fun c1 => ?_)
  · refine ixd 1 rfl hd rfl (ixd 0 rfl hd rfl ⟨_, _, rfl, .inl ⟨_, SqL.of hl, rfl⟩, _, _, rfl, rfl, _, rfl, ?_⟩)
    refine ite2 (fun c2 => ?_) (fun c2 => ?_)
    · have c2' : p < (ns.map V.int).length := of_decide_eq_true c2
      rw [List.length_map] at c2'
      obtain ⟨cell, hcell⟩ : ∃ v, ns[p.toNat]? = some v := ⟨ns[p.toNat]'(by omega), List.getElem?_eq_getElem _⟩
      have hat : atI (ns.map V.int) p = some (.int cell) := by
        have z : atI (ns.map V.int) ((p.toNat : Nat) : Int) = some (.int cell) := atI_nat (by rw [List.getElem?_map, hcell]; rfl)
        have e : ((p.toNat : Nat) : Int) = p := by omega
        rw [e] at z; exact z
      refine ixd 0 rfl hd rfl (ixd 1 rfl hd rfl (.inl ⟨l, _, _, _, rfl, rfl, SqL.of hl, hat, ?_⟩))
      refine ixd 1 rfl hd rfl ⟨_, _, rfl, rfl, _, rfl, d, _, _, 1, rfl, rfl, hd, rfl, ?_⟩
      refine ⟨_, rfl, d, _, _, 2, rfl, rfl, upd_same, rfl, ?_⟩
      refine ⟨_, rfl, _, _, rfl, rfl, ⟨by decide, by decide, by decide⟩, _, _, rfl, rfl, _, rfl, ?_⟩
      refine ite2 (fun c3 => ?_) (fun c3 => ?_)
      · refine ⟨_, rfl, _, rfl, d, _, _, 2, rfl, rfl, upd_same, rfl, ?_⟩
        refine ixd 3 rfl upd_same rfl ⟨_, _, rfl, rfl, .inr ⟨by decide, by decide⟩, _, rfl, _, _, rfl, rfl, .inr ⟨by decide, by decide⟩, _, _, rfl, rfl, ixd 1 rfl upd_same rfl ⟨_, _, rfl, rfl, _, _, rfl, rfl, (show (0 : Int) < 2305843009213693951 by decide), ?_⟩⟩
        refine ⟨_, rfl, d, _, _, 3, rfl, rfl, upd_same, rfl, ?_⟩
        refine ixd 2 rfl upd_same rfl ⟨_, rfl, _, _, rfl, rfl, _, rfl, ?_⟩
        refine ite2 (fun k1 => ?_) (fun k1 => ?_)
        · refine ixd 2 rfl upd_same rfl ⟨_, rfl, _, _, rfl, rfl, (show 0 < m by omega), ?_⟩
          refine ixd 2 rfl upd_same rfl ⟨_, rfl, _, _, rfl, rfl, (show CDivB _ m from ⟨by omega, hm2⟩), _, rfl, d, _, _, 2, rfl, rfl, upd_same, rfl, ?_⟩
          refine ⟨_, rfl, q _ _ (Int.emod_nonneg _ (by omega)) (Int.emod_lt_of_pos _ (by omega)) ⟨fun b o hb e => by simp only [upd_ne hb]; exact e, fstT hd upd_same, l, ns, _, _, _, upd_same, by simp only [upd_ne hld]; exact hl, by omega, by omega, by omega⟩⟩
        · refine ixd 3 rfl upd_same rfl (ixd 3 rfl upd_same rfl ⟨_, _, rfl, rfl, .inl ⟨by omega, by omega⟩, _, _, rfl, rfl, (show (0 : Int) < 2305843009213693951 by decide), ?_⟩)
          refine ⟨_, rfl, _, _, rfl, rfl, .inr ⟨by decide, by decide⟩, ixd 3 rfl upd_same rfl ⟨_, _, rfl, rfl, .inr ⟨by decide, by decide⟩, _, _, rfl, rfl, _, _, rfl, rfl, _, _, rfl, rfl, (show (0 : Int) < 2305843009213693951 by decide), ?_⟩⟩
          refine ⟨_, rfl, d, _, _, 3, rfl, rfl, upd_same, rfl, ?_⟩
          refine ixd 3 rfl upd_same rfl ⟨_, _, rfl, rfl, (show CDivB _ 1021 from ⟨by decide, by decide⟩), _, rfl, _, _, rfl, rfl, (show 0 < m by omega), ?_⟩
          exact q _ _ (Int.emod_nonneg _ (by omega)) (Int.emod_lt_of_pos _ (by omega)) ⟨fun b o hb e => by simp only [upd_ne hb]; exact e, fstT hd upd_same, l, ns, _, _, _, upd_same, by simp only [upd_ne hld]; exact hl, by omega, by omega, by omega⟩
      · refine ixd 3 rfl upd_same rfl ⟨_, _, rfl, rfl, .inr ⟨by decide, by decide⟩, _, rfl, _, _, rfl, rfl, .inr ⟨by decide, by decide⟩, _, _, rfl, rfl, ixd 1 rfl upd_same rfl ⟨_, _, rfl, rfl, _, _, rfl, rfl, (show (0 : Int) < 2305843009213693951 by decide), ?_⟩⟩
        refine ⟨_, rfl, d, _, _, 3, rfl, rfl, upd_same, rfl, ?_⟩
        refine ixd 2 rfl upd_same rfl ⟨_, rfl, _, _, rfl, rfl, _, rfl, ?_⟩
        refine ite2 (fun k1 => ?_) (fun k1 => ?_)
        · refine ixd 2 rfl upd_same rfl ⟨_, rfl, _, _, rfl, rfl, (show 0 < m by omega), ?_⟩
          refine ixd 2 rfl upd_same rfl ⟨_, rfl, _, _, rfl, rfl, (show CDivB _ m from ⟨by omega, hm2⟩), _, rfl, d, _, _, 2, rfl, rfl, upd_same, rfl, ?_⟩
          refine ⟨_, rfl, q _ _ (Int.emod_nonneg _ (by omega)) (Int.emod_lt_of_pos _ (by omega)) ⟨fun b o hb e => by simp only [upd_ne hb]; exact e, fstT hd upd_same, l, ns, _, _, _, upd_same, by simp only [upd_ne hld]; exact hl, by omega, by omega, by omega⟩⟩
        · refine ixd 3 rfl upd_same rfl (ixd 3 rfl upd_same rfl ⟨_, _, rfl, rfl, .inl ⟨by omega, by omega⟩, _, _, rfl, rfl, (show (0 : Int) < 2305843009213693951 by decide), ?_⟩)
          refine ⟨_, rfl, _, _, rfl, rfl, .inr ⟨by decide, by decide⟩, ixd 3 rfl upd_same rfl ⟨_, _, rfl, rfl, .inr ⟨by decide, by decide⟩, _, _, rfl, rfl, _, _, rfl, rfl, _, _, rfl, rfl, (show (0 : Int) < 2305843009213693951 by decide), ?_⟩⟩
          refine ⟨_, rfl, d, _, _, 3, rfl, rfl, upd_same, rfl, ?_⟩
          refine ixd 3 rfl upd_same rfl ⟨_, _, rfl, rfl, (show CDivB _ 1021 from ⟨by decide, by decide⟩), _, rfl, _, _, rfl, rfl, (show 0 < m by omega), ?_⟩
          exact q _ _ (Int.emod_nonneg _ (by omega)) (Int.emod_lt_of_pos _ (by omega)) ⟨fun b o hb e => by simp only [upd_ne hb]; exact e, fstT hd upd_same, l, ns, _, _, _, upd_same, by simp only [upd_ne hld]; exact hl, by omega, by omega, by omega⟩
    · refine ixd 2 rfl hd rfl ⟨_, rfl, _, _, rfl, rfl, _, rfl, ?_⟩
      refine ite2 (fun k1 => ?_) (fun k1 => ?_)
      · refine ixd 2 rfl hd rfl ⟨_, rfl, _, _, rfl, rfl, (show 0 < m by omega), ?_⟩
        refine ixd 2 rfl hd rfl ⟨_, rfl, _, _, rfl, rfl, (show CDivB _ m from ⟨by omega, hm2⟩), _, rfl, d, _, _, 2, rfl, rfl, hd, rfl, ?_⟩
        refine ⟨_, rfl, q _ _ (Int.emod_nonneg _ (by omega)) (Int.emod_lt_of_pos _ (by omega)) ⟨fun b o hb e => by simp only [upd_ne hb]; exact e, fstT hd upd_same, l, ns, _, _, _, upd_same, by simp only [upd_ne hld]; exact hl, by omega, by omega, by omega⟩⟩
      · refine ixd 3 rfl hd rfl (ixd 3 rfl hd rfl ⟨_, _, rfl, rfl, .inl ⟨by omega, by omega⟩, _, _, rfl, rfl, (show (0 : Int) < 2305843009213693951 by decide), ?_⟩)
        refine ⟨_, rfl, _, _, rfl, rfl, .inr ⟨by decide, by decide⟩, ixd 3 rfl hd rfl ⟨_, _, rfl, rfl, .inr ⟨by decide, by decide⟩, _, _, rfl, rfl, _, _, rfl, rfl, _, _, rfl, rfl, (show (0 : Int) < 2305843009213693951 by decide), ?_⟩⟩
        refine ⟨_, rfl, d, _, _, 3, rfl, rfl, hd, rfl, ?_⟩
        refine ixd 3 rfl upd_same rfl ⟨_, _, rfl, rfl, (show CDivB _ 1021 from ⟨by decide, by decide⟩), _, rfl, _, _, rfl, rfl, (show 0 < m by omega), ?_⟩
        exact q _ _ (Int.emod_nonneg _ (by omega)) (Int.emod_lt_of_pos _ (by omega)) ⟨fun b o hb e => by simp only [upd_ne hb]; exact e, fstT hd upd_same, l, ns, _, _, _, upd_same, by simp only [upd_ne hld]; exact hl, by omega, by omega, by omega⟩
  · refine ixd 2 rfl hd rfl ⟨_, rfl, _, _, rfl, rfl, _, rfl, ?_⟩
    refine ite2 (fun k1 => ?_) (fun k1 => ?_)
    · refine ixd 2 rfl hd rfl ⟨_, rfl, _, _, rfl, rfl, (show 0 < m by omega), ?_⟩
      refine ixd 2 rfl hd rfl ⟨_, rfl, _, _, rfl, rfl, (show CDivB _ m from ⟨by omega, hm2⟩), _, rfl, d, _, _, 2, rfl, rfl, hd, rfl, ?_⟩
      refine ⟨_, rfl, q _ _ (Int.emod_nonneg _ (by omega)) (Int.emod_lt_of_pos _ (by omega)) ⟨fun b o hb e => by simp only [upd_ne hb]; exact e, fstT hd upd_same, l, ns, _, _, _, upd_same, by simp only [upd_ne hld]; exact hl, by omega, by omega, by omega⟩⟩
    · refine ixd 3 rfl hd rfl (ixd 3 rfl hd rfl ⟨_, _, rfl, rfl, .inl ⟨by omega, by omega⟩, _, _, rfl, rfl, (show (0 : Int) < 2305843009213693951 by decide), ?_⟩)
      refine ⟨_, rfl, _, _, rfl, rfl, .inr ⟨by decide, by decide⟩, ixd 3 rfl hd rfl ⟨_, _, rfl, rfl, .inr ⟨by decide, by decide⟩, _, _, rfl, rfl, _, _, rfl, rfl, _, _, rfl, rfl, (show (0 : Int) < 2305843009213693951 by decide), ?_⟩⟩
      refine ⟨_, rfl, d, _, _, 3, rfl, rfl, hd, rfl, ?_⟩
      refine ixd 3 rfl upd_same rfl ⟨_, _, rfl, rfl, (show CDivB _ 1021 from ⟨by decide, by decide⟩), _, rfl, _, _, rfl, rfl, (show 0 < m by omega), ?_⟩
      exact q _ _ (Int.emod_nonneg _ (by omega)) (Int.emod_lt_of_pos _ (by omega)) ⟨fun b o hb e => by simp only [upd_ne hb]; exact e, fstT hd upd_same, l, ns, _, _, _, upd_same, by simp only [upd_ne hld]; exact hl, by omega, by omega, by omega⟩
end

end My

set_option Elab.async false
set_option linter.all false
set_option maxRecDepth 100000
set_option maxHeartbeats 4000000
namespace My
open PySem L2
/-! ### texts: lengths -/
theorem slice_len (x : Str) (l u : Option Int) : (Txt.slice x l u).length ≤ x.length := by
  unfold Txt.slice
  split
  · exact Nat.le_refl _
  · show (List.toArray _).size ≤ _
    rw [List.size_toArray]
    exact Nat.le_trans (List.length_filterMap_le _ _) (sliceIndices_le _ _ _)
theorem glue_size (ys : List Str) : ∀ (acc : Array Nat), (ys.foldl (fun acc p => acc ++ ("" : Str).cps ++ p.cps) acc).size = acc.size + (ys.map (·.length)).sum := by
  have e0 : ("" : Str).cps.size = 0 := by decide +kernel
  induction ys with
  | nil => intro acc; simp
  | cons y ys ih =>
    intro acc
    rw [List.foldl_cons, ih, Array.size_append, Array.size_append, e0, List.map_cons, List.sum_cons]
    show acc.size + 0 + y.cps.size + _ = acc.size + (y.cps.size + _)
    omega
theorem join_len (ys : List Str) : (Txt.join "" ys).length = (ys.map (·.length)).sum := by
  unfold Txt.join Builtin.Str.glued
  show (List.foldl _ _ _ : Array Nat).size = _
  cases ys with
  | nil => decide +kernel
  | cons y ys =>
    rw [List.drop_succ_cons, List.drop_zero, glue_size, List.headD_cons, List.map_cons, List.sum_cons]
    rfl
theorem sum_ge : ∀ (ys : List Str), (∀ y ∈ ys, y.length = 1) → (ys.map (·.length)).sum = ys.length
  | [], _ => rfl
  | y :: ys, h => by
    rw [List.map_cons, List.sum_cons, List.length_cons, sum_ge ys fun z hz => h z (List.mem_cons_of_mem _ hz), h y List.mem_cons_self]
    omega
theorem cat_len (x y : Str) : (x ++ y).length = x.length + y.length := by
  show (x.cps ++ y.cps).size = x.cps.size + y.cps.size
  rw [Array.size_append]
/-- a comprehension over a range -/
theorem comp_rng {im : List (Option Nat)} {σ : St} {H : Hp} {Q : VK} {te : TE} {n : Nat} {lo : Int} (R : Nat → List V → Hp → Prop) (h0 : R 0 [] H) (hlen : ∀ i ys H', i ≤ n → R i ys H' → ys.length ≤ sizeLine)
    (he : ∀ i ys H', i < n → R i ys H' → te ((inner im σ).set 0 (some (.int (lo + i)))) H' fun y H'' => R (i + 1) (ys ++ [y]) H'')
    (mono : ∀ σ' H' (Q1 Q2 : VK), (∀ v H'', Q1 v H'' → Q2 v H'') → te σ' H' Q1 → te σ' H' Q2)
    (hq : ∀ ys H', R n ys H' → ∀ D, H' D = none → Q (.ref D) (upd H' D (.lst ys))) : CompAt im (gName 0) tNoIf te σ Q (Itr lo n) H := by
  refine ⟨fun i m ys H' => m = n - i ∧ i ≤ n ∧ R i ys H', ⟨n, by simp, Nat.zero_le _, h0⟩, ?_⟩
  rintro i m ys H' ⟨rfl, hi, r⟩
  refine ⟨hlen i ys H' hi r, ?_⟩
  by_cases hlt : i < n
  · refine .inr ⟨hlt, fun x H'' y => ?_⟩
    obtain ⟨e, rfl⟩ := y
    subst e
    exact mono _ _ _ _ (fun v H3 z => ⟨n - (i + 1), by omega, rfl, hlt, z⟩) (he i ys _ hlt r)
  · have e : i = n := by omega
    subst e
    exact .inl ⟨Nat.le_refl _, hq ys H' r⟩
section
variable {P : Program} {w : World} {K : PySem.W.Frag} {mg : Str → Option Value} {base : Heap} {a : Adr}
def spBegin : Sp := fun vs H Q _ => ∃ (b : Addr) (ns : List Int), vs = [.ref b] ∧ SqL K H b (ns.map V.int) ∧ ns.length ≤ 63 ∧ ∀ d H', H d = none → Same H H' → Drw H' d → Q (.ref d) H'
theorem ok_begin (T : Txt K mg a) : FnOk P w K mg base CX0 1 a.f_begin a.d_begin ["_law_script"] (spBegin (K := K)) := by
  refine T.F_begin.ok sc_begin (fun vs H Q E h => ?_) (fun cdv A outer s H vs Q E hr h => ?_)
  · obtain ⟨x, s, rfl, _⟩ := h; rfl
  obtain ⟨b, ns, rfl, hb, hn, q⟩ := h
  refine ⟨_, (pss_one (ps_ret (pe_lst (pa_cons (pe_callTy call_list_of rfl T.n_list (by decide +kernel) (pa_cons (pe_slice sl_list (pv 0) po_none (po_some pe_int)) pa_nil)) (pa_cons pe_int (pa_cons pe_int (pa_cons pe_int pa_nil))))))), ?_⟩
  refine ⟨_, rfl, _, rfl, b, _, rfl, hb, fun p hp => ⟨p, _, rfl, .inl (SqL.of upd_same), fun l hl => ?_⟩⟩
  refine ⟨small (n := 4) (by decide), fun d hd => ?_⟩
  have hcut : ∃ ms : List Int, cutV (ns.map V.int) none (some 63) = ms.map V.int := by
    unfold cutV
    exact ⟨_, by rw [← List.map_drop, ← List.map_take]⟩
  obtain ⟨ms, hms⟩ := hcut
  have g1 := same_new hp (.lst (cutV (ns.map V.int) none (some 63)))
  have g2 := same_new hl (.lst (cutV (ns.map V.int) none (some 63)))
  have g3 := same_new hd (.lst [.ref l, .int 0, .int 0, .int 41])
  have hdl : l ≠ d := fun z => by subst z; rw [upd_same] at hd; cases hd
  refine q d _ ((g1.trans g2).free hd) ((g1.trans g2).trans g3) ⟨l, ms, 0, 0, 41, upd_same, ?_, by decide, by decide, by decide⟩
  rw [upd_ne hdl, upd_same, hms]
def spOf : Sp := fun vs H Q _ => ∃ (d : Addr) (y : V), vs = [.ref d, y] ∧ Drw H d ∧
  ((∃ z : Str, y = .str z ∧ 1 ≤ z.length ∧ z.length ≤ 1000 ∧ ∀ c H', Ev d H H' → c ∈ z.cps.toList → Q (.str ⟨#[c]⟩) H') ∨
   (∃ b xs, y = .ref b ∧ b ≠ d ∧ H b = some (.lst xs) ∧ 1 ≤ xs.length ∧ xs.length ≤ 1000 ∧ ∀ v H', Ev d H H' → v ∈ xs → Q v H'))
theorem atI_of {α : Type} {xs : List α} {r : Int} (h0 : 0 ≤ r) (h1 : r < xs.length) : ∃ v, atI xs r = some v ∧ v ∈ xs := by
  have hk : r.toNat < xs.length := by omega
  refine ⟨xs[r.toNat], ?_, List.getElem_mem hk⟩
  have z : atI xs ((r.toNat : Nat) : Int) = some xs[r.toNat] := atI_nat (List.getElem?_eq_getElem hk)
  have e : ((r.toNat : Nat) : Int) = r := by omega
  rw [e] at z; exact z
theorem lt200 {n : Nat} (h : n ≤ 1000) : (n : Int) < 2 ^ 200 := Int.lt_of_le_of_lt (b := 1000) (by omega) (by decide)
theorem ok_of (T : Txt K mg a) : FnOk P w K mg base CX0 2 a.f_of a.d_of ["_law_draw", "_law_some_here"] spOf := by
  refine T.F_of.ok sc_of (fun vs H Q E h => ?_) (fun cdv A outer s H vs Q E hr h => ?_)
  · obtain ⟨x, s, rfl, _⟩ := h; rfl
  obtain ⟨d, y, rfl, hD, h⟩ := h
  refine ⟨_, (pss_one (ps_ret (pe_ix ix_seq (pv 1) (pe_call (ok_take T) (hr.mono (by decide)) rfl T.m_take T.F_take.kp T.b_take .nil pass0 (pa_cons (pv 0) (pa_cons (pe_callB call_len rfl T.n_len PySem.boot_len (pa_cons (pv 1) pa_nil)) pa_nil))) (fun _ _ => rfl)))), ?_⟩
  rcases h with ⟨z, rfl, h1, h2, q⟩ | ⟨b, xs, rfl, hbd, hb, h1, h2, q⟩
  · refine ⟨_, rfl, _, rfl, _, rfl, _, _, rfl, ⟨small h2, rfl⟩, d, _, rfl, hD, by omega, lt200 h2, fun r H' r0 r1 ev => .inr (.inr ?_)⟩
    obtain ⟨c, hc, hm⟩ := atI_of (xs := z.cps.toList) r0 (by have : z.cps.toList.length = z.length := by simp [Str.length]
                                                             omega)
    exact ⟨z, r, c, rfl, rfl, small h2, hc, q c H' ev hm⟩
  · refine ⟨_, rfl, _, rfl, _, rfl, _, _, rfl, .inl ⟨_, SqL.of hb, rfl⟩, d, _, rfl, hD, by omega, lt200 h2, fun r H' r0 r1 ev => .inl ?_⟩
    obtain ⟨v, hv, hm⟩ := atI_of (xs := xs) r0 (by omega)
    exact ⟨b, xs, r, v, rfl, rfl, SqL.of (ev.same _ _ hbd hb), hv, q v H' ev hm⟩
end

/-! ### what stands in a cut or glued text -/
theorem slice_mem {x : Str} {l u : Option Int} {c : Nat} (h : c ∈ (Txt.slice x l u).cps.toList) : c ∈ x.cps.toList := by
  unfold Txt.slice at h
  split at h
  · exact h
  · have h' := h
    simp only [List.toList_toArray] at h'
    obtain ⟨i, _, hi⟩ := List.mem_filterMap.mp h'
    exact Array.mem_toList_iff.mpr (Array.mem_of_getElem? hi)
theorem glue_mem (ys : List Str) : ∀ (acc : Array Nat) (c : Nat), c ∈ (ys.foldl (fun acc p => acc ++ ("" : Str).cps ++ p.cps) acc).toList → c ∈ acc.toList ∨ ∃ y ∈ ys, c ∈ y.cps.toList := by
  have e0 : ("" : Str).cps = #[] := by decide +kernel
  induction ys with
  | nil => intro acc c h; exact .inl h
  | cons y ys ih =>
    intro acc c h
    rw [List.foldl_cons] at h
    rcases ih _ c h with h1 | ⟨z, hz, hc⟩
    · rw [e0] at h1
      simp at h1
      rcases h1 with h1 | h1
      · exact .inl (by simpa using h1)
      · exact .inr ⟨y, List.mem_cons_self, by simpa using h1⟩
    · exact .inr ⟨z, List.mem_cons_of_mem _ hz, hc⟩
theorem join_mem {ys : List Str} {c : Nat} (h : c ∈ (Txt.join "" ys).cps.toList) : ∃ y ∈ ys, c ∈ y.cps.toList := by
  unfold Txt.join Builtin.Str.glued at h
  cases ys with
  | nil =>
    have e : (Txt.join "" []).cps.toList = [] := by decide +kernel
    have h' : c ∈ (Txt.join "" []).cps.toList := h
    rw [e] at h'; cases h'
  | cons y ys =>
    rw [List.drop_succ_cons, List.drop_zero, List.headD_cons] at h
    rcases glue_mem ys _ c h with h1 | ⟨z, hz, hc⟩
    · exact ⟨y, List.mem_cons_self, h1⟩
    · exact ⟨z, List.mem_cons_of_mem _ hz, hc⟩
section
variable {P : Program} {w : World} {K : PySem.W.Frag} {mg : Str → Option Value} {base : Heap} {a : Adr}
def spLet : Sp := fun vs H Q _ => ∃ (d : Addr) (z : Str) (m : Int), vs = [.ref d, .str z, .int m] ∧ Drw H d ∧ 1 ≤ z.length ∧ z.length ≤ 1000 ∧ 1 ≤ m ∧ m ≤ 100 ∧ ∀ x H', Ev d H H' → 1 ≤ x.length → (x.length : Int) ≤ m → (∀ c ∈ x.cps.toList, c ∈ z.cps.toList) → Q (.str x) H'
theorem ok_letters (T : Txt K mg a) : FnOk P w K mg base CX0 3 a.f_letters a.d_letters ["_law_draw", "_law_signs", "_law_most"] spLet := by
  refine T.F_letters.ok sc_letters (fun vs H Q E h => ?_) (fun cdv A outer s H vs Q E hr h => ?_)
  · obtain ⟨x, s, r, rfl, _⟩ := h; rfl
  obtain ⟨d, z, m, rfl, hD, h1, h2, h3, h4, q⟩ := h
  refine ⟨_, (pss_one (ps_ret (pe_bm PySem.F.plainAttrs_str PySem.F.slot_str_join PySem.F.type_str_join mt_join pe_str (pa_cons (pe_comp ["_law_step", "_law_draw", "_law_signs"] [none, some 0, some 1] (pi_range1 rfl T.n_range (pa_cons (pe_op op_add pe_int (pe_call (ok_take T) (hr.mono (by decide)) rfl T.m_take T.F_take.kp T.b_take .nil pass0 (pa_cons (pv 0) (pa_cons (pv 2) pa_nil)))) pa_nil)) (fun _ _ _ _ _ => (pg_name (i := 0) (show List.Nodup (["_law_step", "_law_draw", "_law_signs"] : List Str) from by decide +kernel) rfl (Or.inl rfl) (Or.inr rfl))) (fun _ _ _ _ _ => pts_nil) (fun _ _ _ _ _ => (pe_call (ok_of T) (hr.mono (by decide)) rfl T.m_of T.F_of.kp T.b_of .nil pass0 (pa_cons (pv 1) (pa_cons (pv 2) pa_nil))))) pa_nil)))), ?_⟩
  refine ⟨rfl, _, rfl, _, rfl, d, m, rfl, hD, h3, Int.lt_of_le_of_lt (b := 100) h4 (by decide), fun r H1 r0 r1 ev => ⟨_, _, rfl, rfl, _, rfl, by omega, by omega, ?_⟩⟩
  have en : ((1 + r).toNat : Int) = 1 + r := by omega
  refine comp_rng (fun i ys H' => ∃ zs : List Str, ys = zs.map V.str ∧ zs.length = i ∧ (∀ y ∈ zs, y.length = 1) ∧ (∀ y ∈ zs, ∀ c ∈ y.cps.toList, c ∈ z.cps.toList) ∧ Ev d H H') ⟨[], rfl, rfl, by simp, by simp, ev⟩ (fun i ys H' hi r => ?_) (fun i ys H' hi r => ?_) (fun σ' H' Q1 Q2 h t => ?_) (fun ys H' r D hD' => ?_)
  · obtain ⟨zs, rfl, e, _⟩ := r
    rw [List.length_map]; exact small (by omega)
  · obtain ⟨zs, rfl, e, e1, e2, ev'⟩ := r
    refine ⟨_, rfl, _, rfl, d, _, rfl, ev'.drw, .inl ⟨z, rfl, h1, h2, fun c H'' ev'' hc => ⟨zs ++ [⟨#[c]⟩], by simp, by simp [e], fun y hy => ?_, fun y hy => ?_, ev'.trans ev''⟩⟩⟩
    · rcases List.mem_append.mp hy with hy | hy
      · exact e1 y hy
      · have : y = ⟨#[c]⟩ := by simpa using hy
        rw [this]; rfl
    · rcases List.mem_append.mp hy with hy | hy
      · exact e2 y hy
      · have : y = ⟨#[c]⟩ := by simpa using hy
        rw [this]
        intro c' hc'
        have : c' = c := by simpa using hc'
        rw [this]; exact hc
  · obtain ⟨v1, e1, v2, e2, d', y', e3, hD', t⟩ := t
    refine ⟨v1, e1, v2, e2, d', y', e3, hD', ?_⟩
    rcases t with ⟨z, t1, t2, t3, t4⟩ | ⟨b, xs, t1, t2, t3, t4, t5, t6⟩
    · exact .inl ⟨z, t1, t2, t3, fun c H'' ev hc => h _ _ (t4 c H'' ev hc)⟩
    · exact .inr ⟨b, xs, t1, t2, t3, t4, t5, fun v H'' ev hc => h _ _ (t6 v H'' ev hc)⟩
  · obtain ⟨zs, rfl, e, e1, e2, ev'⟩ := r
    have es := sum_ge zs e1
    refine ⟨_, D, zs, rfl, rfl, SqL.of upd_same, ?_, ?_⟩
    · have : ("" : Str).length = 0 := by decide +kernel
      rw [this, es]; omega
    · refine q _ _ (ev'.then (same_new hD' _)) ?_ ?_ fun c hc => ?_
      · rw [join_len, es]; omega
      · rw [join_len, es]; omega
      · obtain ⟨y, hy, hc'⟩ := join_mem hc
        exact e2 y hy c hc'
/-- a draw goes in, a word comes out -/
def spWrd : Sp := fun vs H Q _ => ∃ d : Addr, vs = [.ref d] ∧ Drw H d ∧ ∀ x H', Ev d H H' → wordB x = true → Q (.str x) H'
theorem one_len (c : Nat) : (⟨#[c]⟩ : Str).length = 1 := rfl
theorem sign_pool : ∀ c ∈ ("0123456789abcnoyesz" : Str).cps.toList, wsg c = true := by decide +kernel
theorem let_pool : ∀ c ∈ ("abcdefghijklmnopqrstuvwxyz" : Str).cps.toList, isLet c = true := by decide +kernel
theorem word_cat {c : Nat} {y : Str} (hc : isLet c = true) (hy : ∀ d ∈ y.cps.toList, wsg d = true) (hl : y.length ≤ 11) : wordB (⟨#[c]⟩ ++ y) = true := by
  have ec : (⟨#[c]⟩ ++ y : Str).cps.toList = c :: y.cps.toList := by
    show (#[c] ++ y.cps).toList = _
    simp
  have el : (⟨#[c]⟩ ++ y : Str).length = 1 + y.length := by rw [cat_len]; rfl
  unfold wordB sz bwl
  rw [ec, el]
  simp only [Bool.and_eq_true, decide_eq_true_eq, List.all_cons, List.all_eq_true]
  exact ⟨⟨by omega, by omega⟩, hc, by unfold wsg; rw [hc]; rfl, hy⟩
theorem ok_drawn_word (T : Txt K mg a) : FnOk P w K mg base CX0 4 a.f_drawn_word a.d_drawn_word ["_law_draw"] spWrd := by
  refine T.F_drawn_word.ok sc_drawn_word (fun vs H Q E h => ?_) (fun cdv A outer s H vs Q E hr h => ?_)
  · obtain ⟨x, rfl, _⟩ := h; rfl
  obtain ⟨d, rfl, hD, q⟩ := h
  refine ⟨_, (pss_one (ps_ret (pe_op op_add_str (pe_call (ok_of T) (hr.mono (by decide)) rfl T.m_of T.F_of.kp T.b_of .nil pass0 (pa_cons (pv 0) (pa_cons pe_str pa_nil))) (pe_slice sl_str (pe_call (ok_letters T) (hr.mono (by decide)) rfl T.m_letters T.F_letters.kp T.b_letters .nil pass0 (pa_cons (pv 0) (pa_cons pe_str (pa_cons pe_int pa_nil)))) (po_some pe_int) po_none)))), ?_⟩
  refine ⟨_, rfl, d, _, rfl, hD, .inl ⟨_, rfl, by decide +kernel, by decide +kernel, fun c H1 ev1 hc => ?_⟩⟩
  refine ⟨_, rfl, d, _, _, rfl, ev1.drw, by decide +kernel, by decide +kernel, by decide, by decide, fun x H2 ev2 x1 x2 x3 => ?_⟩
  have sl := slice_len x (some 1) none
  have ol := one_len c
  refine ⟨_, rfl, _, rfl, small (by omega), _, _, rfl, rfl, small (by omega), q _ _ (ev1.trans ev2) ?_⟩
  exact word_cat (let_pool c hc) (fun d hd => sign_pool d (x3 d (slice_mem hd))) (by omega)
end

section
variable {P : Program} {w : World} {K : PySem.W.Frag} {mg : Str → Option Value} {base : Heap} {a : Adr}
/-- a draw goes in, a short text comes out -/
def spTxt : Sp := fun vs H Q _ => ∃ d : Addr, vs = [.ref d] ∧ Drw H d ∧ ∀ x H', Ev d H H' → x.length ≤ 20 → Q (.str x) H'
theorem ok_drawn_name (T : Txt K mg a) : FnOk P w K mg base CX0 4 a.f_drawn_name a.d_drawn_name ["_law_draw"] spTxt := by
  refine T.F_drawn_name.ok sc_drawn_name (fun vs H Q E h => ?_) (fun cdv A outer s H vs Q E hr h => ?_)
  · obtain ⟨x, rfl, _⟩ := h; rfl
  obtain ⟨d, rfl, hD, q⟩ := h
  refine ⟨_, (pss_cons (ps_set (i := 1) sc_drawn_name.nd rfl (by first | exact Or.inl rfl | exact Or.inr rfl) (pe_op op_add_str (pe_call (ok_of T) (hr.mono (by decide)) rfl T.m_of T.F_of.kp T.b_of .nil pass0 (pa_cons (pv 0) (pa_cons pe_str pa_nil))) (pe_slice sl_str (pe_call (ok_letters T) (hr.mono (by decide)) rfl T.m_letters T.F_letters.kp T.b_letters .nil pass0 (pa_cons (pv 0) (pa_cons pe_str (pa_cons pe_int pa_nil)))) (po_some pe_int) po_none))) (pss_one (ps_ret (pe_ifExp (pt_val (pe_call (ok_kept_word T) (hr.mono (by decide)) rfl T.m_kept_word T.F_kept_word.kp T.b_kept_word .nil pass0 (pa_cons (pv 1) pa_nil))) (pe_op op_add_str (pv 1) pe_str) (pv 1))))), ?_⟩
  refine ⟨_, rfl, d, _, rfl, hD, .inl ⟨_, rfl, by decide +kernel, by decide +kernel, fun c H1 ev1 _ => ?_⟩⟩
  refine ⟨_, rfl, d, _, _, rfl, ev1.drw, by decide +kernel, by decide +kernel, by decide, by decide, fun x H2 ev2 x1 x2 _ => ?_⟩
  have sl := slice_len x (some 1) none
  have ol := one_len c
  have cl := cat_len ⟨#[c]⟩ (Txt.slice x (some 1) none)
  refine ⟨_, rfl, _, rfl, small (by omega), _, _, rfl, rfl, small (by omega), ?_⟩
  refine ⟨_, rfl, _, rfl, small (by omega), fun H3 g3 => ⟨_, rfl, ?_⟩⟩
  have ul : ("_" : Str).length = 1 := by decide +kernel
  refine ite2 (fun k => ?_) (fun k => ?_)
  · refine ⟨_, rfl, _, _, rfl, rfl, small (by omega), q _ _ ((ev1.trans ev2).then g3) ?_⟩
    rw [cat_len]; omega
  · exact ⟨_, rfl, q _ _ ((ev1.trans ev2).then g3) (by omega)⟩
def spNum : Sp := fun vs H Q _ => ∃ d : Addr, vs = [.ref d] ∧ Drw H d ∧ ∀ (i : Int) H', Ev d H H' → -(10 ^ 29) < i → i < 10 ^ 29 → Q (.int i) H'
theorem ok_number (T : Txt K mg a) : FnOk P w K mg base CX0 3 a.f_number a.d_number ["_law_draw"] spNum := by
  refine T.F_number.ok sc_number (fun vs H Q E h => ?_) (fun cdv A outer s H vs Q E hr h => ?_)
  · obtain ⟨x, rfl, _⟩ := h; rfl
  obtain ⟨d, rfl, hD, q⟩ := h
  refine ⟨_, (pss_cons (ps_set (i := 1) sc_number.nd rfl (by first | exact Or.inl rfl | exact Or.inr rfl) (pe_call (ok_take T) (hr.mono (by decide)) rfl T.m_take T.F_take.kp T.b_take .nil pass0 (pa_cons (pv 0) (pa_cons pe_int pa_nil)))) (pss_cons (ps_if (pt_cmpR op_eq (pv 1) pe_int (nomark _)) (pss_one (ps_ret (pe_op op_mul (pe_call (ok_of T) (hr.mono (by decide)) rfl T.m_of T.F_of.kp T.b_of .nil pass0 (pa_cons (pv 0) (pa_cons (pe_lst (pa_cons pe_int (pa_cons (pe_op op_sub pe_int pe_int) pa_nil))) pa_nil))) (pe_call (ok_take T) (hr.mono (by decide)) rfl T.m_take T.F_take.kp T.b_take .nil pass0 (pa_cons (pv 0) (pa_cons (pe_op op_pow pe_int pe_int) pa_nil)))))) pss_nil) (pss_cons (ps_if (pt_cmpR op_eq (pv 1) pe_int (nomark _)) (pss_one (ps_ret (pe_op op_sub (pe_call (ok_take T) (hr.mono (by decide)) rfl T.m_take T.F_take.kp T.b_take .nil pass0 (pa_cons (pv 0) (pa_cons pe_int pa_nil))) pe_int))) pss_nil) (pss_one (ps_ret (pe_op op_sub (pe_call (ok_take T) (hr.mono (by decide)) rfl T.m_take T.F_take.kp T.b_take .nil pass0 (pa_cons (pv 0) (pa_cons pe_int pa_nil))) pe_int)))))), ?_⟩
  refine ⟨_, rfl, d, _, rfl, hD, by decide, by decide, fun r H1 r0 r1 ev1 => ?_⟩
  refine ⟨_, rfl, rfl, _, rfl, ?_⟩
  refine ite2 (fun k => ?_) (fun k => ?_)
  · refine ⟨_, rfl, _, _, rfl, rfl, small (by decide), fun b hb => ?_⟩
    have g1 := same_new hb (.lst [.int 1, .int (0 - 1)])
    have ev2 := ev1.then g1
    refine ⟨d, _, rfl, ev2.drw, .inr ⟨b, _, rfl, ev1.drw.ne_of_none hb, upd_same, by decide, by decide, fun v H3 ev3 hv => ?_⟩⟩
    refine ⟨_, rfl, _, _, rfl, rfl, ⟨by decide, by decide, by decide⟩, d, _, rfl, ev3.drw, by decide, by decide, fun r2 H4 s0 s1 ev4 => ?_⟩
    have ev := (ev2.trans ev3).trans ev4
    have s1' : r2 < 10 ^ 29 := s1
    simp at hv
    rcases hv with rfl | rfl
    · refine ⟨_, _, rfl, rfl, .inl ⟨by decide, by decide⟩, q _ _ ev ?_ ?_⟩ <;> omega
    · refine ⟨_, _, rfl, rfl, .inl ⟨by decide, by decide⟩, q _ _ ev ?_ ?_⟩ <;> omega
  · refine ⟨_, rfl, rfl, _, rfl, ?_⟩
    refine ite2 (fun k2 => ?_) (fun k2 => ?_)
    · refine ⟨_, rfl, d, _, rfl, ev1.drw, by decide, by decide, fun r2 H4 s0 s1 ev4 => ⟨_, _, rfl, rfl, q _ _ (ev1.trans ev4) ?_ ?_⟩⟩ <;> omega
    · refine ⟨_, rfl, d, _, rfl, ev1.drw, by decide, by decide, fun r2 H4 s0 s1 ev4 => ⟨_, _, rfl, rfl, q _ _ (ev1.trans ev4) ?_ ?_⟩⟩ <;> omega
end
section
variable {P : Program} {w : World} {K : PySem.W.Frag} {mg : Str → Option Value} {base : Heap} {a : Adr}
/-- what is drawn -/
def goodV (v : V) : Prop := (∃ b, v = .bl b) ∨ (∃ i : Int, v = .int i ∧ -(10 ^ 29) < i ∧ i < 10 ^ 29) ∨ ∃ x, v = .str x ∧ wordB x = true
/-- a value of a sort -/
def valS (s : Str) (v : V) : Prop := (s = "number" ∧ ∃ i : Int, v = .int i ∧ -(10 ^ 29) < i ∧ i < 10 ^ 29) ∨ (s = "flag" ∧ ∃ b, v = .bl b) ∨ (s = "word" ∧ ∃ x, v = .str x ∧ wordB x = true)
theorem valS.good {s : Str} {v : V} (h : valS s v) : goodV v := by
  rcases h with ⟨_, h⟩ | ⟨_, h⟩ | ⟨_, h⟩
  · exact .inr (.inl h)
  · exact .inl h
  · exact .inr (.inr h)
def spVal : Sp := fun vs H Q _ => ∃ (d : Addr) (z : Str), vs = [.ref d, .str z] ∧ Drw H d ∧ (z = "number" ∨ z = "flag" ∨ z = "word") ∧ ∀ v H', Ev d H H' → valS z v → Q v H'
theorem six_words : ∀ x ∈ (["ann", "bob", "a", "z9", "yes", "b"] : List Str), wordB x = true := by decide +kernel
theorem ok_value (T : Txt K mg a) : FnOk P w K mg base CX0 5 a.f_value a.d_value ["_law_draw", "_law_sort"] spVal := by
  refine T.F_value.ok sc_value (fun vs H Q E h => ?_) (fun cdv A outer s H vs Q E hr h => ?_)
  · obtain ⟨x, z, rfl, _⟩ := h; rfl
  obtain ⟨d, z, rfl, hD, hz, q⟩ := h
  refine ⟨_, (pss_cons (ps_if (pt_cmpR op_eq (pv 1) pe_str (nomark _)) (pss_one (ps_ret (pe_call (ok_number T) (hr.mono (by decide)) rfl T.m_number T.F_number.kp T.b_number .nil pass0 (pa_cons (pv 0) pa_nil)))) pss_nil) (pss_cons (ps_if (pt_cmpR op_eq (pv 1) pe_str (nomark _)) (pss_one (ps_ret (pe_cmpR op_eq (pe_call (ok_take T) (hr.mono (by decide)) rfl T.m_take T.F_take.kp T.b_take .nil pass0 (pa_cons (pv 0) (pa_cons pe_int pa_nil))) pe_int (nomark _)))) pss_nil) (pss_cons (ps_if (pt_cmpR op_eq (pe_call (ok_take T) (hr.mono (by decide)) rfl T.m_take T.F_take.kp T.b_take .nil pass0 (pa_cons (pv 0) (pa_cons pe_int pa_nil))) pe_int (nomark _)) (pss_one (ps_ret (pe_call (ok_drawn_word T) (hr.mono (by decide)) rfl T.m_drawn_word T.F_drawn_word.kp T.b_drawn_word .nil pass0 (pa_cons (pv 0) pa_nil)))) pss_nil) (pss_one (ps_ret (pe_call (ok_of T) (hr.mono (by decide)) rfl T.m_of T.F_of.kp T.b_of .nil pass0 (pa_cons (pv 0) (pa_cons (pe_lst (pa_cons pe_str (pa_cons pe_str (pa_cons pe_str (pa_cons pe_str (pa_cons pe_str (pa_cons pe_str pa_nil))))))) pa_nil)))))))), ?_⟩
  rcases hz with rfl | rfl | rfl
  · exact ⟨_, rfl, rfl, _, rfl, iteT ⟨_, rfl, d, rfl, hD, fun i H1 ev1 i0 i1 => q _ _ ev1 (.inl ⟨rfl, i, rfl, i0, i1⟩)⟩⟩
  · exact ⟨_, rfl, rfl, _, rfl, iteF ⟨_, rfl, rfl, _, rfl, iteT ⟨_, rfl, d, _, rfl, hD, by decide, by decide, fun r H1 _ _ ev1 => ⟨rfl, q _ _ ev1 (.inr (.inl ⟨rfl, _, rfl⟩))⟩⟩⟩⟩
  refine ⟨_, rfl, rfl, _, rfl, iteF ⟨_, rfl, rfl, _, rfl, iteF ?_⟩⟩
  refine ⟨_, rfl, d, _, rfl, hD, by decide, by decide, fun r H1 _ _ ev1 => ⟨rfl, _, rfl, ?_⟩⟩
  refine ite2 (fun k => ?_) (fun k => ?_)
  · exact ⟨_, rfl, d, rfl, ev1.drw, fun x H2 ev2 hx => q _ _ (ev1.trans ev2) (.inr (.inr ⟨rfl, x, rfl, hx⟩))⟩
  refine ⟨_, rfl, small (by decide), fun b hb => ?_⟩
  have g1 := same_new hb (.lst [.str "ann", .str "bob", .str "a", .str "z9", .str "yes", .str "b"])
  have ev2 := ev1.then g1
  refine ⟨d, _, rfl, ev2.drw, .inr ⟨b, _, rfl, ev1.drw.ne_of_none hb, upd_same, by decide, by decide, fun v H3 ev3 hv => q _ _ (ev2.trans ev3) ?_⟩⟩
  have hv' : v ∈ (["ann", "bob", "a", "z9", "yes", "b"] : List Str).map V.str := hv
  obtain ⟨x, hx, rfl⟩ := List.mem_map.mp hv'
  exact .inr (.inr ⟨rfl, x, rfl, six_words x hx⟩)
end

section
variable {P : Program} {w : World} {K : PySem.W.Frag} {mg : Str → Option Value} {base : Heap} {a : Adr}
/-! ### _law_same: flat things, and lists of such -/
theorem flat_cases {x : V} (h : flatV x = true) : x = .non ∨ (∃ b, x = .bl b) ∨ (∃ i, x = .int i) ∨ ∃ z, x = .str z := by
  cases x <;> first | exact .inl rfl | exact .inr (.inl ⟨_, rfl⟩) | exact .inr (.inr (.inl ⟨_, rfl⟩)) | exact .inr (.inr (.inr ⟨_, rfl⟩)) | cases h
def spSameF : Sp := fun vs H Q _ => ∃ x y : V, vs = [x, y] ∧ flatV x = true ∧ flatV y = true ∧ ∀ H', Same H H' → Q (.bl (decide (x = y))) H'
theorem dec_ne {x y : V} (h : x ≠ y) : decide (x = y) = false := decide_eq_false h
theorem ok_sameF (T : Txt K mg a) : FnOk P w K mg base CX0 1 a.f_same a.d_same ["_law_told", "_law_due"] spSameF := by
  refine T.F_same.ok sc_same (fun vs H Q E h => ?_) (fun cdv A outer s H vs Q E hr h => ?_)
  · obtain ⟨x, y, rfl, _⟩ := h; rfl
  obtain ⟨x, y, rfl, fx, fy, q⟩ := h
  refine ⟨_, (pss_cons (ps_if (pt_cmpR op_isN (pv 1) pe_non (nomark _)) (pss_one (ps_ret (pe_cmpR op_isN (pv 0) pe_non (nomark _)))) pss_nil) (pss_cons (ps_if (PW.pt (pw_or (pt_val (pe_callB call_isinst rfl T.n_isinstance (by decide +kernel) (pa_cons (pv 1) (pa_cons (pe_bltn (v := .ty "bool") (u := .type "bool") rfl T.n_bool (by decide +kernel) rfl) pa_nil)))) (pw_or1 (pt_val (pe_callB call_isinst rfl T.n_isinstance (by decide +kernel) (pa_cons (pv 0) (pa_cons (pe_bltn (v := .ty "bool") (u := .type "bool") rfl T.n_bool (by decide +kernel) rfl) pa_nil))))))) (pss_one (ps_ret (pe_and (pe_callB call_isinst rfl T.n_isinstance (by decide +kernel) (pa_cons (pv 1) (pa_cons (pe_bltn (v := .ty "bool") (u := .type "bool") rfl T.n_bool (by decide +kernel) rfl) pa_nil))) (pe_and (pe_callB call_isinst rfl T.n_isinstance (by decide +kernel) (pa_cons (pv 0) (pa_cons (pe_bltn (v := .ty "bool") (u := .type "bool") rfl T.n_bool (by decide +kernel) rfl) pa_nil))) (pe_one (pe_cmpR op_eq (pv 0) (pv 1) (nomark _))))))) pss_nil) (pss_cons (ps_if (pt_val (pe_callB call_isinstT rfl T.n_isinstance (by decide +kernel) (pa_cons (pv 1) (pa_cons (pe_tup (pa_cons (pe_bltn (v := .ty "int") (u := .type "int") rfl T.n_int (by decide +kernel) rfl) (pa_cons (pe_bltn (v := .ty "str") (u := .type "str") rfl T.n_str (by decide +kernel) rfl) pa_nil))) pa_nil)))) (pss_one (ps_ret (pe_and (pe_callB call_isinstT rfl T.n_isinstance (by decide +kernel) (pa_cons (pv 0) (pa_cons (pe_tup (pa_cons (pe_bltn (v := .ty "int") (u := .type "int") rfl T.n_int (by decide +kernel) rfl) (pa_cons (pe_bltn (v := .ty "str") (u := .type "str") rfl T.n_str (by decide +kernel) rfl) pa_nil))) pa_nil))) (pe_and (pe_cmpR op_eq (pe_callB call_isinst rfl T.n_isinstance (by decide +kernel) (pa_cons (pv 0) (pa_cons (pe_bltn (v := .ty "int") (u := .type "int") rfl T.n_int (by decide +kernel) rfl) pa_nil))) (pe_callB call_isinst rfl T.n_isinstance (by decide +kernel) (pa_cons (pv 1) (pa_cons (pe_bltn (v := .ty "int") (u := .type "int") rfl T.n_int (by decide +kernel) rfl) pa_nil))) (nomark _)) (pe_one (pe_cmpR op_eq (pv 0) (pv 1) (nomark _))))))) pss_nil) pss_never))), ?_⟩
  have no : x ≠ y → ∀ H', Same H H' → Q (.bl false) H' := fun hne H' g => by have z := q H' g; rw [dec_ne hne] at z; exact z
  rcases flat_cases fy with rfl | ⟨b, rfl⟩ | ⟨j, rfl⟩ | ⟨z, rfl⟩
  · exact ⟨_, rfl, rfl, _, rfl, iteT ⟨_, rfl, rfl, q H (Same.refl H)⟩⟩
  · refine ⟨_, rfl, rfl, _, rfl, iteF ⟨_, rfl, _, _, _, true, rfl, .bl b, rfl, _, rfl, iteT (iteT ⟨_, rfl, _, _, _, true, rfl, .bl b, rfl, _, rfl, iteT ?_⟩)⟩⟩
    rcases flat_cases fx with rfl | ⟨b', rfl⟩ | ⟨j, rfl⟩ | ⟨z, rfl⟩
    · exact ⟨_, rfl, _, _, _, false, rfl, .non, rfl, _, rfl, iteF (no (by simp) H (Same.refl H))⟩
    · exact ⟨_, rfl, _, _, _, true, rfl, .bl b', rfl, _, rfl, iteT ⟨_, rfl, _, rfl, rfl, q H (Same.refl H)⟩⟩
    · exact ⟨_, rfl, _, _, _, false, rfl, .int j, rfl, _, rfl, iteF (no (by simp) H (Same.refl H))⟩
    · exact ⟨_, rfl, _, _, _, false, rfl, .str z, rfl, _, rfl, iteF (no (by simp) H (Same.refl H))⟩
  · refine ⟨_, rfl, rfl, _, rfl, iteF ⟨_, rfl, _, _, _, false, rfl, .int j, rfl, _, rfl, iteF ?_⟩⟩
    rcases flat_cases fx with rfl | ⟨b', rfl⟩ | ⟨i, rfl⟩ | ⟨z, rfl⟩
    · refine ⟨_, rfl, _, _, _, false, rfl, .non, rfl, _, rfl, iteF ⟨_, rfl, small (n := 2) (by decide), fun tp htp => ⟨_, _, tp, ["int", "str"], true, rfl, upd_same, .int j, rfl, _, rfl, iteT ?_⟩⟩⟩
      refine ⟨_, rfl, small (n := 2) (by decide), fun tp2 htp2 => ⟨_, _, tp2, ["int", "str"], false, rfl, upd_same, .non, rfl, _, rfl, iteF (no (by simp) _ ((same_new htp _).trans (same_new htp2 _)))⟩⟩
    · exact ⟨_, rfl, _, _, _, true, rfl, .bl b', rfl, _, rfl, iteT ⟨_, rfl, _, _, _, false, rfl, .int j, rfl, _, rfl, iteF (no (by simp) H (Same.refl H))⟩⟩
    · refine ⟨_, rfl, _, _, _, false, rfl, .int i, rfl, _, rfl, iteF ⟨_, rfl, small (n := 2) (by decide), fun tp htp => ⟨_, _, tp, ["int", "str"], true, rfl, upd_same, .int j, rfl, _, rfl, iteT ?_⟩⟩⟩
      refine ⟨_, rfl, small (n := 2) (by decide), fun tp2 htp2 => ⟨_, _, tp2, ["int", "str"], true, rfl, upd_same, .int i, rfl, _, rfl, iteT ?_⟩⟩
      exact ⟨_, rfl, _, _, _, true, rfl, .int i, rfl, _, rfl, _, _, _, true, rfl, .int j, rfl, rfl, _, rfl, iteT ⟨_, rfl, _, rfl, rfl, q _ ((same_new htp _).trans (same_new htp2 _))⟩⟩
    · refine ⟨_, rfl, _, _, _, false, rfl, .str z, rfl, _, rfl, iteF ⟨_, rfl, small (n := 2) (by decide), fun tp htp => ⟨_, _, tp, ["int", "str"], true, rfl, upd_same, .int j, rfl, _, rfl, iteT ?_⟩⟩⟩
      refine ⟨_, rfl, small (n := 2) (by decide), fun tp2 htp2 => ⟨_, _, tp2, ["int", "str"], true, rfl, upd_same, .str z, rfl, _, rfl, iteT ?_⟩⟩
      exact ⟨_, rfl, _, _, _, false, rfl, .str z, rfl, _, rfl, _, _, _, true, rfl, .int j, rfl, rfl, _, rfl, iteF (no (by simp) _ ((same_new htp _).trans (same_new htp2 _)))⟩
  · refine ⟨_, rfl, rfl, _, rfl, iteF ⟨_, rfl, _, _, _, false, rfl, .str z, rfl, _, rfl, iteF ?_⟩⟩
    rcases flat_cases fx with rfl | ⟨b', rfl⟩ | ⟨i, rfl⟩ | ⟨z', rfl⟩
    · refine ⟨_, rfl, _, _, _, false, rfl, .non, rfl, _, rfl, iteF ⟨_, rfl, small (n := 2) (by decide), fun tp htp => ⟨_, _, tp, ["int", "str"], true, rfl, upd_same, .str z, rfl, _, rfl, iteT ?_⟩⟩⟩
      refine ⟨_, rfl, small (n := 2) (by decide), fun tp2 htp2 => ⟨_, _, tp2, ["int", "str"], false, rfl, upd_same, .non, rfl, _, rfl, iteF (no (by simp) _ ((same_new htp _).trans (same_new htp2 _)))⟩⟩
    · exact ⟨_, rfl, _, _, _, true, rfl, .bl b', rfl, _, rfl, iteT ⟨_, rfl, _, _, _, false, rfl, .str z, rfl, _, rfl, iteF (no (by simp) H (Same.refl H))⟩⟩
    · refine ⟨_, rfl, _, _, _, false, rfl, .int i, rfl, _, rfl, iteF ⟨_, rfl, small (n := 2) (by decide), fun tp htp => ⟨_, _, tp, ["int", "str"], true, rfl, upd_same, .str z, rfl, _, rfl, iteT ?_⟩⟩⟩
      refine ⟨_, rfl, small (n := 2) (by decide), fun tp2 htp2 => ⟨_, _, tp2, ["int", "str"], true, rfl, upd_same, .int i, rfl, _, rfl, iteT ?_⟩⟩
      exact ⟨_, rfl, _, _, _, true, rfl, .int i, rfl, _, rfl, _, _, _, false, rfl, .str z, rfl, rfl, _, rfl, iteF (no (by simp) _ ((same_new htp _).trans (same_new htp2 _)))⟩
    · refine ⟨_, rfl, _, _, _, false, rfl, .str z', rfl, _, rfl, iteF ⟨_, rfl, small (n := 2) (by decide), fun tp htp => ⟨_, _, tp, ["int", "str"], true, rfl, upd_same, .str z, rfl, _, rfl, iteT ?_⟩⟩⟩
      refine ⟨_, rfl, small (n := 2) (by decide), fun tp2 htp2 => ⟨_, _, tp2, ["int", "str"], true, rfl, upd_same, .str z', rfl, _, rfl, iteT ?_⟩⟩
      exact ⟨_, rfl, _, _, _, false, rfl, .str z', rfl, _, rfl, _, _, _, false, rfl, .str z, rfl, rfl, _, rfl, iteT ⟨_, rfl, _, rfl, rfl, q _ ((same_new htp _).trans (same_new htp2 _))⟩⟩
end

end My

set_option Elab.async false
set_option linter.all false
set_option maxRecDepth 100000
set_option maxHeartbeats 4000000
namespace My
open PySem L2
/-! ### texts as lists of signs -/
theorem str_ext {x y : Str} (h : x.cps.toList = y.cps.toList) : x = y := by
  cases x; cases y
  simp only at h
  rw [Array.toList_inj.mp h]
theorem len_list (x : Str) : x.cps.toList.length = x.length := by simp [Str.length]
theorem q_list : ("'" : Str).cps.toList = [39] := by decide +kernel
theorem starts1 {x y : Str} {d : Nat} (hy : y.cps.toList = [d]) : Txt.startswith x y = (x.cps.toList.head? == some d) := by
  have ly : y.length = 1 := by rw [← len_list, hy]; rfl
  have lx := len_list x
  unfold Txt.startswith
  rw [StrLaws.subAt_eq, hy, ly]
  cases e : x.cps.toList with
  | nil =>
    rw [e] at lx
    have : x.length = 0 := lx.symm
    rw [this]; rfl
  | cons c r =>
    rw [e] at lx
    have : 0 + 1 ≤ x.length := by rw [← lx]; simp
    rw [decide_eq_true this]
    simp
theorem ends1 {x y : Str} {d : Nat} (hy : y.cps.toList = [d]) (hx : 1 ≤ x.length) : Txt.endswith x y = (x.cps.toList[x.length - 1]? == some d) := by
  have ly : y.length = 1 := by rw [← len_list, hy]; rfl
  unfold Txt.endswith
  rw [StrLaws.subAt_eq, hy, ly, decide_eq_true (by omega), Bool.true_and]
  rw [Bool.eq_iff_iff, StrLaws.take1_drop]
  simp
theorem slice_from1 {x : Str} {c : Nat} {r : List Nat} (e : x.cps.toList = c :: r) : (Txt.slice x (some 1) none).cps.toList = r := by
  have z : Txt.slice x (some 1) none = StrLaws.sliceText x (some 1) none := rfl
  rw [z, StrLaws.sliceText_from ⟨by decide, by rw [e, List.length_cons]; omega⟩, e]
  simp
theorem slice_mid {x : Str} (h : 2 ≤ x.length) : (Txt.slice x (some 1) (some (-1))).cps.toList = (x.cps.toList.drop 1).take (x.length - 2) := by
  have z : Txt.slice x (some 1) (some (-1)) = StrLaws.sliceText x (some 1) (some (-1)) := rfl
  have lx := len_list x
  rw [z, StrLaws.sliceText_neg_hi x (some 1) (by decide) (by omega), StrLaws.sliceText_plain ⟨by decide, by omega, by omega⟩]
  have e : (-1 + (x.length : Int) - 1).toNat = x.length - 2 := by omega
  rw [e]
  simp
/-! ### what a text is read as -/
def figs (x : Str) : Str := if (x.cps.toList.head? == some 45) = true then Txt.slice x (some 1) none else x
def figB (f : Str) : Bool := decide (1 ≤ f.length) && (decide (f.length ≤ 30) && f.cps.toList.all isFig)
def head0 (f : Str) : Bool := f.cps.toList.head? == some 48
def numV (x : Str) : Option V := if figB (figs x) = true then (if (head0 (figs x) && !decide (x = "0")) = true then none else (PySem.intText? x).map V.int) else none
def q1 (x : Str) : Bool := Txt.startswith x "'" && Txt.endswith x "'"
def wrdV (x : Str) : Option V := if wordB (Txt.slice x (some 1) (some (-1))) = true then some (.str (Txt.slice x (some 1) (some (-1)))) else none
def rdV (x : Str) : Option V := if x = "yes" then some (.bl true) else if x = "no" then some (.bl false) else if q1 x = true then wrdV x else numV x
theorem all_fig {l : List Nat} (h : l.all isFig = true) : NumText.AllDigits l := by
  intro c hc
  have := List.all_eq_true.mp h c hc
  unfold isFig at this
  simpa using this
/-- what has a minus and figures -/
theorem figs_cases (x : Str) : (∃ r, x.cps.toList = 45 :: r ∧ (figs x).cps.toList = r) ∨ (x.cps.toList.head? ≠ some 45 ∧ figs x = x) := by
  unfold figs
  cases e : x.cps.toList with
  | nil => exact .inr ⟨by simp, by rw [if_neg (by simp)]⟩
  | cons c r =>
    by_cases hc : c = 45
    · subst hc
      exact .inl ⟨r, rfl, by rw [if_pos (by simp)]; exact slice_from1 e⟩
    · exact .inr ⟨by simp [hc], by rw [if_neg (by simp [hc])]⟩
theorem z_list : ("0" : Str).cps.toList = [48] := by decide +kernel
/-! ### written and read again -/
theorem yes_list : ("yes" : Str).cps.toList = [121, 101, 115] := by decide +kernel
theorem no_list : ("no" : Str).cps.toList = [110, 111] := by decide +kernel
theorem ne_head {x y : Str} {c d : Nat} {r s : List Nat} (hx : x.cps.toList = c :: r) (hy : y.cps.toList = d :: s) (h : c ≠ d) : x ≠ y := fun e => by
  rw [e, hy] at hx
  injection hx with hx _
  exact h hx.symm
theorem app_list (x y : Str) : (x ++ y).cps.toList = x.cps.toList ++ y.cps.toList := by
  show (x.cps ++ y.cps).toList = _
  simp
theorem rd_word {w : Str} (h : wordB w = true) : rdV ("'" ++ w ++ "'") = some (.str w) := by
  have e : ("'" ++ w ++ "'" : Str).cps.toList = 39 :: (w.cps.toList ++ [39]) := by
    rw [app_list, app_list, q_list]; rfl
  have l : ("'" ++ w ++ "'" : Str).length = w.length + 2 := by
    rw [← len_list, e, List.length_cons, List.length_append, len_list]; rfl
  generalize ("'" ++ w ++ "'" : Str) = x at e l
  have hs : Txt.slice x (some 1) (some (-1)) = w := by
    apply str_ext
    rw [slice_mid (by omega), e, l]
    have : w.length + 2 - 2 = w.cps.toList.length := by rw [len_list]; omega
    rw [this]
    simp
  have hq : q1 x = true := by
    unfold q1
    rw [starts1 q_list, ends1 q_list (by omega), e, l]
    have : w.length + 2 - 1 = w.cps.toList.length + 1 := by rw [len_list]; omega
    rw [this, List.getElem?_cons_succ, List.getElem?_append_right (Nat.le_refl _)]
    simp
  unfold rdV
  rw [if_neg (ne_head e yes_list (by decide)), if_neg (ne_head e no_list (by decide)), if_pos hq]
  unfold wrdV
  rw [hs, if_pos h]
/-- the figures of a number -/
def dig (m : Nat) : List Nat := (Nat.toDigits 10 m).map Char.toNat
theorem dig_small {m : Nat} (h : m < 10) : dig m = [48 + m] := by
  unfold dig
  rw [Nat.toDigits_of_lt_base h]
  have : ∀ d : Nat, d < 10 → (Nat.digitChar d).toNat = 48 + d := by decide
  rw [List.map_singleton, this m h]
theorem dig_big {m : Nat} (h : 10 ≤ m) : dig m = dig (m / 10) ++ [48 + m % 10] := by
  have hm : m % 10 < 10 := Nat.mod_lt m (by decide)
  have t : Nat.toDigits 10 (m / 10) ++ Nat.toDigits 10 (m % 10) = Nat.toDigits 10 (10 * (m / 10) + m % 10) := Nat.toDigits_append_toDigits (by decide) (by omega) hm
  rw [Nat.div_add_mod] at t
  have e := dig_small hm
  unfold dig at e ⊢
  rw [← t, List.map_append, e]
theorem dig_facts (m : Nat) : ∃ c r, dig m = c :: r ∧ (c = 48 → m = 0) ∧ (dig m).all isFig = true ∧ ∀ k, 1 ≤ k → m < 10 ^ k → (dig m).length ≤ k := by
  induction m using Nat.strongRecOn with
  | _ m ih =>
    by_cases h : m < 10
    · refine ⟨48 + m, [], dig_small h, by omega, ?_, fun k hk _ => ?_⟩
      · rw [dig_small h]
        simp only [List.all_cons, List.all_nil, Bool.and_true]
        unfold isFig
        simp only [Bool.and_eq_true, decide_eq_true_eq]
        omega
      · rw [dig_small h]; simpa using hk
    · obtain ⟨c, r, e, h0, h1, h2⟩ := ih (m / 10) (by omega)
      have e2 := dig_big (m := m) (by omega)
      refine ⟨c, r ++ [48 + m % 10], by rw [e2, e]; rfl, fun z => ?_, ?_, fun k hk hm => ?_⟩
      · have := h0 z; omega
      · rw [e2, List.all_append, h1]
        simp only [List.all_cons, List.all_nil, Bool.and_true, Bool.true_and]
        unfold isFig
        simp only [Bool.and_eq_true, decide_eq_true_eq]
        omega
      · rw [e2, List.length_append, List.length_singleton]
        obtain ⟨k', rfl⟩ : ∃ k', k = k' + 1 := ⟨k - 1, by omega⟩
        rw [Nat.pow_succ] at hm
        have hk' : 1 ≤ k' := by
          cases k' with
          | zero => simp at hm; omega
          | succ n => omega
        have := h2 k' hk' (by omega)
        omega
theorem pos_list (m : Nat) : (Str.ofString (toString ((m : Nat) : Int))).cps.toList = dig m := PySem.W.KIN.signs_num m
theorem neg_list (m : Nat) : (Str.ofString (toString (Int.negSucc m))).cps.toList = 45 :: dig (m + 1) := by
  rw [PyProof.Rows.signs_ofString]
  show (("-" : String) ++ Nat.repr (m + 1)).toList.map Char.toNat = _
  rw [String.toList_append, List.map_append, Nat.toList_repr]
  rfl
theorem rd_num {x : Str} {n : Int} {f : List Nat} {c : Nat} {r : List Nat} (hf : (figs x).cps.toList = f) (e : f = c :: r) (hd : f.all isFig = true) (hl : f.length ≤ 30) (h0 : c = 48 → x = "0") (hq : x.cps.toList.head? ≠ some 39 ∧ x ≠ "yes" ∧ x ≠ "no") (hn : PySem.intText? x = some n) : rdV x = some (.int n) := by
  have l := len_list (figs x)
  rw [hf] at l
  have hB : figB (figs x) = true := by
    unfold figB
    rw [← l, hf, hd, e, decide_eq_true (by simp), decide_eq_true (by rw [← e]; exact hl)]
    rfl
  unfold rdV
  rw [if_neg hq.2.1, if_neg hq.2.2]
  have hq1 : q1 x = false := by
    unfold q1
    rw [starts1 q_list, beq_eq_false_iff_ne.mpr hq.1, Bool.false_and]
  rw [hq1, if_neg (by decide)]
  unfold numV
  rw [if_pos hB, hn]
  have hz : (head0 (figs x) && !decide (x = "0")) = false := by
    unfold head0
    rw [hf, e]
    by_cases hc : c = 48
    · rw [decide_eq_true (h0 hc)]; simp
    · have : ((c :: r).head? == some 48) = false := by simpa using hc
      rw [this, Bool.false_and]
  rw [hz, if_neg (by decide)]
  rfl
theorem fig_range {c : Nat} {r : List Nat} (h : (c :: r).all isFig = true) : 48 ≤ c ∧ c ≤ 57 := (all_fig h).head
theorem rd_int {i : Int} (h0 : -(10 ^ 29) < i) (h1 : i < 10 ^ 29) : rdV (Str.ofString (toString i)) = some (.int i) ∧ (Str.ofString (toString i)).length ≤ 30 := by
  cases i with
  | ofNat m =>
    have e := pos_list m
    obtain ⟨c, r, ec, hc, hd, hl⟩ := dig_facts m
    have hl := hl 29 (by decide) (by have h1' : (m : Int) < 10 ^ 29 := h1; omega)
    have l := len_list (Str.ofString (toString ((m : Nat) : Int)))
    rw [e] at l
    have v : NumText.digitsVal (dig m) = m := PySem.W.KIN.val_back m
    show rdV (Str.ofString (toString ((m : Nat) : Int))) = _ ∧ (Str.ofString (toString ((m : Nat) : Int))).length ≤ 30
    generalize hx : Str.ofString (toString ((m : Nat) : Int)) = x at e l ⊢
    have hcr := fig_range (ec ▸ hd)
    have e' : x.cps.toList = c :: r := e.trans ec
    have hfx : figs x = x := by
      rcases figs_cases x with ⟨r', z, _⟩ | ⟨_, z⟩
      · rw [e'] at z; injection z with z _; omega
      · exact z
    refine ⟨rd_num (f := dig m) (by rw [hfx]; exact e) ec hd (by omega) (fun z => ?_) ⟨by rw [e']; simp; omega, ne_head e' yes_list (by omega), ne_head e' no_list (by omega)⟩ ?_, by omega⟩
    · have hm := hc z
      subst hm
      apply str_ext
      rw [e, z_list]
      decide +kernel
    · rw [intText_digits (x := x) (by rw [e]; exact all_fig hd) (by rw [e']; simp) (by omega), e, v]
      rfl
  | negSucc m =>
    have e := neg_list m
    obtain ⟨c, r, ec, hc, hd, hl⟩ := dig_facts (m + 1)
    have hl := hl 29 (by decide) (by have h0' : -(10 ^ 29 : Int) < Int.negSucc m := h0; omega)
    have l := len_list (Str.ofString (toString (Int.negSucc m)))
    rw [e, List.length_cons] at l
    have v : NumText.digitsVal (dig (m + 1)) = m + 1 := PySem.W.KIN.val_back (m + 1)
    generalize hx : Str.ofString (toString (Int.negSucc m)) = x at e l ⊢
    have hcr := fig_range (ec ▸ hd)
    have hfx : (figs x).cps.toList = dig (m + 1) := by
      rcases figs_cases x with ⟨r', z, z2⟩ | ⟨z, _⟩
      · rw [e] at z; injection z with _ z; rw [z2, z]
      · rw [e] at z; exact absurd rfl z
    refine ⟨rd_num hfx ec hd (by omega) (fun z => ?_) ⟨by rw [e]; simp, ne_head e yes_list (by omega), ne_head e no_list (by omega)⟩ ?_, by omega⟩
    · have hm := hc z; omega
    · rw [intText_neg (x := x) e (all_fig hd) (by rw [ec]; simp) (by omega), v]
      rfl
theorem rd_yes : rdV "yes" = some (.bl true) := by unfold rdV; rw [if_pos rfl]
theorem rd_no : rdV "no" = some (.bl false) := by unfold rdV; rw [if_neg (by decide +kernel), if_pos rfl]

section
variable {P : Program} {w : World} {K : PySem.W.Frag} {mg : Str → Option Value} {base : Heap} {a : Adr}
/-- what is written -/
def vtx : V → Str
  | .bl b => if b then "yes" else "no"
  | .int i => Str.ofString (toString i)
  | .str x => "'" ++ x ++ "'"
  | _ => ""
theorem log_of {i : Int} (h0 : -(10 ^ 29) < i) (h1 : i < 10 ^ 29) : i.natAbs.log2 < 1920 := by
  by_cases h : i.natAbs = 0
  · rw [h]; decide
  · rw [Nat.log2_lt h]
    have : i.natAbs < 10 ^ 29 := by omega
    exact Nat.lt_of_lt_of_le this (Nat.le_trans (show (10 : Nat) ^ 29 ≤ 2 ^ 100 by decide) (Nat.pow_le_pow_right (by decide) (by decide)))
theorem word_len {x : Str} (h : wordB x = true) : x.length ≤ 12 := by
  unfold wordB sz at h
  simp only [Bool.and_eq_true, decide_eq_true_eq] at h
  exact h.1.2
def spVT : Sp := fun vs H Q _ => ∃ v, vs = [v] ∧ goodV v ∧ ∀ H', Same H H' → Q (.str (vtx v)) H'
theorem ok_value_text (T : Txt K mg a) : FnOk P w K mg base CX0 1 a.f_value_text a.d_value_text ["value"] spVT := by
  refine T.F_value_text.ok sc_value_text (fun vs H Q E h => ?_) (fun cdv A outer s H vs Q E hr h => ?_)
  · obtain ⟨x, rfl, _⟩ := h; rfl
  obtain ⟨v, rfl, hv, q⟩ := h
  refine ⟨_, (pss_cons (ps_if (pt_val (pe_callB call_isinst rfl T.n_isinstance (by decide +kernel) (pa_cons (pv 0) (pa_cons (pe_bltn (v := .ty "bool") (u := .type "bool") rfl T.n_bool (by decide +kernel) rfl) pa_nil)))) (pss_one (ps_ret (pe_ifExp (pt_truth (pv 0) (fun _ => rfl)) pe_str pe_str))) pss_nil) (pss_cons (ps_if (pt_val (pe_callB call_isinst rfl T.n_isinstance (by decide +kernel) (pa_cons (pv 0) (pa_cons (pe_bltn (v := .ty "int") (u := .type "int") rfl T.n_int (by decide +kernel) rfl) pa_nil)))) (pss_one (ps_ret (pe_callTy call_str_int rfl T.n_str (by decide +kernel) (pa_cons (pv 0) pa_nil)))) pss_nil) (pss_one (ps_ret (pe_fstr (pj_cons pe_str (pj_cons (pe_fv (pv 0)) (pj_cons pe_str pj_nil)))))))), ?_⟩
  rcases hv with ⟨b, rfl⟩ | ⟨i, rfl, i0, i1⟩ | ⟨x, rfl, hx⟩
  · refine ⟨_, rfl, _, _, _, true, rfl, .bl b, rfl, _, rfl, iteT ?_⟩
    cases b
    · exact ⟨_, rfl, _, rfl, iteF (q H (Same.refl H))⟩
    · exact ⟨_, rfl, _, rfl, iteT (q H (Same.refl H))⟩
  · exact ⟨_, rfl, _, _, _, false, rfl, .int i, rfl, _, rfl, iteF ⟨_, rfl, _, _, _, true, rfl, .int i, rfl, _, rfl, iteT ⟨_, rfl, i, rfl, log_of i0 i1, q H (Same.refl H)⟩⟩⟩
  · have hl := word_len hx
    have lq : ("'" : Str).length = 1 := by decide +kernel
    have l0 : Str.empty.length = 0 := by decide +kernel
    have l1 : (Str.empty ++ "'" : Str).length = 1 := by rw [cat_len, lq, l0]
    have l2 : (Str.empty ++ "'" ++ x : Str).length = 1 + x.length := by rw [cat_len, l1]
    have l3 : (Str.empty ++ "'" ++ x ++ "'" : Str).length = 1 + x.length + 1 := by rw [cat_len, l2, lq]
    refine ⟨_, rfl, _, _, _, false, rfl, .str x, rfl, _, rfl, iteF ⟨_, rfl, _, _, _, false, rfl, .str x, rfl, _, rfl, iteF ?_⟩⟩
    refine ⟨_, rfl, by rw [l1]; exact small (by decide), _, rfl, .inl ⟨x, rfl, small (by omega), _, rfl, by rw [l2]; exact small (by omega), _, rfl, by rw [l3]; exact small (by omega), by rw [l3]; exact small (by omega), ?_⟩⟩
    rw [Str.empty_append]
    exact q H (Same.refl H)
theorem ok_L_value_text (T : Txt K mg a) : FnOk P w K mg base CX0 1 a.f_L_value_text a.d_L_value_text ["_law_value_here"] spVT := by
  refine T.F_L_value_text.ok sc_L_value_text (fun vs H Q E h => ?_) (fun cdv A outer s H vs Q E hr h => ?_)
  · obtain ⟨x, rfl, _⟩ := h; rfl
  obtain ⟨v, rfl, hv, q⟩ := h
  refine ⟨_, (pss_cons (ps_if (pt_val (pe_callB call_isinst rfl T.n_isinstance (by decide +kernel) (pa_cons (pv 0) (pa_cons (pe_bltn (v := .ty "bool") (u := .type "bool") rfl T.n_bool (by decide +kernel) rfl) pa_nil)))) (pss_one (ps_ret (pe_ix ix_list (pe_lst (pa_cons pe_str (pa_cons pe_str pa_nil))) (pe_callTy call_int1 rfl T.n_int (by decide +kernel) (pa_cons (pv 0) pa_nil)) (fun _ _ => rfl)))) pss_nil) (pss_one (ps_ret (pe_ifExp (pt_val (pe_callB call_isinst rfl T.n_isinstance (by decide +kernel) (pa_cons (pv 0) (pa_cons (pe_bltn (v := .ty "int") (u := .type "int") rfl T.n_int (by decide +kernel) rfl) pa_nil)))) (pe_callTy call_str_int rfl T.n_str (by decide +kernel) (pa_cons (pv 0) pa_nil)) (pe_op op_add_str (pe_op op_add_str pe_str (pv 0)) pe_str))))), ?_⟩
  rcases hv with ⟨b, rfl⟩ | ⟨i, rfl, i0, i1⟩ | ⟨x, rfl, hx⟩
  · refine ⟨_, rfl, _, _, _, true, rfl, .bl b, rfl, _, rfl, iteT ?_⟩
    refine ⟨small (n := 2) (by decide), fun p hp => ⟨_, rfl, .inr ⟨b, rfl, p, _, _, _, rfl, rfl, SqL.of upd_same, ?_, q _ (same_new hp _)⟩⟩⟩
    cases b
    · exact atI_nat (j := 0) rfl
    · exact atI_nat (j := 1) rfl
  · exact ⟨_, rfl, _, _, _, false, rfl, .int i, rfl, _, rfl, iteF ⟨_, rfl, _, _, _, true, rfl, .int i, rfl, _, rfl, iteT ⟨_, rfl, i, rfl, log_of i0 i1, q H (Same.refl H)⟩⟩⟩
  · have hl := word_len hx
    have lq : ("'" : Str).length = 1 := by decide +kernel
    refine ⟨_, rfl, _, _, _, false, rfl, .str x, rfl, _, rfl, iteF ⟨_, rfl, _, _, _, false, rfl, .str x, rfl, _, rfl, iteF ?_⟩⟩
    exact ⟨_, rfl, _, _, rfl, rfl, small (by rw [lq]; omega), _, _, rfl, rfl, small (by rw [cat_len, lq]; omega), q H (Same.refl H)⟩
end
section
variable {P : Program} {w : World} {K : PySem.W.Frag} {mg : Str → Option Value} {base : Heap} {a : Adr}
theorem vtx_len {v : V} (h : goodV v) : 1 ≤ (vtx v).length ∧ (vtx v).length ≤ 30 ∧ rdV (vtx v) = some v ∧ flatV v = true := by
  rcases h with ⟨b, rfl⟩ | ⟨i, rfl, i0, i1⟩ | ⟨x, rfl, hx⟩
  · cases b
    · exact ⟨by decide +kernel, by decide +kernel, rd_no, rfl⟩
    · exact ⟨by decide +kernel, by decide +kernel, rd_yes, rfl⟩
  · obtain ⟨h1, h2⟩ := rd_int i0 i1
    refine ⟨?_, h2, h1, rfl⟩
    by_cases h : 1 ≤ (vtx (.int i)).length
    · exact h
    · have e : vtx (.int i) = "" := str_ext (by
        have l := len_list (vtx (.int i))
        rw [List.length_eq_zero_iff.mp (show (vtx (.int i)).cps.toList.length = 0 by omega)]
        decide +kernel)
      have h1' : rdV (vtx (.int i)) = some (.int i) := h1
      rw [e] at h1'
      exact absurd h1' (by rw [show rdV "" = none by decide +kernel]; simp)
  · have hl := word_len hx
    have lq : ("'" : Str).length = 1 := by decide +kernel
    have l : (vtx (.str x)).length = 1 + x.length + 1 := by show ("'" ++ x ++ "'" : Str).length = _; rw [cat_len, cat_len, lq]
    exact ⟨by omega, by omega, rd_word hx, rfl⟩
end
end My

set_option Elab.async false
set_option linter.all false
set_option maxRecDepth 100000
set_option maxHeartbeats 4000000
namespace My
open PySem L2
theorem flat_strs (ss : List Str) : (ss.map V.str).all flatV = true := by
  rw [List.all_eq_true]
  intro x hx
  obtain ⟨s, _, rfl⟩ := List.mem_map.mp hx
  rfl
/-! ### terms -/
inductive Tm
  | lit (s : Str) (v : V)
  | nam (s n : Str)
  | neg (t : Tm)
  | bin (s : Str) (l r : Tm)
abbrev litS : List Str := ["number", "word", "flag"]
abbrev namS : List Str := ["field", "has"]
abbrev cmpS : List Str := ["=", "!=", "<", "<=", ">", ">="]
abbrev binS : List Str := ["or", "and", "=", "!=", "<", "<=", ">", ">=", "+", "-", "*"]
def Tm.hd : Tm → Str
  | .lit s _ => s
  | .nam s _ => s
  | .neg _ => "not"
  | .bin s _ _ => s
def Tm.ok : Tm → Prop
  | .lit s v => s ∈ litS ∧ goodV v
  | .nam s n => s ∈ namS ∧ n.length ≤ 100
  | .neg t => t.ok
  | .bin s l r => s ∈ binS ∧ l.ok ∧ r.ok
def Tm.deep : Tm → Nat
  | .lit _ _ => 0
  | .nam _ _ => 0
  | .neg t => t.deep + 1
  | .bin _ l r => max l.deep r.deep + 1
def Tm.size : Tm → Nat
  | .lit _ _ => 1
  | .nam _ _ => 1
  | .neg t => t.size + 1
  | .bin _ l r => l.size + r.size + 1
theorem Tm.size_le (t : Tm) : t.size < 2 ^ (t.deep + 1) := by
  induction t with
  | lit s v => show 1 < 2 ^ 1; decide
  | nam s v => show 1 < 2 ^ 1; decide
  | neg t ih =>
    show t.size + 1 < 2 ^ (t.deep + 1 + 1)
    rw [Nat.pow_succ]; omega
  | bin s l r i1 i2 =>
    show l.size + r.size + 1 < 2 ^ (max l.deep r.deep + 1 + 1)
    have m1 : 2 ^ (l.deep + 1) ≤ 2 ^ (max l.deep r.deep + 1) := Nat.pow_le_pow_right (by decide) (by omega)
    have m2 : 2 ^ (r.deep + 1) ≤ 2 ^ (max l.deep r.deep + 1) := Nat.pow_le_pow_right (by decide) (by omega)
    have p : 2 ^ (max l.deep r.deep + 1 + 1) = 2 * 2 ^ (max l.deep r.deep + 1) := by rw [Nat.pow_succ]; omega
    omega
/-- as it lies in the heap -/
def TmAt (H : Hp) : V → Tm → Prop
  | u, .lit s v => ∃ p, u = .ref p ∧ H p = some (.tup [.str s, v])
  | u, .nam s n => ∃ p, u = .ref p ∧ H p = some (.tup [.str s, .str n])
  | u, .neg t => ∃ p w, u = .ref p ∧ H p = some (.tup [.str "not", w]) ∧ TmAt H w t
  | u, .bin s l r => ∃ p w1 w2, u = .ref p ∧ H p = some (.tup [.str s, w1, w2]) ∧ TmAt H w1 l ∧ TmAt H w2 r
theorem TmAt.keep {H H' : Hp} (g : ∀ b xs, H b = some (.tup xs) → H' b = some (.tup xs)) : ∀ {t : Tm} {u : V}, TmAt H u t → TmAt H' u t
  | .lit _ _, _, ⟨p, e, h⟩ => ⟨p, e, g _ _ h⟩
  | .nam _ _, _, ⟨p, e, h⟩ => ⟨p, e, g _ _ h⟩
  | .neg _, _, ⟨p, w, e, h, r⟩ => ⟨p, w, e, g _ _ h, r.keep g⟩
  | .bin _ _ _, _, ⟨p, w1, w2, e, h, r1, r2⟩ => ⟨p, w1, w2, e, g _ _ h, r1.keep g, r2.keep g⟩
theorem TmAt.same {H H' : Hp} {t : Tm} {u : V} (h : TmAt H u t) (g : Same H H') : TmAt H' u t := h.keep fun b _ e => g b _ e
theorem TmAt.ev {d : Addr} {H H' : Hp} {t : Tm} {u : V} (h : TmAt H u t) (hD : Drw H d) (g : Ev d H H') : TmAt H' u t := h.keep fun b _ e => g.same b _ (fun z => by
  obtain ⟨xs, q⟩ := hD.some
  rw [z, q] at e; cases e) e
/-- a thing's tuple: its sign first, then what is told of it -/
theorem TmAt.top {H : Hp} {t : Tm} {u : V} (h : TmAt H u t) : ∃ p xs, u = .ref p ∧ H p = some (.tup (.str t.hd :: xs)) := by
  cases t with
  | lit s v => obtain ⟨p, e, q⟩ := h; exact ⟨p, _, e, q⟩
  | nam s n => obtain ⟨p, e, q⟩ := h; exact ⟨p, _, e, q⟩
  | neg t => obtain ⟨p, w, e, q, _⟩ := h; exact ⟨p, _, e, q⟩
  | bin s l r => obtain ⟨p, w1, w2, e, q, _⟩ := h; exact ⟨p, _, e, q⟩
abbrev allS : List Str := ["number", "word", "flag", "field", "has", "not", "or", "and", "=", "!=", "<", "<=", ">", ">=", "+", "-", "*"]
theorem Tm.hd_in {t : Tm} (h : t.ok) : t.hd ∈ allS := by
  have l1 : ∀ s ∈ litS, s ∈ allS := by decide +kernel
  have l2 : ∀ s ∈ namS, s ∈ allS := by decide +kernel
  have l3 : ∀ s ∈ binS, s ∈ allS := by decide +kernel
  cases t with
  | lit s v => exact l1 s h.1
  | nam s n => exact l2 s h.1
  | neg t => show ("not" : Str) ∈ allS; decide +kernel
  | bin s l r => exact l3 s h.1
theorem line_of {n : Nat} (h : n ≤ 9000000) : n ≤ sizeLine := by rw [sizeLine_eq]; omega
theorem fn_false {P : Program} {w : World} {K : PySem.W.Frag} {mg : Str → Option Value} {base : Heap} {CX : CXT} {k : Nat} {f : Addr} {fd : FuncData} {ps : List Str} {sp : Sp} (h : ∀ vs H Q E, ¬ sp vs H Q E) : FnOk P w K mg base CX k f fd ps sp :=
  ⟨fun vs H Q E z => (h _ _ _ _ z).elim, fun _ _ _ _ _ _ _ _ _ _ _ _ _ z => (h _ _ _ _ z).elim⟩
/-- a place that was free may be written -/
theorem same_upd {H H2 : Hp} {p : Addr} {o : HO} (g : Same H H2) (h : H p = none) : Same H (upd H2 p o) := fun b u q => by
  have hb : b ≠ p := fun z => by rw [z, h] at q; cases q
  rw [upd_ne hb]; exact g b u q
/-- a comprehension over a list, with one test -/
theorem comp_listF {K : PySem.W.Frag} {a : Addr} {xs : List V} {im : List (Option Nat)} {σ : St} {H : Hp} {Q : VK} {tc : TT} {te : TE} (R : Nat → List V → Hp → Prop) (h0 : R 0 [] H)
    (hl : ∀ i ys H', i ≤ xs.length → R i ys H' → ys.length ≤ sizeLine ∧ SqL K H' a xs)
    (he : ∀ i x ys H' (N : List V → Hp → Prop), xs[i]? = some x → R i ys H' → (∀ ys' H'', R (i + 1) ys' H'' → N ys' H'') →
      tc ((inner im σ).set 0 (some x)) H' fun b H3 => if b = true then te ((inner im σ).set 0 (some x)) H3 fun y H4 => N (ys ++ [y]) H4 else N ys H3)
    (hq : ∀ ys H', R xs.length ys H' → ∀ D, H' D = none → Q (.ref D) (upd H' D (.lst ys))) : CompAt im (gName 0) tc te σ Q (Itl K a) H := by
  refine ⟨fun i m ys H' => m = xs.length - i ∧ i ≤ xs.length ∧ R i ys H', ⟨xs.length, by simp, Nat.zero_le _, h0⟩, ?_⟩
  rintro i m ys H' ⟨rfl, hi, r⟩
  have hz := hl i ys H' hi r
  refine ⟨hz.1, ?_⟩
  by_cases hlt : i < xs.length
  · refine .inr ⟨⟨xs, xs[i], hz.2, by simp [hlt]⟩, fun x H'' y => ?_⟩
    obtain ⟨e, y⟩ := y
    subst e
    exact he i x ys _ (fun ys' H5 => ∃ m', m' < xs.length - i ∧ m' = xs.length - (i + 1) ∧ i + 1 ≤ xs.length ∧ R (i + 1) ys' H5) (y xs hz.2) r fun ys' H5 z => ⟨xs.length - (i + 1), by omega, rfl, hlt, z⟩
  · have e : i = xs.length := by omega
    subst e
    exact .inl ⟨⟨xs, hz.2, Nat.le_refl _⟩, hq ys H' r⟩

/-! ### names in a term -/
/-- the parts of a term -/
def Tm.kids : Tm → List Tm
  | .lit _ _ => []
  | .nam _ _ => []
  | .neg t => [t]
  | .bin _ l r => [l, r]
/-- things and the terms that they are -/
def TmsAt (H : Hp) : List V → List Tm → Prop
  | [], [] => True
  | u :: us, t :: ts => TmAt H u t ∧ TmsAt H us ts
  | _, _ => False
theorem TmsAt.same {H H' : Hp} (g : Same H H') : ∀ {us : List V} {ts : List Tm}, TmsAt H us ts → TmsAt H' us ts
  | [], [], _ => trivial
  | _ :: _, _ :: _, h => ⟨h.1.same g, h.2.same g⟩
theorem TmsAt.keep {H H' : Hp} (g : ∀ b xs, H b = some (.tup xs) → H' b = some (.tup xs)) : ∀ {us : List V} {ts : List Tm}, TmsAt H us ts → TmsAt H' us ts
  | [], [], _ => trivial
  | _ :: _, _ :: _, h => ⟨h.1.keep g, h.2.keep g⟩
theorem TmsAt.len {H : Hp} : ∀ {us : List V} {ts : List Tm}, TmsAt H us ts → us.length = ts.length
  | [], [], _ => rfl
  | _ :: _, _ :: _, h => by rw [List.length_cons, List.length_cons, h.2.len]
theorem TmsAt.get {H : Hp} : ∀ {us : List V} {ts : List Tm} {i : Nat} {u : V}, TmsAt H us ts → us[i]? = some u → ∃ t, ts[i]? = some t ∧ TmAt H u t
  | u :: _, t :: _, 0, _, h, e => by cases e; exact ⟨t, rfl, h.1⟩
  | _ :: _, _ :: _, i + 1, _, h, e => h.2.get (i := i) (by simpa using e)
  | [], _, i, _, _, e => by simp at e
theorem TmsAt.append {H : Hp} : ∀ {us us' : List V} {ts ts' : List Tm}, TmsAt H us ts → TmsAt H us' ts' → TmsAt H (us ++ us') (ts ++ ts')
  | [], _, [], _, _, h => h
  | _ :: _, _, _ :: _, _, h, h' => ⟨h.1, h.2.append h'⟩
theorem TmsAt.reverse {H : Hp} : ∀ {us : List V} {ts : List Tm}, TmsAt H us ts → TmsAt H us.reverse ts.reverse
  | [], [], _ => trivial
  | u :: us, t :: ts, h => by
    rw [List.reverse_cons, List.reverse_cons]
    exact h.2.reverse.append ⟨h.1, trivial⟩
theorem TmsAt.drop {H : Hp} {us : List V} {ts : List Tm} {u : V} {t : Tm} (h : TmsAt H (us ++ [u]) (ts ++ [t])) : TmsAt H us ts ∧ TmAt H u t := by
  have h' := h.reverse
  rw [List.reverse_append, List.reverse_append] at h'
  have h2 : TmAt H u t ∧ TmsAt H us.reverse ts.reverse := h'
  have h3 := h2.2.reverse
  rw [List.reverse_reverse, List.reverse_reverse] at h3
  exact ⟨h3, h2.1⟩
/-- the tuple of a term: its sign, then for a term with parts these -/
theorem TmAt.kidsAt {H : Hp} {t : Tm} {u : V} (h : TmAt H u t) (hk : t.kids ≠ []) : ∃ p ws, u = .ref p ∧ H p = some (.tup (.str t.hd :: ws)) ∧ TmsAt H ws t.kids := by
  cases t with
  | lit s v => exact absurd rfl hk
  | nam s n => exact absurd rfl hk
  | neg t => obtain ⟨p, w, e, q, h1⟩ := h; exact ⟨p, [w], e, q, h1, trivial⟩
  | bin s l r => obtain ⟨p, w1, w2, e, q, h1, h2⟩ := h; exact ⟨p, [w1, w2], e, q, h1, h2, trivial⟩
theorem cut1 (v w : V) (ws : List V) : cutV (v :: w :: ws) (some 1) none = w :: ws := by
  unfold cutV HT.sIx
  simp
theorem cut1_ok (v w : V) (ws : List V) : ¬ (HT.sIx (v :: w :: ws).length 0 (some 1) = 0 ∧ HT.sIx (v :: w :: ws).length (v :: w :: ws).length none = (v :: w :: ws).length) := by
  unfold HT.sIx
  simp
section
variable {P : Program} {w : World} {K : PySem.W.Frag} {mg : Str → Option Value} {base : Heap} {a : Adr}
theorem size9 {t : Tm} (h : t.deep < 9) : t.size ≤ 512 := by
  have := t.size_le
  have m : 2 ^ (t.deep + 1) ≤ 2 ^ 9 := Nat.pow_le_pow_right (by decide) (by omega)
  have e : 2 ^ 9 = 512 := by decide
  omega
theorem kid_ok {t k : Tm} (h : t.ok) (hk : k ∈ t.kids) : k.ok ∧ k.deep < t.deep := by
  cases t with
  | lit s v => cases hk
  | nam s v => cases hk
  | neg t =>
    have e : k = t := by simpa [Tm.kids] using hk
    subst e
    exact ⟨h, Nat.lt_succ_self _⟩
  | bin s l r =>
    have e : k = l ∨ k = r := by simpa [Tm.kids] using hk
    rcases e with e | e
    · subst e; exact ⟨h.2.1, Nat.lt_succ_of_le (Nat.le_max_left _ _)⟩
    · subst e; exact ⟨h.2.2, Nat.lt_succ_of_le (Nat.le_max_right _ _)⟩
end

/-! ### the program's own way -/
/-- a term and all in it, right ones first -/
def Tm.pre : Tm → List Tm
  | .lit s v => [.lit s v]
  | .nam s n => [.nam s n]
  | .neg t => .neg t :: t.pre
  | .bin s l r => .bin s l r :: (r.pre ++ l.pre)
def pres (ts : List Tm) : List Tm := ts.reverse.flatMap Tm.pre
theorem pre_len : ∀ t : Tm, t.pre.length = t.size
  | .lit _ _ => rfl
  | .nam _ _ => rfl
  | .neg t => by show t.pre.length + 1 = t.size + 1; rw [pre_len t]
  | .bin _ l r => by show (r.pre ++ l.pre).length + 1 = l.size + r.size + 1; rw [List.length_append, pre_len l, pre_len r]; omega
theorem pre_cons (t : Tm) : t.pre = t :: pres t.kids := by
  cases t with
  | lit s v => rfl
  | nam s n => rfl
  | neg t => show Tm.neg t :: t.pre = Tm.neg t :: ([t].reverse.flatMap Tm.pre); simp
  | bin s l r => show Tm.bin s l r :: (r.pre ++ l.pre) = Tm.bin s l r :: ([l, r].reverse.flatMap Tm.pre); simp
theorem pres_push (ts us : List Tm) : pres (ts ++ us) = pres us ++ pres ts := by
  unfold pres
  rw [List.reverse_append, List.flatMap_append]
theorem pres_one (t : Tm) : pres [t] = t.pre := by
  unfold pres
  simp
theorem Tm.pre_ok : ∀ {t : Tm}, t.ok → ∀ k ∈ t.pre, k.ok
  | .lit s v, h, k, hk => by
    have e : k = .lit s v := by simpa [Tm.pre] using hk
    subst e; exact h
  | .nam s n, h, k, hk => by
    have e : k = .nam s n := by simpa [Tm.pre] using hk
    subst e; exact h
  | .neg t, h, k, hk => by
    rcases List.mem_cons.mp hk with e | hk
    · subst e; exact h
    · exact Tm.pre_ok (t := t) h k hk
  | .bin s l r, h, k, hk => by
    rcases List.mem_cons.mp hk with e | hk
    · subst e; exact h
    · rcases List.mem_append.mp hk with hk | hk
      · exact Tm.pre_ok (t := r) h.2.2 k hk
      · exact Tm.pre_ok (t := l) h.2.1 k hk
abbrev leafS : List Str := ["number", "word", "flag", "field", "has"]
theorem leaf_in : ∀ s ∈ allS, inV (.str s) (leafS.map V.str) = decide (s ∈ leafS) := by decide +kernel
theorem lit_leaf : ∀ s ∈ litS, s ∈ leafS := by decide +kernel
theorem nam_leaf : ∀ s ∈ namS, s ∈ leafS := by decide +kernel
theorem bin_leaf : ∀ s ∈ binS, s ∉ leafS := by decide +kernel
theorem leaf_kids {t : Tm} (h : t.ok) : t.hd ∈ leafS ↔ t.kids = [] := by
  cases t with
  | lit s v => exact ⟨fun _ => rfl, fun _ => lit_leaf s h.1⟩
  | nam s n => exact ⟨fun _ => rfl, fun _ => nam_leaf s h.1⟩
  | neg t => exact ⟨fun z => absurd z (by show ("not" : Str) ∉ leafS; decide +kernel), fun z => by simp [Tm.kids] at z⟩
  | bin s l r => exact ⟨fun z => absurd z (bin_leaf s h.1), fun z => by simp [Tm.kids] at z⟩
section
variable {P : Program} {w : World} {K : PySem.W.Frag} {mg : Str → Option Value} {base : Heap} {a : Adr}
def spParts : Sp := fun vs H Q _ => ∃ v t, vs = [v] ∧ TmAt H v t ∧ t.ok ∧ t.size ≤ 100000 ∧ ∀ l us H', H l = none → Same H H' → H' l = some (.lst us) → TmsAt H' us t.pre.reverse → Q (.ref l) H'
theorem ok_parts_in (T : Txt K mg a) : FnOk P w K mg base CX0 1 a.f_parts_in a.d_parts_in ["term"] spParts := by
  refine T.F_parts_in.ok sc_parts_in (fun vs H Q E h => ?_) (fun cdv A outer s H vs Q E hr h => ?_)
  · obtain ⟨_, _, rfl, _⟩ := h; rfl
  obtain ⟨v, t, rfl, ht, hk, hsz, q⟩ := h
  refine ⟨_, (pss_cons (ps_set (i := 1) sc_parts_in.nd rfl (by first | exact Or.inl rfl | exact Or.inr rfl) (pe_lst (pa_cons (pv 0) pa_nil))) (pss_cons (ps_set (i := 2) sc_parts_in.nd rfl (by first | exact Or.inl rfl | exact Or.inr rfl) (pe_lst pa_nil)) (pss_cons (ps_while PassesOwn.never (pt_truth (pv 1) (fun _ => rfl)) (pss_cons (ps_set (i := 3) sc_parts_in.nd rfl (by first | exact Or.inl rfl | exact Or.inr rfl) (pe_bm0 PySem.F.plainAttrs_list PySem.F.slot_list_pop PySem.F.type_list_pop mt_pop (pv 1))) (pss_cons (ps_expr (pe_bm PySem.F.plainAttrs_list PySem.F.slot_list_append PySem.F.type_list_append mt_append (pv 2) (pa_cons (pv 3) pa_nil))) (pss_one (ps_if (pt_cmpR op_notIn_seq (pe_ix ix_tup (pv 3) pe_int (fun _ _ => rfl)) (pe_glob rfl T.g_LEAVES.1 T.g_LEAVES.2) (by with_unfolding_all rfl)) (pss_one (ps_expr (pe_bm PySem.F.plainAttrs_list PySem.F.slot_list_extend PySem.F.type_list_extend mt_extT (pv 1) (pa_cons (pe_slice sl_tup (pv 3) (po_some pe_int) po_none) pa_nil)))) pss_nil))))) (pss_one (ps_ret (pe_rev (pv 2))))))), ?_⟩
  refine ⟨_, rfl, small (n := 1) (by decide), fun wa hwa => ⟨small (n := 0) (by decide), fun pa hpa => ?_⟩⟩
  have gw := same_new hwa (.lst [v])
  have gp := same_new hpa (.lst [])
  have hwp : wa ≠ pa := ne_of_none upd_same hpa
  have hpa0 : H pa = none := gw.free hpa
  let Iv : St → Hp → Prop := fun σ H' => ∃ s3 us ts vs ps, σ = [some v, some (.ref wa), some (.ref pa), s3] ∧ Same H H' ∧ H' wa = some (.lst us) ∧ H' pa = some (.lst vs) ∧ TmsAt H us ts ∧ TmsAt H vs ps ∧ (∀ k ∈ ts, k.ok) ∧ ps ++ pres ts = t.pre
  let mu : St → Hp → Nat := fun _ H' => match H' pa with
    | some (.lst vs) => t.size - vs.length
    | _ => 0
  dsimp only [gName, tSeq]
  refine while_by Iv mu ⟨_, [v], [t], [], [], rfl, gw.trans gp, gp _ _ upd_same, upd_same, ⟨ht, trivial⟩, trivial, fun k hk' => by
    have e : k = t := by simpa using hk'
    subst e; exact hk, by rw [List.nil_append, pres_one]⟩ (fun σ H' hR => ?_) (fun σ H' Q1 Q2 hm hq => ?_)
  · obtain ⟨s3, us, ts, vs, ps, rfl, g, hw, hp, hus, hvs, hok, hpre⟩ := hR
    refine ⟨_, rfl, _, .inl ⟨us, SqL.of hw, rfl⟩, ?_⟩
    have hvl := hvs.len
    have hul := hus.len
    have hpl : ps.length + (pres ts).length = t.size := by rw [← pre_len, ← hpre, List.length_append]
    refine ite2 (fun kc => ?_) (fun kc => ?_)
    · have hne : us ≠ [] := fun z => by subst z; cases kc
      obtain ⟨us0, u, rfl⟩ : ∃ us0 u, us = us0 ++ [u] := ⟨us.dropLast, us.getLast hne, (List.dropLast_concat_getLast hne).symm⟩
      have hne2 : ts ≠ [] := fun z => by subst z; simp at hul
      obtain ⟨ts0, k, rfl⟩ : ∃ ts0 k, ts = ts0 ++ [k] := ⟨ts.dropLast, ts.getLast hne2, (List.dropLast_concat_getLast hne2).symm⟩
      obtain ⟨h0, hku⟩ := hus.drop
      have kok : k.ok := hok k (by simp)
      have hlast : (us0 ++ [u])[(us0 ++ [u]).length - 1]? = some u := by
        rw [List.length_append, List.length_singleton, Nat.add_sub_cancel, List.getElem?_append_right (Nat.le_refl _), Nat.sub_self]; rfl
      refine ⟨_, rfl, .inl ⟨rfl, _, SqL.of hw⟩, wa, _, _, rfl, rfl, hw, hlast, ?_⟩
      rw [List.dropLast_append_of_ne_nil (by simp)]
      have ed : us0 ++ [u].dropLast = us0 := by simp
      rw [ed]
      have hp2 : upd H' wa (.lst us0) pa = some (.lst vs) := by rw [upd_ne (Ne.symm hwp)]; exact hp
      have hz1 : vs.length < sizeLine := by rw [sizeLine_eq]; omega
      refine ⟨_, rfl, .inl ⟨rfl, _, SqL.of hp2⟩, _, rfl, pa, _, _, rfl, rfl, hp2, hz1, ?_⟩
      have g2 : Same H (upd (upd H' wa (.lst us0)) pa (.lst (vs ++ [u]))) := same_upd (same_upd g hwa) hpa0
      have hw2 : (upd (upd H' wa (.lst us0)) pa (.lst (vs ++ [u]))) wa = some (.lst us0) := by rw [upd_ne hwp, upd_same]
      obtain ⟨pk, xs, rfl, hpk⟩ := hku.top
      have hin := Tm.hd_in kok
      have epre : pres (ts0 ++ [k]) = k :: pres (ts0 ++ k.kids) := by rw [pres_push, pres_one, pre_cons, pres_push, List.cons_append]
      rw [epre] at hpre hpl
      have hpre' : (ps ++ [k]) ++ pres (ts0 ++ k.kids) = t.pre := by rw [← hpre]; simp
      have hmu : t.size - (vs ++ [V.ref pk]).length < t.size - vs.length := by
        rw [List.length_append, List.length_singleton]
        rw [List.length_cons] at hpl
        omega
      have hvs2 : TmsAt H (vs ++ [V.ref pk]) (ps ++ [k]) := hvs.append ⟨hku, trivial⟩
      have hmu0 : mu [some v, some (.ref wa), some (.ref pa), s3] H' = t.size - vs.length := by
        show (match H' pa with | some (.lst vs) => t.size - vs.length | _ => 0) = _
        rw [hp]
      refine ⟨_, rfl, pk, _, _, _, rfl, rfl, SqT.of (g2 _ _ hpk), atI_nat (j := 0) rfl, a.a_LEAVES, _, rfl, .inr (T.t_LEAVES _), rfl, rfl, _, rfl, ite2 (fun kn => ?_) (fun kn => ?_)⟩
      · have kn' : (!inV (.str k.hd) (leafS.map V.str)) = true := kn
        rw [leaf_in _ hin] at kn'
        have hkids : k.kids ≠ [] := fun z => by
          have := (leaf_kids kok).mpr z
          simp [this] at kn'
        obtain ⟨pk', ws, e, hpk', hws⟩ := hku.kidsAt hkids
        cases e
        obtain ⟨w0, wr, rfl⟩ : ∃ w0 wr, ws = w0 :: wr := by cases ws with
          | nil =>
            have := hws.len
            cases hh : k.kids with
            | nil => exact absurd hh hkids
            | cons x y => rw [hh] at this; simp at this
          | cons x y => exact ⟨x, y, rfl⟩
        refine ⟨_, rfl, .inl ⟨rfl, _, SqL.of hw2⟩, _, rfl, _, rfl, pk, _, rfl, SqT.of (g2 _ _ hpk'), cut1_ok _ _ _, fun tp htp => ?_⟩
        rw [cut1]
        have g3 := same_new htp (.tup (w0 :: wr))
        have hl2 : us0.length + (w0 :: wr).length ≤ 100000 := by
          have e1 := h0.len
          have e2 := hws.len
          have e3 : (pres (ts0 ++ k.kids)).length ≥ (ts0 ++ k.kids).length := by
            unfold pres
            rw [List.length_flatMap]
            have : ∀ l : List Tm, l.length ≤ (l.map fun x => x.pre.length).sum := by
              intro l
              induction l with
              | nil => exact Nat.le_refl _
              | cons x l ih =>
                have : 1 ≤ x.pre.length := by rw [pre_cons]; simp
                rw [List.map_cons, List.sum_cons, List.length_cons]; omega
            have := this (ts0 ++ k.kids).reverse
            rw [List.length_reverse] at this
            exact this
          rw [List.length_append] at e3
          rw [List.length_cons] at hpl
          omega
        refine ⟨wa, tp, us0, _, rfl, rfl, g3 _ _ hw2, SqT.of upd_same, by rw [sizeLine_eq]; omega, ?_⟩
        have hp3 : (upd (upd (upd (upd H' wa (.lst us0)) pa (.lst (vs ++ [V.ref pk]))) tp (.tup (w0 :: wr))) wa (.lst (us0 ++ w0 :: wr))) pa = some (.lst (vs ++ [V.ref pk])) := by
          rw [upd_ne (Ne.symm hwp)]; exact g3 _ _ upd_same
        refine ⟨⟨_, _, ts0 ++ k.kids, _, ps ++ [k], rfl, same_upd (g2.trans g3) hwa, upd_same, hp3, h0.append hws, hvs2, fun x hx => ?_, hpre'⟩, ?_⟩
        · rcases List.mem_append.mp hx with hx | hx
          · exact hok x (List.mem_append_left _ hx)
          · exact (kid_ok kok hx).1
        · rw [hmu0]
          show (match (upd (upd (upd (upd H' wa (.lst us0)) pa (.lst (vs ++ [V.ref pk]))) tp (.tup (w0 :: wr))) wa (.lst (us0 ++ w0 :: wr))) pa with | some (.lst vs) => t.size - vs.length | _ => 0) < _
          rw [hp3]; exact hmu
      · have kn' : ¬ (!inV (.str k.hd) (leafS.map V.str)) = true := kn
        rw [leaf_in _ hin] at kn'
        have hkids : k.kids = [] := (leaf_kids kok).mp (by
          by_cases hh : k.hd ∈ leafS
          · exact hh
          · exact absurd (by rw [decide_eq_false hh]; rfl) kn')
        rw [hkids, List.append_nil] at hpre'
        refine ⟨⟨_, us0, ts0, _, ps ++ [k], rfl, g2, hw2, upd_same, h0, hvs2, fun x hx => hok x (List.mem_append_left _ hx), hpre'⟩, ?_⟩
        rw [hmu0]
        show (match (upd (upd H' wa (.lst us0)) pa (.lst (vs ++ [V.ref pk]))) pa with | some (.lst vs) => t.size - vs.length | _ => 0) < _
        rw [upd_same]; exact hmu
    · have he : us = [] := by
        cases us with
        | nil => rfl
        | cons x y => exact absurd rfl kc
      subst he
      have hts : ts = [] := by
        cases ts with
        | nil => rfl
        | cons x y => simp at hul
      subst hts
      have e : ps = t.pre := by rw [← hpre]; simp [pres]
      subst e
      refine ⟨_, rfl, pa, _, rfl, SqL.of hp, fun l hl => ?_⟩
      exact q l _ _ (g.free hl) (g.trans (same_new hl _)) upd_same ((hvs.same (g.trans (same_new hl _))).reverse)
  · obtain ⟨x, e, b, h1, h2⟩ := hq
    exact ⟨x, e, b, h1, hm _ _ h2⟩
end

end My

set_option Elab.async false
set_option linter.all false
set_option maxRecDepth 100000
set_option maxHeartbeats 4000000
namespace My
open PySem L2
/-! ### built up from the parts -/
/-- what the row of results comes to -/
def Fin (R : Tm → V) : List V → List Tm → List V → Prop
  | st, [], out => st = out
  | st, k :: ps, out => ∃ st0, st = st0 ++ k.kids.map R ∧ Fin R (st0 ++ [R k]) ps out
theorem fin_term (R : Tm → V) : ∀ (t : Tm) (st : List V) (ps : List Tm) (out : List V), Fin R (st ++ [R t]) ps out → Fin R st (t.pre.reverse ++ ps) out
  | .lit s v, st, ps, out, h => ⟨st, by simp [Tm.kids], h⟩
  | .nam s n, st, ps, out, h => ⟨st, by simp [Tm.kids], h⟩
  | .neg t, st, ps, out, h => by
    show Fin R st ((Tm.neg t :: t.pre).reverse ++ ps) out
    rw [List.reverse_cons, List.append_assoc]
    exact fin_term R t st _ out ⟨st, rfl, h⟩
  | .bin s l r, st, ps, out, h => by
    show Fin R st ((Tm.bin s l r :: (r.pre ++ l.pre)).reverse ++ ps) out
    rw [List.reverse_cons, List.reverse_append, List.append_assoc, List.append_assoc]
    refine fin_term R l st _ out (fin_term R r _ _ out ⟨st, ?_, h⟩)
    show st ++ [R l] ++ [R r] = st ++ [R l, R r]
    simp
theorem leaf_kids0 {t : Tm} (h : t.ok) (hl : inV (.str t.hd) (leafS.map V.str) = true) : t.kids = [] := (leaf_kids h).mp (by rw [leaf_in _ (Tm.hd_in h)] at hl; exact of_decide_eq_true hl)
theorem leaf_kids1 {t : Tm} (h : t.ok) (hl : ¬ inV (.str t.hd) (leafS.map V.str) = true) : t.kids ≠ [] := fun z => hl (by rw [leaf_in _ (Tm.hd_in h)]; exact decide_eq_true ((leaf_kids h).mpr z))
section
variable {P : Program} {w : World} {K : PySem.W.Frag} {mg : Str → Option Value} {base : Heap} {a : Adr}
def spTo (J : Hp → Prop) (R : Tm → V) (C : Tm → Prop) : Sp := fun vs H Q _ => ∃ v t l, vs = [v, .ref l] ∧ J H ∧ TmAt H v t ∧ t.ok ∧ C t ∧ H l = some (.lst (t.kids.map R)) ∧ ∀ H', Same H H' → Q (R t) H'
def spBuilt (J : Hp → Prop) (R : Tm → V) (C : Tm → Prop) (f : Addr) : Sp := fun vs H Q _ => ∃ v t, vs = [v, .ref f] ∧ J H ∧ TmAt H v t ∧ t.ok ∧ (∀ k ∈ t.pre, C k) ∧ t.size ≤ 100000 ∧ ∀ H', Same H H' → Q (R t) H'
theorem ok_built_up (T : Txt K mg a) {k : Nat} {f : Addr} {fd : FuncData} {ps : List Str} {J : Hp → Prop} {R : Tm → V} {C : Tm → Prop} (hJ : ∀ H H', J H → Same H H' → J H') (h1 : 1 ≤ k)
    (FF : FnOk P w K mg base CX0 k f fd ps (spTo J R C)) (hk : KeptBy P w K base f (spTo J R C)) (hb : Binds K fd ps []) :
    FnOk P w K mg base CX0 (k + 1) a.f_built_up a.d_built_up ["term", "told_of"] (spBuilt J R C f) := by
  refine T.F_built_up.ok sc_built_up (fun vs H Q E h => ?_) (fun cdv A outer s H vs Q E hr h => ?_)
  · obtain ⟨_, _, rfl, _⟩ := h; rfl
  obtain ⟨v, t, rfl, hj, ht, hok, hC, hsz, q⟩ := h
  refine ⟨_, (pss_cons (ps_set (i := 2) sc_built_up.nd rfl (by first | exact Or.inl rfl | exact Or.inr rfl) (pe_lst pa_nil)) (pss_cons (ps_for PassesOwn.never rfl (pi_list (pe_call (ok_parts_in T) (hr.mono (by omega)) rfl T.m_parts_in T.F_parts_in.kp T.b_parts_in .nil pass0 (pa_cons (pv 0) pa_nil))) (pg_name (i := 3) sc_built_up.nd rfl (by first | exact Or.inl rfl | exact Or.inr rfl)) (pss_cons (ps_set (i := 4) sc_built_up.nd rfl (by first | exact Or.inl rfl | exact Or.inr rfl) (pe_cut (pe_ifExp (pt_cmpR op_in_seq (pe_ix ix_tup (pv 3) pe_int (fun _ _ => rfl)) (pe_glob rfl T.g_LEAVES.1 T.g_LEAVES.2) (by with_unfolding_all rfl)) pe_int (pe_op op_sub (pe_callB call_len_seq rfl T.n_len PySem.boot_len (pa_cons (pv 3) pa_nil)) pe_int)))) (pss_cons (ps_set (i := 5) sc_built_up.nd rfl (by first | exact Or.inl rfl | exact Or.inr rfl) (pe_op op_sub (pe_callB call_len_seq rfl T.n_len PySem.boot_len (pa_cons (pv 2) pa_nil)) (pv 4))) (pss_cons (ps_set (i := 6) sc_built_up.nd rfl (by first | exact Or.inl rfl | exact Or.inr rfl) (pe_callV (i := 1) FF (hr.mono (by omega)) rfl (by first | exact Or.inl rfl | exact Or.inr (Or.inl rfl) | exact Or.inr (Or.inr rfl)) hk hb .nil pass0 (pa_cons (pv 3) (pa_cons (pe_slice sl_list (pv 2) (po_some (pv 5)) po_none) pa_nil)))) (pss_cons (ps_delT (pv 2) (pv 5)) (pss_one (ps_expr (pe_bm PySem.F.plainAttrs_list PySem.F.slot_list_append PySem.F.type_list_append mt_append (pv 2) (pa_cons (pv 6) pa_nil))))))))) (pss_one (ps_ret (pe_ix ix_list (pv 2) pe_int (fun _ _ => rfl)))))), ?_⟩
  refine ⟨small (n := 0) (by decide), fun to hto => ?_⟩
  have g0 := same_new hto (.lst [])
  refine ⟨_, rfl, v, t, rfl, ht.same g0, hok, hsz, fun l us H1 hl g1 hl1 hus => ⟨l, rfl, ⟨_, SqL.of hl1⟩, ?_⟩⟩
  have hul := hus.len
  rw [List.length_reverse, pre_len] at hul
  refine for_list (xs := us) (fun i σ H' => ∃ s3 s4 s5 s6 st, σ = [some v, some (.ref f), some (.ref to), s3, s4, s5, s6] ∧ Same H H' ∧ TmsAt H' us t.pre.reverse ∧ H' l = some (.lst us) ∧ H' to = some (.lst st) ∧ st.length ≤ i ∧ Fin R st (t.pre.reverse.drop i) [R t])
    ⟨_, _, _, _, [], rfl, g0.trans g1, hus, hl1, g1 _ _ upd_same, Nat.le_refl _, ?_⟩ (fun i σ H' hi hR => ?_) (fun i x σ H' hx hR => ?_) (fun σ H' hR => ?_)
  · rw [List.drop_zero]
    have := fin_term R t [] [] [R t] rfl
    rw [List.append_nil] at this
    exact this
  · obtain ⟨_, _, _, _, _, rfl, _, _, h, _⟩ := hR
    exact SqL.of h
  · obtain ⟨s3, s4, s5, s6, st, rfl, g2, h0, h1', h2, hle, hF⟩ := hR
    obtain ⟨k, hkk, hka⟩ := h0.get hx
    have hkm : k ∈ t.pre := List.mem_reverse.mp (List.mem_of_getElem? hkk)
    have kok := Tm.pre_ok hok k hkm
    obtain ⟨p, xs, rfl, hp⟩ := hka.top
    have hi : i < t.size := by
      have := (List.getElem?_eq_some_iff.mp hx).1
      omega
    have ed : t.pre.reverse.drop i = k :: t.pre.reverse.drop (i + 1) := by
      obtain ⟨w1, w2⟩ := List.getElem?_eq_some_iff.mp hkk
      rw [List.drop_eq_getElem_cons w1, w2]
    rw [ed] at hF
    obtain ⟨st0, rfl, hF⟩ := hF
    have hlk : (k.kids.map R).length = k.kids.length := List.length_map _
    rw [List.length_append, hlk] at hle
    refine ⟨fun y H2 => y = .int (k.kids.length : Int) ∧ H2 = H', ?_, ?_⟩
    · refine ⟨_, rfl, p, _, _, _, rfl, rfl, SqT.of hp, atI_nat (j := 0) rfl, a.a_LEAVES, _, rfl, .inr (T.t_LEAVES _), rfl, rfl, _, rfl, ite2 (fun kc => ?_) (fun kc => ?_)⟩
      · rw [leaf_kids0 kok kc]; exact ⟨rfl, rfl⟩
      · obtain ⟨p', ws, e, hp', hws⟩ := hka.kidsAt (leaf_kids1 kok kc)
        cases e
        refine ⟨_, rfl, p, _, rfl, .inr (SqT.of hp'), _, _, rfl, rfl, ?_, rfl⟩
        have := hws.len
        have e2 : (((ws.length + 1 : Nat) : Int) - 1) = (k.kids.length : Int) := by omega
        exact congrArg V.int e2
    · rintro y H2 ⟨rfl, rfl⟩
      have hlen : ((st0 ++ k.kids.map R).length : Int) - (k.kids.length : Int) = (st0.length : Int) := by rw [List.length_append, hlk]; omega
      refine ⟨_, rfl, to, _, rfl, .inl (SqL.of h2), _, rfl, _, _, rfl, rfl, ?_⟩
      dsimp only
      rw [hlen]
      refine ⟨rfl, _, rfl, _, rfl, _, rfl, _, rfl, to, _, rfl, SqL.of h2, fun sl hsl => ?_⟩
      rw [cut_tail]
      have g3 := same_new hsl (.lst (k.kids.map R))
      refine ⟨_, k, sl, rfl, hJ _ _ hj (g2.trans g3), hka.same g3, kok, hC k hkm, upd_same, fun H3 g4 => ?_⟩
      have g34 := g3.trans g4
      have hto3 := g34 _ _ h2
      refine ⟨_, rfl, _, rfl, to, _, st0.length, rfl, hto3, rfl, by rw [List.length_append]; omega, ?_⟩
      rw [List.take_left']
      · refine ⟨_, rfl, .inl ⟨rfl, _, SqL.of upd_same⟩, _, rfl, to, _, _, rfl, rfl, upd_same, (by rw [sizeLine_eq]; omega), ?_⟩
        rw [upd_upd]
        have hlto : l ≠ to := Ne.symm (ne_of_none (upd_same (H := H) (a := to) (o := .lst [])) hl)
        have keep : ∀ b xs, H3 b = some (.tup xs) → upd H3 to (.lst (st0 ++ [R k])) b = some (.tup xs) := fun b xs hb => by
          rw [upd_ne (ne_of hb hto3 (by intro z; cases z))]; exact hb
        refine ⟨_, _, _, _, st0 ++ [R k], rfl, same_upd (g2.trans g34) hto, (h0.same g34).keep keep, ?_, upd_same, ?_, hF⟩
        · rw [upd_ne hlto]; exact g34 _ _ h1'
        · rw [List.length_append, List.length_singleton]
          omega
      · rfl
  · obtain ⟨s3, s4, s5, s6, st, rfl, g2, h0, h1', h2, hle, hF⟩ := hR
    have e : us.length = t.pre.reverse.length := by rw [List.length_reverse, pre_len]; exact hul
    rw [e, List.drop_length] at hF
    have hst : st = [R t] := hF
    subst hst
    refine ⟨_, rfl, to, _, _, _, rfl, rfl, SqL.of h2, atI_nat (j := 0) rfl, ?_⟩
    exact q _ g2
end

end My

set_option Elab.async false
set_option linter.all false
set_option maxRecDepth 100000
set_option maxHeartbeats 4000000
namespace My
open PySem L2
/-! ### how a term is written -/
def lvS (s : Str) : Int := if s ∈ cmpS then 4 else if s = "or" then 1 else if s = "and" then 2 else if s = "not" then 3 else if s = "+" then 5 else if s = "-" then 5 else if s = "*" then 6 else 7
def wrS (least lv : Int) (x : Str) : Str := if lv < least then "(" ++ x ++ ")" else x
def Tm.txt : Tm → Str
  | .lit _ v => vtx v
  | .nam s n => if s = "field" then n else "has " ++ n
  | .neg t => "not " ++ wrS 3 (lvS t.hd) t.txt
  | .bin s l r => wrS (lvS s + (if decide (lvS s = 4) = true then 1 else 0)) (lvS l.hd) l.txt ++ " " ++ s ++ " " ++ wrS (lvS s + 1) (lvS r.hd) r.txt
theorem wr_len (a b : Int) (x : Str) : (wrS a b x).length ≤ x.length + 2 := by
  have l1 : ("(" : Str).length = 1 := by decide +kernel
  have l2 : (")" : Str).length = 1 := by decide +kernel
  unfold wrS
  split
  · rw [cat_len, cat_len, l1, l2]; omega
  · omega
theorem bin_len : ∀ s ∈ binS, s.length ≤ 3 := by decide +kernel
theorem Tm.len {t : Tm} (h : t.ok) : t.txt.length ≤ 200 * 3 ^ t.deep := by
  have l1 : (" " : Str).length = 1 := by decide +kernel
  have l2 : ("not " : Str).length = 4 := by decide +kernel
  have l3 : ("has " : Str).length = 4 := by decide +kernel
  induction t with
  | lit s v =>
    have := (vtx_len h.2).2.1
    show (vtx v).length ≤ 200 * 3 ^ 0
    omega
  | nam s n =>
    have := h.2
    show (if s = "field" then n else "has " ++ n : Str).length ≤ 200 * 3 ^ 0
    split
    · omega
    · rw [cat_len, l3]; omega
  | neg t ih =>
    have i := ih h
    have w := wr_len 3 (lvS t.hd) t.txt
    have p : 3 ^ (t.deep + 1) = 3 * 3 ^ t.deep := by rw [Nat.pow_succ]; omega
    have q : 1 ≤ 3 ^ t.deep := Nat.pow_pos (by decide)
    show ("not " ++ wrS 3 (lvS t.hd) t.txt : Str).length ≤ 200 * 3 ^ (t.deep + 1)
    rw [cat_len, l2, p]
    omega
  | bin s l r ih1 ih2 =>
    obtain ⟨hs, h1, h2⟩ := h
    have i1 := ih1 h1
    have i2 := ih2 h2
    have w1 := wr_len (lvS s + (if decide (lvS s = 4) = true then 1 else 0)) (lvS l.hd) l.txt
    have w2 := wr_len (lvS s + 1) (lvS r.hd) r.txt
    have b := bin_len s hs
    have m1 : 3 ^ l.deep ≤ 3 ^ max l.deep r.deep := Nat.pow_le_pow_right (by decide) (Nat.le_max_left _ _)
    have m2 : 3 ^ r.deep ≤ 3 ^ max l.deep r.deep := Nat.pow_le_pow_right (by decide) (Nat.le_max_right _ _)
    have p : 3 ^ (max l.deep r.deep + 1) = 3 * 3 ^ max l.deep r.deep := by rw [Nat.pow_succ]; omega
    have q : 1 ≤ 3 ^ max l.deep r.deep := Nat.pow_pos (by decide)
    show (wrS _ _ l.txt ++ " " ++ s ++ " " ++ wrS _ _ r.txt : Str).length ≤ 200 * 3 ^ (max l.deep r.deep + 1)
    rw [cat_len, cat_len, cat_len, cat_len, l1, p]
    omega
theorem Tm.len8 {t : Tm} (h : t.ok) (hd : t.deep < 9) : t.txt.length ≤ 2000000 := by
  have := Tm.len h
  have m : 3 ^ t.deep ≤ 3 ^ 8 := Nat.pow_le_pow_right (by decide) (by omega)
  have e : 3 ^ 8 = 6561 := by decide
  omega
/-- the program's way of levels -/
def lvRows : List (List Str) := [["or"], ["and"], ["not"], ["=", "!=", "<", "<=", ">", ">="], ["+", "-"], ["*"]]
theorem lv_row : ∀ s ∈ allS, ∀ i : Nat, (h : i < 6) → inV (.str s) ((lvRows[i]'h).map V.str) = true → lvS s = i + 1 := by decide +kernel
theorem lv_none : ∀ s ∈ allS, (∀ i : Nat, (h : i < 6) → ¬ inV (.str s) ((lvRows[i]'h).map V.str) = true) → lvS s = 7 := by decide +kernel
theorem lv_bin : ∀ s ∈ binS, lvS s ≠ 3 := by decide +kernel
section
variable {P : Program} {w : World} {K : PySem.W.Frag} {mg : Str → Option Value} {base : Heap} {a : Adr}
def spLevelOf : Sp := fun vs H Q _ => ∃ v t, vs = [v] ∧ TmAt H v t ∧ t.ok ∧ ∀ H', Same H H' → Q (.int (lvS t.hd - 1)) H'
theorem Txt.lv (T : Txt K mg a) : ∀ i x, ([V.ref a.a_LEVELS_0, .ref a.a_LEVELS_1, .ref a.a_LEVELS_2, .ref a.a_LEVELS_3, .ref a.a_LEVELS_4, .ref a.a_LEVELS_5] : List V)[i]? = some x → ∃ b, ∃ h : i < 6, x = .ref b ∧ ∀ H, SqT K H b ((lvRows[i]'h).map V.str)
  | 0, _, e => by cases e; exact ⟨_, by decide, rfl, T.t_LEVELS_0⟩
  | 1, _, e => by cases e; exact ⟨_, by decide, rfl, T.t_LEVELS_1⟩
  | 2, _, e => by cases e; exact ⟨_, by decide, rfl, T.t_LEVELS_2⟩
  | 3, _, e => by cases e; exact ⟨_, by decide, rfl, T.t_LEVELS_3⟩
  | 4, _, e => by cases e; exact ⟨_, by decide, rfl, T.t_LEVELS_4⟩
  | 5, _, e => by cases e; exact ⟨_, by decide, rfl, T.t_LEVELS_5⟩
  | n + 6, _, e => by simp at e
theorem ok_level_of (T : Txt K mg a) : FnOk P w K mg base CX0 1 a.f_level_of a.d_level_of ["term"] spLevelOf := by
  refine T.F_level_of.ok sc_level_of (fun vs H Q E h => ?_) (fun cdv A outer s H vs Q E hr h => ?_)
  · obtain ⟨_, _, rfl, _⟩ := h; rfl
  obtain ⟨v, t, rfl, ht, hok, q⟩ := h
  refine ⟨_, (pss_cons (ps_for PassesOwn.never rfl (pi_enumT rfl T.n_enumerate (pa_cons (pe_glob rfl T.g_LEVELS.1 T.g_LEVELS.2) pa_nil)) (pg_tup (n := 2) rfl (pgs_cons (pg_name (i := 1) sc_level_of.nd rfl (by first | exact Or.inl rfl | exact Or.inr rfl)) (pgs_cons (pg_name (i := 2) sc_level_of.nd rfl (by first | exact Or.inl rfl | exact Or.inr rfl)) pgs_nil))) (pss_one (ps_if (pt_cmpR op_in_seq (pe_ix ix_tup (pv 0) pe_int (fun _ _ => rfl)) (pv 2) (by with_unfolding_all rfl)) (pss_one (ps_ret (pv 1))) pss_nil))) (pss_one (ps_ret (pe_glob rfl T.g_LEAF_LEVEL.1 T.g_LEAF_LEVEL.2)))), ?_⟩
  obtain ⟨p, xs, rfl, hp⟩ := ht.top
  have hin := Tm.hd_in hok
  refine ⟨a.a_LEVELS, rfl, ⟨_, T.t_LEVELS _⟩, ?_⟩
  refine for_enumT (xs := [V.ref a.a_LEVELS_0, .ref a.a_LEVELS_1, .ref a.a_LEVELS_2, .ref a.a_LEVELS_3, .ref a.a_LEVELS_4, .ref a.a_LEVELS_5]) (fun i σ H' => ∃ s1 s2, σ = [some (.ref p), s1, s2] ∧ Same H H' ∧ ∀ j, (h : j < 6) → j < i → ¬ inV (.str t.hd) ((lvRows[j]'h).map V.str) = true)
    ⟨_, _, rfl, Same.refl H, fun j _ h => absurd h (Nat.not_lt_zero _)⟩ (fun i σ H' hi hR => T.t_LEVELS _) (fun i x σ H' Ta hx hR hTa => ?_) (fun σ H' hR => ?_)
  · obtain ⟨s1, s2, rfl, g1, hno⟩ := hR
    obtain ⟨b, hi, rfl, hb⟩ := T.lv i x hx
    have g2 := same_new hTa (.tup [.int i, .ref b])
    refine ⟨Ta, _, rfl, SqT.of upd_same, rfl, _, _, rfl, _, _, rfl, rfl, ?_⟩
    refine ⟨_, rfl, p, _, _, _, rfl, rfl, SqT.of ((g1.trans g2) _ _ hp), atI_nat (j := 0) rfl, _, rfl, b, _, rfl, .inr (hb _), rfl, flat_strs _, _, rfl, ite2 (fun kc => ?_) (fun kc => ?_)⟩
    · refine ⟨_, rfl, ?_⟩
      have e := lv_row _ hin i hi kc
      have := q _ (g1.trans g2)
      rw [e] at this
      have e2 : ((i : Int) + 1 - 1) = (i : Int) := by omega
      rw [e2] at this
      exact this
    · refine ⟨_, _, rfl, g1.trans g2, fun j hj hlt => ?_⟩
      by_cases e : j = i
      · subst e; exact kc
      · exact hno j hj (by omega)
  · obtain ⟨s1, s2, rfl, g1, hno⟩ := hR
    have e := lv_none _ hin fun j hj => hno j hj (by show j < 6; exact hj)
    have := q _ g1
    rw [e] at this
    exact this
def spBr : Sp := fun vs H Q _ => ∃ x b, vs = [.str x, .bl b] ∧ x.length ≤ 3000000 ∧ Q (.str (if b = true then "(" ++ x ++ ")" else x)) H
theorem ok_bracketed (T : Txt K mg a) : FnOk P w K mg base CX0 1 a.f_bracketed a.d_bracketed ["text", "needed"] spBr := by
  refine T.F_bracketed.ok sc_bracketed (fun vs H Q E h => ?_) (fun cdv A outer s H vs Q E hr h => ?_)
  · obtain ⟨_, _, rfl, _⟩ := h; rfl
  obtain ⟨x, b, rfl, hx, q⟩ := h
  have l1 : ("(" : Str).length = 1 := by decide +kernel
  have l2 : (")" : Str).length = 1 := by decide +kernel
  have e0 : Str.empty ++ "(" = ("(" : Str) := by decide +kernel
  refine ⟨_, (pss_one (ps_ret (pe_ifExp (pt_val (pv 1)) (pe_fstr (pj_cons pe_str (pj_cons (pe_fv (pv 0)) (pj_cons pe_str pj_nil)))) (pv 0)))), ?_⟩
  refine ⟨_, rfl, b, rfl, ?_⟩
  cases b with
  | true =>
    refine ⟨_, rfl, by rw [e0, l1, sizeLine_eq]; decide, _, rfl, .inl ⟨x, rfl, line_of (by omega), _, rfl, ?_, _, rfl, ?_, ?_, ?_⟩⟩
    · rw [e0, cat_len, l1]; exact line_of (by omega)
    · rw [e0, cat_len, cat_len, l1, l2]; exact line_of (by omega)
    · rw [e0, cat_len, cat_len, l1, l2]; exact line_of (by omega)
    · rw [e0]; exact q
  | false => exact ⟨_, rfl, q⟩
def spLeafT : Sp := fun vs H Q _ => ∃ v t, vs = [v] ∧ TmAt H v t ∧ t.ok ∧ t.kids = [] ∧ ∀ H', Same H H' → Q (.str t.txt) H'
theorem nam_cases : ∀ s ∈ namS, s = "field" ∨ s = "has" := by decide +kernel
theorem lit_no : ∀ s ∈ litS, s ≠ "field" ∧ s ≠ "has" := by decide +kernel
theorem ok_leaf_text (T : Txt K mg a) : FnOk P w K mg base CX0 2 a.f_leaf_text a.d_leaf_text ["leaf"] spLeafT := by
  refine T.F_leaf_text.ok sc_leaf_text (fun vs H Q E h => ?_) (fun cdv A outer s H vs Q E hr h => ?_)
  · obtain ⟨_, _, rfl, _⟩ := h; rfl
  obtain ⟨v, t, rfl, ht, hok, hkids, q⟩ := h
  refine ⟨_, (pss_cons (ps_asg (pv 0) (pg_tup (n := 2) rfl (pgs_cons (pg_name (i := 1) sc_leaf_text.nd rfl (by first | exact Or.inl rfl | exact Or.inr rfl)) (pgs_cons (pg_name (i := 2) sc_leaf_text.nd rfl (by first | exact Or.inl rfl | exact Or.inr rfl)) pgs_nil)))) (pss_cons (ps_if (pt_cmpR op_eq (pv 1) pe_str (nomark _)) (pss_one (ps_ret (pv 2))) pss_nil) (pss_cons (ps_if (pt_cmpR op_eq (pv 1) pe_str (nomark _)) (pss_one (ps_ret (pe_fstr (pj_cons pe_str (pj_cons (pe_fv (pv 2)) pj_nil))))) pss_nil) (pss_one (ps_ret (pe_call (ok_value_text T) (hr.mono (by decide)) rfl T.m_value_text T.F_value_text.kp T.b_value_text .nil pass0 (pa_cons (pv 2) pa_nil))))))), ?_⟩
  have l3 : ("has " : Str).length = 4 := by decide +kernel
  have e0 : Str.empty ++ "has " = ("has " : Str) := by decide +kernel
  cases t with
  | neg t => simp [Tm.kids] at hkids
  | bin s l r => simp [Tm.kids] at hkids
  | lit s x =>
    obtain ⟨p, rfl, hp⟩ := ht
    obtain ⟨n1, n2⟩ := lit_no s hok.1
    refine ⟨_, rfl, p, _, rfl, SqT.of hp, rfl, _, _, rfl, _, _, rfl, rfl, ?_⟩
    refine ⟨_, rfl, rfl, _, rfl, ite2 (fun kc => absurd (by have := of_decide_eq_true kc; injection this) n1) (fun _ => ?_)⟩
    refine ⟨_, rfl, rfl, _, rfl, ite2 (fun kc => absurd (by have := of_decide_eq_true kc; injection this) n2) (fun _ => ?_)⟩
    exact ⟨_, rfl, x, rfl, hok.2, fun H' g => q H' g⟩
  | nam s n =>
    obtain ⟨p, rfl, hp⟩ := ht
    refine ⟨_, rfl, p, _, rfl, SqT.of hp, rfl, _, _, rfl, _, _, rfl, rfl, ?_⟩
    have q' := q H (Same.refl H)
    rcases nam_cases s hok.1 with rfl | rfl
    · exact ⟨_, rfl, rfl, _, rfl, iteT ⟨_, rfl, q'⟩⟩
    · refine ⟨_, rfl, rfl, _, rfl, iteF ⟨_, rfl, rfl, _, rfl, iteT ?_⟩⟩
      have := hok.2
      refine ⟨_, rfl, by rw [e0, l3, sizeLine_eq]; decide, _, rfl, .inl ⟨n, rfl, line_of (by omega), _, rfl, ?_, ?_, ?_⟩⟩
      · rw [e0, cat_len, l3]; exact line_of (by omega)
      · rw [e0, cat_len, l3]; exact line_of (by omega)
      · rw [e0]; exact q'
end

end My

set_option Elab.async false
set_option linter.all false
set_option maxRecDepth 100000
set_option maxHeartbeats 4000000
namespace My
open PySem L2
theorem br_wr {c : Bool} {least lv : Int} {x : Str} (h : c = true ↔ lv < least) : (if c = true then "(" ++ x ++ ")" else x) = wrS least lv x := by
  unfold wrS
  by_cases k : lv < least
  · rw [if_pos k, if_pos (h.mpr k)]
  · rw [if_neg k, if_neg fun z => k (h.mp z)]
theorem lv_not : lvS "not" = 3 := by decide +kernel
section
variable {P : Program} {w : World} {K : PySem.W.Frag} {mg : Str → Option Value} {base : Heap} {a : Adr}
abbrev spPT : Sp := spTo (fun _ => True) (fun t => .str t.txt) (fun t => t.deep < 9)
theorem ok_part_text (T : Txt K mg a) : FnOk P w K mg base CX0 3 a.f_part_text a.d_part_text ["part", "texts"] spPT := by
  refine T.F_part_text.ok sc_part_text (fun vs H Q E h => ?_) (fun cdv A outer s H vs Q E hr h => ?_)
  · obtain ⟨_, _, _, rfl, _⟩ := h; rfl
  obtain ⟨v, t, l, rfl, _, ht, hok, hd, hl, q⟩ := h
  have l1 : (" " : Str).length = 1 := by decide +kernel
  have l2 : ("not " : Str).length = 4 := by decide +kernel
  have e0 : Str.empty ++ "not " = ("not " : Str) := by decide +kernel
  have e1 : ∀ x : Str, Str.empty ++ x = x := fun x => by
    show Str.mk (#[] ++ x.cps) = x
    rw [Array.empty_append]
  refine ⟨_, (pss_cons (ps_if (pt_cmpR op_in_seq (pe_ix ix_tup (pv 0) pe_int (fun _ _ => rfl)) (pe_glob rfl T.g_LEAVES.1 T.g_LEAVES.2) (by with_unfolding_all rfl)) (pss_one (ps_ret (pe_call (ok_leaf_text T) (hr.mono (by decide)) rfl T.m_leaf_text T.F_leaf_text.kp T.b_leaf_text .nil pass0 (pa_cons (pv 0) pa_nil)))) pss_nil) (pss_cons (ps_set (i := 2) sc_part_text.nd rfl (by first | exact Or.inl rfl | exact Or.inr rfl) (pe_call (ok_level_of T) (hr.mono (by decide)) rfl T.m_level_of T.F_level_of.kp T.b_level_of .nil pass0 (pa_cons (pv 0) pa_nil))) (pss_cons (ps_if (pt_cmpR op_eq (pv 2) (pe_glob rfl T.g_NOT_LEVEL.1 T.g_NOT_LEVEL.2) (nomark _)) (pss_one (ps_ret (pe_fstr (pj_cons pe_str (pj_cons (pe_fv (pe_call (ok_bracketed T) (hr.mono (by decide)) rfl T.m_bracketed T.F_bracketed.kp T.b_bracketed .nil pass0 (pa_cons (pe_ix ix_list (pv 1) pe_int (fun _ _ => rfl)) (pa_cons (pe_cmpR op_lt (pe_call (ok_level_of T) (hr.mono (by decide)) rfl T.m_level_of T.F_level_of.kp T.b_level_of .nil pass0 (pa_cons (pe_ix ix_tup (pv 0) pe_int (fun _ _ => rfl)) pa_nil)) (pv 2) (nomark _)) pa_nil)))) pj_nil))))) pss_nil) (pss_cons (ps_set (i := 3) sc_part_text.nd rfl (by first | exact Or.inl rfl | exact Or.inr rfl) (pe_call (ok_level_of T) (hr.mono (by decide)) rfl T.m_level_of T.F_level_of.kp T.b_level_of .nil pass0 (pa_cons (pe_ix ix_tup (pv 0) pe_int (fun _ _ => rfl)) pa_nil))) (pss_cons (ps_set (i := 4) sc_part_text.nd rfl (by first | exact Or.inl rfl | exact Or.inr rfl) (pe_call (ok_bracketed T) (hr.mono (by decide)) rfl T.m_bracketed T.F_bracketed.kp T.b_bracketed .nil pass0 (pa_cons (pe_ix ix_list (pv 1) pe_int (fun _ _ => rfl)) (pa_cons (pe_cut (pe_or (pe_cmpR op_lt (pv 3) (pv 2) (nomark _)) (pe_one (pe_chain op_eq op_eq (pv 3) (pv 2) (pe_glob rfl T.g_COMPARISON_LEVEL.1 T.g_COMPARISON_LEVEL.2))))) pa_nil)))) (pss_cons (ps_set (i := 5) sc_part_text.nd rfl (by first | exact Or.inl rfl | exact Or.inr rfl) (pe_call (ok_bracketed T) (hr.mono (by decide)) rfl T.m_bracketed T.F_bracketed.kp T.b_bracketed .nil pass0 (pa_cons (pe_ix ix_list (pv 1) pe_int (fun _ _ => rfl)) (pa_cons (pe_cmpR op_le (pe_call (ok_level_of T) (hr.mono (by decide)) rfl T.m_level_of T.F_level_of.kp T.b_level_of .nil pass0 (pa_cons (pe_ix ix_tup (pv 0) pe_int (fun _ _ => rfl)) pa_nil)) (pv 2) (nomark _)) pa_nil)))) (pss_one (ps_ret (pe_fstr (pj_cons (pe_fv (pv 4)) (pj_cons pe_str (pj_cons (pe_fv (pe_ix ix_tup (pv 0) pe_int (fun _ _ => rfl))) (pj_cons pe_str (pj_cons (pe_fv (pv 5)) pj_nil)))))))))))))), ?_⟩
  obtain ⟨p, xs, rfl, hp⟩ := ht.top
  refine ⟨_, rfl, p, _, _, _, rfl, rfl, SqT.of hp, atI_nat (j := 0) rfl, a.a_LEAVES, _, rfl, .inr (T.t_LEAVES _), rfl, rfl, _, rfl, ite2 (fun kc => ?_) (fun kc => ?_)⟩
  · exact ⟨_, rfl, _, t, rfl, ht, hok, leaf_kids0 hok kc, fun H' g => q H' g⟩
  have hkids := leaf_kids1 hok kc
  clear kc
  cases t with
  | lit s v => exact absurd rfl hkids
  | nam s v => exact absurd rfl hkids
  | neg t1 =>
    refine ⟨_, rfl, _, _, rfl, ht, hok, fun H1 g1 => ?_⟩
    have el : lvS (Tm.neg t1).hd = 3 := lv_not
    rw [el]
    obtain ⟨p', w1, e, hp1, ht1⟩ := ht
    cases e
    have ok1 : t1.ok := hok
    have hd1 : t1.deep < 9 := by have : t1.deep + 1 < 9 := hd; omega
    have hlen := Tm.len8 ok1 hd1
    refine ⟨_, rfl, rfl, _, rfl, iteT ?_⟩
    refine ⟨_, rfl, by rw [e0, l2, sizeLine_eq]; decide, _, rfl, l, _, _, _, rfl, rfl, SqL.of (g1 _ _ hl), atI_nat (j := 0) rfl, _, rfl, p, _, _, _, rfl, rfl, SqT.of (g1 _ _ hp1), atI_nat (j := 1) rfl, w1, t1, rfl, ht1.same g1, ok1, fun H2 g2 => ?_⟩
    refine ⟨_, rfl, _, _, rfl, rfl, _, _, rfl, by omega, ?_⟩
    rw [br_wr (least := 3) (lv := lvS t1.hd) (by rw [decide_eq_true_iff]; omega)]
    have hw := wr_len 3 (lvS t1.hd) t1.txt
    refine .inl ⟨_, rfl, line_of (by omega), _, rfl, ?_, ?_, ?_⟩
    · rw [e0, cat_len, l2]; exact line_of (by omega)
    · rw [e0, cat_len, l2]; exact line_of (by omega)
    · rw [e0]; exact q H2 (g1.trans g2)
  | bin s t1 t2 =>
    refine ⟨_, rfl, _, _, rfl, ht, hok, fun H1 g1 => ?_⟩
    have el : lvS (Tm.bin s t1 t2).hd = lvS s := rfl
    rw [el]
    obtain ⟨p', w1, w2, e, hp1, ht1, ht2⟩ := ht
    cases e
    obtain ⟨hs, ok1, ok2⟩ := hok
    have hdd : max t1.deep t2.deep + 1 < 9 := hd
    have hlen1 := Tm.len8 ok1 (by omega)
    have hlen2 := Tm.len8 ok2 (by omega)
    have hls := bin_len s hs
    have hn3 := lv_bin s hs
    refine ⟨_, rfl, rfl, _, rfl, ite2 (fun kc => absurd (by have := of_decide_eq_true kc; injection this with this; omega) hn3) (fun _ => ?_)⟩
    refine ⟨_, rfl, p, _, _, _, rfl, rfl, SqT.of (g1 _ _ hp1), atI_nat (j := 1) rfl, w1, t1, rfl, ht1.same g1, ok1, fun H2 g2 => ?_⟩
    have g12 := g1.trans g2
    have hb1 : ∀ c : Bool, (c = true ↔ (lvS t1.hd - 1 < lvS s - 1 ∨ (lvS t1.hd - 1 = lvS s - 1 ∧ lvS s - 1 = 3))) → (if c = true then "(" ++ t1.txt ++ ")" else t1.txt) = wrS (lvS s + (if decide (lvS s = 4) = true then 1 else 0)) (lvS t1.hd) t1.txt := fun c hc => br_wr (by
      rw [hc]
      by_cases k : lvS s = 4
      · rw [decide_eq_true k, if_pos rfl]; omega
      · rw [decide_eq_false k, if_neg Bool.false_ne_true]; omega)
    generalize hwr1 : wrS (lvS s + (if decide (lvS s = 4) = true then 1 else 0)) (lvS t1.hd) t1.txt = y1 at hb1
    have hw1 : y1.length ≤ t1.txt.length + 2 := by rw [← hwr1]; exact wr_len _ _ _
    have hw2 := wr_len (lvS s + 1) (lvS t2.hd) t2.txt
    refine ⟨_, rfl, l, _, _, _, rfl, rfl, SqL.of (g12 _ _ hl), atI_nat (j := 0) rfl, fun y H3 => ∃ c : Bool, y = .bl c ∧ H3 = H2 ∧ (c = true ↔ (lvS t1.hd - 1 < lvS s - 1 ∨ (lvS t1.hd - 1 = lvS s - 1 ∧ lvS s - 1 = 3))), ?_, ?_⟩
    · refine ⟨_, rfl, _, rfl, _, _, rfl, rfl, _, rfl, ite2 (fun k1 => ⟨true, rfl, rfl, ?_⟩) (fun k1 => ?_)⟩
      · exact ⟨fun _ => .inl (of_decide_eq_true k1), fun _ => rfl⟩
      · have k1' : ¬ (lvS t1.hd - 1 < lvS s - 1) := fun z => k1 (decide_eq_true z)
        refine ⟨_, rfl, _, rfl, rfl, _, rfl, ite2 (fun k2 => ?_) (fun k2 => ?_)⟩
        · have k2' : lvS t1.hd - 1 = lvS s - 1 := by have := of_decide_eq_true k2; injection this
          refine ⟨rfl, _, rfl, rfl, ?_⟩
          rw [decide_eq_true_iff]
          constructor
          · intro z; injection z with z; exact .inr ⟨k2', z⟩
          · rintro (z | ⟨_, z⟩)
            · exact absurd z k1'
            · rw [z]
        · refine ⟨false, rfl, rfl, ⟨(fun z => by cases z), ?_⟩⟩
          rintro (z | ⟨z, _⟩)
          · exact absurd z k1'
          · exact absurd (decide_eq_true (congrArg V.int z)) k2
    · rintro y H3 ⟨c, rfl, rfl, hc⟩
      refine ⟨_, _, rfl, by omega, ?_⟩
      rw [hb1 c hc]
      refine ⟨_, rfl, l, _, _, _, rfl, rfl, SqL.of (g12 _ _ hl), atI_nat (j := 1) rfl, _, rfl, p, _, _, _, rfl, rfl, SqT.of (g12 _ _ hp1), atI_nat (j := 2) rfl, w2, t2, rfl, ht2.same g12, ok2, fun H4 g4 => ?_⟩
      refine ⟨_, rfl, _, _, rfl, rfl, _, _, rfl, by omega, ?_⟩
      rw [br_wr (least := lvS s + 1) (lv := lvS t2.hd) (by rw [decide_eq_true_iff]; omega)]
      have q' := q H4 (g12.trans g4)
      have ex : (Tm.bin s t1 t2).txt = y1 ++ " " ++ s ++ " " ++ wrS (lvS s + 1) (lvS t2.hd) t2.txt := by rw [← hwr1]; rfl
      dsimp only at q'
      rw [ex] at q'
      generalize wrS (lvS s + 1) (lvS t2.hd) t2.txt = y2 at hw2 q'
      refine ⟨_, rfl, .inl ⟨y1, rfl, line_of (by omega), _, rfl, ?_, _, rfl, ?_, ?_⟩⟩
      · rw [e1]; exact line_of (by omega)
      · rw [e1, cat_len, l1]; exact line_of (by omega)
      · rw [e1]
        refine ⟨_, rfl, p, _, _, _, rfl, rfl, SqT.of ((g12.trans g4) _ _ hp1), atI_nat (j := 0) rfl, .inl ⟨s, rfl, line_of (by omega), _, rfl, ?_, _, rfl, ?_, _, rfl, .inl ⟨y2, rfl, line_of (by omega), _, rfl, ?_, ?_, q'⟩⟩⟩
        · rw [cat_len, cat_len, l1]; exact line_of (by omega)
        · rw [cat_len, cat_len, cat_len, l1]; exact line_of (by omega)
        · rw [cat_len, cat_len, cat_len, cat_len, l1]; exact line_of (by omega)
        · rw [cat_len, cat_len, cat_len, cat_len, l1]; exact line_of (by omega)
abbrev spTT : Sp := fun vs H Q _ => ∃ v t, vs = [v] ∧ TmAt H v t ∧ t.ok ∧ t.deep < 9 ∧ ∀ H', Same H H' → Q (.str t.txt) H'
theorem pre_deep : ∀ {t : Tm} {k : Tm}, k ∈ t.pre → k.deep ≤ t.deep
  | .lit s v, k, hk => by
    have e : k = .lit s v := by simpa [Tm.pre] using hk
    subst e; exact Nat.le_refl _
  | .nam s v, k, hk => by
    have e : k = .nam s v := by simpa [Tm.pre] using hk
    subst e; exact Nat.le_refl _
  | .neg t, k, hk => by
    rcases List.mem_cons.mp hk with e | hk
    · subst e; exact Nat.le_refl _
    · have := pre_deep hk
      show k.deep ≤ t.deep + 1
      omega
  | .bin s l r, k, hk => by
    rcases List.mem_cons.mp hk with e | hk
    · subst e; exact Nat.le_refl _
    · show k.deep ≤ max l.deep r.deep + 1
      rcases List.mem_append.mp hk with hk | hk
      · have := pre_deep hk; omega
      · have := pre_deep hk; omega
theorem ok_term_text (T : Txt K mg a) : FnOk P w K mg base CX0 5 a.f_term_text a.d_term_text ["term"] spTT := by
  refine T.F_term_text.ok sc_term_text (fun vs H Q E h => ?_) (fun cdv A outer s H vs Q E hr h => ?_)
  · obtain ⟨_, _, rfl, _⟩ := h; rfl
  obtain ⟨v, t, rfl, ht, hok, hd, q⟩ := h
  refine ⟨_, (pss_one (ps_ret (pe_call (ok_built_up T (R := fun t => .str t.txt) (C := fun t => t.deep < 9) (J := fun _ => True) (fun _ _ _ _ => trivial) (by decide) (ok_part_text T) (kept_in T.F_part_text.kp) T.b_part_text) (hr.mono (by decide)) rfl T.m_built_up T.F_built_up.kp T.b_built_up .nil pass0 (pa_cons (pv 0) (pa_cons (pe_glob (v := .ref a.f_part_text) rfl T.m_part_text rfl) pa_nil))))), ?_⟩
  have := size9 hd
  exact ⟨_, rfl, v, t, rfl, trivial, ht, hok, fun k hk => Nat.lt_of_le_of_lt (pre_deep hk) hd, by omega, q⟩
end

end My

set_option Elab.async false
set_option linter.all false
set_option maxRecDepth 100000
set_option maxHeartbeats 4000000
namespace My
open PySem L2
section
variable {P : Program} {w : World} {K : PySem.W.Frag} {mg : Str → Option Value} {base : Heap} {a : Adr}
def spLevel : Sp := fun vs H Q _ => ∃ v t, vs = [v] ∧ TmAt H v t ∧ t.ok ∧ ∀ H', Same H H' → Q (.int (lvS t.hd)) H'
abbrev lvT : List (Key × V) := [(.inr "or", .int 1), (.inr "and", .int 2), (.inr "not", .int 3), (.inr "+", .int 5), (.inr "-", .int 5), (.inr "*", .int 6)]
theorem lv_tab : ∀ s ∈ allS, ¬ (inV (.str s) (cmpS.map V.str)) = true → (valV (mergeK [] lvT) (.inr s)).getD (.int 7) = .int (lvS s) := by decide +kernel
theorem lv_cmp : ∀ s ∈ allS, inV (.str s) (cmpS.map V.str) = true → lvS s = 4 := by decide +kernel
theorem ok_level (T : Txt K mg a) : FnOk P w K mg base CX0 1 a.f_level a.d_level ["_law_term_here"] spLevel := by
  refine T.F_level.ok sc_level (fun vs H Q E h => ?_) (fun cdv A outer s H vs Q E hr h => ?_)
  · obtain ⟨x, t, rfl, _⟩ := h; rfl
  obtain ⟨v, t, rfl, ht, hk, q⟩ := h
  have hu1 := hu_of hr
  obtain ⟨p, xs, rfl, hp⟩ := ht.top
  refine ⟨_, (bss_cons ⟨(ps_if (pt_cmpR op_in_seq (pe_ix ix_tup (pv 0) pe_int (fun _ _ => rfl)) (pe_tup (pa_cons pe_str (pa_cons pe_str (pa_cons pe_str (pa_cons pe_str (pa_cons pe_str (pa_cons pe_str pa_nil))))))) (by with_unfolding_all rfl)) (pss_one (ps_ret pe_int)) pss_nil)⟩ (bss_one (bs_ret (be_dget2 hu1 (be_disp (bps_cons ⟨pe_str⟩ ⟨pe_int⟩ (bps_cons ⟨pe_str⟩ ⟨pe_int⟩ (bps_cons ⟨pe_str⟩ ⟨pe_int⟩ (bps_cons ⟨pe_str⟩ ⟨pe_int⟩ (bps_cons ⟨pe_str⟩ ⟨pe_int⟩ (bps_cons ⟨pe_str⟩ ⟨pe_int⟩ bps_nil)))))) rfl rfl (by simp) (by decide)) ⟨(pe_ix ix_tup (pv 0) pe_int (fun _ _ => rfl))⟩ ⟨pe_int⟩ ⟨base_dict _ _ _ _ _ _, rfl, rfl, rfl⟩)))).un, ?_⟩
  have hin := Tm.hd_in hk
  refine ⟨_, rfl, p, _, _, _, rfl, rfl, SqT.of hp, atI_nat (j := 0) rfl, small (n := 6) (by decide), fun tp htp => ?_⟩
  have g1 := same_new htp (.tup (cmpS.map V.str))
  refine ⟨tp, cmpS.map V.str, rfl, .inr (SqT.of upd_same), rfl, (by rfl), _, rfl, ?_⟩
  refine ite2 (fun k => ?_) (fun k => ?_)
  · have z := q _ g1
    rw [lv_cmp _ hin k] at z
    exact z
  · refine fun d hd => ?_
    have g2 := same_new hd (.dK [])
    refine ⟨upd_same, lvT, rfl, by decide, d, rfl, .inl ⟨_, .inl upd_same⟩, ?_⟩
    rw [upd_upd]
    have g3 := g1.trans (same_new hd (.dK (mergeK [] lvT)))
    refine ⟨_, rfl, p, _, _, _, rfl, rfl, SqT.of (g3 _ _ hp), atI_nat (j := 0) rfl, _, DGet.k (k := Sum.inr t.hd) upd_same, ?_⟩
    rw [lv_tab _ hin k]
    exact q _ g3
def spText (n : Nat) : Sp := fun vs H Q _ => ∃ v t, vs = [v] ∧ TmAt H v t ∧ t.ok ∧ t.deep < n ∧ n ≤ 9 ∧ ∀ H', Same H H' → Q (.str t.txt) H'
def spWrap (n : Nat) : Sp := fun vs H Q _ => ∃ v t, ∃ i : Int, vs = [v, .int i] ∧ TmAt H v t ∧ t.ok ∧ t.deep < n ∧ n ≤ 9 ∧ ∀ H', Same H H' → Q (.str (wrS i (lvS t.hd) t.txt)) H'
theorem ok_wrapped (T : Txt K mg a) (n : Nat) (ih : FnOk P w K mg base CX0 (2 * n + 1) a.f_text a.d_text ["_law_term_here"] (spText n)) : FnOk P w K mg base CX0 (2 * n + 2) a.f_wrapped a.d_wrapped ["_law_term_here", "_law_least"] (spWrap n) := by
  refine T.F_wrapped.ok sc_wrapped (fun vs H Q E h => ?_) (fun cdv A outer s H vs Q E hr h => ?_)
  · obtain ⟨_, _, _, rfl, _⟩ := h; rfl
  obtain ⟨v, t, i, rfl, ht, hok, hd, h9, q⟩ := h
  have l1 : ("(" : Str).length = 1 := by decide +kernel
  have l2 : (")" : Str).length = 1 := by decide +kernel
  have hlen := Tm.len8 hok (by omega)
  refine ⟨_, (pss_cons (ps_set (i := 2) sc_wrapped.nd rfl (by first | exact Or.inl rfl | exact Or.inr rfl) (pe_call ih (hr.mono (by omega)) rfl T.m_text T.F_text.kp T.b_text .nil pass0 (pa_cons (pv 0) pa_nil))) (pss_one (ps_ret (pe_ifExp (pt_cmpR op_lt (pe_call (ok_level T) (hr.mono (by omega)) rfl T.m_level T.F_level.kp T.b_level .nil pass0 (pa_cons (pv 0) pa_nil)) (pv 1) (nomark _)) (pe_op op_add_str (pe_op op_add_str pe_str (pv 2)) pe_str) (pv 2))))), ?_⟩
  refine ⟨_, rfl, v, t, rfl, ht, hok, hd, h9, fun H1 g1 => ?_⟩
  refine ⟨_, rfl, v, t, rfl, ht.same g1, hok, fun H2 g2 => ?_⟩
  refine ⟨_, rfl, _, _, rfl, rfl, _, rfl, ite2 (fun k => ?_) (fun k => ?_)⟩
  · have k' : lvS t.hd < i := of_decide_eq_true k
    refine ⟨_, rfl, _, _, rfl, rfl, ?_, _, _, rfl, rfl, ?_, ?_⟩
    · rw [l1]; exact line_of (by omega)
    · rw [cat_len, l1, l2]; exact line_of (by omega)
    · have := q H2 (g1.trans g2)
      unfold wrS at this
      rw [if_pos k'] at this
      exact this
  · have k' : ¬ lvS t.hd < i := fun z => k (decide_eq_true z)
    refine ⟨_, rfl, ?_⟩
    have := q H2 (g1.trans g2)
    unfold wrS at this
    rw [if_neg k'] at this
    exact this
theorem lit_in5 : ∀ s ∈ allS, inV (.str s) [.str "number", .str "word", .str "flag"] = decide (s ∈ litS) := by decide +kernel
theorem bin_no : ∀ s ∈ binS, s ≠ "field" ∧ s ≠ "has" ∧ s ≠ "not" ∧ s ∉ litS := by decide +kernel
theorem nam_lit : ∀ s ∈ namS, s ∉ litS := by decide +kernel
theorem ok_text_succ (T : Txt K mg a) (n : Nat) (ih : FnOk P w K mg base CX0 (2 * n + 2) a.f_wrapped a.d_wrapped ["_law_term_here", "_law_least"] (spWrap n)) : FnOk P w K mg base CX0 (2 * (n + 1) + 1) a.f_text a.d_text ["_law_term_here"] (spText (n + 1)) := by
  refine T.F_text.ok sc_text (fun vs H Q E h => ?_) (fun cdv A outer s H vs Q E hr h => ?_)
  · obtain ⟨_, _, rfl, _⟩ := h; rfl
  obtain ⟨v, t, rfl, ht, hok, hd, h9, q⟩ := h
  have l1 : (" " : Str).length = 1 := by decide +kernel
  have l2 : ("not " : Str).length = 4 := by decide +kernel
  have l3 : ("has " : Str).length = 4 := by decide +kernel
  refine ⟨_, (pss_cons (ps_if (pt_cmpR op_in_seq (pe_ix ix_tup (pv 0) pe_int (fun _ _ => rfl)) (pe_tup (pa_cons pe_str (pa_cons pe_str (pa_cons pe_str pa_nil)))) (by with_unfolding_all rfl)) (pss_one (ps_ret (pe_call (ok_L_value_text T) (hr.mono (by omega)) rfl T.m_L_value_text T.F_L_value_text.kp T.b_L_value_text .nil pass0 (pa_cons (pe_ix ix_tup (pv 0) pe_int (fun _ _ => rfl)) pa_nil)))) pss_nil) (pss_cons (ps_if (pt_cmpR op_eq (pe_ix ix_tup (pv 0) pe_int (fun _ _ => rfl)) pe_str (nomark _)) (pss_one (ps_ret (pe_ix ix_tup (pv 0) pe_int (fun _ _ => rfl)))) pss_nil) (pss_cons (ps_if (pt_cmpR op_eq (pe_ix ix_tup (pv 0) pe_int (fun _ _ => rfl)) pe_str (nomark _)) (pss_one (ps_ret (pe_op op_add_str pe_str (pe_ix ix_tup (pv 0) pe_int (fun _ _ => rfl))))) pss_nil) (pss_cons (ps_if (pt_cmpR op_eq (pe_ix ix_tup (pv 0) pe_int (fun _ _ => rfl)) pe_str (nomark _)) (pss_one (ps_ret (pe_op op_add_str pe_str (pe_call ih (hr.mono (by omega)) rfl T.m_wrapped T.F_wrapped.kp T.b_wrapped .nil pass0 (pa_cons (pe_ix ix_tup (pv 0) pe_int (fun _ _ => rfl)) (pa_cons pe_int pa_nil)))))) pss_nil) (pss_cons (ps_set (i := 1) sc_text.nd rfl (by first | exact Or.inl rfl | exact Or.inr rfl) (pe_call (ok_level T) (hr.mono (by omega)) rfl T.m_level T.F_level.kp T.b_level .nil pass0 (pa_cons (pv 0) pa_nil))) (pss_cons (ps_set (i := 2) sc_text.nd rfl (by first | exact Or.inl rfl | exact Or.inr rfl) (pe_call ih (hr.mono (by omega)) rfl T.m_wrapped T.F_wrapped.kp T.b_wrapped .nil pass0 (pa_cons (pe_ix ix_tup (pv 0) pe_int (fun _ _ => rfl)) (pa_cons (pe_op op_add (pv 1) (pe_callTy call_int1 rfl T.n_int (by decide +kernel) (pa_cons (pe_cmpR op_eq (pv 1) pe_int (nomark _)) pa_nil))) pa_nil)))) (pss_one (ps_ret (pe_op op_add_str (pe_op op_add_str (pe_op op_add_str (pe_op op_add_str (pv 2) pe_str) (pe_ix ix_tup (pv 0) pe_int (fun _ _ => rfl))) pe_str) (pe_call ih (hr.mono (by omega)) rfl T.m_wrapped T.F_wrapped.kp T.b_wrapped .nil pass0 (pa_cons (pe_ix ix_tup (pv 0) pe_int (fun _ _ => rfl)) (pa_cons (pe_op op_add (pv 1) pe_int) pa_nil)))))))))))), ?_⟩
  obtain ⟨p, xs, rfl, hp⟩ := ht.top
  have hin := Tm.hd_in hok
  have ht0 := ht
  refine ⟨_, rfl, p, _, _, _, rfl, rfl, SqT.of hp, atI_nat (j := 0) rfl, small (n := 3) (by decide), fun tp htp => ?_⟩
  have g1 := same_new htp (.tup [.str "number", .str "word", .str "flag"])
  refine ⟨tp, _, rfl, .inr (SqT.of upd_same), rfl, rfl, _, rfl, ite2 (fun k => ?_) (fun k => ?_)⟩
  · have k' : inV (.str t.hd) [.str "number", .str "word", .str "flag"] = true := k
    rw [lit_in5 _ hin] at k'
    have k' := of_decide_eq_true k'
    cases t with
    | nam s x => exact absurd k' (nam_lit s hok.1)
    | neg t => exact absurd k' (by show ("not" : Str) ∉ litS; decide +kernel)
    | bin s l r => exact absurd k' (bin_no s hok.1).2.2.2
    | lit s x =>
      obtain ⟨p', e, hp'⟩ := ht
      cases e
      exact ⟨_, rfl, p, _, _, _, rfl, rfl, SqT.of (g1 _ _ hp'), atI_nat (j := 1) rfl, x, rfl, hok.2, fun H' g => q H' (g1.trans g)⟩
  have k' : ¬ inV (.str t.hd) [.str "number", .str "word", .str "flag"] = true := k
  rw [lit_in5 _ hin] at k'
  have hp1 := g1 _ _ hp
  cases t with
  | lit s x => exact absurd (decide_eq_true hok.1) k'
  | nam s x =>
    obtain ⟨p', e, hp'⟩ := ht
    cases e
    have hp2 := g1 _ _ hp'
    have q' := q _ g1
    rcases nam_cases s hok.1 with rfl | rfl
    · exact ⟨_, rfl, p, _, _, _, rfl, rfl, SqT.of hp2, atI_nat (j := 0) rfl, rfl, _, rfl, iteT ⟨_, rfl, p, _, _, _, rfl, rfl, SqT.of hp2, atI_nat (j := 1) rfl, q'⟩⟩
    · refine ⟨_, rfl, p, _, _, _, rfl, rfl, SqT.of hp2, atI_nat (j := 0) rfl, rfl, _, rfl, iteF ⟨_, rfl, p, _, _, _, rfl, rfl, SqT.of hp2, atI_nat (j := 0) rfl, rfl, _, rfl, iteT ?_⟩⟩
      have := hok.2
      refine ⟨_, rfl, p, _, _, _, rfl, rfl, SqT.of hp2, atI_nat (j := 1) rfl, _, _, rfl, rfl, ?_, q'⟩
      rw [l3]; exact line_of (by omega)
  | neg t1 =>
    obtain ⟨p', w1, e, hp', ht1⟩ := ht
    cases e
    have hp2 := g1 _ _ hp'
    have hd1 : t1.deep < n := by have : t1.deep + 1 < n + 1 := hd; omega
    have hlen := Tm.len8 (t := t1) hok (by omega)
    have hw := wr_len 3 (lvS t1.hd) t1.txt
    refine ⟨_, rfl, p, _, _, _, rfl, rfl, SqT.of hp2, atI_nat (j := 0) rfl, rfl, _, rfl, iteF ⟨_, rfl, p, _, _, _, rfl, rfl, SqT.of hp2, atI_nat (j := 0) rfl, rfl, _, rfl, iteF ⟨_, rfl, p, _, _, _, rfl, rfl, SqT.of hp2, atI_nat (j := 0) rfl, rfl, _, rfl, iteT ?_⟩⟩⟩
    refine ⟨_, rfl, p, _, _, _, rfl, rfl, SqT.of hp2, atI_nat (j := 1) rfl, w1, t1, 3, rfl, ht1.same g1, hok, hd1, by omega, fun H2 g2 => ?_⟩
    refine ⟨_, _, rfl, rfl, ?_, q H2 (g1.trans g2)⟩
    rw [l2]; exact line_of (by omega)
  | bin s t1 t2 =>
    obtain ⟨p', w1, w2, e, hp', ht1, ht2⟩ := ht
    cases e
    have hp2 := g1 _ _ hp'
    obtain ⟨hs, ok1, ok2⟩ := hok
    obtain ⟨n1, n2, n3, n4⟩ := bin_no s hs
    have hdd : max t1.deep t2.deep + 1 < n + 1 := hd
    have hlen1 := Tm.len8 ok1 (by omega)
    have hlen2 := Tm.len8 ok2 (by omega)
    have hls := bin_len s hs
    refine ⟨_, rfl, p, _, _, _, rfl, rfl, SqT.of hp2, atI_nat (j := 0) rfl, rfl, _, rfl, ite2 (fun z => absurd (by have := of_decide_eq_true z; injection this) n1) (fun _ => ?_)⟩
    refine ⟨_, rfl, p, _, _, _, rfl, rfl, SqT.of hp2, atI_nat (j := 0) rfl, rfl, _, rfl, ite2 (fun z => absurd (by have := of_decide_eq_true z; injection this) n2) (fun _ => ?_)⟩
    refine ⟨_, rfl, p, _, _, _, rfl, rfl, SqT.of hp2, atI_nat (j := 0) rfl, rfl, _, rfl, ite2 (fun z => absurd (by have := of_decide_eq_true z; injection this) n3) (fun _ => ?_)⟩
    refine ⟨_, rfl, _, _, rfl, ht0.same g1, ⟨hs, ok1, ok2⟩, fun H2 g2 => ?_⟩
    have el : lvS (Tm.bin s t1 t2).hd = lvS s := rfl
    rw [el]
    have g12 := g1.trans g2
    refine ⟨_, rfl, p, _, _, _, rfl, rfl, SqT.of (g2 _ _ hp2), atI_nat (j := 1) rfl, _, rfl, _, rfl, rfl, .inr ⟨_, rfl, _, _, rfl, rfl, w1, t1, _, rfl, ht1.same g12, ok1, by omega, by omega, fun H3 g3 => ?_⟩⟩
    have g123 := g12.trans g3
    have ex : (Tm.bin s t1 t2).txt = wrS (lvS s + (if decide (lvS s = 4) = true then 1 else 0)) (lvS t1.hd) t1.txt ++ " " ++ s ++ " " ++ wrS (lvS s + 1) (lvS t2.hd) t2.txt := rfl
    rw [ex] at q
    have e4 : (if decide (V.int (lvS s) = V.int 4) = true then (1 : Int) else 0) = (if decide (lvS s = 4) = true then 1 else 0) := by
      by_cases z : lvS s = 4
      · rw [z]; rfl
      · rw [decide_eq_false z, decide_eq_false fun y => z (by injection y)]
    rw [e4]
    have hw1 := wr_len (lvS s + (if decide (lvS s = 4) = true then 1 else 0)) (lvS t1.hd) t1.txt
    have hw2 := wr_len (lvS s + 1) (lvS t2.hd) t2.txt
    generalize wrS (lvS s + (if decide (lvS s = 4) = true then 1 else 0)) (lvS t1.hd) t1.txt = y1 at q hw1
    refine ⟨_, rfl, _, _, rfl, rfl, ?_, _, rfl, p, _, _, _, rfl, rfl, SqT.of (g123 _ _ hp'), atI_nat (j := 0) rfl, _, _, rfl, rfl, ?_, _, _, rfl, rfl, ?_, _, rfl, p, _, _, _, rfl, rfl, SqT.of (g123 _ _ hp'), atI_nat (j := 2) rfl, _, rfl, _, _, rfl, rfl, w2, t2, _, rfl, ht2.same g123, ok2, by omega, by omega, fun H4 g4 => ⟨_, _, rfl, rfl, ?_, q H4 (g123.trans g4)⟩⟩
    · rw [l1]; exact line_of (by omega)
    · rw [cat_len, l1]; exact line_of (by omega)
    · rw [cat_len, cat_len, l1]; exact line_of (by omega)
    · rw [cat_len, cat_len, cat_len, l1]; exact line_of (by omega)
theorem ok_text (T : Txt K mg a) : ∀ n, FnOk P w K mg base CX0 (2 * n + 1) a.f_text a.d_text ["_law_term_here"] (spText n)
  | 0 => fn_false fun vs H Q E h => by obtain ⟨_, _, _, _, _, h, _⟩ := h; omega
  | n + 1 => ok_text_succ T n (ok_wrapped T n (ok_text T n))
end

end My

set_option Elab.async false
set_option linter.all false
set_option maxRecDepth 100000
set_option maxHeartbeats 4000000
namespace My
open PySem L2
abbrev arS : List Str := ["+", "-", "*"]
abbrev boS : List Str := ["and", "or"]
abbrev ltS : List Str := ["<", "<=", ">", ">="]
abbrev eqS : List Str := ["=", "!="]
def kk : List (Str × Str) := [("took", "number"), ("user", "word"), ("ok", "flag"), ("a", "number"), ("level", "word"), ("that_x", "number")]
def KD (m : Nat) : List (Key × V) := (kk.take m).map fun p => (Sum.inr p.1, V.str p.2)
theorem ar_bin : ∀ s ∈ arS, s ∈ binS := by decide +kernel
theorem bo_bin : ∀ s ∈ boS, s ∈ binS := by decide +kernel
theorem lt_bin : ∀ s ∈ ltS, s ∈ binS := by decide +kernel
theorem eq_bin : ∀ s ∈ eqS, s ∈ binS := by decide +kernel
theorem Ev.free {d b : Addr} {H H' : Hp} (e : Ev d H H') (h : H' b = none) : H b = none := by
  cases hh : H b with
  | none => rfl
  | some o =>
    have := e.same b o (e.drw.ne_of_none h) hh
    rw [this] at h; cases h
/-- pairs of two lists, as tuples -/
theorem comp_pairs {K : PySem.W.Frag} {p q : Addr} {xs ys : List V} {im : List (Option Nat)} {σ : St} {H : Hp} {Q : VK} {te : TE} (hl : xs.length ≤ ys.length) (hp : SqL K H p xs) (hq : SqL K H q ys) (hz : xs.length ≤ sizeLine)
    (he : ∀ x y H' (R : VK), (∀ T, H' T = none → R (.ref T) (upd H' T (.tup [x, y]))) → te (((inner im σ).set 0 (some x)).set 1 (some y)) H' R)
    (hQ : ∀ D (ts : List Addr) H', Same H H' → ts.length = xs.length → (∀ (j : Nat) (t : Addr), ts[j]? = some t → ∃ x y, xs[j]? = some x ∧ ys[j]? = some y ∧ H' t = some (.tup [x, y])) → H' D = none → Q (.ref D) (upd H' D (.lst (ts.map V.ref)))) :
    CompAt im (gTup K 2 (gCons (gName 0) (gCons (gName 1) gNil))) tNoIf te σ Q (Itz K p q) H := by
  refine ⟨fun i m zs H' => m = xs.length - i ∧ i ≤ xs.length ∧ ∃ ts : List Addr, zs = ts.map V.ref ∧ ts.length = i ∧ Same H H' ∧ ∀ (j : Nat) (t : Addr), ts[j]? = some t → ∃ x y, xs[j]? = some x ∧ ys[j]? = some y ∧ H' t = some (.tup [x, y]), ⟨xs.length, by simp, Nat.zero_le _, [], rfl, rfl, Same.refl H, fun j t h => by simp at h⟩, ?_⟩
  rintro i m zs H' ⟨rfl, hi, ts, rfl, rfl, g, hts⟩
  refine ⟨by rw [List.length_map]; omega, ?_⟩
  by_cases hlt : ts.length < xs.length
  · have hlt2 : ts.length < ys.length := by omega
    refine .inr ⟨⟨xs, ys, xs[ts.length], ys[ts.length], g.seq hp, g.seq hq, List.getElem?_eq_getElem hlt, List.getElem?_eq_getElem hlt2⟩, fun u H'' yl => ?_⟩
    obtain ⟨T, rfl, hT, yl⟩ := yl
    obtain ⟨x, y, hx, hy, rfl⟩ := yl xs ys (g.seq hp) (g.seq hq)
    refine ⟨T, [x, y], rfl, SqT.of upd_same, rfl, x, [y], rfl, y, [], rfl, rfl, ?_⟩
    have g2 := same_new hT (.tup [x, y])
    refine he x y _ _ fun T2 hT2 => ⟨xs.length - (ts.length + 1), by omega, rfl, hlt, ts ++ [T2], by simp, by simp, (g.trans g2).trans (same_new hT2 _), fun j t hj => ?_⟩
    by_cases hjl : j < ts.length
    · rw [List.getElem?_append_left hjl] at hj
      obtain ⟨x', y', e1, e2, e3⟩ := hts j t hj
      exact ⟨x', y', e1, e2, same_new hT2 _ _ _ (g2 _ _ e3)⟩
    · rw [List.getElem?_append_right (by omega)] at hj
      have hj0 : j - ts.length = 0 := by
        cases h : j - ts.length with
        | zero => rfl
        | succ k => rw [h] at hj; simp at hj
      rw [hj0] at hj
      have ej : j = ts.length := by omega
      have et : T2 = t := by simpa using hj
      subst et ej
      exact ⟨x, y, hx, hy, upd_same⟩
  · have e : ts.length = xs.length := by omega
    exact .inl ⟨⟨xs, ys, g.seq hp, g.seq hq, (by omega)⟩, fun D hD => hQ D ts H' g e hts hD⟩
theorem eqLs_nil {ss : List Str} (h : ¬ eqLs (ss.map V.str) [] = true) : 1 ≤ ss.length := by
  cases ss with
  | nil => exact absurd rfl h
  | cons s ss => rw [List.length_cons]; omega
section
variable {P : Program} {w : World} {K : PySem.W.Frag} {mg : Str → Option Value} {base : Heap} {a : Adr}
/-- one of the texts of a list that was just laid -/
theorem of_disp {d b : Addr} {H : Hp} {Q : VK} {E : XK} (ss : List Str) (hD : Drw H d) (hb : H b = none) (l1 : 1 ≤ ss.length) (l2 : ss.length ≤ 1000) (q : ∀ s H', s ∈ ss → Ev d H H' → Q (.str s) H') : spOf [.ref d, .ref b] (upd H b (.lst (ss.map V.str))) Q E := by
  have ev := Ev.of hD (same_new hb (.lst (ss.map V.str)))
  refine ⟨d, _, rfl, ev.drw, .inr ⟨b, _, rfl, hD.ne_of_none hb, upd_same, by rw [List.length_map]; exact l1, by rw [List.length_map]; exact l2, fun v H' ev' hv => ?_⟩⟩
  obtain ⟨s, hs, rfl⟩ := List.mem_map.mp hv
  exact q s H' hs (ev.trans ev')
theorem kk_cut {r : Int} (h0 : 0 ≤ r) (h1 : r < 4) : ∃ m, 3 ≤ m ∧ m ≤ 6 ∧ cutV (kk.map fun p => V.str p.1) none (some (3 + r)) = (kk.take m).map (fun p => V.str p.1) ∧ foldK (KD m) = KD m := by
  have : r = 0 ∨ r = 1 ∨ r = 2 ∨ r = 3 := by omega
  rcases this with rfl | rfl | rfl | rfl
  · exact ⟨3, by decide, by decide, by decide +kernel, by decide +kernel⟩
  · exact ⟨4, by decide, by decide, by decide +kernel, by decide +kernel⟩
  · exact ⟨5, by decide, by decide, by decide +kernel, by decide +kernel⟩
  · exact ⟨6, by decide, by decide, by decide +kernel, by decide +kernel⟩
end
/-! ### kinds: a dict of names and sorts -/
def KS (ks : List (Str × Str)) : List (Key × V) := ks.map fun p => (Sum.inr p.1, V.str p.2)
abbrev own9 : List Str := ["took", "user", "ok", "a", "level", "that_x", "time", "source", "number"]
abbrev Pool : List Str := (["took", "user", "ok", "a", "level", "that_x", "time", "source", "number", "x", "twice", "that_y", "span", "session", "apart",
  "that_took", "that_user", "that_ok", "that_a", "that_level", "that_that_x", "that_time", "that_source", "that_number", "many", "all_", "top"] : List Str) ++
  (["fa", "fb", "fc", "fd", "fe", "ff", "fg", "fh", "fi", "fj", "fk", "fl", "fm", "fn", "fo", "fp", "fq", "fr", "fs", "ft", "fu", "fv", "fw", "fx", "fy", "fz"] : List Str)
theorem pool_len : ∀ n ∈ Pool, n.length ≤ 11 := by decide +kernel
theorem pool_own : ∀ n ∈ own9, n ∈ Pool ∧ ("that_" ++ n : Str) ∈ Pool := by decide +kernel
def srt3 (z : Str) : Prop := z = "number" ∨ z = "flag" ∨ z = "word"
structure KOk (ks : List (Str × Str)) : Prop where
  nd : (ks.map (·.1)).Nodup
  pool : ∀ n ∈ ks.map (·.1), n ∈ Pool
  srt : ∀ p ∈ ks, srt3 p.2
theorem nd_len {α : Type} [DecidableEq α] : ∀ (xs ys : List α), xs.Nodup → (∀ x ∈ xs, x ∈ ys) → xs.length ≤ ys.length
  | [], _, _, _ => Nat.zero_le _
  | x :: xs, ys, h, hs => by
    have hx := hs x List.mem_cons_self
    have h' := List.nodup_cons.mp h
    have := nd_len xs (ys.erase x) h'.2 fun y hy => by
      have hne : y ≠ x := fun z => h'.1 (z ▸ hy)
      exact (List.mem_erase_of_ne hne).mpr (hs y (List.mem_cons_of_mem _ hy))
    rw [List.length_erase_of_mem hx] at this
    have : 0 < ys.length := List.length_pos_of_mem hx
    rw [List.length_cons]; omega
theorem KOk.len {ks : List (Str × Str)} (h : KOk ks) : ks.length ≤ 53 := by
  have := nd_len _ Pool h.nd h.pool
  rw [List.length_map] at this
  exact Nat.le_trans this (by decide)
theorem KS_len (ks : List (Str × Str)) : (KS ks).length = ks.length := List.length_map _
theorem ks_keys (ks : List (Str × Str)) : ((KS ks).map (·.1)).map kV = (ks.map (·.1)).map V.str := by
  unfold KS
  rw [List.map_map, List.map_map, List.map_map]
  rfl
theorem ks_none : ∀ {ks : List (Str × Str)} {n : Str}, n ∉ ks.map (·.1) → valV (KS ks) (Sum.inr n) = none
  | [], _, _ => rfl
  | p :: ks, n, h => by
    have hne : ¬ (Sum.inr p.1 : Key) = Sum.inr n := fun z => h (by injection z with z; rw [← z]; exact List.mem_cons_self)
    show valV ((Sum.inr p.1, V.str p.2) :: KS ks) (Sum.inr n) = none
    rw [valV_neg hne]
    exact ks_none fun z => h (List.mem_cons_of_mem _ z)
theorem ks_val : ∀ {ks : List (Str × Str)} {p : Str × Str}, (ks.map (·.1)).Nodup → p ∈ ks → valV (KS ks) (Sum.inr p.1) = some (.str p.2)
  | q :: ks, p, h, hp => by
    have h' := List.nodup_cons.mp h
    rcases List.mem_cons.mp hp with e | hp
    · subst e; exact valV_pos rfl
    · have hne : ¬ (Sum.inr q.1 : Key) = Sum.inr p.1 := fun z => h'.1 (by injection z with z; show q.1 ∈ ks.map (·.1); rw [z]; exact List.mem_map.mpr ⟨p, hp, rfl⟩)
      show valV ((Sum.inr q.1, V.str q.2) :: KS ks) (Sum.inr p.1) = _
      rw [valV_neg hne]
      exact ks_val h'.2 hp
def putS (ks : List (Str × Str)) (n z : Str) : List (Str × Str) := if n ∈ ks.map (·.1) then ks.map (fun p => if p.1 = n then (p.1, z) else p) else ks ++ [(n, z)]
theorem putS_K (ks : List (Str × Str)) (n z : Str) : putK (KS ks) (Sum.inr n) (V.str z) = KS (putS ks n z) := by
  by_cases h : n ∈ ks.map (·.1)
  · have ha : ((KS ks).any fun kv => decide (kv.1 = (Sum.inr n : Key))) = true := by
      obtain ⟨p, hp, e⟩ := List.mem_map.mp h
      rw [List.any_eq_true]
      exact ⟨(Sum.inr p.1, V.str p.2), List.mem_map.mpr ⟨p, hp, rfl⟩, decide_eq_true (by rw [← e])⟩
    unfold putK putS
    rw [if_pos ha, if_pos h]
    unfold KS
    rw [List.map_map, List.map_map]
    refine List.map_congr_left fun p _ => ?_
    show (if (Sum.inr p.1 : Key) = Sum.inr n then ((Sum.inr p.1 : Key), V.str z) else (Sum.inr p.1, V.str p.2)) = (Sum.inr (if p.1 = n then (p.1, z) else p).1, V.str (if p.1 = n then (p.1, z) else p).2)
    by_cases e : p.1 = n
    · rw [if_pos (by rw [e]), if_pos e]
    · rw [if_neg (fun q => e (by injection q)), if_neg e]
  · rw [putK_new _ (ks_none h)]
    unfold putS
    rw [if_neg h]
    unfold KS
    rw [List.map_append]; rfl
theorem putS_keys (ks : List (Str × Str)) (n z : Str) : (putS ks n z).map (·.1) = if n ∈ ks.map (·.1) then ks.map (·.1) else ks.map (·.1) ++ [n] := by
  unfold putS
  split
  · rw [List.map_map]
    refine List.map_congr_left fun p _ => ?_
    show (if p.1 = n then (p.1, z) else p).1 = p.1
    split <;> rfl
  · rw [List.map_append]; rfl
theorem putS_mem {ks : List (Str × Str)} {n z : Str} {p : Str × Str} (h : p ∈ putS ks n z) : p = (n, z) ∨ p ∈ ks := by
  unfold putS at h
  split at h
  · obtain ⟨q, hq, e⟩ := List.mem_map.mp h
    by_cases e2 : q.1 = n
    · rw [if_pos e2] at e; rw [← e, e2]; exact .inl rfl
    · rw [if_neg e2] at e; rw [← e]; exact .inr hq
  · rcases List.mem_append.mp h with h | h
    · exact .inr h
    · exact .inl (by simpa using h)
theorem KOk.put {ks : List (Str × Str)} {n z : Str} (h : KOk ks) (hn : n ∈ Pool) (hz : srt3 z) : KOk (putS ks n z) := by
  refine ⟨?_, fun m hm => ?_, fun p hp => ?_⟩
  · rw [putS_keys]
    split
    · exact h.nd
    · rename_i hx
      refine List.nodup_append.mpr ⟨h.nd, by simp, fun a ha b hb => ?_⟩
      have : b = n := by simpa using hb
      subst this
      exact fun e => hx (e ▸ ha)
  · rw [putS_keys] at hm
    split at hm
    · exact h.pool m hm
    · rcases List.mem_append.mp hm with hm | hm
      · exact h.pool m hm
      · have : m = n := by simpa using hm
        rw [this]; exact hn
  · rcases putS_mem hp with e | hp
    · rw [e]; exact hz
    · exact h.srt p hp
theorem putS_ne (ks : List (Str × Str)) (n z : Str) : 1 ≤ (putS ks n z).length := by
  have := congrArg List.length (putS_keys ks n z)
  rw [List.length_map] at this
  rw [this]
  split
  · rename_i h
    exact List.length_pos_of_mem h
  · rw [List.length_append, List.length_singleton]; omega
theorem KOk.filter {ks : List (Str × Str)} (h : KOk ks) (f : Str × Str → Bool) : KOk (ks.filter f) := by
  have sub : ((ks.filter f).map (·.1)).Sublist (ks.map (·.1)) := List.Sublist.map _ (List.filter_sublist)
  exact ⟨h.nd.sublist sub, fun n hn => h.pool n (sub.subset hn), fun p hp => h.srt p (List.mem_filter.mp hp).1⟩
/-- a dict made of pairs whose names are unlike -/
theorem foldK_ks {ks : List (Str × Str)} (h : (ks.map (·.1)).Nodup) : foldK (KS ks) = KS ks := by
  have g : ∀ (ks done : List (Str × Str)), ((done ++ ks).map (·.1)).Nodup → (KS ks).foldl (fun a p => putK a p.1 p.2) (KS done) = KS (done ++ ks) := by
    intro ks
    induction ks with
    | nil => intro done _; rw [List.append_nil]; rfl
    | cons p ks ih =>
      intro done hd
      have hp : p.1 ∉ done.map (·.1) := fun z => by
        rw [List.map_append] at hd
        exact (List.nodup_append.mp hd).2.2 _ z _ (List.mem_cons_self) rfl
      show (KS ks).foldl (fun a p => putK a p.1 p.2) (putK (KS done) (Sum.inr p.1) (V.str p.2)) = _
      rw [putS_K]
      unfold putS
      rw [if_neg hp]
      have := ih (done ++ [p]) (by rw [List.append_assoc]; exact hd)
      rw [List.append_assoc] at this
      exact this
  have := g ks [] h
  exact this
/-- well sorted, by these kinds -/
def WK (ks : List (Str × Str)) : Tm → Str → Prop
  | .lit s v, z => s = z ∧ valS s v
  | .nam s n, z => (s = "field" ∧ (n, z) ∈ ks) ∨ (s = "has" ∧ z = "flag" ∧ n ∈ ks.map (·.1))
  | .neg t, z => z = "flag" ∧ WK ks t "flag"
  | .bin s l r, z => (s ∈ arS ∧ z = "number" ∧ WK ks l "number" ∧ WK ks r "number") ∨ (s ∈ boS ∧ z = "flag" ∧ WK ks l "flag" ∧ WK ks r "flag") ∨
      (s ∈ ltS ∧ z = "flag" ∧ WK ks l "number" ∧ WK ks r "number") ∨ (s ∈ eqS ∧ z = "flag" ∧ ∃ k, WK ks l k ∧ WK ks r k)
theorem KOk.nl {ks : List (Str × Str)} (h : KOk ks) {n : Str} (hn : n ∈ ks.map (·.1)) : n.length ≤ 11 := pool_len n (h.pool n hn)
theorem WK.ok {ks : List (Str × Str)} (hk : KOk ks) : ∀ {t : Tm} {z : Str}, WK ks t z → t.ok
  | .lit s v, z, h => ⟨by rcases h.2 with ⟨e, _⟩ | ⟨e, _⟩ | ⟨e, _⟩ <;> (subst e; decide +kernel), h.2.good⟩
  | .nam s n, z, h => by
    rcases h with ⟨e, h⟩ | ⟨e, _, h⟩
    · subst e
      exact ⟨by decide +kernel, Nat.le_trans (hk.nl (List.mem_map.mpr ⟨_, h, rfl⟩)) (by decide)⟩
    · subst e
      exact ⟨by decide +kernel, Nat.le_trans (hk.nl h) (by decide)⟩
  | .neg t, z, h => show t.ok from WK.ok hk h.2
  | .bin s l r, z, h => by
    rcases h with ⟨hs, _, h1, h2⟩ | ⟨hs, _, h1, h2⟩ | ⟨hs, _, h1, h2⟩ | ⟨hs, _, k, h1, h2⟩
    · exact ⟨ar_bin s hs, WK.ok hk h1, WK.ok hk h2⟩
    · exact ⟨bo_bin s hs, WK.ok hk h1, WK.ok hk h2⟩
    · exact ⟨lt_bin s hs, WK.ok hk h1, WK.ok hk h2⟩
    · exact ⟨eq_bin s hs, WK.ok hk h1, WK.ok hk h2⟩
/-- where kinds lie, and what the draw and they are to one another -/
structure Kn (H : Hp) (d kd : Addr) (ks : List (Str × Str)) : Prop where
  drw : Drw H d
  at' : H kd = some (.dK (KS ks))
  ok : KOk ks
theorem Kn.ne {H : Hp} {d kd : Addr} {ks : List (Str × Str)} (h : Kn H d kd ks) : kd ≠ d := fun z => by
  obtain ⟨xs, e⟩ := h.drw.some
  have := h.at'
  rw [z, e] at this; cases this
theorem Kn.ev {H H' : Hp} {d kd : Addr} {ks : List (Str × Str)} (h : Kn H d kd ks) (e : Ev d H H') : Kn H' d kd ks := ⟨e.drw, e.same _ _ h.ne h.at', h.ok⟩
structure Kn1 (H : Hp) (d kd : Addr) (ks : List (Str × Str)) : Prop extends Kn H d kd ks where
  ne1 : 1 ≤ ks.length
theorem Kn1.ev {H H' : Hp} {d kd : Addr} {ks : List (Str × Str)} (h : Kn1 H d kd ks) (e : Ev d H H') : Kn1 H' d kd ks := ⟨h.toKn.ev e, h.ne1⟩

end My

set_option Elab.async false
set_option linter.all false
set_option maxRecDepth 100000
set_option maxHeartbeats 4000000
namespace My
open PySem L2
section
variable {P : Program} {w : World} {K : PySem.W.Frag} {mg : Str → Option Value} {base : Heap} {a : Adr}
def spLeaf : Sp := fun vs H Q _ => ∃ d kd ks z, vs = [.ref d, .ref kd, .str z] ∧ Kn H d kd ks ∧ (z = "number" ∨ z = "flag" ∨ z = "word") ∧ ∀ v t H', Ev d H H' → TmAt H' v t → WK ks t z → t.deep = 0 → Q v H'
theorem ok_leaf (T : Txt K mg a) : FnOk P w K mg base CX0 6 a.f_leaf a.d_leaf ["_law_draw", "_law_kinds_here", "_law_sort"] spLeaf := by
  refine T.F_leaf.ok sc_leaf (fun vs H Q E h => ?_) (fun cdv A outer s H vs Q E hr h => ?_)
  · obtain ⟨_, _, _, _, rfl, _⟩ := h; rfl
  obtain ⟨d, kd, ks, z, rfl, hK, hz, q⟩ := h
  have hu := hr.units0
  have hu1 := hu_of hr
  refine ⟨_, (pss_cons (ps_setC (i := 3) sc_leaf.nd rfl (by first | exact Or.inl rfl | exact Or.inr rfl) ["_law_name", "_law_kinds_here", "_law_sort"] [none, some 1, some 2] (pi_list (pe_callB call_sortedS rfl T.n_sorted (by decide +kernel) (pa_cons (pe_callTy (call_listD rfl) rfl T.n_list (by decide +kernel) (pa_cons (pv 1) pa_nil)) pa_nil))) (fun _ _ _ _ _ => (pg_name (i := 0) (show List.Nodup (["_law_name", "_law_kinds_here", "_law_sort"] : List Str) from by decide +kernel) rfl (Or.inl rfl) (Or.inr rfl))) (fun _ _ _ _ _ => (pts_one (pt_cmpR op_eq (pe_dget hu1 (pv 1) (pv 0) (fun _ _ => rfl)) (pv 2) (nomark _)))) (fun _ _ _ _ _ => (pv 0))) (pss_cons (ps_if (PW.pt (pw_or (pt_cmpR (op_eqL hu) (pv 3) (pe_lst pa_nil) (nomark _)) (pw_or1 (pt_cmpR op_eq (pe_call (ok_take T) (hr.mono (by decide)) rfl T.m_take T.F_take.kp T.b_take .nil pass0 (pa_cons (pv 0) (pa_cons pe_int pa_nil))) pe_int (nomark _))))) (pss_one (ps_ret (pe_tup (pa_cons (pv 2) (pa_cons (pe_call (ok_value T) (hr.mono (by decide)) rfl T.m_value T.F_value.kp T.b_value .nil pass0 (pa_cons (pv 0) (pa_cons (pv 2) pa_nil))) pa_nil))))) pss_nil) (pss_one (ps_ret (pe_tup (pa_cons pe_str (pa_cons (pe_call (ok_of T) (hr.mono (by decide)) rfl T.m_of T.F_of.kp T.b_of .nil pass0 (pa_cons (pv 0) (pa_cons (pv 3) pa_nil))) pa_nil))))))), ?_⟩
  refine ⟨_, rfl, kd, _, rfl, .inl hK.at', fun l1 hl1 => ?_⟩
  rw [ks_keys]
  have g1 := same_new hl1 (.lst ((ks.map (·.1)).map V.str))
  have klen : (ks.map (·.1)).length ≤ 53 := by rw [List.length_map]; exact hK.ok.len
  refine ⟨l1, _, rfl, SqL.of upd_same, by omega, fun ss l2 hpm _ hl2 => ?_⟩
  have g2 := same_new hl2 (.lst (ss.map V.str))
  have ev2 := Ev.of hK.drw (g1.trans g2)
  have sl : ss.length ≤ 53 := by rw [hpm.length_eq]; exact klen
  have K2 := hK.ev ev2
  refine ⟨l2, rfl, ⟨_, SqL.of upd_same⟩, ?_⟩
  refine comp_listF (xs := ss.map V.str) (fun i ys H' => H' = _ ∧ ∃ zs : List Str, ys = zs.map V.str ∧ zs.length ≤ i ∧ ∀ n ∈ zs, (n, z) ∈ ks) ⟨rfl, [], rfl, Nat.le_refl _, by simp⟩ (fun i ys H' hi hR => ?_) (fun i x ys H' N hx hR hN => ?_) (fun ys H' hR D hDn => ?_)
  · obtain ⟨rfl, zs, rfl, h1, _⟩ := hR
    rw [List.length_map] at hi ⊢
    exact ⟨small (by omega), SqL.of upd_same⟩
  · obtain ⟨rfl, zs, rfl, h1, h2⟩ := hR
    rw [List.getElem?_map] at hx
    obtain ⟨n, hn, rfl⟩ := Option.map_eq_some_iff.mp hx
    have hmem : n ∈ ks.map (·.1) := hpm.mem_iff.mp (List.mem_of_getElem? hn)
    obtain ⟨pr, hpr, rfl⟩ := List.mem_map.mp hmem
    have hv := ks_val hK.ok.nd hpr
    refine ⟨_, rfl, _, rfl, kd, .str pr.2, rfl, ?_, _, rfl, rfl, _, rfl, ?_⟩
    · have := DGet.k (k := Sum.inr pr.1) K2.at'
      rw [hv] at this
      exact this
    · refine ite2 (fun k => ?_) (fun k => ?_)
      · have e : pr.2 = z := by
          have := of_decide_eq_true k
          injection this
        refine ⟨_, rfl, hN _ _ ⟨rfl, zs ++ [pr.1], by simp, by simp; omega, fun n hn => ?_⟩⟩
        rcases List.mem_append.mp hn with hn | hn
        · exact h2 n hn
        · have : n = pr.1 := by simpa using hn
          rw [this, ← e]; exact hpr
      · exact hN _ _ ⟨rfl, zs, rfl, by omega, h2⟩
  · obtain ⟨rfl, zs, rfl, h1, h2⟩ := hR
    rw [List.length_map] at h1
    have g3 := same_new hDn (.lst (zs.map V.str))
    have ev3 := ev2.then g3
    have lit : ∀ H4, Ev d H H4 → tRet (tTup (tCons (tVar 2) (tCons (tCall spVal [] E (tCons (tVar 0) (tCons (tVar 2) tNil))) tNil))) { nx := fun _ H' => Q .non H', rt := Q } [some (.ref d), some (.ref kd), some (.str z), some (.ref D)] H4 := fun H4 ev4 => by
      refine ⟨_, rfl, _, rfl, _, rfl, d, _, rfl, ev4.drw, hz, fun v H5 ev5 hv => ⟨small (n := 2) (by decide), fun t ht => ?_⟩⟩
      exact q _ (.lit z v) _ ((ev4.trans ev5).then (same_new ht _)) ⟨t, rfl, upd_same⟩ ⟨rfl, hv⟩ rfl
    refine ⟨_, rfl, small (n := 0) (by decide), fun e he => ?_⟩
    have g4 := same_new he (.lst [])
    refine ⟨D, e, _, _, rfl, rfl, SqL.of (g4 _ _ upd_same), SqL.of upd_same, flat_strs zs, rfl, _, rfl, ?_⟩
    refine ite2 (fun k => iteT ?_) (fun k => ?_)
    · exact lit _ (ev3.then g4)
    have ev4 := ev3.then g4
    refine ⟨_, rfl, d, _, rfl, ev4.drw, by decide, by decide, fun r H5 _ _ ev5 => ⟨rfl, _, rfl, ?_⟩⟩
    have ev6 := ev4.trans ev5
    refine ite2 (fun k => ?_) (fun k => ?_)
    · exact lit _ ev6
    have hD5 : H5 D = some (.lst (zs.map V.str)) := ev5.same _ _ (ev2.drw.ne_of_none hDn) (g4 _ _ upd_same)
    have h1' := eqLs_nil (ss := zs) (by assumption)
    refine ⟨_, rfl, _, rfl, d, _, rfl, ev6.drw, .inr ⟨D, _, rfl, ev2.drw.ne_of_none hDn, hD5, by rw [List.length_map]; exact h1', by rw [List.length_map]; omega, fun v H7 ev7 hv => ⟨small (n := 2) (by decide), fun t ht => ?_⟩⟩⟩
    obtain ⟨n, hn, rfl⟩ := List.mem_map.mp hv
    exact q _ (.nam "field" n) _ ((ev6.trans ev7).then (same_new ht _)) ⟨t, rfl, upd_same⟩ (.inl ⟨rfl, h2 n hn⟩) rfl
end

end My

set_option Elab.async false
set_option linter.all false
set_option maxRecDepth 100000
set_option maxHeartbeats 4000000
namespace My
open PySem L2
section
variable {P : Program} {w : World} {K : PySem.W.Frag} {mg : Str → Option Value} {base : Heap} {a : Adr}
def spTerm (n : Nat) : Sp := fun vs H Q _ => ∃ d kd ks z, ∃ i : Int, vs = [.ref d, .ref kd, .str z, .int i] ∧ Kn1 H d kd ks ∧ (z = "number" ∨ z = "flag" ∨ z = "word") ∧ 0 ≤ i ∧ i < n ∧ ∀ v t H', Ev d H H' → TmAt H' v t → WK ks t z → (t.deep : Int) ≤ i → Q v H'
def spTwo (n : Nat) : Sp := fun vs H Q _ => ∃ d kd ks z sg, ∃ i : Int, vs = [.ref d, .ref kd, .str z, .int i, .str sg] ∧ Kn1 H d kd ks ∧ (z = "number" ∨ z = "flag" ∨ z = "word") ∧ 1 ≤ i ∧ i ≤ n ∧
  ∀ v l r H', Ev d H H' → TmAt H' v (.bin sg l r) → WK ks l z → WK ks r z → (l.deep : Int) + 1 ≤ i → (r.deep : Int) + 1 ≤ i → Q v H'
theorem ok_two (T : Txt K mg a) (n : Nat) (ih : FnOk P w K mg base CX0 (5 + 2 * n) a.f_term a.d_term ["_law_draw", "_law_kinds_here", "_law_sort", "_law_deep"] (spTerm n)) :
    FnOk P w K mg base CX0 (5 + 2 * n + 1) a.f_two_parts a.d_two_parts ["_law_draw", "_law_kinds_here", "_law_sort", "_law_deep", "_law_sign"] (spTwo n) := by
  refine T.F_two_parts.ok sc_two_parts (fun vs H Q E h => ?_) (fun cdv A outer s H vs Q E hr h => ?_)
  · obtain ⟨_, _, _, _, _, _, rfl, _⟩ := h; rfl
  obtain ⟨d, kd, ks, z, sg, i, rfl, hK, hz, i1, i2, q⟩ := h
  refine ⟨_, (pss_cons (ps_set (i := 5) sc_two_parts.nd rfl (by first | exact Or.inl rfl | exact Or.inr rfl) (pe_call ih (hr.mono (by omega)) rfl T.m_term T.F_term.kp T.b_term .nil pass0 (pa_cons (pv 0) (pa_cons (pv 1) (pa_cons (pv 2) (pa_cons (pe_op op_sub (pv 3) pe_int) pa_nil)))))) (pss_one (ps_ret (pe_tup (pa_cons (pv 4) (pa_cons (pv 5) (pa_cons (pe_call ih (hr.mono (by omega)) rfl T.m_term T.F_term.kp T.b_term .nil pass0 (pa_cons (pv 0) (pa_cons (pv 1) (pa_cons (pv 2) (pa_cons (pe_op op_sub (pv 3) pe_int) pa_nil))))) pa_nil))))))), ?_⟩
  refine ⟨_, rfl, _, rfl, _, rfl, _, rfl, _, _, rfl, rfl, d, kd, ks, z, i - 1, rfl, hK, hz, by omega, by omega, fun v l H1 ev1 hl wl dl => ?_⟩
  refine ⟨_, rfl, _, rfl, _, rfl, _, rfl, _, rfl, _, rfl, _, _, rfl, rfl, d, kd, ks, z, i - 1, rfl, hK.ev ev1, hz, by omega, by omega, fun v2 r H2 ev2 hr2 wr dr => ?_⟩
  refine ⟨small (n := 3) (by decide), fun t ht => ?_⟩
  have g := same_new ht (.tup [.str sg, v, v2])
  exact q _ l r _ ((ev1.trans ev2).then g) ⟨t, v, v2, rfl, upd_same, (hl.ev ev1.drw ev2).same g, hr2.same g⟩ wl wr (by omega) (by omega)
theorem six_cut : cutV [.str "=", .str "!=", .str "<", .str "<=", .str ">", .str ">="] none (some (2 + 4 * 1)) = (["=", "!=", "<", "<=", ">", ">="] : List Str).map V.str := by decide +kernel
theorem two_cut : cutV [.str "=", .str "!=", .str "<", .str "<=", .str ">", .str ">="] none (some (2 + 4 * 0)) = (["=", "!="] : List Str).map V.str := by decide +kernel
theorem six_in : ∀ s ∈ (["=", "!=", "<", "<=", ">", ">="] : List Str), s ∈ eqS ∨ s ∈ ltS := by decide +kernel
theorem ar4_in : ∀ s ∈ (["+", "-", "*", "-"] : List Str), s ∈ arS := by decide +kernel
theorem sort4_in : ∀ s ∈ (["number", "number", "word", "flag"] : List Str), s = "number" ∨ s = "flag" ∨ s = "word" := by decide +kernel
theorem ok_term_succ (T : Txt K mg a) (n : Nat) (ih : FnOk P w K mg base CX0 (5 + 2 * n) a.f_term a.d_term ["_law_draw", "_law_kinds_here", "_law_sort", "_law_deep"] (spTerm n))
    (ih2 : FnOk P w K mg base CX0 (5 + 2 * n + 1) a.f_two_parts a.d_two_parts ["_law_draw", "_law_kinds_here", "_law_sort", "_law_deep", "_law_sign"] (spTwo n)) :
    FnOk P w K mg base CX0 (5 + 2 * n + 1 + 1) a.f_term a.d_term ["_law_draw", "_law_kinds_here", "_law_sort", "_law_deep"] (spTerm (n + 1)) := by
  refine T.F_term.ok sc_term (fun vs H Q E h => ?_) (fun cdv A outer s H vs Q E hr h => ?_)
  · obtain ⟨_, _, _, _, _, rfl, _⟩ := h; rfl
  obtain ⟨d, kd, ks, z, i, rfl, hK, hz, i1, i2, q⟩ := h
  have leaf : ∀ H1, Ev d H H1 → spLeaf [.ref d, .ref kd, .str z] H1 Q E := fun H1 ev => ⟨d, kd, ks, z, rfl, (hK.ev ev).toKn, hz, fun v t H' ev' ht hw hd => q v t H' (ev.trans ev') ht hw (by rw [hd]; omega)⟩
  have two : ∀ (H1 : Hp) (sg z' : Str), Ev d H H1 → 1 ≤ i → (z' = "number" ∨ z' = "flag" ∨ z' = "word") → (∀ l r, WK ks l z' → WK ks r z' → WK ks (.bin sg l r) z) → spTwo n [.ref d, .ref kd, .str z', .int i, .str sg] H1 Q E :=
    fun H1 sg z' ev j1 hz' hw => ⟨d, kd, ks, z', sg, i, rfl, hK.ev ev, hz', j1, by omega, fun v l r H' ev' ht wl wr dl dr => q v _ H' (ev.trans ev') ht (hw l r wl wr) (by
      have e : (Tm.bin sg l r).deep = max l.deep r.deep + 1 := rfl
      rw [e]; omega)⟩
  refine ⟨_, (pss_cons (ps_if (PW.pt (pw_or (pt_cmpR op_eq (pv 3) pe_int (nomark _)) (pw_or (pt_cmpR op_eq (pv 2) pe_str (nomark _)) (pw_or1 (pt_cmpR op_eq (pe_call (ok_take T) (hr.mono (by omega)) rfl T.m_take T.F_take.kp T.b_take .nil pass0 (pa_cons (pv 0) (pa_cons pe_int pa_nil))) pe_int (nomark _)))))) (pss_one (ps_ret (pe_call (ok_leaf T) (hr.mono (by omega)) rfl T.m_leaf T.F_leaf.kp T.b_leaf .nil pass0 (pa_cons (pv 0) (pa_cons (pv 1) (pa_cons (pv 2) pa_nil)))))) pss_nil) (pss_cons (ps_if (pt_cmpR op_eq (pv 2) pe_str (nomark _)) (pss_cons (ps_set (i := 4) sc_term.nd rfl (by first | exact Or.inl rfl | exact Or.inr rfl) (pe_call (ok_of T) (hr.mono (by omega)) rfl T.m_of T.F_of.kp T.b_of .nil pass0 (pa_cons (pv 0) (pa_cons (pe_lst (pa_cons pe_str (pa_cons pe_str (pa_cons pe_str (pa_cons pe_str pa_nil))))) pa_nil)))) (pss_one (ps_ret (pe_call ih2 (hr.mono (by omega)) rfl T.m_two_parts T.F_two_parts.kp T.b_two_parts .nil pass0 (pa_cons (pv 0) (pa_cons (pv 1) (pa_cons (pv 2) (pa_cons (pv 3) (pa_cons (pv 4) pa_nil))))))))) pss_nil) (pss_cons (ps_set (i := 5) sc_term.nd rfl (by first | exact Or.inl rfl | exact Or.inr rfl) (pe_call (ok_take T) (hr.mono (by omega)) rfl T.m_take T.F_take.kp T.b_take .nil pass0 (pa_cons (pv 0) (pa_cons pe_int pa_nil)))) (pss_cons (ps_if (pt_cmpR op_lt (pv 5) pe_int (nomark _)) (pss_one (ps_ret (pe_call ih2 (hr.mono (by omega)) rfl T.m_two_parts T.F_two_parts.kp T.b_two_parts .nil pass0 (pa_cons (pv 0) (pa_cons (pv 1) (pa_cons (pv 2) (pa_cons (pv 3) (pa_cons (pe_call (ok_of T) (hr.mono (by omega)) rfl T.m_of T.F_of.kp T.b_of .nil pass0 (pa_cons (pv 0) (pa_cons (pe_lst (pa_cons pe_str (pa_cons pe_str pa_nil))) pa_nil))) pa_nil)))))))) pss_nil) (pss_cons (ps_if (pt_cmpR op_eq (pv 5) pe_int (nomark _)) (pss_one (ps_ret (pe_tup (pa_cons pe_str (pa_cons (pe_call ih (hr.mono (by omega)) rfl T.m_term T.F_term.kp T.b_term .nil pass0 (pa_cons (pv 0) (pa_cons (pv 1) (pa_cons (pv 2) (pa_cons (pe_op op_sub (pv 3) pe_int) pa_nil))))) pa_nil))))) pss_nil) (pss_cons (ps_if (pt_cmpR op_eq (pv 5) pe_int (nomark _)) (pss_one (ps_ret (pe_tup (pa_cons pe_str (pa_cons (pe_call (ok_of T) (hr.mono (by omega)) rfl T.m_of T.F_of.kp T.b_of .nil pass0 (pa_cons (pv 0) (pa_cons (pe_callB call_sortedS rfl T.n_sorted (by decide +kernel) (pa_cons (pe_callTy (call_listD rfl) rfl T.n_list (by decide +kernel) (pa_cons (pv 1) pa_nil)) pa_nil)) pa_nil))) pa_nil))))) pss_nil) (pss_cons (ps_set (i := 6) sc_term.nd rfl (by first | exact Or.inl rfl | exact Or.inr rfl) (pe_call (ok_of T) (hr.mono (by omega)) rfl T.m_of T.F_of.kp T.b_of .nil pass0 (pa_cons (pv 0) (pa_cons (pe_lst (pa_cons pe_str (pa_cons pe_str (pa_cons pe_str (pa_cons pe_str pa_nil))))) pa_nil)))) (pss_cons (ps_set (i := 4) sc_term.nd rfl (by first | exact Or.inl rfl | exact Or.inr rfl) (pe_call (ok_of T) (hr.mono (by omega)) rfl T.m_of T.F_of.kp T.b_of .nil pass0 (pa_cons (pv 0) (pa_cons (pe_slice sl_list (pe_lst (pa_cons pe_str (pa_cons pe_str (pa_cons pe_str (pa_cons pe_str (pa_cons pe_str (pa_cons pe_str pa_nil))))))) po_none (po_some (pe_op op_add pe_int (pe_op op_mul pe_int (pe_callTy call_int1 rfl T.n_int (by decide +kernel) (pa_cons (pe_cmpR op_eq (pv 6) pe_str (nomark _)) pa_nil)))))) pa_nil)))) (pss_one (ps_ret (pe_call ih2 (hr.mono (by omega)) rfl T.m_two_parts T.F_two_parts.kp T.b_two_parts .nil pass0 (pa_cons (pv 0) (pa_cons (pv 1) (pa_cons (pv 6) (pa_cons (pv 3) (pa_cons (pv 4) pa_nil)))))))))))))))), ?_⟩
  refine ⟨_, rfl, rfl, _, rfl, ite2 (fun k1 => iteT ⟨_, rfl, _, rfl, _, rfl, leaf _ (Ev.refl hK.drw)⟩) (fun k1 => ⟨_, rfl, rfl, _, rfl, ite2 (fun k2 => iteT ⟨_, rfl, _, rfl, _, rfl, leaf _ (Ev.refl hK.drw)⟩) (fun k2 => ?_)⟩)⟩
  have j1 : 1 ≤ i := by
    have : i ≠ 0 := fun e => k1 (by rw [e]; rfl)
    omega
  refine ⟨_, rfl, d, _, rfl, hK.drw, by decide, by decide, fun r H1 _ _ ev1 => ⟨rfl, _, rfl, ite2 (fun k3 => ⟨_, rfl, _, rfl, _, rfl, leaf _ ev1⟩) (fun k3 => ?_)⟩⟩
  refine ⟨_, rfl, rfl, _, rfl, ite2 (fun k4 => ?_) (fun k4 => ?_)⟩
  · have ez : z = "number" := by have := of_decide_eq_true k4; injection this
    refine ⟨_, rfl, small (n := 4) (by decide), fun b hb => ?_⟩
    dsimp only [tCons, tNil]
    refine of_disp ["+", "-", "*", "-"] ev1.drw hb (by decide) (by decide) fun sg H2 hs ev2 => ?_
    exact ⟨_, rfl, _, rfl, _, rfl, _, rfl, _, rfl, two _ sg z (ev1.trans ev2) j1 hz fun l r wl wr => .inl ⟨ar4_in sg hs, ez, by rw [ez] at wl; exact wl, by rw [ez] at wr; exact wr⟩⟩
  have ez : z = "flag" := by
    rcases hz with e | e | e
    · exact absurd (by rw [e]; rfl) k4
    · exact e
    · exact absurd (by rw [e]; rfl) k2
  refine ⟨_, rfl, d, _, rfl, ev1.drw, by decide, by decide, fun r2 H2 _ _ ev2 => ?_⟩
  have ev12 := ev1.trans ev2
  refine ⟨_, rfl, _, _, rfl, rfl, _, rfl, ite2 (fun k5 => ?_) (fun k5 => ?_)⟩
  · refine ⟨_, rfl, _, rfl, _, rfl, _, rfl, _, rfl, small (n := 2) (by decide), fun b hb => ?_⟩
    dsimp only [tCons, tNil]
    refine of_disp ["and", "or"] ev12.drw hb (by decide) (by decide) fun sg H3 hs ev3 => ?_
    exact two _ sg z (ev12.trans ev3) j1 hz fun l r wl wr => .inr (.inl ⟨hs, ez, by rw [ez] at wl; exact wl, by rw [ez] at wr; exact wr⟩)
  refine ⟨_, rfl, rfl, _, rfl, ite2 (fun k6 => ?_) (fun k6 => ?_)⟩
  · refine ⟨_, rfl, _, rfl, _, rfl, _, rfl, _, _, rfl, rfl, d, kd, ks, z, i - 1, rfl, hK.ev ev12, hz, by omega, by omega, fun v t H3 ev3 ht wt dt => ⟨small (n := 2) (by decide), fun p hp => ?_⟩⟩
    have g := same_new hp (.tup [.str "not", v])
    exact q _ (.neg t) _ ((ev12.trans ev3).then g) ⟨p, v, rfl, upd_same, ht.same g⟩ ⟨ez, by rw [ez] at wt; exact wt⟩ (by
      have e : (Tm.neg t).deep = t.deep + 1 := rfl
      rw [e]; omega)
  have K2 := hK.ev ev12
  refine ⟨_, rfl, rfl, _, rfl, ite2 (fun k7 => ?_) (fun k7 => ?_)⟩
  · refine ⟨_, rfl, _, rfl, kd, _, rfl, .inl K2.at', fun l1 hl1 => ?_⟩
    rw [ks_keys]
    have g1 := same_new hl1 (.lst ((ks.map (·.1)).map V.str))
    have klen : (ks.map (·.1)).length ≤ 53 := by rw [List.length_map]; exact hK.ok.len
    have lne : 1 ≤ (ks.map (·.1)).length := by rw [List.length_map]; exact hK.ne1
    refine ⟨l1, _, rfl, SqL.of upd_same, by omega, fun ss l2 hpm _ hl2 => ?_⟩
    have g2 := same_new hl2 (.lst (ss.map V.str))
    have ev3 := ev12.then (g1.trans g2)
    have sl := hpm.length_eq
    refine ⟨d, _, rfl, ev3.drw, .inr ⟨l2, _, rfl, (ev12.then g1).drw.ne_of_none hl2, upd_same, by rw [List.length_map]; omega, by rw [List.length_map]; omega, fun v H4 ev4 hv => ⟨small (n := 2) (by decide), fun p hp => ?_⟩⟩⟩
    obtain ⟨nm, hn, rfl⟩ := List.mem_map.mp hv
    exact q _ (.nam "has" nm) _ ((ev3.trans ev4).then (same_new hp _)) ⟨p, rfl, upd_same⟩ (.inr ⟨rfl, ez, hpm.mem_iff.mp hn⟩) i1
  refine ⟨_, rfl, small (n := 4) (by decide), fun b hb => ?_⟩
  dsimp only [tCons, tNil]
  refine of_disp ["number", "number", "word", "flag"] ev12.drw hb (by decide) (by decide) fun z' H3 hs' ev3 => ?_
  have hz' := sort4_in z' hs'
  have ev123 := ev12.trans ev3
  refine ⟨_, rfl, small (n := 6) (by decide), fun l hl => ⟨_, rfl, rfl, .inr ⟨_, rfl, _, _, rfl, rfl, .inl ⟨by decide, by decide⟩, _, _, rfl, rfl, _, rfl, l, _, rfl, SqL.of upd_same, fun p hp => ?_⟩⟩⟩
  have evl := ev123.then (same_new hl (.lst [.str "=", .str "!=", .str "<", .str "<=", .str ">", .str ">="]))
  by_cases ek : z' = "number"
  · subst ek
    have e : (if decide (V.str "number" = V.str "number") = true then (1 : Int) else 0) = 1 := by decide +kernel
    rw [e, six_cut]
    dsimp only [tCons, tNil]
    refine of_disp ["=", "!=", "<", "<=", ">", ">="] evl.drw hp (by decide) (by decide) fun sg H4 hs ev4 => ?_
    refine ⟨_, rfl, _, rfl, _, rfl, _, rfl, _, rfl, two _ sg "number" (evl.trans ev4) j1 (.inl rfl) fun l r wl wr => ?_⟩
    rcases six_in sg hs with h | h
    · exact .inr (.inr (.inr ⟨h, ez, _, wl, wr⟩))
    · exact .inr (.inr (.inl ⟨h, ez, wl, wr⟩))
  · have e : (if decide (V.str z' = V.str "number") = true then (1 : Int) else 0) = 0 := by
      have : decide (V.str z' = V.str "number") = false := decide_eq_false fun h => ek (by injection h)
      rw [this]; rfl
    rw [e, two_cut]
    dsimp only [tCons, tNil]
    refine of_disp ["=", "!="] evl.drw hp (by decide) (by decide) fun sg H4 hs ev4 => ?_
    exact ⟨_, rfl, _, rfl, _, rfl, _, rfl, _, rfl, two _ sg z' (evl.trans ev4) j1 hz' fun l r wl wr => .inr (.inr (.inr ⟨hs, ez, _, wl, wr⟩))⟩
theorem ok_term (T : Txt K mg a) : ∀ n, FnOk P w K mg base CX0 (5 + 2 * n) a.f_term a.d_term ["_law_draw", "_law_kinds_here", "_law_sort", "_law_deep"] (spTerm n)
  | 0 => fn_false fun vs H Q E h => by obtain ⟨_, _, _, _, i, _, _, _, h1, h2, _⟩ := h; omega
  | n + 1 => ok_term_succ T n (ok_term T n) (ok_two T n (ok_term T n))
end

end My

set_option Elab.async false
set_option linter.all false
set_option maxRecDepth 100000
set_option maxHeartbeats 4000000
namespace My
open PySem L2
/-! ### stages of questions -/
inductive Sg
  | frm (ns : List Str)
  | whr (t : Tm)
  | wth (x : Str) (t : Tm)
  | nms (k : Str) (ns : List Str)
  | srt (x : Str) (b : Bool)
  | num (k : Str) (i : Int)
  | ses (i : Int) (ns : List Str)
  | joi (s x : Str) (i : Int)
  | fld (ths : List (Str × Str × Option Str)) (ns : List Str)
def optV : Option Str → V
  | none => .non
  | some x => .str x
def NsAt (H : Hp) (v : V) (ns : List Str) : Prop := ∃ p, v = .ref p ∧ H p = some (.tup (ns.map V.str))
def ThAt (H : Hp) (v : V) (t : Str × Str × Option Str) : Prop := ∃ p, v = .ref p ∧ H p = some (.tup [.str t.1, .str t.2.1, optV t.2.2])
def SgAt (H : Hp) : V → Sg → Prop
  | v, .frm ns => ∃ p u, v = .ref p ∧ H p = some (.tup [.str "from", u]) ∧ NsAt H u ns
  | v, .whr t => ∃ p u, v = .ref p ∧ H p = some (.tup [.str "where", u]) ∧ TmAt H u t
  | v, .wth x t => ∃ p u, v = .ref p ∧ H p = some (.tup [.str "with", .str x, u]) ∧ TmAt H u t
  | v, .nms k ns => ∃ p u, v = .ref p ∧ H p = some (.tup [.str k, u]) ∧ NsAt H u ns
  | v, .srt x b => ∃ p, v = .ref p ∧ H p = some (.tup [.str "sort", .str x, .bl b])
  | v, .num k i => ∃ p, v = .ref p ∧ H p = some (.tup [.str k, .int i])
  | v, .ses i ns => ∃ p u, v = .ref p ∧ H p = some (.tup [.str "sessions", .int i, u]) ∧ NsAt H u ns
  | v, .joi s x i => ∃ p, v = .ref p ∧ H p = some (.tup [.str "join", .str s, .str x, .int i])
  | v, .fld ths ns => ∃ p u1 u2 q xs, v = .ref p ∧ H p = some (.tup [.str "fold", u1, u2]) ∧ u1 = .ref q ∧ H q = some (.tup xs) ∧ Paired (ThAt H) xs ths ∧ NsAt H u2 ns
/-- what keeps tuples keeps stages -/
theorem NsAt.keep {H H' : Hp} (g : ∀ b xs, H b = some (.tup xs) → H' b = some (.tup xs)) {v : V} {ns : List Str} (h : NsAt H v ns) : NsAt H' v ns := let ⟨p, e, q⟩ := h; ⟨p, e, g _ _ q⟩
theorem ThAt.keep {H H' : Hp} (g : ∀ b xs, H b = some (.tup xs) → H' b = some (.tup xs)) {v : V} {t : Str × Str × Option Str} (h : ThAt H v t) : ThAt H' v t := let ⟨p, e, q⟩ := h; ⟨p, e, g _ _ q⟩
theorem SgAt.keep {H H' : Hp} (g : ∀ b xs, H b = some (.tup xs) → H' b = some (.tup xs)) : ∀ {s : Sg} {v : V}, SgAt H v s → SgAt H' v s
  | .frm _, _, ⟨p, u, e, h, r⟩ => ⟨p, u, e, g _ _ h, r.keep g⟩
  | .whr _, _, ⟨p, u, e, h, r⟩ => ⟨p, u, e, g _ _ h, r.keep g⟩
  | .wth _ _, _, ⟨p, u, e, h, r⟩ => ⟨p, u, e, g _ _ h, r.keep g⟩
  | .nms _ _, _, ⟨p, u, e, h, r⟩ => ⟨p, u, e, g _ _ h, r.keep g⟩
  | .srt _ _, _, ⟨p, e, h⟩ => ⟨p, e, g _ _ h⟩
  | .num _ _, _, ⟨p, e, h⟩ => ⟨p, e, g _ _ h⟩
  | .ses _ _, _, ⟨p, u, e, h, r⟩ => ⟨p, u, e, g _ _ h, r.keep g⟩
  | .joi _ _ _, _, ⟨p, e, h⟩ => ⟨p, e, g _ _ h⟩
  | .fld _ _, _, ⟨p, u1, u2, q, xs, e, h, e2, h2, r, r2⟩ => ⟨p, u1, u2, q, xs, e, g _ _ h, e2, g _ _ h2, Paired.mapP r fun _ _ z => z.keep g, r2.keep g⟩
theorem same_tup {H H' : Hp} (g : Same H H') : ∀ b xs, H b = some (.tup xs) → H' b = some (.tup xs) := fun b _ e => g b _ e
theorem ev_tup {d : Addr} {H H' : Hp} (e : Ev d H H') (hD : Drw H d) : ∀ b xs, H b = some (.tup xs) → H' b = some (.tup xs) := fun b _ h => e.same b _ (fun z => by
  obtain ⟨ys, q⟩ := hD.some
  rw [z, q] at h; cases h) h
abbrev howS : List Str := ["count", "sum", "least", "most", "unlike"]
abbrev kdS : List Str := ["keep", "drop"]
abbrev feS : List Str := ["first", "every"]
def okN (n : Str) : Prop := n.length ≤ 20 ∧ n ≠ "@"
def okI (i : Int) : Prop := (-(10 ^ 29) < i ∧ i < 10 ^ 29) ∨ i = 10 ^ 29
def okNs (ns : List Str) : Prop := ns.length ≤ 60 ∧ ∀ n ∈ ns, okN n
def Sg.ok : Sg → Prop
  | .frm ns => okNs ns ∨ ∃ x : Str, ns = (["@", x] : List Str) ∧ x.length ≤ 20
  | .whr t => t.ok ∧ t.deep < 4
  | .wth x t => okN x ∧ t.ok ∧ t.deep < 4
  | .nms k ns => k ∈ kdS ∧ okNs ns
  | .srt x _ => okN x
  | .num k i => k ∈ feS ∧ okI i
  | .ses i ns => okI i ∧ okNs ns
  | .joi s x i => okN s ∧ okN x ∧ okI i
  | .fld ths ns => ths.length ≤ 60 ∧ (∀ t ∈ ths, okN t.1 ∧ t.2.1 ∈ howS ∧ ∀ f, t.2.2 = some f → okN f) ∧ okNs ns
def itx (i : Int) : Str := Str.ofString (toString i)
theorem itx_ok {i : Int} (h : okI i) : i.natAbs.log2 < 1920 ∧ (itx i).length ≤ 30 := by
  rcases h with ⟨h0, h1⟩ | rfl
  · refine ⟨log_of h0 h1, (rd_int h0 h1).2⟩
  · exact ⟨by decide +kernel, by decide +kernel⟩
def nsT (ns : List Str) : Str := Txt.join " " ns
def byT (ns : List Str) : Str := if ns.isEmpty = true then "" else " by " ++ nsT ns
def thT (t : Str × Str × Option Str) : Str := t.1 ++ " = " ++ t.2.1 ++ (match t.2.2 with | none => "" | some f => " " ++ f)
def frT (ns : List Str) : Str := if ns.isEmpty = true then "all" else if ns.head? = some "@" then Txt.join "" ns else nsT ns
def Sg.word : Sg → Str
  | .frm _ => "from"
  | .whr _ => "where"
  | .wth _ _ => "with"
  | .nms k _ => k
  | .srt _ _ => "sort"
  | .num k _ => k
  | .ses _ _ => "sessions"
  | .joi _ _ _ => "join"
  | .fld _ _ => "fold"
def Sg.body : Sg → Str
  | .frm ns => frT ns
  | .whr t => t.txt
  | .wth x t => x ++ " = " ++ t.txt
  | .nms _ ns => nsT ns
  | .srt x b => x ++ " " ++ (if b = true then "down" else "up")
  | .num _ i => itx i
  | .ses i ns => itx i ++ byT ns
  | .joi s x i => s ++ " by " ++ x ++ " within " ++ itx i
  | .fld ths ns => Txt.join ", " (ths.map thT) ++ byT ns
def Sg.txt (s : Sg) : Str := s.word ++ " " ++ s.body
/-! lengths -/
theorem sum_le {L : Nat} : ∀ (ys : List Str), (∀ y ∈ ys, y.length ≤ L) → (ys.map (·.length)).sum ≤ L * ys.length
  | [], _ => Nat.le_refl _
  | y :: ys, h => by
    have := sum_le ys fun x hx => h x (List.mem_cons_of_mem _ hx)
    have := h y List.mem_cons_self
    rw [List.map_cons, List.sum_cons, List.length_cons, Nat.mul_succ]
    omega
theorem join_ok {L m n : Nat} {z : Str} {ys : List Str} (h : ∀ y ∈ ys, y.length ≤ L) (hn : ys.length ≤ n) (hz : z.length ≤ m) (hb : (L + m) * n ≤ 100000) : (ys.map (·.length)).sum + ys.length * z.length ≤ 16777216 := by
  have h1 := sum_le ys h
  have h2 : L * ys.length ≤ L * n := Nat.mul_le_mul_left _ hn
  have h3 : ys.length * z.length ≤ n * m := Nat.mul_le_mul hn hz
  rw [Nat.add_mul] at hb
  rw [Nat.mul_comm n m] at h3
  omega
theorem glue_le {L m : Nat} {z : Str} (hz : z.length ≤ m) (ys : List Str) (h : ∀ y ∈ ys, y.length ≤ L) : ∀ (acc : Array Nat), (ys.foldl (fun acc p => acc ++ z.cps ++ p.cps) acc).size ≤ acc.size + (L + m) * ys.length := by
  induction ys with
  | nil => intro acc; exact Nat.le_add_right _ _
  | cons y ys ih =>
    intro acc
    have h0 := h y List.mem_cons_self
    have := ih (fun x hx => h x (List.mem_cons_of_mem _ hx)) (acc ++ z.cps ++ y.cps)
    rw [Array.size_append, Array.size_append] at this
    rw [List.foldl_cons, List.length_cons, Nat.mul_succ]
    have e1 : z.cps.size ≤ m := hz
    have e2 : y.cps.size ≤ L := h0
    omega
theorem tjoin_len {L m n : Nat} {z : Str} {ys : List Str} (h : ∀ y ∈ ys, y.length ≤ L) (hn : ys.length ≤ n) (hz : z.length ≤ m) : (Txt.join z ys).length ≤ (L + m) * n := by
  refine Nat.le_trans ?_ (Nat.mul_le_mul_left _ hn)
  unfold Txt.join Builtin.Str.glued
  show (List.foldl _ _ _ : Array Nat).size ≤ _
  cases ys with
  | nil => exact Nat.zero_le _
  | cons y ys =>
    have h0 := h y List.mem_cons_self
    have := glue_le hz ys (fun x hx => h x (List.mem_cons_of_mem _ hx)) y.cps
    have e2 : y.cps.size ≤ L := h0
    rw [List.drop_succ_cons, List.drop_zero, List.headD_cons, List.length_cons, Nat.mul_succ]
    omega

end My

set_option Elab.async false
set_option linter.all false
set_option maxRecDepth 100000
set_option maxHeartbeats 4000000
namespace My
open PySem L2
/-! ### the program writes stages -/
theorem ecat (x : Str) : Str.empty ++ x = x := Str.empty_append x
theorem line5 {n : Nat} (h : n ≤ 100000) : n ≤ sizeLine := line_of (by omega)
theorem Paired.getP {α β : Type} {R : α → β → Prop} : ∀ {xs : List α} {ys : List β} {i : Nat} {x : α}, Paired R xs ys → xs[i]? = some x → ∃ y, ys[i]? = some y ∧ R x y
  | _, _, 0, _, .cons (b := r) h _, e => by cases e; exact ⟨r, rfl, h⟩
  | _, _, i + 1, _, .cons _ t, e => Paired.getP (i := i) t (by simpa using e)
  | _, _, _, _, .nil, e => by simp at e
/-- a comprehension over a tuple, an item for an item -/
theorem comp_tupG {K : PySem.W.Frag} {p : Addr} {xs zs : List V} {im : List (Option Nat)} {g : TG} {σ : St} {H : Hp} {Q : VK} {te : TE} (hl : zs.length = xs.length) (hp : H p = some (.tup xs)) (hz : xs.length ≤ 1000)
    (he : ∀ (i : Nat) x z H' (R : VK), xs[i]? = some x → zs[i]? = some z → Same H H' → (∀ H2, Same H' H2 → R z H2) → g x (inner im σ) H' fun σ2 H2 => te σ2 H2 R)
    (hQ : ∀ D H', Same H H' → H' D = none → Q (.ref D) (upd H' D (.lst zs))) : CompAt im g tNoIf te σ Q (Itt K p) H := by
  refine ⟨fun i m ys H' => m = xs.length - i ∧ i ≤ xs.length ∧ ys = zs.take i ∧ Same H H', ⟨xs.length, by simp, Nat.zero_le _, by simp, Same.refl H⟩, ?_⟩
  rintro i m ys H' ⟨rfl, hi, rfl, g⟩
  refine ⟨by rw [List.length_take]; exact line_of (by omega), ?_⟩
  have hp' := g _ _ hp
  by_cases hlt : i < xs.length
  · refine .inr ⟨⟨xs, xs[i], SqT.of hp', by simp [hlt]⟩, fun x H'' y => ?_⟩
    obtain ⟨e, y⟩ := y
    subst e
    have hx := y xs (SqT.of hp')
    have hzi : zs[i]? = some (zs[i]'(by omega)) := by simp [hl, hlt]
    refine he i x _ _ _ hx hzi g fun H2 g2 => ⟨xs.length - (i + 1), by omega, rfl, hlt, ?_, g.trans g2⟩
    rw [List.take_add_one, hzi]
    simp
  · have e : i = xs.length := by omega
    subst e
    refine .inl ⟨⟨xs, SqT.of hp', Nat.le_refl _⟩, fun D hD => ?_⟩
    rw [← hl, List.take_length]
    exact hQ D _ g hD
theorem okNs_sum {ns : List Str} (h : okNs ns) {z : Str} (hz : z.length ≤ 1) : (ns.map (·.length)).sum + ns.length * z.length ≤ 16777216 := join_ok (L := 20) (m := 1) (n := 60) (fun y hy => (h.2 y hy).1) h.1 hz (by decide)
theorem blank1 : (" " : Str).length = 1 := by decide +kernel
theorem nsT_len {ns : List Str} (h : okNs ns) : (nsT ns).length ≤ 1260 := tjoin_len (L := 20) (m := 1) (n := 60) (fun y hy => (h.2 y hy).1) h.1 (by decide +kernel)
theorem byT_len {ns : List Str} (h : okNs ns) : (byT ns).length ≤ 1264 := by
  have l4 : (" by " : Str).length = 4 := by decide +kernel
  have := nsT_len h
  unfold byT
  split
  · exact Nat.le_trans (show ("" : Str).length ≤ 0 by decide +kernel) (by decide)
  · rw [cat_len, l4]; omega
theorem thT_len {t : Str × Str × Option Str} (h : okN t.1 ∧ t.2.1 ∈ howS ∧ ∀ f, t.2.2 = some f → okN f) : (thT t).length ≤ 60 := by
  obtain ⟨x, how, f⟩ := t
  obtain ⟨h1, h2, h3⟩ := h
  have l3 : (" = " : Str).length = 3 := by decide +kernel
  have lh : ∀ s ∈ howS, s.length ≤ 6 := by decide +kernel
  have := lh how h2
  have l0 : ("" : Str).length = 0 := by decide +kernel
  have h1' : x.length ≤ 20 := h1.1
  unfold thT
  cases f with
  | none => show (x ++ " = " ++ how ++ "" : Str).length ≤ 60; rw [cat_len, cat_len, cat_len, l3, l0]; omega
  | some f =>
    have h3' : f.length ≤ 20 := (h3 f rfl).1
    show (x ++ " = " ++ how ++ (" " ++ f) : Str).length ≤ 60
    rw [cat_len, cat_len, cat_len, cat_len, l3, blank1]; omega
theorem kd_len : ∀ s ∈ kdS, s.length ≤ 8 := by decide +kernel
theorem fe_len : ∀ s ∈ feS, s.length ≤ 8 := by decide +kernel
theorem tm_len {t : Tm} (h : t.ok) (hd : t.deep < 4) : t.txt.length ≤ 6000 := by
  have := Tm.len h
  have m : 3 ^ t.deep ≤ 3 ^ 3 := Nat.pow_le_pow_right (by decide) (by omega)
  have e : 3 ^ 3 = 27 := by decide
  omega
theorem frT_len {ns : List Str} (h : okNs ns ∨ ∃ x : Str, ns = (["@", x] : List Str) ∧ x.length ≤ 20) : (frT ns).length ≤ 1300 := by
  have la : ("all" : Str).length = 3 := by decide +kernel
  have l1 : ("@" : Str).length = 1 := by decide +kernel
  unfold frT
  rcases h with h | ⟨x, rfl, hx⟩
  · have := nsT_len h
    split
    · omega
    · split
      · rename_i hh
        exfalso
        cases ns with
        | nil => exact absurd rfl (by assumption)
        | cons n ns =>
          have : n = "@" := by simpa using hh
          exact (h.2 n List.mem_cons_self).2 this
      · omega
  · have := tjoin_len (L := 20) (m := 0) (n := 2) (z := "") (ys := ["@", x]) (fun y hy => by
      rcases List.mem_cons.mp hy with e | hy
      · rw [e]; exact Nat.le_trans (Nat.le_of_eq l1) (by decide)
      · have : y = x := by simpa using hy
        rw [this]; exact hx) (Nat.le_refl 2) (by decide +kernel)
    rw [if_neg (by simp), if_pos (by simp)]
    omega
theorem body_len {s : Sg} (h : s.ok) : s.body.length ≤ 8000 := by
  have l3 : (" = " : Str).length = 3 := by decide +kernel
  have lb : (" by " : Str).length = 4 := by decide +kernel
  have lw : (" within " : Str).length = 8 := by decide +kernel
  cases s with
  | frm ns => have := frT_len h; show (frT ns).length ≤ 8000; omega
  | whr t => have := tm_len h.1 h.2; show t.txt.length ≤ 8000; omega
  | wth x t =>
    have := tm_len h.2.1 h.2.2
    have := h.1.1
    show (x ++ " = " ++ t.txt : Str).length ≤ 8000
    rw [cat_len, cat_len, l3]; omega
  | nms k ns => have := nsT_len h.2; show (nsT ns).length ≤ 8000; omega
  | srt x b =>
    have := h.1
    have l4 : ("down" : Str).length = 4 := by decide +kernel
    have l2 : ("up" : Str).length = 2 := by decide +kernel
    show (x ++ " " ++ (if b = true then "down" else "up") : Str).length ≤ 8000
    rw [cat_len, cat_len, blank1]
    split <;> omega
  | num k i => have := (itx_ok h.2).2; show (itx i).length ≤ 8000; omega
  | ses i ns =>
    have := (itx_ok h.1).2
    have := byT_len h.2
    show (itx i ++ byT ns : Str).length ≤ 8000
    rw [cat_len]; omega
  | joi s x i =>
    have := (itx_ok h.2.2).2
    have := h.1.1
    have := h.2.1.1
    show (s ++ " by " ++ x ++ " within " ++ itx i : Str).length ≤ 8000
    rw [cat_len, cat_len, cat_len, cat_len, lb, lw]; omega
  | fld ths ns =>
    have := byT_len h.2.2
    have l2 : (", " : Str).length ≤ 2 := by decide +kernel
    have := tjoin_len (L := 60) (m := 2) (n := 60) (z := ", ") (ys := ths.map thT) (fun y hy => by
      obtain ⟨t, ht, rfl⟩ := List.mem_map.mp hy
      exact thT_len (h.2.1 t ht)) (by rw [List.length_map]; exact h.1) l2
    show (Txt.join ", " (ths.map thT) ++ byT ns : Str).length ≤ 8000
    rw [cat_len]; omega
theorem word_len2 {s : Sg} (h : s.ok) : s.word.length ≤ 8 := by
  cases s with
  | nms k ns => exact kd_len k h.1
  | num k i => exact fe_len k h.1
  | frm ns => show ("from" : Str).length ≤ 8; decide +kernel
  | whr t => show ("where" : Str).length ≤ 8; decide +kernel
  | wth x t => show ("with" : Str).length ≤ 8; decide +kernel
  | srt x b => show ("sort" : Str).length ≤ 8; decide +kernel
  | ses i ns => show ("sessions" : Str).length ≤ 8; decide +kernel
  | joi s x i => show ("join" : Str).length ≤ 8; decide +kernel
  | fld t n => show ("fold" : Str).length ≤ 8; decide +kernel
theorem txt_len {s : Sg} (h : s.ok) : s.txt.length ≤ 8009 := by
  have := body_len h
  have := word_len2 h
  unfold Sg.txt
  rw [cat_len, cat_len, blank1]; omega
section
variable {P : Program} {w : World} {K : PySem.W.Frag} {mg : Str → Option Value} {base : Heap} {a : Adr}
def spVI : Sp := fun vs H Q _ => ∃ i, vs = [.int i] ∧ okI i ∧ ∀ H', Same H H' → Q (.str (itx i)) H'
theorem ok_value_textI (T : Txt K mg a) : FnOk P w K mg base CX0 1 a.f_value_text a.d_value_text ["value"] spVI := by
  refine T.F_value_text.ok sc_value_text (fun vs H Q E h => ?_) (fun cdv A outer s H vs Q E hr h => ?_)
  · obtain ⟨x, rfl, _⟩ := h; rfl
  obtain ⟨i, rfl, hi, q⟩ := h
  refine ⟨_, (pss_cons (ps_if (pt_val (pe_callB call_isinst rfl T.n_isinstance (by decide +kernel) (pa_cons (pv 0) (pa_cons (pe_bltn (v := .ty "bool") (u := .type "bool") rfl T.n_bool (by decide +kernel) rfl) pa_nil)))) (pss_one (ps_ret (pe_ifExp (pt_truth (pv 0) (fun _ => rfl)) pe_str pe_str))) pss_nil) (pss_cons (ps_if (pt_val (pe_callB call_isinst rfl T.n_isinstance (by decide +kernel) (pa_cons (pv 0) (pa_cons (pe_bltn (v := .ty "int") (u := .type "int") rfl T.n_int (by decide +kernel) rfl) pa_nil)))) (pss_one (ps_ret (pe_callTy call_str_int rfl T.n_str (by decide +kernel) (pa_cons (pv 0) pa_nil)))) pss_nil) (pss_one (ps_ret (pe_fstr (pj_cons pe_str (pj_cons (pe_fv (pv 0)) (pj_cons pe_str pj_nil)))))))), ?_⟩
  exact ⟨_, rfl, _, _, _, false, rfl, .int i, rfl, _, rfl, iteF ⟨_, rfl, _, _, _, true, rfl, .int i, rfl, _, rfl, iteT ⟨_, rfl, i, rfl, (itx_ok hi).1, q H (Same.refl H)⟩⟩⟩
def spNsT : Sp := fun vs H Q _ => ∃ v ns, vs = [v] ∧ NsAt H v ns ∧ okNs ns ∧ ∀ H', Same H H' → Q (.str (nsT ns)) H'
theorem ok_names_text (T : Txt K mg a) : FnOk P w K mg base CX0 1 a.f_names_text a.d_names_text ["names"] spNsT := by
  refine T.F_names_text.ok sc_names_text (fun vs H Q E h => ?_) (fun cdv A outer s H vs Q E hr h => ?_)
  · obtain ⟨_, _, rfl, _⟩ := h; rfl
  obtain ⟨v, ns, rfl, ⟨p, rfl, hp⟩, hok, q⟩ := h
  refine ⟨_, (pss_one (ps_ret (pe_bm PySem.F.plainAttrs_str PySem.F.slot_str_join PySem.F.type_str_join mt_joinT pe_str (pa_cons (pv 0) pa_nil)))), ?_⟩
  refine ⟨rfl, _, rfl, ?_⟩
  exact ⟨" ", p, ns, rfl, rfl, SqT.of hp, okNs_sum hok (Nat.le_of_eq blank1), q H (Same.refl H)⟩
theorem ns_empty (ns : List Str) : (ns.map V.str).isEmpty = ns.isEmpty := by cases ns <;> rfl
def spByT : Sp := fun vs H Q _ => ∃ v ns, vs = [v] ∧ NsAt H v ns ∧ okNs ns ∧ ∀ H', Same H H' → Q (.str (byT ns)) H'
theorem ok_by_text (T : Txt K mg a) : FnOk P w K mg base CX0 2 a.f_by_text a.d_by_text ["names"] spByT := by
  refine T.F_by_text.ok sc_by_text (fun vs H Q E h => ?_) (fun cdv A outer s H vs Q E hr h => ?_)
  · obtain ⟨_, _, rfl, _⟩ := h; rfl
  obtain ⟨v, ns, rfl, ⟨p, rfl, hp⟩, hok, q⟩ := h
  refine ⟨_, (pss_one (ps_ret (pe_ifExp (pt_truth (pv 0) (fun _ => rfl)) (pe_fstr (pj_cons pe_str (pj_cons (pe_fv (pe_call (ok_names_text T) (hr.mono (by decide)) rfl T.m_names_text T.F_names_text.kp T.b_names_text .nil pass0 (pa_cons (pv 0) pa_nil))) pj_nil))) pe_str))), ?_⟩
  have l4 : (" by " : Str).length = 4 := by decide +kernel
  have ln := nsT_len hok
  refine ⟨_, rfl, !ns.isEmpty, .inr (.inl ⟨_, SqT.of hp, by rw [ns_empty]⟩), ?_⟩
  unfold byT at q
  cases e : ns.isEmpty with
  | true => rw [e] at q; exact q H (Same.refl H)
  | false =>
    rw [e] at q
    refine ⟨_, rfl, by rw [ecat, l4]; exact line5 (by decide), _, rfl, _, ns, rfl, ⟨p, rfl, hp⟩, hok, fun H1 g1 => .inl ⟨_, rfl, line5 (by omega), _, rfl, ?_, ?_, ?_⟩⟩
    · rw [ecat, cat_len, l4]; exact line5 (by omega)
    · rw [ecat, cat_len, l4]; exact line5 (by omega)
    · rw [ecat]; exact q H1 g1
def spThT : Sp := fun vs H Q _ => ∃ v t, vs = [v] ∧ ThAt H v t ∧ (okN t.1 ∧ t.2.1 ∈ howS ∧ ∀ f, t.2.2 = some f → okN f) ∧ ∀ H', Same H H' → Q (.str (thT t)) H'
theorem ok_thing_text (T : Txt K mg a) : FnOk P w K mg base CX0 1 a.f_thing_text a.d_thing_text ["thing"] spThT := by
  refine T.F_thing_text.ok sc_thing_text (fun vs H Q E h => ?_) (fun cdv A outer s H vs Q E hr h => ?_)
  · obtain ⟨_, _, rfl, _⟩ := h; rfl
  obtain ⟨v, ⟨x, how, f⟩, rfl, ⟨p, rfl, hp⟩, ⟨h1, h2, h3⟩, q⟩ := h
  refine ⟨_, (pss_cons (ps_asg (pv 0) (pg_tup (n := 3) rfl (pgs_cons (pg_name (i := 1) sc_thing_text.nd rfl (by first | exact Or.inl rfl | exact Or.inr rfl)) (pgs_cons (pg_name (i := 2) sc_thing_text.nd rfl (by first | exact Or.inl rfl | exact Or.inr rfl)) (pgs_cons (pg_name (i := 3) sc_thing_text.nd rfl (by first | exact Or.inl rfl | exact Or.inr rfl)) pgs_nil))))) (pss_one (ps_ret (pe_ifExp (pt_cmpR op_isN (pv 3) pe_non (nomark _)) (pe_fstr (pj_cons (pe_fv (pv 1)) (pj_cons pe_str (pj_cons (pe_fv (pv 2)) pj_nil)))) (pe_fstr (pj_cons (pe_fv (pv 1)) (pj_cons pe_str (pj_cons (pe_fv (pv 2)) (pj_cons pe_str (pj_cons (pe_fv (pv 3)) pj_nil)))))))))), ?_⟩
  have l3 : (" = " : Str).length = 3 := by decide +kernel
  have lh : ∀ s ∈ howS, s.length ≤ 6 := by decide +kernel
  have lhow : how.length ≤ 6 := lh how h2
  have hp : H p = some (.tup [.str x, .str how, optV f]) := hp
  have lx : x.length ≤ 20 := h1.1
  refine ⟨_, rfl, p, _, rfl, SqT.of hp, rfl, _, _, rfl, _, _, rfl, _, _, rfl, rfl, ?_⟩
  cases f with
  | none =>
    refine ⟨_, rfl, rfl, _, rfl, iteT ?_⟩
    have q' := q H (Same.refl H)
    have l0 : ∀ y : Str, y ++ "" = y := Str.append_empty
    have e : thT (x, how, none) = x ++ " = " ++ how := l0 _
    rw [e] at q'
    refine ⟨_, rfl, .inl ⟨_, rfl, line5 (by omega), _, rfl, ?_, _, rfl, ?_, _, rfl, .inl ⟨_, rfl, line5 (by omega), _, rfl, ?_, ?_, ?_⟩⟩⟩
    · rw [ecat]; exact line5 (by omega)
    · rw [ecat, cat_len, l3]; exact line5 (by omega)
    · rw [ecat, cat_len, cat_len, l3]; exact line5 (by omega)
    · rw [ecat, cat_len, cat_len, l3]; exact line5 (by omega)
    · rw [ecat]; exact q'
  | some f =>
    have lf : f.length ≤ 20 := (h3 f rfl).1
    refine ⟨_, rfl, rfl, _, rfl, iteF ?_⟩
    have q' := q H (Same.refl H)
    have e : thT (x, how, some f) = x ++ " = " ++ how ++ " " ++ f := (Str.append_assoc _ _ _).symm
    rw [e] at q'
    refine ⟨_, rfl, .inl ⟨_, rfl, line5 (by omega), _, rfl, ?_, _, rfl, ?_, _, rfl, .inl ⟨_, rfl, line5 (by omega), _, rfl, ?_, _, rfl, ?_, _, rfl, .inl ⟨_, rfl, line5 (by omega), _, rfl, ?_, ?_, ?_⟩⟩⟩⟩
    · rw [ecat]; exact line5 (by omega)
    · rw [ecat, cat_len, l3]; exact line5 (by omega)
    · rw [ecat, cat_len, cat_len, l3]; exact line5 (by omega)
    · rw [ecat, cat_len, cat_len, cat_len, l3, blank1]; exact line5 (by omega)
    · rw [ecat, cat_len, cat_len, cat_len, cat_len, l3, blank1]; exact line5 (by omega)
    · rw [ecat, cat_len, cat_len, cat_len, cat_len, l3, blank1]; exact line5 (by omega)
    · rw [ecat]; exact q'
def spFrT : Sp := fun vs H Q _ => ∃ v ns, vs = [v] ∧ NsAt H v ns ∧ (Sg.frm ns).ok ∧ ∀ H', Same H H' → Q (.str (frT ns)) H'
theorem ok_from_text (T : Txt K mg a) : FnOk P w K mg base CX0 2 a.f_from_text a.d_from_text ["names"] spFrT := by
  refine T.F_from_text.ok sc_from_text (fun vs H Q E h => ?_) (fun cdv A outer s H vs Q E hr h => ?_)
  · obtain ⟨_, _, rfl, _⟩ := h; rfl
  obtain ⟨v, ns, rfl, ⟨p, rfl, hp⟩, hok, q⟩ := h
  refine ⟨_, (pss_cons (ps_if (pt_not (pt_truth (pv 0) (fun _ => rfl))) (pss_one (ps_ret pe_str)) pss_nil) (pss_one (ps_ret (pe_ifExp (pt_cmpR op_eq (pe_ix ix_tup (pv 0) pe_int (fun _ _ => rfl)) (pe_glob rfl T.g_KEPT.1 T.g_KEPT.2) (nomark _)) (pe_bm PySem.F.plainAttrs_str PySem.F.slot_str_join PySem.F.type_str_join mt_joinT pe_str (pa_cons (pv 0) pa_nil)) (pe_call (ok_names_text T) (hr.mono (by decide)) rfl T.m_names_text T.F_names_text.kp T.b_names_text .nil pass0 (pa_cons (pv 0) pa_nil)))))), ?_⟩
  have l1 : ("@" : Str).length = 1 := by decide +kernel
  have l0 : ("" : Str).length = 0 := by decide +kernel
  refine ⟨_, rfl, !ns.isEmpty, .inr (.inl ⟨_, SqT.of hp, by rw [ns_empty]⟩), ?_⟩
  unfold frT at q
  cases ns with
  | nil => exact q H (Same.refl H)
  | cons n ns =>
    have q' := q H (Same.refl H)
    rw [if_neg (show ¬ (n :: ns).isEmpty = true by simp)] at q'
    refine iteF ?_
    refine ⟨_, rfl, p, _, _, _, rfl, rfl, SqT.of hp, atI_nat (j := 0) rfl, rfl, _, rfl, ?_⟩
    rcases hok with hok | ⟨x, e, hx⟩
    · have hn : n ≠ "@" := (hok.2 n List.mem_cons_self).2
      rw [if_neg (show ¬ (n :: ns).head? = some "@" by simpa using hn)] at q'
      refine ite2 (fun k => absurd (by have := of_decide_eq_true k; injection this) hn) (fun _ => ?_)
      exact ⟨_, rfl, _, _, rfl, ⟨p, rfl, hp⟩, hok, fun H1 g1 => by
        have := q H1 g1
        rw [if_neg (show ¬ (n :: ns).isEmpty = true by simp), if_neg (show ¬ (n :: ns).head? = some "@" by simpa using hn)] at this
        exact this⟩
    · injection e with e1 e2
      subst e1 e2
      rw [if_pos (by simp)] at q'
      refine iteT ⟨rfl, _, rfl, "", p, ["@", x], rfl, rfl, SqT.of hp, ?_, q'⟩
      exact join_ok (L := 20) (m := 0) (n := 2) (fun y hy => by
        rcases List.mem_cons.mp hy with e | hy
        · rw [e]; exact Nat.le_trans (Nat.le_of_eq l1) (by decide)
        · have : y = x := by simpa using hy
          rw [this]; exact hx) (Nat.le_refl 2) (Nat.le_of_eq l0) (by decide)
def spWiT : Sp := fun vs H Q _ => ∃ x v t, vs = [.str x, v] ∧ TmAt H v t ∧ (Sg.wth x t).ok ∧ ∀ H', Same H H' → Q (.str (Sg.wth x t).body) H'
theorem ok_with_text (T : Txt K mg a) : FnOk P w K mg base CX0 6 a.f_with_text a.d_with_text ["name", "term"] spWiT := by
  refine T.F_with_text.ok sc_with_text (fun vs H Q E h => ?_) (fun cdv A outer s H vs Q E hr h => ?_)
  · obtain ⟨_, _, _, rfl, _⟩ := h; rfl
  obtain ⟨x, v, t, rfl, ht, hok, q⟩ := h
  refine ⟨_, (pss_one (ps_ret (pe_fstr (pj_cons (pe_fv (pv 0)) (pj_cons pe_str (pj_cons (pe_fv (pe_call (ok_term_text T) (hr.mono (by decide)) rfl T.m_term_text T.F_term_text.kp T.b_term_text .nil pass0 (pa_cons (pv 1) pa_nil))) pj_nil)))))), ?_⟩
  have l3 : (" = " : Str).length = 3 := by decide +kernel
  have lx : x.length ≤ 20 := hok.1.1
  have lt := tm_len hok.2.1 hok.2.2
  have hd : t.deep < 4 := hok.2.2
  refine ⟨_, rfl, .inl ⟨_, rfl, line5 (by omega), _, rfl, ?_, _, rfl, ?_, _, rfl, v, t, rfl, ht, hok.2.1, by omega, fun H1 g1 => .inl ⟨_, rfl, line5 (by omega), _, rfl, ?_, ?_, ?_⟩⟩⟩
  · rw [ecat]; exact line5 (by omega)
  · rw [ecat, cat_len, l3]; exact line5 (by omega)
  · rw [ecat, cat_len, cat_len, l3]; exact line5 (by omega)
  · rw [ecat, cat_len, cat_len, l3]; exact line5 (by omega)
  · rw [ecat]; exact q H1 g1
def spSoT : Sp := fun vs H Q _ => ∃ x b, vs = [.str x, .bl b] ∧ okN x ∧ Q (.str (Sg.srt x b).body) H
theorem ok_sort_text (T : Txt K mg a) : FnOk P w K mg base CX0 1 a.f_sort_text a.d_sort_text ["name", "down"] spSoT := by
  refine T.F_sort_text.ok sc_sort_text (fun vs H Q E h => ?_) (fun cdv A outer s H vs Q E hr h => ?_)
  · obtain ⟨_, _, rfl, _⟩ := h; rfl
  obtain ⟨x, b, rfl, hx, q⟩ := h
  refine ⟨_, (pss_cons (ps_set (i := 2) sc_sort_text.nd rfl (by first | exact Or.inl rfl | exact Or.inr rfl) (pe_ifExp (pt_val (pv 1)) pe_str pe_str)) (pss_one (ps_ret (pe_fstr (pj_cons (pe_fv (pv 0)) (pj_cons pe_str (pj_cons (pe_fv (pv 2)) pj_nil))))))), ?_⟩
  have l4 : ("down" : Str).length = 4 := by decide +kernel
  have l2 : ("up" : Str).length = 2 := by decide +kernel
  have lx : x.length ≤ 20 := hx.1
  refine ⟨_, rfl, b, rfl, ?_⟩
  have fin : ∀ y : Str, y.length ≤ 4 → (Q (.str (x ++ " " ++ y)) H) → _ := fun y ly z => (⟨_, rfl, .inl ⟨x, rfl, line5 (by omega), _, rfl, by rw [ecat]; exact line5 (by omega), _, rfl, by rw [ecat, cat_len, blank1]; exact line5 (by omega), _, rfl, .inl ⟨y, rfl, line5 (by omega), _, rfl, by rw [ecat, cat_len, cat_len, blank1]; exact line5 (by omega), by rw [ecat, cat_len, cat_len, blank1]; exact line5 (by omega), by rw [ecat]; exact z⟩⟩⟩ : tRet (tJ Str.empty [tFv (tVar 0), tC (.str " "), tFv (tVar 2)]) { nx := fun _ H' => Q .non H', rt := Q } [some (.str x), some (.bl b), some (.str y)] H)
  cases b with
  | true => exact fin "down" (by omega) q
  | false => exact fin "up" (by omega) q
def spSeT : Sp := fun vs H Q _ => ∃ i v ns, vs = [.int i, v] ∧ NsAt H v ns ∧ okI i ∧ okNs ns ∧ ∀ H', Same H H' → Q (.str (Sg.ses i ns).body) H'
theorem ok_sessions_text (T : Txt K mg a) : FnOk P w K mg base CX0 3 a.f_sessions_text a.d_sessions_text ["gap", "names"] spSeT := by
  refine T.F_sessions_text.ok sc_sessions_text (fun vs H Q E h => ?_) (fun cdv A outer s H vs Q E hr h => ?_)
  · obtain ⟨_, _, _, rfl, _⟩ := h; rfl
  obtain ⟨i, v, ns, rfl, hv, hi, hok, q⟩ := h
  refine ⟨_, (pss_one (ps_ret (pe_op op_add_str (pe_call (ok_value_textI T) (hr.mono (by decide)) rfl T.m_value_text T.F_value_text.kp T.b_value_text .nil pass0 (pa_cons (pv 0) pa_nil)) (pe_call (ok_by_text T) (hr.mono (by decide)) rfl T.m_by_text T.F_by_text.kp T.b_by_text .nil pass0 (pa_cons (pv 1) pa_nil))))), ?_⟩
  have := (itx_ok hi).2
  have := byT_len hok
  exact ⟨_, rfl, i, rfl, hi, fun H1 g1 => ⟨_, rfl, v, ns, rfl, hv.keep (same_tup g1), hok, fun H2 g2 => ⟨_, _, rfl, rfl, line5 (by omega), q H2 (g1.trans g2)⟩⟩⟩
def spJoT : Sp := fun vs H Q _ => ∃ s x i, vs = [.str s, .str x, .int i] ∧ (Sg.joi s x i).ok ∧ ∀ H', Same H H' → Q (.str (Sg.joi s x i).body) H'
theorem ok_join_text (T : Txt K mg a) : FnOk P w K mg base CX0 2 a.f_join_text a.d_join_text ["source", "name", "within"] spJoT := by
  refine T.F_join_text.ok sc_join_text (fun vs H Q E h => ?_) (fun cdv A outer s H vs Q E hr h => ?_)
  · obtain ⟨_, _, _, rfl, _⟩ := h; rfl
  obtain ⟨s, x, i, rfl, hok, q⟩ := h
  refine ⟨_, (pss_one (ps_ret (pe_fstr (pj_cons (pe_fv (pv 0)) (pj_cons pe_str (pj_cons (pe_fv (pv 1)) (pj_cons pe_str (pj_cons (pe_fv (pe_call (ok_value_textI T) (hr.mono (by decide)) rfl T.m_value_text T.F_value_text.kp T.b_value_text .nil pass0 (pa_cons (pv 2) pa_nil))) pj_nil)))))))), ?_⟩
  have lb : (" by " : Str).length = 4 := by decide +kernel
  have lw : (" within " : Str).length = 8 := by decide +kernel
  have ls : s.length ≤ 20 := hok.1.1
  have lx : x.length ≤ 20 := hok.2.1.1
  have li := (itx_ok hok.2.2).2
  refine ⟨_, rfl, .inl ⟨_, rfl, line5 (by omega), _, rfl, ?_, _, rfl, ?_, _, rfl, .inl ⟨_, rfl, line5 (by omega), _, rfl, ?_, _, rfl, ?_, _, rfl, i, rfl, hok.2.2, fun H1 g1 => .inl ⟨_, rfl, line5 (by omega), _, rfl, ?_, ?_, ?_⟩⟩⟩⟩
  · rw [ecat]; exact line5 (by omega)
  · rw [ecat, cat_len, lb]; exact line5 (by omega)
  · rw [ecat, cat_len, cat_len, lb]; exact line5 (by omega)
  · rw [ecat, cat_len, cat_len, cat_len, lb, lw]; exact line5 (by omega)
  · rw [ecat, cat_len, cat_len, cat_len, cat_len, lb, lw]; exact line5 (by omega)
  · rw [ecat, cat_len, cat_len, cat_len, cat_len, lb, lw]; exact line5 (by omega)
  · rw [ecat]; exact q H1 g1
def spFoT : Sp := fun vs H Q _ => ∃ p v xs ths ns, vs = [.ref p, v] ∧ H p = some (.tup xs) ∧ Paired (ThAt H) xs ths ∧ NsAt H v ns ∧ (Sg.fld ths ns).ok ∧ ∀ H', Same H H' → Q (.str (Sg.fld ths ns).body) H'
theorem ok_fold_text (T : Txt K mg a) : FnOk P w K mg base CX0 3 a.f_fold_text a.d_fold_text ["things", "names"] spFoT := by
  refine T.F_fold_text.ok sc_fold_text (fun vs H Q E h => ?_) (fun cdv A outer s H vs Q E hr h => ?_)
  · obtain ⟨_, _, _, _, _, rfl, _⟩ := h; rfl
  obtain ⟨p, v, xs, ths, ns, rfl, hp, hxs, hv, hok, q⟩ := h
  refine ⟨_, (pss_one (ps_ret (pe_op op_add_str (pe_bm PySem.F.plainAttrs_str PySem.F.slot_str_join PySem.F.type_str_join mt_join pe_str (pa_cons (pe_comp ["thing"] [none] (pi_tup (pv 0)) (fun _ _ _ _ _ => (pg_name (i := 0) (show List.Nodup (["thing"] : List Str) from by decide +kernel) rfl (Or.inl rfl) (Or.inr rfl))) (fun _ _ _ _ _ => pts_nil) (fun _ _ _ _ _ => (pe_call (ok_thing_text T) (hr.mono (by decide)) rfl T.m_thing_text T.F_thing_text.kp T.b_thing_text .nil pass0 (pa_cons (pv 0) pa_nil)))) pa_nil)) (pe_call (ok_by_text T) (hr.mono (by decide)) rfl T.m_by_text T.F_by_text.kp T.b_by_text .nil pass0 (pa_cons (pv 1) pa_nil))))), ?_⟩
  have lx := hxs.length
  have h60 : ths.length ≤ 60 := hok.1
  have l2 : (", " : Str).length ≤ 2 := by decide +kernel
  have tl : ∀ y ∈ ths.map thT, y.length ≤ 60 := fun y hy => by
    obtain ⟨t, ht, rfl⟩ := List.mem_map.mp hy
    exact thT_len (hok.2.1 t ht)
  have hl60 : (ths.map thT).length ≤ 60 := by rw [List.length_map]; exact h60
  have := tjoin_len (z := ", ") tl hl60 l2
  have := byT_len hok.2.2
  refine ⟨rfl, _, rfl, p, rfl, ⟨_, SqT.of hp⟩, ?_⟩
  refine comp_tupG (xs := xs) (zs := (ths.map thT).map V.str) (by rw [List.length_map, List.length_map]; omega) hp (by omega) (fun i x z H' R hx hz g hR => ?_) (fun D H' g hD => ?_)
  · rw [List.getElem?_map, List.getElem?_map] at hz
    obtain ⟨y, hy, rfl⟩ := Option.map_eq_some_iff.mp hz
    obtain ⟨t, ht, rfl⟩ := Option.map_eq_some_iff.mp hy
    obtain ⟨t', ht', hat⟩ := Paired.getP hxs hx
    rw [ht] at ht'; cases ht'
    exact ⟨_, rfl, x, t, rfl, hat.keep (same_tup g), hok.2.1 t (List.mem_of_getElem? ht), fun H2 g2 => hR H2 g2⟩
  · have gD := same_new hD (.lst ((ths.map thT).map V.str))
    refine ⟨_, D, _, rfl, rfl, SqL.of upd_same, join_ok tl hl60 l2 (by decide), ?_⟩
    exact ⟨_, rfl, v, ns, rfl, hv.keep (same_tup (g.trans gD)), hok.2.2, fun H2 g2 => ⟨_, _, rfl, rfl, line5 (by omega), q H2 ((g.trans gD).trans g2)⟩⟩
def spSgT : Sp := fun vs H Q _ => ∃ v s, vs = [v] ∧ SgAt H v s ∧ s.ok ∧ ∀ H', Same H H' → Q (.str s.txt) H'
theorem ok_stage_text (T : Txt K mg a) : FnOk P w K mg base CX0 7 a.f_stage_text a.d_stage_text ["stage"] spSgT := by
  refine T.F_stage_text.ok sc_stage_text (fun vs H Q E h => ?_) (fun cdv A outer s H vs Q E hr h => ?_)
  · obtain ⟨_, _, rfl, _⟩ := h; rfl
  obtain ⟨v, st, rfl, hst, hok, q⟩ := h
  have lb := body_len hok
  have lw := word_len2 hok
  have fin : ∀ (σ : St) (H' : Hp), Same H H' → σ[1]? = some (some (.str st.word)) → σ[4]? = some (some (.str st.body)) → tRet (tJ Str.empty [tFv (tVar 1), tC (.str " "), tFv (tVar 4)]) { nx := fun _ H' => Q .non H', rt := Q } σ H' := fun σ H' g e1 e4 => by
    refine ⟨_, e1, .inl ⟨_, rfl, line5 (by omega), _, rfl, by rw [ecat]; exact line5 (by omega), _, rfl, by rw [ecat, cat_len, blank1]; exact line5 (by omega), _, e4, .inl ⟨_, rfl, line5 (by omega), _, rfl, by rw [ecat, cat_len, cat_len, blank1]; exact line5 (by omega), by rw [ecat, cat_len, cat_len, blank1]; exact line5 (by omega), ?_⟩⟩⟩
    rw [ecat]
    exact q H' g
  cases st with
  | frm ns =>
    obtain ⟨p, u, rfl, hp, hu⟩ := hst
    have FF := ok_from_text (P := P) (w := w) (base := base) T
    have hk := T.F_from_text.kp
    have hb := T.b_from_text
    refine ⟨_, (pss_cons (ps_asg (pv 0) (pg_star rfl (pgs_cons (pg_name (i := 1) sc_stage_text.nd rfl (by first | exact Or.inl rfl | exact Or.inr rfl)) (pgs_star (pg_name (i := 2) sc_stage_text.nd rfl (by first | exact Or.inl rfl | exact Or.inr rfl)) pgs_nil)))) (pss_cons (ps_set (i := 3) sc_stage_text.nd rfl (by first | exact Or.inl rfl | exact Or.inr rfl) (pe_tabget (pe_glob rfl T.g_WRITERS.1 T.g_WRITERS.2) (pv 1) (fun _ _ => rfl))) (pss_cons (ps_set (i := 4) sc_stage_text.nd rfl (by first | exact Or.inl rfl | exact Or.inr rfl) (pe_callS (i := 3) FF (hr.mono (by omega)) rfl (by first | exact Or.inl rfl | exact Or.inr (Or.inl rfl) | exact Or.inr (Or.inr rfl)) hk hb pass0 (pv 2))) (pss_one (ps_ret (pe_fstr (pj_cons (pe_fv (pv 1)) (pj_cons pe_str (pj_cons (pe_fv (pv 4)) pj_nil))))))))), ?_⟩
    refine ⟨_, rfl, p, _, _, rfl, SqT.of hp, (show 1 ≤ 1000 by decide), fun l hl => ?_⟩
    have g := same_new hl (.lst [u])
    refine ⟨_, _, rfl, _, _, rfl, rfl, ?_⟩
    refine ⟨_, rfl, a.a_WRITERS, _, _, _, rfl, T.t_WRITERS, rfl, rfl, ?_⟩
    refine ⟨rfl, _, rfl, l, _, rfl, upd_same, (show 1 ≤ 1000 by decide), u, ns, rfl, hu.keep (same_tup g), hok, fun H1 g1 => fin _ _ (g.trans g1) rfl rfl⟩
  | whr t =>
    obtain ⟨p, u, rfl, hp, hu⟩ := hst
    have FF := ok_term_text (P := P) (w := w) (base := base) T
    have hk := T.F_term_text.kp
    have hb := T.b_term_text
    refine ⟨_, (pss_cons (ps_asg (pv 0) (pg_star rfl (pgs_cons (pg_name (i := 1) sc_stage_text.nd rfl (by first | exact Or.inl rfl | exact Or.inr rfl)) (pgs_star (pg_name (i := 2) sc_stage_text.nd rfl (by first | exact Or.inl rfl | exact Or.inr rfl)) pgs_nil)))) (pss_cons (ps_set (i := 3) sc_stage_text.nd rfl (by first | exact Or.inl rfl | exact Or.inr rfl) (pe_tabget (pe_glob rfl T.g_WRITERS.1 T.g_WRITERS.2) (pv 1) (fun _ _ => rfl))) (pss_cons (ps_set (i := 4) sc_stage_text.nd rfl (by first | exact Or.inl rfl | exact Or.inr rfl) (pe_callS (i := 3) FF (hr.mono (by omega)) rfl (by first | exact Or.inl rfl | exact Or.inr (Or.inl rfl) | exact Or.inr (Or.inr rfl)) hk hb pass0 (pv 2))) (pss_one (ps_ret (pe_fstr (pj_cons (pe_fv (pv 1)) (pj_cons pe_str (pj_cons (pe_fv (pv 4)) pj_nil))))))))), ?_⟩
    refine ⟨_, rfl, p, _, _, rfl, SqT.of hp, (show 1 ≤ 1000 by decide), fun l hl => ?_⟩
    have g := same_new hl (.lst [u])
    refine ⟨_, _, rfl, _, _, rfl, rfl, ?_⟩
    refine ⟨_, rfl, a.a_WRITERS, _, _, _, rfl, T.t_WRITERS, rfl, rfl, ?_⟩
    refine ⟨rfl, _, rfl, l, _, rfl, upd_same, (show 1 ≤ 1000 by decide), u, t, rfl, hu.same g, hok.1, Nat.lt_of_lt_of_le hok.2 (by decide), fun H1 g1 => fin _ _ (g.trans g1) rfl rfl⟩
  | wth x t =>
    obtain ⟨p, u, rfl, hp, hu⟩ := hst
    have FF := ok_with_text (P := P) (w := w) (base := base) T
    have hk := T.F_with_text.kp
    have hb := T.b_with_text
    refine ⟨_, (pss_cons (ps_asg (pv 0) (pg_star rfl (pgs_cons (pg_name (i := 1) sc_stage_text.nd rfl (by first | exact Or.inl rfl | exact Or.inr rfl)) (pgs_star (pg_name (i := 2) sc_stage_text.nd rfl (by first | exact Or.inl rfl | exact Or.inr rfl)) pgs_nil)))) (pss_cons (ps_set (i := 3) sc_stage_text.nd rfl (by first | exact Or.inl rfl | exact Or.inr rfl) (pe_tabget (pe_glob rfl T.g_WRITERS.1 T.g_WRITERS.2) (pv 1) (fun _ _ => rfl))) (pss_cons (ps_set (i := 4) sc_stage_text.nd rfl (by first | exact Or.inl rfl | exact Or.inr rfl) (pe_callS (i := 3) FF (hr.mono (by omega)) rfl (by first | exact Or.inl rfl | exact Or.inr (Or.inl rfl) | exact Or.inr (Or.inr rfl)) hk hb pass0 (pv 2))) (pss_one (ps_ret (pe_fstr (pj_cons (pe_fv (pv 1)) (pj_cons pe_str (pj_cons (pe_fv (pv 4)) pj_nil))))))))), ?_⟩
    refine ⟨_, rfl, p, _, _, rfl, SqT.of hp, (show 2 ≤ 1000 by decide), fun l hl => ?_⟩
    have g := same_new hl (.lst [.str x, u])
    refine ⟨_, _, rfl, _, _, rfl, rfl, ?_⟩
    refine ⟨_, rfl, a.a_WRITERS, _, _, _, rfl, T.t_WRITERS, rfl, rfl, ?_⟩
    refine ⟨rfl, _, rfl, l, _, rfl, upd_same, (show 2 ≤ 1000 by decide), x, u, t, rfl, hu.same g, hok, fun H1 g1 => fin _ _ (g.trans g1) rfl rfl⟩
  | srt x b =>
    obtain ⟨p, rfl, hp⟩ := hst
    have FF := ok_sort_text (P := P) (w := w) (base := base) T
    have hk := T.F_sort_text.kp
    have hb := T.b_sort_text
    refine ⟨_, (pss_cons (ps_asg (pv 0) (pg_star rfl (pgs_cons (pg_name (i := 1) sc_stage_text.nd rfl (by first | exact Or.inl rfl | exact Or.inr rfl)) (pgs_star (pg_name (i := 2) sc_stage_text.nd rfl (by first | exact Or.inl rfl | exact Or.inr rfl)) pgs_nil)))) (pss_cons (ps_set (i := 3) sc_stage_text.nd rfl (by first | exact Or.inl rfl | exact Or.inr rfl) (pe_tabget (pe_glob rfl T.g_WRITERS.1 T.g_WRITERS.2) (pv 1) (fun _ _ => rfl))) (pss_cons (ps_set (i := 4) sc_stage_text.nd rfl (by first | exact Or.inl rfl | exact Or.inr rfl) (pe_callS (i := 3) FF (hr.mono (by omega)) rfl (by first | exact Or.inl rfl | exact Or.inr (Or.inl rfl) | exact Or.inr (Or.inr rfl)) hk hb pass0 (pv 2))) (pss_one (ps_ret (pe_fstr (pj_cons (pe_fv (pv 1)) (pj_cons pe_str (pj_cons (pe_fv (pv 4)) pj_nil))))))))), ?_⟩
    refine ⟨_, rfl, p, _, _, rfl, SqT.of hp, (show 2 ≤ 1000 by decide), fun l hl => ?_⟩
    have g := same_new hl (.lst [.str x, .bl b])
    refine ⟨_, _, rfl, _, _, rfl, rfl, ?_⟩
    refine ⟨_, rfl, a.a_WRITERS, _, _, _, rfl, T.t_WRITERS, rfl, rfl, ?_⟩
    refine ⟨rfl, _, rfl, l, _, rfl, upd_same, (show 2 ≤ 1000 by decide), x, b, rfl, hok, fin _ _ g rfl rfl⟩
  | ses i ns =>
    obtain ⟨p, u, rfl, hp, hu⟩ := hst
    have FF := ok_sessions_text (P := P) (w := w) (base := base) T
    have hk := T.F_sessions_text.kp
    have hb := T.b_sessions_text
    refine ⟨_, (pss_cons (ps_asg (pv 0) (pg_star rfl (pgs_cons (pg_name (i := 1) sc_stage_text.nd rfl (by first | exact Or.inl rfl | exact Or.inr rfl)) (pgs_star (pg_name (i := 2) sc_stage_text.nd rfl (by first | exact Or.inl rfl | exact Or.inr rfl)) pgs_nil)))) (pss_cons (ps_set (i := 3) sc_stage_text.nd rfl (by first | exact Or.inl rfl | exact Or.inr rfl) (pe_tabget (pe_glob rfl T.g_WRITERS.1 T.g_WRITERS.2) (pv 1) (fun _ _ => rfl))) (pss_cons (ps_set (i := 4) sc_stage_text.nd rfl (by first | exact Or.inl rfl | exact Or.inr rfl) (pe_callS (i := 3) FF (hr.mono (by omega)) rfl (by first | exact Or.inl rfl | exact Or.inr (Or.inl rfl) | exact Or.inr (Or.inr rfl)) hk hb pass0 (pv 2))) (pss_one (ps_ret (pe_fstr (pj_cons (pe_fv (pv 1)) (pj_cons pe_str (pj_cons (pe_fv (pv 4)) pj_nil))))))))), ?_⟩
    refine ⟨_, rfl, p, _, _, rfl, SqT.of hp, (show 2 ≤ 1000 by decide), fun l hl => ?_⟩
    have g := same_new hl (.lst [.int i, u])
    refine ⟨_, _, rfl, _, _, rfl, rfl, ?_⟩
    refine ⟨_, rfl, a.a_WRITERS, _, _, _, rfl, T.t_WRITERS, rfl, rfl, ?_⟩
    refine ⟨rfl, _, rfl, l, _, rfl, upd_same, (show 2 ≤ 1000 by decide), i, u, ns, rfl, hu.keep (same_tup g), hok.1, hok.2, fun H1 g1 => fin _ _ (g.trans g1) rfl rfl⟩
  | joi s x i =>
    obtain ⟨p, rfl, hp⟩ := hst
    have FF := ok_join_text (P := P) (w := w) (base := base) T
    have hk := T.F_join_text.kp
    have hb := T.b_join_text
    refine ⟨_, (pss_cons (ps_asg (pv 0) (pg_star rfl (pgs_cons (pg_name (i := 1) sc_stage_text.nd rfl (by first | exact Or.inl rfl | exact Or.inr rfl)) (pgs_star (pg_name (i := 2) sc_stage_text.nd rfl (by first | exact Or.inl rfl | exact Or.inr rfl)) pgs_nil)))) (pss_cons (ps_set (i := 3) sc_stage_text.nd rfl (by first | exact Or.inl rfl | exact Or.inr rfl) (pe_tabget (pe_glob rfl T.g_WRITERS.1 T.g_WRITERS.2) (pv 1) (fun _ _ => rfl))) (pss_cons (ps_set (i := 4) sc_stage_text.nd rfl (by first | exact Or.inl rfl | exact Or.inr rfl) (pe_callS (i := 3) FF (hr.mono (by omega)) rfl (by first | exact Or.inl rfl | exact Or.inr (Or.inl rfl) | exact Or.inr (Or.inr rfl)) hk hb pass0 (pv 2))) (pss_one (ps_ret (pe_fstr (pj_cons (pe_fv (pv 1)) (pj_cons pe_str (pj_cons (pe_fv (pv 4)) pj_nil))))))))), ?_⟩
    refine ⟨_, rfl, p, _, _, rfl, SqT.of hp, (show 3 ≤ 1000 by decide), fun l hl => ?_⟩
    have g := same_new hl (.lst [.str s, .str x, .int i])
    refine ⟨_, _, rfl, _, _, rfl, rfl, ?_⟩
    refine ⟨_, rfl, a.a_WRITERS, _, _, _, rfl, T.t_WRITERS, rfl, rfl, ?_⟩
    refine ⟨rfl, _, rfl, l, _, rfl, upd_same, (show 3 ≤ 1000 by decide), s, x, i, rfl, hok, fun H1 g1 => fin _ _ (g.trans g1) rfl rfl⟩
  | fld ths ns =>
    obtain ⟨p, u1, u2, q1, xs, rfl, hp, rfl, hq, hxs, hu⟩ := hst
    have FF := ok_fold_text (P := P) (w := w) (base := base) T
    have hk := T.F_fold_text.kp
    have hb := T.b_fold_text
    refine ⟨_, (pss_cons (ps_asg (pv 0) (pg_star rfl (pgs_cons (pg_name (i := 1) sc_stage_text.nd rfl (by first | exact Or.inl rfl | exact Or.inr rfl)) (pgs_star (pg_name (i := 2) sc_stage_text.nd rfl (by first | exact Or.inl rfl | exact Or.inr rfl)) pgs_nil)))) (pss_cons (ps_set (i := 3) sc_stage_text.nd rfl (by first | exact Or.inl rfl | exact Or.inr rfl) (pe_tabget (pe_glob rfl T.g_WRITERS.1 T.g_WRITERS.2) (pv 1) (fun _ _ => rfl))) (pss_cons (ps_set (i := 4) sc_stage_text.nd rfl (by first | exact Or.inl rfl | exact Or.inr rfl) (pe_callS (i := 3) FF (hr.mono (by omega)) rfl (by first | exact Or.inl rfl | exact Or.inr (Or.inl rfl) | exact Or.inr (Or.inr rfl)) hk hb pass0 (pv 2))) (pss_one (ps_ret (pe_fstr (pj_cons (pe_fv (pv 1)) (pj_cons pe_str (pj_cons (pe_fv (pv 4)) pj_nil))))))))), ?_⟩
    refine ⟨_, rfl, p, _, _, rfl, SqT.of hp, (show 2 ≤ 1000 by decide), fun l hl => ?_⟩
    have g := same_new hl (.lst [.ref q1, u2])
    refine ⟨_, _, rfl, _, _, rfl, rfl, ?_⟩
    refine ⟨_, rfl, a.a_WRITERS, _, _, _, rfl, T.t_WRITERS, rfl, rfl, ?_⟩
    refine ⟨rfl, _, rfl, l, _, rfl, upd_same, (show 2 ≤ 1000 by decide), q1, u2, xs, ths, ns, rfl, g _ _ hq, Paired.mapP hxs fun _ _ z => z.keep (same_tup g), hu.keep (same_tup g), hok, fun H1 g1 => fin _ _ (g.trans g1) rfl rfl⟩
  | nms k ns =>
    obtain ⟨p, u, rfl, hp, hu⟩ := hst
    rcases (show k = "keep" ∨ k = "drop" by simpa using hok.1) with rfl | rfl
    · have FF := ok_names_text (P := P) (w := w) (base := base) T
      have hk := T.F_names_text.kp
      have hb := T.b_names_text
      refine ⟨_, (pss_cons (ps_asg (pv 0) (pg_star rfl (pgs_cons (pg_name (i := 1) sc_stage_text.nd rfl (by first | exact Or.inl rfl | exact Or.inr rfl)) (pgs_star (pg_name (i := 2) sc_stage_text.nd rfl (by first | exact Or.inl rfl | exact Or.inr rfl)) pgs_nil)))) (pss_cons (ps_set (i := 3) sc_stage_text.nd rfl (by first | exact Or.inl rfl | exact Or.inr rfl) (pe_tabget (pe_glob rfl T.g_WRITERS.1 T.g_WRITERS.2) (pv 1) (fun _ _ => rfl))) (pss_cons (ps_set (i := 4) sc_stage_text.nd rfl (by first | exact Or.inl rfl | exact Or.inr rfl) (pe_callS (i := 3) FF (hr.mono (by omega)) rfl (by first | exact Or.inl rfl | exact Or.inr (Or.inl rfl) | exact Or.inr (Or.inr rfl)) hk hb pass0 (pv 2))) (pss_one (ps_ret (pe_fstr (pj_cons (pe_fv (pv 1)) (pj_cons pe_str (pj_cons (pe_fv (pv 4)) pj_nil))))))))), ?_⟩
      refine ⟨_, rfl, p, _, _, rfl, SqT.of hp, (show 1 ≤ 1000 by decide), fun l hl => ?_⟩
      have g := same_new hl (.lst [u])
      refine ⟨_, _, rfl, _, _, rfl, rfl, ?_⟩
      refine ⟨_, rfl, a.a_WRITERS, _, _, _, rfl, T.t_WRITERS, rfl, rfl, ?_⟩
      refine ⟨rfl, _, rfl, l, _, rfl, upd_same, (show 1 ≤ 1000 by decide), u, ns, rfl, hu.keep (same_tup g), hok.2, fun H1 g1 => fin _ _ (g.trans g1) rfl rfl⟩
    · have FF := ok_names_text (P := P) (w := w) (base := base) T
      have hk := T.F_names_text.kp
      have hb := T.b_names_text
      refine ⟨_, (pss_cons (ps_asg (pv 0) (pg_star rfl (pgs_cons (pg_name (i := 1) sc_stage_text.nd rfl (by first | exact Or.inl rfl | exact Or.inr rfl)) (pgs_star (pg_name (i := 2) sc_stage_text.nd rfl (by first | exact Or.inl rfl | exact Or.inr rfl)) pgs_nil)))) (pss_cons (ps_set (i := 3) sc_stage_text.nd rfl (by first | exact Or.inl rfl | exact Or.inr rfl) (pe_tabget (pe_glob rfl T.g_WRITERS.1 T.g_WRITERS.2) (pv 1) (fun _ _ => rfl))) (pss_cons (ps_set (i := 4) sc_stage_text.nd rfl (by first | exact Or.inl rfl | exact Or.inr rfl) (pe_callS (i := 3) FF (hr.mono (by omega)) rfl (by first | exact Or.inl rfl | exact Or.inr (Or.inl rfl) | exact Or.inr (Or.inr rfl)) hk hb pass0 (pv 2))) (pss_one (ps_ret (pe_fstr (pj_cons (pe_fv (pv 1)) (pj_cons pe_str (pj_cons (pe_fv (pv 4)) pj_nil))))))))), ?_⟩
      refine ⟨_, rfl, p, _, _, rfl, SqT.of hp, (show 1 ≤ 1000 by decide), fun l hl => ?_⟩
      have g := same_new hl (.lst [u])
      refine ⟨_, _, rfl, _, _, rfl, rfl, ?_⟩
      refine ⟨_, rfl, a.a_WRITERS, _, _, _, rfl, T.t_WRITERS, rfl, rfl, ?_⟩
      refine ⟨rfl, _, rfl, l, _, rfl, upd_same, (show 1 ≤ 1000 by decide), u, ns, rfl, hu.keep (same_tup g), hok.2, fun H1 g1 => fin _ _ (g.trans g1) rfl rfl⟩
  | num k i =>
    obtain ⟨p, rfl, hp⟩ := hst
    rcases (show k = "first" ∨ k = "every" by simpa using hok.1) with rfl | rfl
    · have FF := ok_value_textI (P := P) (w := w) (base := base) T
      have hk := T.F_value_text.kp
      have hb := T.b_value_text
      refine ⟨_, (pss_cons (ps_asg (pv 0) (pg_star rfl (pgs_cons (pg_name (i := 1) sc_stage_text.nd rfl (by first | exact Or.inl rfl | exact Or.inr rfl)) (pgs_star (pg_name (i := 2) sc_stage_text.nd rfl (by first | exact Or.inl rfl | exact Or.inr rfl)) pgs_nil)))) (pss_cons (ps_set (i := 3) sc_stage_text.nd rfl (by first | exact Or.inl rfl | exact Or.inr rfl) (pe_tabget (pe_glob rfl T.g_WRITERS.1 T.g_WRITERS.2) (pv 1) (fun _ _ => rfl))) (pss_cons (ps_set (i := 4) sc_stage_text.nd rfl (by first | exact Or.inl rfl | exact Or.inr rfl) (pe_callS (i := 3) FF (hr.mono (by omega)) rfl (by first | exact Or.inl rfl | exact Or.inr (Or.inl rfl) | exact Or.inr (Or.inr rfl)) hk hb pass0 (pv 2))) (pss_one (ps_ret (pe_fstr (pj_cons (pe_fv (pv 1)) (pj_cons pe_str (pj_cons (pe_fv (pv 4)) pj_nil))))))))), ?_⟩
      refine ⟨_, rfl, p, _, _, rfl, SqT.of hp, (show 1 ≤ 1000 by decide), fun l hl => ?_⟩
      have g := same_new hl (.lst [.int i])
      refine ⟨_, _, rfl, _, _, rfl, rfl, ?_⟩
      refine ⟨_, rfl, a.a_WRITERS, _, _, _, rfl, T.t_WRITERS, rfl, rfl, ?_⟩
      refine ⟨rfl, _, rfl, l, _, rfl, upd_same, (show 1 ≤ 1000 by decide), i, rfl, hok.2, fun H1 g1 => fin _ _ (g.trans g1) rfl rfl⟩
    · have FF := ok_value_textI (P := P) (w := w) (base := base) T
      have hk := T.F_value_text.kp
      have hb := T.b_value_text
      refine ⟨_, (pss_cons (ps_asg (pv 0) (pg_star rfl (pgs_cons (pg_name (i := 1) sc_stage_text.nd rfl (by first | exact Or.inl rfl | exact Or.inr rfl)) (pgs_star (pg_name (i := 2) sc_stage_text.nd rfl (by first | exact Or.inl rfl | exact Or.inr rfl)) pgs_nil)))) (pss_cons (ps_set (i := 3) sc_stage_text.nd rfl (by first | exact Or.inl rfl | exact Or.inr rfl) (pe_tabget (pe_glob rfl T.g_WRITERS.1 T.g_WRITERS.2) (pv 1) (fun _ _ => rfl))) (pss_cons (ps_set (i := 4) sc_stage_text.nd rfl (by first | exact Or.inl rfl | exact Or.inr rfl) (pe_callS (i := 3) FF (hr.mono (by omega)) rfl (by first | exact Or.inl rfl | exact Or.inr (Or.inl rfl) | exact Or.inr (Or.inr rfl)) hk hb pass0 (pv 2))) (pss_one (ps_ret (pe_fstr (pj_cons (pe_fv (pv 1)) (pj_cons pe_str (pj_cons (pe_fv (pv 4)) pj_nil))))))))), ?_⟩
      refine ⟨_, rfl, p, _, _, rfl, SqT.of hp, (show 1 ≤ 1000 by decide), fun l hl => ?_⟩
      have g := same_new hl (.lst [.int i])
      refine ⟨_, _, rfl, _, _, rfl, rfl, ?_⟩
      refine ⟨_, rfl, a.a_WRITERS, _, _, _, rfl, T.t_WRITERS, rfl, rfl, ?_⟩
      refine ⟨rfl, _, rfl, l, _, rfl, upd_same, (show 1 ≤ 1000 by decide), i, rfl, hok.2, fun H1 g1 => fin _ _ (g.trans g1) rfl rfl⟩
/-- a question as it lies in the heap -/
def QnAt (H : Hp) (v : V) (ss : List Sg) : Prop := ∃ p xs, v = .ref p ∧ H p = some (.tup xs) ∧ Paired (SgAt H) xs ss
def QnOk (ss : List Sg) : Prop := ss.length ≤ 12 ∧ ∀ s ∈ ss, s.ok
def qnT (ss : List Sg) : Str := Txt.join " | " (ss.map Sg.txt)
theorem bar3 : (" | " : Str).length ≤ 3 := by decide +kernel
theorem qn_all {ss : List Sg} (h : QnOk ss) : ∀ y ∈ ss.map Sg.txt, y.length ≤ 8009 := fun y hy => by
  obtain ⟨s, hs, rfl⟩ := List.mem_map.mp hy
  exact txt_len (h.2 s hs)
theorem qn_join {ss : List Sg} (h : QnOk ss) : ((ss.map Sg.txt).map (·.length)).sum + (ss.map Sg.txt).length * (" | " : Str).length ≤ 16777216 := join_ok (L := 8009) (m := 3) (n := 12) (qn_all h) (by rw [List.length_map]; exact h.1) bar3 (by decide)
def spQnT : Sp := fun vs H Q _ => ∃ v ss, vs = [v] ∧ QnAt H v ss ∧ QnOk ss ∧ ∀ H', Same H H' → Q (.str (qnT ss)) H'
theorem ok_question_text (T : Txt K mg a) : FnOk P w K mg base CX0 8 a.f_question_text a.d_question_text ["question"] spQnT := by
  refine T.F_question_text.ok sc_question_text (fun vs H Q E h => ?_) (fun cdv A outer s H vs Q E hr h => ?_)
  · obtain ⟨_, _, rfl, _⟩ := h; rfl
  obtain ⟨v, ss, rfl, ⟨p, xs, rfl, hp, hxs⟩, hok, q⟩ := h
  refine ⟨_, (pss_one (ps_ret (pe_bm PySem.F.plainAttrs_str PySem.F.slot_str_join PySem.F.type_str_join mt_join pe_str (pa_cons (pe_comp ["stage"] [none] (pi_tup (pv 0)) (fun _ _ _ _ _ => (pg_name (i := 0) (show List.Nodup (["stage"] : List Str) from by decide +kernel) rfl (Or.inl rfl) (Or.inr rfl))) (fun _ _ _ _ _ => pts_nil) (fun _ _ _ _ _ => (pe_call (ok_stage_text T) (hr.mono (by decide)) rfl T.m_stage_text T.F_stage_text.kp T.b_stage_text .nil pass0 (pa_cons (pv 0) pa_nil)))) pa_nil)))), ?_⟩
  have lx := hxs.length
  have l12 := hok.1
  refine ⟨rfl, _, rfl, p, rfl, ⟨_, SqT.of hp⟩, ?_⟩
  refine comp_tupG (xs := xs) (zs := (ss.map Sg.txt).map V.str) (by rw [List.length_map, List.length_map]; omega) hp (by omega) (fun i x z H' R hx hz g hR => ?_) (fun D H' g hD => ?_)
  · rw [List.getElem?_map, List.getElem?_map] at hz
    obtain ⟨y, hy, rfl⟩ := Option.map_eq_some_iff.mp hz
    obtain ⟨t, ht, rfl⟩ := Option.map_eq_some_iff.mp hy
    obtain ⟨t', ht', hat⟩ := Paired.getP hxs hx
    rw [ht] at ht'; cases ht'
    exact ⟨_, rfl, x, t, rfl, hat.keep (same_tup g), hok.2 t (List.mem_of_getElem? ht), fun H2 g2 => hR H2 g2⟩
  · have gD := same_new hD (.lst ((ss.map Sg.txt).map V.str))
    exact ⟨_, D, _, rfl, rfl, SqL.of upd_same, qn_join hok, q _ (g.trans gD)⟩
end

end My

set_option Elab.async false
set_option linter.all false
set_option maxRecDepth 100000
set_option maxHeartbeats 4000000
namespace My
open PySem L2
/-! ### the law's own writer -/
theorem flat_s (ns : List Str) : (ns.map V.str).all flatV = true := by
  rw [List.all_eq_true]
  intro x hx
  obtain ⟨s, _, rfl⟩ := List.mem_map.mp hx
  rfl
theorem eqTs_nil (ns : List Str) : eqTs (ns.map V.str) [] = ns.isEmpty := by cases ns <;> rfl
theorem eqTs_one (n : Str) : eqTs [V.str n] [V.str "@"] = decide (n = "@") := by
  have : eqV (V.str n) (V.str "@") = decide (n = "@") := by
    show (n == "@") = _
    by_cases e : n = "@" <;> simp [e]
  show ((1 == 1) && ([eqV (V.str n) (V.str "@")].all id)) = _
  rw [this]; simp
theorem wsp : (("from" : Str) ++ " " = "from ") ∧ (("where" : Str) ++ " " = "where ") ∧ (("with" : Str) ++ " " = "with ") ∧ (("sort" : Str) ++ " " = "sort ") ∧ (("sessions" : Str) ++ " " = "sessions ") ∧ (("join" : Str) ++ " " = "join ") ∧ (("fold" : Str) ++ " " = "fold ") ∧ (("from" : Str) ++ " " ++ "@" = "from @") := by decide +kernel
theorem wln : ("from " : Str).length = 5 ∧ ("where " : Str).length = 6 ∧ ("with " : Str).length = 5 ∧ ("sort " : Str).length = 5 ∧ ("sessions " : Str).length = 9 ∧ ("join " : Str).length = 5 ∧ ("fold " : Str).length = 5 ∧ ("from @" : Str).length = 6 ∧ (" = " : Str).length = 3 ∧ (" by " : Str).length = 4 ∧ (" within " : Str).length = 8 := by decide +kernel
theorem txt_frm (ns : List Str) : (Sg.frm ns).txt = "from " ++ frT ns := by show ("from" ++ " " ++ frT ns : Str) = _; rw [wsp.1]
theorem join_two (x : Str) : Txt.join "" ["@", x] = "@" ++ x := by
  have : Txt.join "" ["@", x] = "@" ++ "" ++ x := rfl
  have e : ("@" : Str) ++ "" = "@" := by decide +kernel
  rw [this, e]
section
variable {P : Program} {w : World} {K : PySem.W.Frag} {mg : Str → Option Value} {base : Heap} {a : Adr}
theorem ok_L_by_text (T : Txt K mg a) : FnOk P w K mg base CX0 2 a.f_L_by_text a.d_L_by_text ["_law_names"] spByT := by
  refine T.F_L_by_text.ok sc_L_by_text (fun vs H Q E h => ?_) (fun cdv A outer s H vs Q E hr h => ?_)
  · obtain ⟨_, _, rfl, _⟩ := h; rfl
  obtain ⟨v, ns, rfl, ⟨p, rfl, hp⟩, hok, q⟩ := h
  have hu := hr.units0
  refine ⟨_, (pss_one (ps_ret (pe_ifExp (pt_cmpR (op_neT2 hu) (pv 0) (pe_tup pa_nil) (nomark _)) (pe_op op_add_str pe_str (pe_bm PySem.F.plainAttrs_str PySem.F.slot_str_join PySem.F.type_str_join mt_joinT pe_str (pa_cons (pv 0) pa_nil))) pe_str))), ?_⟩
  have ln := nsT_len hok
  refine ⟨_, rfl, small (n := 0) (by decide), fun e he => ?_⟩
  have ge := same_new he (.tup [])
  refine ⟨p, e, _, _, rfl, rfl, SqT.of (ge _ _ hp), SqT.of upd_same, flat_s ns, rfl, _, rfl, ?_⟩
  have q' := q _ ge
  unfold byT at q'
  dsimp only
  rw [if_pos rfl, eqTs_nil]
  cases e1 : ns.isEmpty with
  | true => rw [e1] at q'; exact q'
  | false =>
    rw [e1] at q'
    exact ⟨rfl, _, rfl, " ", p, ns, rfl, rfl, SqT.of (ge _ _ hp), okNs_sum hok (Nat.le_of_eq blank1), _, _, rfl, rfl, line5 (by have := wln.2.2.2.2.2.2.2.2.2.1; unfold nsT at ln; omega), q'⟩
theorem ok_L_stage_text (T : Txt K mg a) : FnOk P w K mg base CX0 10 a.f_L_stage_text a.d_L_stage_text ["_law_stage_here"] spSgT := by
  refine T.F_L_stage_text.ok sc_L_stage_text (fun vs H Q E h => ?_) (fun cdv A outer s H vs Q E hr h => ?_)
  · obtain ⟨_, _, rfl, _⟩ := h; rfl
  obtain ⟨v, st, rfl, hst, hok, q⟩ := h
  have hu := hr.units0
  obtain ⟨w1, w2, w3, w4, w5, w6, w7, w8⟩ := wsp
  obtain ⟨n1, n2, n3, n4, n5, n6, n7, n8, n9, n10, n11⟩ := wln
  refine ⟨_, (pss_cons (ps_set (i := 1) sc_L_stage_text.nd rfl (by first | exact Or.inl rfl | exact Or.inr rfl) (pe_ix ix_tup (pv 0) pe_int (fun _ _ => rfl))) (pss_cons (ps_if (pt_cmpR op_eq (pv 1) pe_str (nomark _)) (pss_cons (ps_if (pt_cmpR (op_eqT2 hu) (pe_slice sl_tupB (pe_ix ix_tup (pv 0) pe_int (fun _ _ => rfl)) po_none (po_some pe_int)) (pe_tup (pa_cons pe_str pa_nil)) (nomark _)) (pss_one (ps_ret (pe_op op_add_str pe_str (pe_ix ix_tup (pe_ix ix_tup (pv 0) pe_int (fun _ _ => rfl)) pe_int (fun _ _ => rfl))))) pss_nil) (pss_one (ps_ret (pe_op op_add_str pe_str (pe_bm PySem.F.plainAttrs_str PySem.F.slot_str_join PySem.F.type_str_join mt_joinT pe_str (pa_cons (pe_ifExp (pt_cmpR (op_neT2 hu) (pe_ix ix_tup (pv 0) pe_int (fun _ _ => rfl)) (pe_tup pa_nil) (nomark _)) (pe_ix ix_tup (pv 0) pe_int (fun _ _ => rfl)) (pe_tup (pa_cons pe_str pa_nil))) pa_nil)))))) pss_nil) (pss_cons (ps_if (pt_cmpR op_eq (pv 1) pe_str (nomark _)) (pss_one (ps_ret (pe_op op_add_str pe_str (pe_call (ok_text T 4) (hr.mono (by decide)) rfl T.m_text T.F_text.kp T.b_text .nil pass0 (pa_cons (pe_ix ix_tup (pv 0) pe_int (fun _ _ => rfl)) pa_nil))))) pss_nil) (pss_cons (ps_if (pt_cmpR op_eq (pv 1) pe_str (nomark _)) (pss_one (ps_ret (pe_op op_add_str (pe_op op_add_str (pe_op op_add_str pe_str (pe_ix ix_tup (pv 0) pe_int (fun _ _ => rfl))) pe_str) (pe_call (ok_text T 4) (hr.mono (by decide)) rfl T.m_text T.F_text.kp T.b_text .nil pass0 (pa_cons (pe_ix ix_tup (pv 0) pe_int (fun _ _ => rfl)) pa_nil))))) pss_nil) (pss_cons (ps_if (pt_cmpR op_in_seq (pv 1) (pe_tup (pa_cons pe_str (pa_cons pe_str pa_nil))) (by with_unfolding_all rfl)) (pss_one (ps_ret (pe_op op_add_str (pe_op op_add_str (pv 1) pe_str) (pe_bm PySem.F.plainAttrs_str PySem.F.slot_str_join PySem.F.type_str_join mt_joinT pe_str (pa_cons (pe_ix ix_tup (pv 0) pe_int (fun _ _ => rfl)) pa_nil))))) pss_nil) (pss_cons (ps_if (pt_cmpR op_eq (pv 1) pe_str (nomark _)) (pss_one (ps_ret (pe_op op_add_str (pe_op op_add_str pe_str (pe_ix ix_tup (pv 0) pe_int (fun _ _ => rfl))) (pe_ix ix_list (pe_lst (pa_cons pe_str (pa_cons pe_str (pa_cons pe_str pa_nil)))) (pe_op op_add pe_int (pe_callTy call_int1 rfl T.n_int (by decide +kernel) (pa_cons (pe_ix ix_tup (pv 0) pe_int (fun _ _ => rfl)) pa_nil))) (fun _ _ => rfl))))) pss_nil) (pss_cons (ps_if (pt_cmpR op_eq (pv 1) pe_str (nomark _)) (pss_one (ps_ret (pe_op op_add_str (pe_op op_add_str pe_str (pe_callTy call_str_int rfl T.n_str (by decide +kernel) (pa_cons (pe_ix ix_tup (pv 0) pe_int (fun _ _ => rfl)) pa_nil))) (pe_call (ok_L_by_text T) (hr.mono (by decide)) rfl T.m_L_by_text T.F_L_by_text.kp T.b_L_by_text .nil pass0 (pa_cons (pe_ix ix_tup (pv 0) pe_int (fun _ _ => rfl)) pa_nil))))) pss_nil) (pss_cons (ps_if (pt_cmpR op_eq (pv 1) pe_str (nomark _)) (pss_one (ps_ret (pe_op op_add_str (pe_op op_add_str (pe_op op_add_str (pe_op op_add_str (pe_op op_add_str pe_str (pe_ix ix_tup (pv 0) pe_int (fun _ _ => rfl))) pe_str) (pe_ix ix_tup (pv 0) pe_int (fun _ _ => rfl))) pe_str) (pe_callTy call_str_int rfl T.n_str (by decide +kernel) (pa_cons (pe_ix ix_tup (pv 0) pe_int (fun _ _ => rfl)) pa_nil))))) pss_nil) (pss_cons (ps_if (pt_cmpR op_eq (pv 1) pe_str (nomark _)) (pss_cons (ps_setC (i := 2) sc_L_stage_text.nd rfl (by first | exact Or.inl rfl | exact Or.inr rfl) (g := gTup K 3 (gCons (gName 0) (gCons (gName 1) (gCons (gName 2) gNil)))) ["_law_name", "_law_how", "_law_field"] [none, none, none] (pi_tup (pe_ix ix_tup (pv 0) pe_int (fun _ _ => rfl))) (fun _ _ _ _ _ => (pg_tup (n := 3) rfl (pgs_cons (pg_name (i := 0) (show List.Nodup (["_law_name", "_law_how", "_law_field"] : List Str) from by decide +kernel) rfl (Or.inl rfl) (Or.inr rfl)) (pgs_cons (pg_name (i := 1) (show List.Nodup (["_law_name", "_law_how", "_law_field"] : List Str) from by decide +kernel) rfl (Or.inl rfl) (Or.inr rfl)) (pgs_cons (pg_name (i := 2) (show List.Nodup (["_law_name", "_law_how", "_law_field"] : List Str) from by decide +kernel) rfl (Or.inl rfl) (Or.inr rfl)) pgs_nil))))) (fun _ _ _ _ _ => pts_nil) (fun _ _ _ _ _ => (pe_op op_add_str (pe_op op_add_str (pe_op op_add_str (pv 0) pe_str) (pv 1)) (pe_ifExp (pt_cmpR op_isN (pv 2) pe_non (nomark _)) pe_str (pe_op op_add_str pe_str (pv 2)))))) (pss_one (ps_ret (pe_op op_add_str (pe_op op_add_str pe_str (pe_bm PySem.F.plainAttrs_str PySem.F.slot_str_join PySem.F.type_str_join mt_join pe_str (pa_cons (pv 2) pa_nil))) (pe_call (ok_L_by_text T) (hr.mono (by decide)) rfl T.m_L_by_text T.F_L_by_text.kp T.b_L_by_text .nil pass0 (pa_cons (pe_ix ix_tup (pv 0) pe_int (fun _ _ => rfl)) pa_nil)))))) pss_nil) (pss_one (ps_ret (pe_op op_add_str (pe_op op_add_str (pv 1) pe_str) (pe_callTy call_str_int rfl T.n_str (by decide +kernel) (pa_cons (pe_ix ix_tup (pv 0) pe_int (fun _ _ => rfl)) pa_nil)))))))))))))), ?_⟩
  cases st with
  | frm ns =>
    obtain ⟨p, u, rfl, hp, q1, rfl, hq⟩ := hst
    refine ⟨_, rfl, p, _, _, _, rfl, rfl, SqT.of hp, atI_nat (j := 0) rfl, ?_⟩
    refine ⟨_, rfl, rfl, _, rfl, iteT ?_⟩
    have q0 := q
    have lfr := frT_len hok
    refine ⟨_, rfl, p, _, _, _, rfl, rfl, SqT.of hp, atI_nat (j := 1) rfl, _, rfl, ?_⟩
    rcases ns with _ | ⟨n, _ | ⟨m, r⟩⟩
    · refine .inr ⟨q1, _, rfl, SqT.of hq, rfl, rfl, ?_⟩
      refine ⟨small (n := 1) (by decide), fun e he => ?_⟩
      have ge := same_new he (.tup [.str "@"])
      refine ⟨q1, e, _, _, rfl, rfl, SqT.of (ge _ _ hq), SqT.of upd_same, rfl, rfl, _, rfl, iteF ?_⟩
      refine ⟨rfl, _, rfl, p, _, _, _, rfl, rfl, SqT.of (ge _ _ hp), atI_nat (j := 1) rfl, small (n := 0) (by decide), fun e2 he2 => ?_⟩
      have g2 := same_new he2 (.tup [])
      refine ⟨q1, e2, _, _, rfl, rfl, SqT.of ((ge.trans g2) _ _ hq), SqT.of upd_same, rfl, rfl, _, rfl, iteF ?_⟩
      refine ⟨small (n := 1) (by decide), fun e3 he3 => ?_⟩
      have g3 := same_new he3 (.tup [.str "all"])
      refine ⟨" ", e3, ["all"], rfl, rfl, SqT.of upd_same, by decide +kernel, _, _, rfl, rfl, line5 (by decide +kernel), ?_⟩
      have := q _ ((ge.trans g2).trans g3)
      rw [txt_frm] at this
      exact this
    · refine .inr ⟨q1, _, rfl, SqT.of hq, rfl, rfl, ?_⟩
      refine ⟨small (n := 1) (by decide), fun e he => ?_⟩
      have ge := same_new he (.tup [.str "@"])
      refine ⟨q1, e, _, _, rfl, rfl, SqT.of (ge _ _ hq), SqT.of upd_same, rfl, rfl, _, rfl, ?_⟩
      rcases hok with hok | ⟨x, e1, hx⟩
      · have hn : n ≠ "@" := (hok.2 n List.mem_cons_self).2
        refine ite2 (fun k => absurd (of_decide_eq_true ((eqTs_one n).symm.trans k)) hn) (fun _ => ?_)
        have ln := nsT_len hok
        refine ⟨rfl, _, rfl, p, _, _, _, rfl, rfl, SqT.of (ge _ _ hp), atI_nat (j := 1) rfl, small (n := 0) (by decide), fun e2 he2 => ?_⟩
        have g2 := same_new he2 (.tup [])
        refine ⟨q1, e2, _, _, rfl, rfl, SqT.of ((ge.trans g2) _ _ hq), SqT.of upd_same, rfl, rfl, _, rfl, iteT ?_⟩
        refine ⟨_, rfl, p, _, _, _, rfl, rfl, SqT.of ((ge.trans g2) _ _ hp), atI_nat (j := 1) rfl, ?_⟩
        refine ⟨" ", q1, [n], rfl, rfl, SqT.of ((ge.trans g2) _ _ hq), okNs_sum hok (Nat.le_of_eq blank1), _, _, rfl, rfl, line5 (by unfold nsT at ln; omega), ?_⟩
        have := q _ (ge.trans g2)
        rw [txt_frm] at this
        unfold frT at this
        rw [if_neg (show ¬ ([n] : List Str).isEmpty = true by simp), if_neg (show ¬ ([n] : List Str).head? = some "@" by simpa using hn)] at this
        exact this
      · cases e1
    · refine .inl ⟨q1, _, rfl, SqT.of hq, (fun z => by
        have := z.2
        rw [List.length_map, List.length_cons, List.length_cons] at this
        have e : HT.sIx (r.length + 1 + 1) (r.length + 1 + 1) (some 1) = 1 := by
          show HT.sIx (r.length + 1 + 1) (r.length + 1 + 1) (some ((1 : Nat) : Int)) = 1
          rw [HT.sIx_nat]; omega
        rw [e] at this; omega), fun c hc => ?_⟩
      have ec : cutV ((n :: m :: r).map V.str) none (some 1) = [.str n] := by
        unfold cutV
        have e : HT.sIx (((n :: m :: r).map V.str).length) (((n :: m :: r).map V.str).length) (some 1) = 1 := by
          rw [List.length_map, List.length_cons, List.length_cons]
          show HT.sIx (r.length + 1 + 1) (r.length + 1 + 1) (some ((1 : Nat) : Int)) = 1
          rw [HT.sIx_nat]; omega
        rw [e, HT.sIx_none]
        rfl
      rw [ec]
      have gc := same_new hc (.tup [.str n])
      refine ⟨small (n := 1) (by decide), fun e he => ?_⟩
      have ge := same_new he (.tup [.str "@"])
      have g1 := gc.trans ge
      refine ⟨c, e, _, _, rfl, rfl, SqT.of (ge _ _ upd_same), SqT.of upd_same, rfl, rfl, _, rfl, ?_⟩
      rcases hok with hok | ⟨x, e1, hx⟩
      · have hn : n ≠ "@" := (hok.2 n List.mem_cons_self).2
        refine ite2 (fun k => absurd (of_decide_eq_true ((eqTs_one n).symm.trans k)) hn) (fun _ => ?_)
        have ln := nsT_len hok
        refine ⟨rfl, _, rfl, p, _, _, _, rfl, rfl, SqT.of (g1 _ _ hp), atI_nat (j := 1) rfl, small (n := 0) (by decide), fun e2 he2 => ?_⟩
        have g2 := same_new he2 (.tup [])
        refine ⟨q1, e2, _, _, rfl, rfl, SqT.of ((g1.trans g2) _ _ hq), SqT.of upd_same, flat_s _, rfl, _, rfl, iteT ?_⟩
        refine ⟨_, rfl, p, _, _, _, rfl, rfl, SqT.of ((g1.trans g2) _ _ hp), atI_nat (j := 1) rfl, ?_⟩
        refine ⟨" ", q1, n :: m :: r, rfl, rfl, SqT.of ((g1.trans g2) _ _ hq), okNs_sum hok (Nat.le_of_eq blank1), _, _, rfl, rfl, line5 (by unfold nsT at ln; omega), ?_⟩
        have := q _ (g1.trans g2)
        rw [txt_frm] at this
        unfold frT at this
        rw [if_neg (show ¬ (n :: m :: r).isEmpty = true by simp), if_neg (show ¬ (n :: m :: r).head? = some "@" by simpa using hn)] at this
        exact this
      · injection e1 with e1 e2
        injection e2 with e2 e3
        subst e1 e2 e3
        refine iteT ?_
        refine ⟨_, rfl, p, _, _, _, rfl, rfl, SqT.of (g1 _ _ hp), atI_nat (j := 1) rfl, q1, _, _, _, rfl, rfl, SqT.of (g1 _ _ hq), atI_nat (j := 1) rfl, _, _, rfl, rfl, line5 (by omega), ?_⟩
        have := q _ g1
        rw [txt_frm] at this
        unfold frT at this
        rw [if_neg (by simp), if_pos (by simp), join_two, ← Str.append_assoc] at this
        rw [show ("from @" : Str) = "from " ++ "@" by decide +kernel]
        exact this
  | whr t =>
    obtain ⟨p, u, rfl, hp, hu1⟩ := hst
    refine ⟨_, rfl, p, _, _, _, rfl, rfl, SqT.of hp, atI_nat (j := 0) rfl, ?_⟩
    refine ⟨_, rfl, rfl, _, rfl, iteF ⟨_, rfl, rfl, _, rfl, iteT ?_⟩⟩
    have lt := tm_len hok.1 hok.2
    have hd : t.deep < 4 := hok.2
    refine ⟨_, rfl, p, _, _, _, rfl, rfl, SqT.of hp, atI_nat (j := 1) rfl, u, t, rfl, hu1, hok.1, hd, by decide, fun H1 g1 => ⟨_, _, rfl, rfl, line5 (by omega), ?_⟩⟩
    have := q H1 g1
    unfold Sg.txt at this
    rw [show (Sg.whr t).word ++ " " = "where " from w2] at this
    exact this
  | wth x t =>
    obtain ⟨p, u, rfl, hp, hu1⟩ := hst
    refine ⟨_, rfl, p, _, _, _, rfl, rfl, SqT.of hp, atI_nat (j := 0) rfl, ?_⟩
    refine ⟨_, rfl, rfl, _, rfl, iteF ⟨_, rfl, rfl, _, rfl, iteF ⟨_, rfl, rfl, _, rfl, iteT ?_⟩⟩⟩
    have lt := tm_len hok.2.1 hok.2.2
    have hd : t.deep < 4 := hok.2.2
    have lx : x.length ≤ 20 := hok.1.1
    refine ⟨_, rfl, p, _, _, _, rfl, rfl, SqT.of hp, atI_nat (j := 1) rfl, _, _, rfl, rfl, line5 (by omega), _, _, rfl, rfl, line5 (by rw [cat_len]; omega), _, rfl, p, _, _, _, rfl, rfl, SqT.of hp, atI_nat (j := 2) rfl, u, t, rfl, hu1, hok.2.1, hd, by decide, fun H1 g1 => ⟨_, _, rfl, rfl, line5 (by rw [cat_len, cat_len]; omega), ?_⟩⟩
    have := q H1 g1
    unfold Sg.txt at this
    rw [show (Sg.wth x t).word ++ " " = "with " from w3] at this
    rw [Str.append_assoc, Str.append_assoc, ← Str.append_assoc x]
    exact this
  | nms k ns =>
    obtain ⟨p, u, rfl, hp, q1, rfl, hq⟩ := hst
    have ln := nsT_len hok.2
    refine ⟨_, rfl, p, _, _, _, rfl, rfl, SqT.of hp, atI_nat (j := 0) rfl, ?_⟩
    rcases (show k = "keep" ∨ k = "drop" by simpa using hok.1) with rfl | rfl
    · refine ⟨_, rfl, rfl, _, rfl, iteF ⟨_, rfl, rfl, _, rfl, iteF ⟨_, rfl, rfl, _, rfl, iteF ⟨_, rfl, small (n := 2) (by decide), fun e he => ?_⟩⟩⟩⟩
      have ge := same_new he (.tup [.str "keep", .str "drop"])
      refine ⟨e, _, rfl, .inr (SqT.of upd_same), rfl, rfl, _, rfl, iteT ?_⟩
      refine ⟨_, rfl, _, _, rfl, rfl, line5 (by rw [blank1]; decide +kernel), rfl, _, rfl, p, _, _, _, rfl, rfl, SqT.of (ge _ _ hp), atI_nat (j := 1) rfl, " ", q1, ns, rfl, rfl, SqT.of (ge _ _ hq), okNs_sum hok.2 (Nat.le_of_eq blank1), _, _, rfl, rfl, line5 (by rw [cat_len, blank1]; unfold nsT at ln; have := kd_len _ hok.1; omega), ?_⟩
      exact q _ ge
    · refine ⟨_, rfl, rfl, _, rfl, iteF ⟨_, rfl, rfl, _, rfl, iteF ⟨_, rfl, rfl, _, rfl, iteF ⟨_, rfl, small (n := 2) (by decide), fun e he => ?_⟩⟩⟩⟩
      have ge := same_new he (.tup [.str "keep", .str "drop"])
      refine ⟨e, _, rfl, .inr (SqT.of upd_same), rfl, rfl, _, rfl, iteT ?_⟩
      refine ⟨_, rfl, _, _, rfl, rfl, line5 (by rw [blank1]; decide +kernel), rfl, _, rfl, p, _, _, _, rfl, rfl, SqT.of (ge _ _ hp), atI_nat (j := 1) rfl, " ", q1, ns, rfl, rfl, SqT.of (ge _ _ hq), okNs_sum hok.2 (Nat.le_of_eq blank1), _, _, rfl, rfl, line5 (by rw [cat_len, blank1]; unfold nsT at ln; have := kd_len _ hok.1; omega), ?_⟩
      exact q _ ge
  | srt x b =>
    obtain ⟨p, rfl, hp⟩ := hst
    have lx : x.length ≤ 20 := hok.1
    have lb : ∀ c : Bool, ((if c = true then " down" else " up" : Str)).length ≤ 5 := by decide +kernel
    refine ⟨_, rfl, p, _, _, _, rfl, rfl, SqT.of hp, atI_nat (j := 0) rfl, ?_⟩
    refine ⟨_, rfl, rfl, _, rfl, iteF ⟨_, rfl, rfl, _, rfl, iteF ⟨_, rfl, rfl, _, rfl, iteF ⟨_, rfl, small (n := 2) (by decide), fun e he => ?_⟩⟩⟩⟩
    have ge := same_new he (.tup [.str "keep", .str "drop"])
    refine ⟨e, _, rfl, .inr (SqT.of upd_same), rfl, rfl, _, rfl, iteF ⟨_, rfl, rfl, _, rfl, iteT ?_⟩⟩
    refine ⟨_, rfl, p, _, _, _, rfl, rfl, SqT.of (ge _ _ hp), atI_nat (j := 1) rfl, _, _, rfl, rfl, line5 (by omega), ?_⟩
    refine ⟨small (n := 3) (by decide), fun l hl => ?_⟩
    have gl := same_new hl (.lst [.str "", .str " up", .str " down"])
    have hp2 := gl _ _ (ge _ _ hp)
    refine ⟨_, rfl, p, _, _, _, rfl, rfl, SqT.of hp2, atI_nat (j := 2) rfl, .inr ⟨_, rfl, _, _, rfl, rfl, l, _, _, (.str (if b = true then " down" else " up")), rfl, rfl, SqL.of upd_same, (by cases b <;> rfl), _, _, rfl, rfl, line5 (by have := lb b; rw [cat_len]; omega), ?_⟩⟩
    have := q _ (ge.trans gl)
    unfold Sg.txt at this
    rw [show (Sg.srt x b).word ++ " " = "sort " from w4] at this
    have e5 : (Sg.srt x b).body = x ++ (if b = true then " down" else " up" : Str) := by
      cases b
      · show x ++ " " ++ ("up" : Str) = x ++ (" up" : Str)
        rw [Str.append_assoc, show (" " : Str) ++ "up" = " up" by decide +kernel]
      · show x ++ " " ++ ("down" : Str) = x ++ (" down" : Str)
        rw [Str.append_assoc, show (" " : Str) ++ "down" = " down" by decide +kernel]
    rw [e5, ← Str.append_assoc] at this
    exact this
  | ses i ns =>
    obtain ⟨p, u, rfl, hp, hu1⟩ := hst
    have li := (itx_ok hok.1).2
    have lb := byT_len hok.2
    refine ⟨_, rfl, p, _, _, _, rfl, rfl, SqT.of hp, atI_nat (j := 0) rfl, ?_⟩
    refine ⟨_, rfl, rfl, _, rfl, iteF ⟨_, rfl, rfl, _, rfl, iteF ⟨_, rfl, rfl, _, rfl, iteF ⟨_, rfl, small (n := 2) (by decide), fun e he => ?_⟩⟩⟩⟩
    have ge := same_new he (.tup [.str "keep", .str "drop"])
    refine ⟨e, _, rfl, .inr (SqT.of upd_same), rfl, rfl, _, rfl, iteF ⟨_, rfl, rfl, _, rfl, iteF ⟨_, rfl, rfl, _, rfl, iteT ?_⟩⟩⟩
    have li' : (toString i : Str).length ≤ 30 := li
    refine ⟨_, rfl, p, _, _, _, rfl, rfl, SqT.of (ge _ _ hp), atI_nat (j := 1) rfl, i, rfl, (itx_ok hok.1).1, _, _, rfl, rfl, line5 (by omega), _, rfl, p, _, _, _, rfl, rfl, SqT.of (ge _ _ hp), atI_nat (j := 2) rfl, u, ns, rfl, hu1.keep (same_tup ge), hok.2, fun H1 g1 => ⟨_, _, rfl, rfl, line5 (by rw [cat_len]; omega), ?_⟩⟩
    have := q H1 (ge.trans g1)
    unfold Sg.txt at this
    rw [show (Sg.ses i ns).word ++ " " = "sessions " from w5] at this
    rw [Str.append_assoc]
    exact this
  | joi s1 x i =>
    obtain ⟨p, rfl, hp⟩ := hst
    have li := (itx_ok hok.2.2).2
    have ls : s1.length ≤ 20 := hok.1.1
    have lx : x.length ≤ 20 := hok.2.1.1
    refine ⟨_, rfl, p, _, _, _, rfl, rfl, SqT.of hp, atI_nat (j := 0) rfl, ?_⟩
    refine ⟨_, rfl, rfl, _, rfl, iteF ⟨_, rfl, rfl, _, rfl, iteF ⟨_, rfl, rfl, _, rfl, iteF ⟨_, rfl, small (n := 2) (by decide), fun e he => ?_⟩⟩⟩⟩
    have ge := same_new he (.tup [.str "keep", .str "drop"])
    refine ⟨e, _, rfl, .inr (SqT.of upd_same), rfl, rfl, _, rfl, iteF ⟨_, rfl, rfl, _, rfl, iteF ⟨_, rfl, rfl, _, rfl, iteF ⟨_, rfl, rfl, _, rfl, iteT ?_⟩⟩⟩⟩
    have hp2 := ge _ _ hp
    have li' : (toString i : Str).length ≤ 30 := li
    refine ⟨_, rfl, p, _, _, _, rfl, rfl, SqT.of hp2, atI_nat (j := 1) rfl, _, _, rfl, rfl, line5 (by omega), _, _, rfl, rfl, line5 (by rw [cat_len]; omega), _, rfl, p, _, _, _, rfl, rfl, SqT.of hp2, atI_nat (j := 2) rfl, _, _, rfl, rfl, line5 (by rw [cat_len, cat_len]; omega), _, _, rfl, rfl, line5 (by rw [cat_len, cat_len, cat_len]; omega), _, rfl, p, _, _, _, rfl, rfl, SqT.of hp2, atI_nat (j := 3) rfl, i, rfl, (itx_ok hok.2.2).1, _, _, rfl, rfl, line5 (by rw [cat_len, cat_len, cat_len, cat_len]; omega), ?_⟩
    have := q _ ge
    unfold Sg.txt at this
    rw [show (Sg.joi s1 x i).word ++ " " = "join " from w6] at this
    have e5 : ("join " : Str) ++ (Sg.joi s1 x i).body = "join " ++ s1 ++ " by " ++ x ++ " within " ++ itx i := by
      show ("join " : Str) ++ (s1 ++ " by " ++ x ++ " within " ++ itx i) = _
      simp only [Str.append_assoc]
    rw [e5] at this
    exact this
  | fld ths ns =>
    obtain ⟨p, u1, u2, q1, xs, rfl, hp, rfl, hq, hxs, hu2⟩ := hst
    have lx := hxs.length
    have h60 : ths.length ≤ 60 := hok.1
    have l2 : (", " : Str).length ≤ 2 := by decide +kernel
    have lb := byT_len hok.2.2
    have tl : ∀ y ∈ ths.map thT, y.length ≤ 60 := fun y hy => by
      obtain ⟨t, ht, rfl⟩ := List.mem_map.mp hy
      exact thT_len (hok.2.1 t ht)
    have hl60 : (ths.map thT).length ≤ 60 := by rw [List.length_map]; exact h60
    have lj := tjoin_len (z := ", ") tl hl60 l2
    refine ⟨_, rfl, p, _, _, _, rfl, rfl, SqT.of hp, atI_nat (j := 0) rfl, ?_⟩
    refine ⟨_, rfl, rfl, _, rfl, iteF ⟨_, rfl, rfl, _, rfl, iteF ⟨_, rfl, rfl, _, rfl, iteF ⟨_, rfl, small (n := 2) (by decide), fun e he => ?_⟩⟩⟩⟩
    have ge := same_new he (.tup [.str "keep", .str "drop"])
    refine ⟨e, _, rfl, .inr (SqT.of upd_same), rfl, rfl, _, rfl, iteF ⟨_, rfl, rfl, _, rfl, iteF ⟨_, rfl, rfl, _, rfl, iteF ⟨_, rfl, rfl, _, rfl, iteF ⟨_, rfl, rfl, _, rfl, iteT ?_⟩⟩⟩⟩⟩
    have hp2 := ge _ _ hp
    refine ⟨_, rfl, p, _, _, _, rfl, rfl, SqT.of hp2, atI_nat (j := 1) rfl, q1, rfl, ⟨_, SqT.of (ge _ _ hq)⟩, ?_⟩
    refine comp_tupG (xs := xs) (zs := (ths.map thT).map V.str) (by rw [List.length_map, List.length_map]; omega) (ge _ _ hq) (by omega) (fun i x z H' R hx hz g hR => ?_) (fun D H' g hD => ?_)
    · rw [List.getElem?_map, List.getElem?_map] at hz
      obtain ⟨y, hy, rfl⟩ := Option.map_eq_some_iff.mp hz
      obtain ⟨t, ht, rfl⟩ := Option.map_eq_some_iff.mp hy
      obtain ⟨t', ht', hat⟩ := Paired.getP hxs hx
      rw [ht] at ht'; cases ht'
      obtain ⟨pt, rfl, hpt⟩ := hat
      obtain ⟨y1, how, f⟩ := t
      have hpt : H pt = some (.tup [.str y1, .str how, optV f]) := hpt
      obtain ⟨k1, k2, k3⟩ := hok.2.1 _ (List.mem_of_getElem? ht)
      have lh : ∀ s ∈ howS, s.length ≤ 6 := by decide +kernel
      have lhow : how.length ≤ 6 := lh how k2
      have ly : y1.length ≤ 20 := k1.1
      refine ⟨pt, [.str y1, .str how, optV f], rfl, SqT.of (g _ _ (ge _ _ hpt)), rfl, .str y1, _, rfl, .str how, _, rfl, optV f, [], rfl, rfl, ?_⟩
      refine ⟨_, rfl, _, _, rfl, rfl, line5 (by omega), _, rfl, _, _, rfl, rfl, line5 (by rw [cat_len]; omega), ?_⟩
      have hR' := hR _ (Same.refl _)
      cases f with
      | none => exact ⟨_, rfl, rfl, _, rfl, iteT ⟨_, _, rfl, rfl, line5 (by rw [cat_len, cat_len, show ("" : Str).length = 0 by decide +kernel]; omega), hR'⟩⟩
      | some f =>
        have lf : f.length ≤ 20 := (k3 f rfl).1
        exact ⟨_, rfl, rfl, _, rfl, iteF ⟨_, rfl, _, _, rfl, rfl, line5 (by rw [blank1]; omega), _, _, rfl, rfl, line5 (by rw [cat_len, cat_len, cat_len, blank1]; omega), hR'⟩⟩
    · have gD := same_new hD (.lst ((ths.map thT).map V.str))
      have gg := (ge.trans g).trans gD
      refine ⟨rfl, _, rfl, ", ", D, _, rfl, rfl, SqL.of upd_same, join_ok tl hl60 l2 (by decide), _, _, rfl, rfl, line5 (by omega), _, rfl, p, _, _, _, rfl, rfl, SqT.of (gg _ _ hp), atI_nat (j := 2) rfl, u2, ns, rfl, hu2.keep (same_tup gg), hok.2.2, fun H1 g1 => ⟨_, _, rfl, rfl, line5 (by rw [cat_len]; omega), ?_⟩⟩
      have := q H1 (gg.trans g1)
      unfold Sg.txt at this
      rw [show (Sg.fld ths ns).word ++ " " = "fold " from w7] at this
      rw [Str.append_assoc]
      exact this
  | num k i =>
    obtain ⟨p, rfl, hp⟩ := hst
    have li := (itx_ok hok.2).2
    have li' : (toString i : Str).length ≤ 30 := li
    have lk := fe_len k hok.1
    refine ⟨_, rfl, p, _, _, _, rfl, rfl, SqT.of hp, atI_nat (j := 0) rfl, ?_⟩
    rcases (show k = "first" ∨ k = "every" by simpa using hok.1) with rfl | rfl
    · refine ⟨_, rfl, rfl, _, rfl, iteF ⟨_, rfl, rfl, _, rfl, iteF ⟨_, rfl, rfl, _, rfl, iteF ⟨_, rfl, small (n := 2) (by decide), fun e he => ?_⟩⟩⟩⟩
      have ge := same_new he (.tup [.str "keep", .str "drop"])
      refine ⟨e, _, rfl, .inr (SqT.of upd_same), rfl, rfl, _, rfl, iteF ⟨_, rfl, rfl, _, rfl, iteF ⟨_, rfl, rfl, _, rfl, iteF ⟨_, rfl, rfl, _, rfl, iteF ⟨_, rfl, rfl, _, rfl, iteF ?_⟩⟩⟩⟩⟩
      refine ⟨_, rfl, _, _, rfl, rfl, line5 (by rw [blank1]; omega), _, rfl, p, _, _, _, rfl, rfl, SqT.of (ge _ _ hp), atI_nat (j := 1) rfl, i, rfl, (itx_ok hok.2).1, _, _, rfl, rfl, line5 (by rw [cat_len, blank1]; omega), ?_⟩
      exact q _ ge
    · refine ⟨_, rfl, rfl, _, rfl, iteF ⟨_, rfl, rfl, _, rfl, iteF ⟨_, rfl, rfl, _, rfl, iteF ⟨_, rfl, small (n := 2) (by decide), fun e he => ?_⟩⟩⟩⟩
      have ge := same_new he (.tup [.str "keep", .str "drop"])
      refine ⟨e, _, rfl, .inr (SqT.of upd_same), rfl, rfl, _, rfl, iteF ⟨_, rfl, rfl, _, rfl, iteF ⟨_, rfl, rfl, _, rfl, iteF ⟨_, rfl, rfl, _, rfl, iteF ⟨_, rfl, rfl, _, rfl, iteF ?_⟩⟩⟩⟩⟩
      refine ⟨_, rfl, _, _, rfl, rfl, line5 (by rw [blank1]; omega), _, rfl, p, _, _, _, rfl, rfl, SqT.of (ge _ _ hp), atI_nat (j := 1) rfl, i, rfl, (itx_ok hok.2).1, _, _, rfl, rfl, line5 (by rw [cat_len, blank1]; omega), ?_⟩
      exact q _ ge
theorem ok_asking (T : Txt K mg a) : FnOk P w K mg base CX0 11 a.f_asking a.d_asking ["_law_question_here"] spQnT := by
  refine T.F_asking.ok sc_asking (fun vs H Q E h => ?_) (fun cdv A outer s H vs Q E hr h => ?_)
  · obtain ⟨_, _, rfl, _⟩ := h; rfl
  obtain ⟨v, ss, rfl, ⟨p, xs, rfl, hp, hxs⟩, hok, q⟩ := h
  refine ⟨_, (pss_one (ps_ret (pe_bm PySem.F.plainAttrs_str PySem.F.slot_str_join PySem.F.type_str_join mt_join pe_str (pa_cons (pe_comp ["_law_stage_here"] [none] (pi_tup (pv 0)) (fun _ _ _ _ _ => (pg_name (i := 0) (show List.Nodup (["_law_stage_here"] : List Str) from by decide +kernel) rfl (Or.inl rfl) (Or.inr rfl))) (fun _ _ _ _ _ => pts_nil) (fun _ _ _ _ _ => (pe_call (ok_L_stage_text T) (hr.mono (by decide)) rfl T.m_L_stage_text T.F_L_stage_text.kp T.b_L_stage_text .nil pass0 (pa_cons (pv 0) pa_nil)))) pa_nil)))), ?_⟩
  have lx := hxs.length
  have l12 := hok.1
  refine ⟨rfl, _, rfl, p, rfl, ⟨_, SqT.of hp⟩, ?_⟩
  refine comp_tupG (xs := xs) (zs := (ss.map Sg.txt).map V.str) (by rw [List.length_map, List.length_map]; omega) hp (by omega) (fun i x z H' R hx hz g hR => ?_) (fun D H' g hD => ?_)
  · rw [List.getElem?_map, List.getElem?_map] at hz
    obtain ⟨y, hy, rfl⟩ := Option.map_eq_some_iff.mp hz
    obtain ⟨t, ht, rfl⟩ := Option.map_eq_some_iff.mp hy
    obtain ⟨t', ht', hat⟩ := Paired.getP hxs hx
    rw [ht] at ht'; cases ht'
    exact ⟨_, rfl, x, t, rfl, hat.keep (same_tup g), hok.2 t (List.mem_of_getElem? ht), fun H2 g2 => hR H2 g2⟩
  · have gD := same_new hD (.lst ((ss.map Sg.txt).map V.str))
    exact ⟨_, D, _, rfl, rfl, SqL.of upd_same, qn_join hok, q _ (g.trans gD)⟩
end

end My

set_option Elab.async false
set_option linter.all false
set_option maxRecDepth 100000
set_option maxHeartbeats 4000000
namespace My
open PySem L2
/-- a comprehension over a dict, with one test -/
theorem comp_dictF {kd : Addr} {o : Obj} {kvs : List (Key × V)} {im : List (Option Nat)} {σ : St} {H : Hp} {Q : VK} {tc : TT} {te : TE} (R : Nat → List V → Hp → Prop) (h0 : R 0 [] H)
    (hl : ∀ i ys H', i ≤ kvs.length → R i ys H' → ys.length ≤ sizeLine ∧ H' kd = some (.frz o (.dK kvs)))
    (he : ∀ i k v ys H' (N : List V → Hp → Prop), kvs[i]? = some (k, v) → R i ys H' → (∀ ys' H'', R (i + 1) ys' H'' → N ys' H'') →
      tc ((inner im σ).set 0 (some (kV k))) H' fun b H3 => if b = true then te ((inner im σ).set 0 (some (kV k))) H3 fun y H4 => N (ys ++ [y]) H4 else N ys H3)
    (hq : ∀ ys H', R kvs.length ys H' → ∀ D, H' D = none → Q (.ref D) (upd H' D (.lst ys))) : CompAt im (gName 0) tc te σ Q (Itd kd o kvs) H := by
  refine ⟨fun i m ys H' => m = kvs.length - i ∧ i ≤ kvs.length ∧ R i ys H', ⟨kvs.length, by simp, Nat.zero_le _, h0⟩, ?_⟩
  rintro i m ys H' ⟨rfl, hi, r⟩
  have hz := hl i ys H' hi r
  refine ⟨hz.1, ?_⟩
  by_cases hlt : i < kvs.length
  · refine .inr ⟨⟨hz.2, hlt⟩, fun x H'' y => ?_⟩
    obtain ⟨e, k, hk, rfl⟩ := y
    subst e
    rw [List.getElem?_map, List.getElem?_eq_getElem hlt] at hk
    have ek : kvs[i].1 = k := Option.some.inj hk
    subst ek
    exact he i kvs[i].1 kvs[i].2 ys _ (fun ys' H5 => ∃ m', m' < kvs.length - i ∧ m' = kvs.length - (i + 1) ∧ i + 1 ≤ kvs.length ∧ R (i + 1) ys' H5) (List.getElem?_eq_getElem hlt) r fun ys' H5 z => ⟨kvs.length - (i + 1), by omega, rfl, hlt, z⟩
  · have e : i = kvs.length := by omega
    subst e
    exact .inl ⟨⟨hz.2, Nat.le_refl _⟩, hq ys H' r⟩
theorem drw_upd {H : Hp} {d kd : Addr} {o o' : HO} (h : Drw H d) (hk : H kd = some o) (ho : ∀ xs, o ≠ .lst xs) : Drw (upd H kd o') d := by
  obtain ⟨l, ns, p, c, s, h1, h2, r⟩ := h
  refine ⟨l, ns, p, c, s, ?_, ?_, r⟩
  · rw [upd_ne fun z => by rw [z, hk] at h1; cases h1; exact ho _ rfl]; exact h1
  · rw [upd_ne fun z => by rw [z, hk] at h2; cases h2; exact ho _ rfl]; exact h2
/-! ### dicts of kinds made of others -/
theorem for_dict {kd : Addr} {o : Obj} {kvs : List (Key × V)} {g : TG} {tb : TS} {D : Ends} {σ : St} {H : Hp} (Pv : Nat → St → Hp → Prop) (h0 : Pv 0 σ H) (hl : ∀ i σ H, i ≤ kvs.length → Pv i σ H → H kd = some (.frz o (.dK kvs)))
    (hs : ∀ i k v σ H, kvs[i]? = some (k, v) → Pv i σ H → g (kV k) σ H fun σ2 H2 => tb { D with nx := Pv (i + 1), ct := Pv (i + 1), bk := D.nx } σ2 H2) (hd : ∀ σ H, Pv kvs.length σ H → D.nx σ H) :
    ∃ W : Nat → Nat → St → Hp → Prop, (∃ m, W 0 m σ H) ∧ ∀ i m σ H, W i m σ H →
      ((Itd kd o kvs).stop i H ∧ D.nx σ H) ∨ ((Itd kd o kvs).go i H ∧ ∃ N : St → Hp → Prop, (∀ σ' H', N σ' H' → ∃ m', m' < m ∧ W (i + 1) m' σ' H') ∧ ∀ x H', (Itd kd o kvs).yld i H x H' → g x σ H' fun σ2 H2 => tb { D with nx := N, ct := N, bk := D.nx } σ2 H2) := by
  refine ⟨fun i m σ H => m = kvs.length - i ∧ i ≤ kvs.length ∧ Pv i σ H, ⟨kvs.length, by simp, Nat.zero_le _, h0⟩, ?_⟩
  rintro i m σ H ⟨rfl, hi, p⟩
  have q := hl i σ H hi p
  by_cases hlt : i < kvs.length
  · refine .inr ⟨⟨q, hlt⟩, Pv (i + 1), fun σ' H' p' => ⟨kvs.length - (i + 1), by omega, rfl, hlt, p'⟩, fun x H' y => ?_⟩
    obtain ⟨e, k, hk, rfl⟩ := y
    subst e
    rw [List.getElem?_map, List.getElem?_eq_getElem hlt] at hk
    have ek : kvs[i].1 = k := Option.some.inj hk
    subst ek
    exact hs i kvs[i].1 kvs[i].2 σ _ (List.getElem?_eq_getElem hlt) p
  · have e : i = kvs.length := by omega
    subst e
    exact .inl ⟨⟨q, Nat.le_refl _⟩, hd σ H p⟩
theorem thaw_same {kd : Addr} {H H' : Hp} {kvs : List (Key × V)} {o : Obj} (hk : H kd = some (.dK kvs)) (g : Same (upd H kd (.frz o (.dK kvs))) H') : Same H (upd H' kd (.dK kvs)) := fun b u e => by
  by_cases hb : b = kd
  · subst hb; rw [hk] at e; cases e; exact upd_same
  · rw [upd_ne hb]; exact g b u (by rw [upd_ne hb]; exact e)
theorem paired_get {α β : Type} {R : α → β → Prop} : ∀ {xs : List α} {ys : List β}, Paired R xs ys → ∀ (j : Nat) (x : α) (y : β), xs[j]? = some x → ys[j]? = some y → R x y
  | _, _, .nil, j, x, y, h, _ => by simp at h
  | _, _, .cons a _, 0, x, y, h1, h2 => by cases h1; cases h2; exact a
  | _, _, .cons _ t, j + 1, x, y, h1, h2 => paired_get t j x y (by simpa using h1) (by simpa using h2)
/-- pairs laid as tuples -/
def PrAt (H : Hp) (t : Addr) (p : Str × Str) : Prop := H t = some (.tup [.str p.1, .str p.2])
def ListOf (H : Hp) (v : V) (ns : List Str) : Prop := ∃ p, v = .ref p ∧ (H p = some (.lst (ns.map V.str)) ∨ H p = some (.tup (ns.map V.str)))
theorem ListOf.same {H H' : Hp} {v : V} {ns : List Str} (h : ListOf H v ns) (g : Same H H') : ListOf H' v ns := let ⟨p, e, q⟩ := h; ⟨p, e, q.imp (g _ _) (g _ _)⟩
theorem ListOf.seq {K : PySem.W.Frag} {H : Hp} {v : V} {ns : List Str} (h : ListOf H v ns) : ∃ p, v = .ref p ∧ (SqL K H p (ns.map V.str) ∨ SqT K H p (ns.map V.str)) := let ⟨p, e, q⟩ := h; ⟨p, e, q.imp SqL.of SqT.of⟩
section
variable {P : Program} {w : World} {K : PySem.W.Frag} {mg : Str → Option Value} {base : Heap} {a : Adr}
def spOwn : Sp := fun vs H Q _ => ∃ kd ks, vs = [.ref kd] ∧ H kd = some (.dK (KS ks)) ∧ KOk ks ∧ (∀ n ∈ ks.map (·.1), n ∈ own9) ∧ ∀ nd ks' H', H nd = none → Same H H' → H' nd = some (.dK (KS ks')) → KOk ks' → 1 ≤ ks'.length → (∀ n ∈ ks'.map (·.1), n ∈ own9) → Q (.ref nd) H'
theorem own_put {ks : List (Str × Str)} {n z : Str} (h : ∀ m ∈ ks.map (·.1), m ∈ own9) (hn : n ∈ own9) : ∀ m ∈ (putS ks n z).map (·.1), m ∈ own9 := fun m hm => by
  rw [putS_keys] at hm
  split at hm
  · exact h m hm
  · rcases List.mem_append.mp hm with hm | hm
    · exact h m hm
    · have : m = n := by simpa using hm
      rw [this]; exact hn
theorem ok_own (T : Txt K mg a) : FnOk P w K mg base CX0 1 a.f_own a.d_own ["_law_kinds_here"] spOwn := by
  refine T.F_own.ok sc_own (fun vs H Q E h => ?_) (fun cdv A outer s H vs Q E hr h => ?_)
  · obtain ⟨_, _, rfl, _⟩ := h; rfl
  obtain ⟨kd, ks, rfl, hk, ok, ho, q⟩ := h
  have hu1 := hu_of hr
  refine ⟨_, (pss_cons (ps_set (i := 1) sc_own.nd rfl (by first | exact Or.inl rfl | exact Or.inr rfl) (pe_callTy call_dictC rfl T.n_dict (by decide +kernel) (pa_cons (pv 0) pa_nil))) (pss_cons (ps_dput hu1 (pv 1) pe_str pe_str rfl) (pss_cons (ps_dput hu1 (pv 1) pe_str pe_str rfl) (pss_cons (ps_dput hu1 (pv 1) pe_str pe_str rfl) (pss_one (ps_ret (pv 1))))))), ?_⟩
  refine ⟨_, rfl, kd, _, rfl, .inl hk, fun nd hnd => ?_⟩
  have l0 := ok.len
  have k1 : KOk (putS ks "time" "number") := ok.put (by decide +kernel) (.inl rfl)
  have k2 : KOk (putS (putS ks "time" "number") "source" "word") := k1.put (by decide +kernel) (.inr (.inr rfl))
  have k3 : KOk (putS (putS (putS ks "time" "number") "source" "word") "number" "number") := k2.put (by decide +kernel) (.inl rfl)
  have l1 := k1.len
  have l2 := k2.len
  refine ⟨_, rfl, nd, _, rfl, DPut.k (k := Sum.inr "time") upd_same (small1000 (by rw [KS_len]; omega)), ?_⟩
  rw [upd_upd, putS_K]
  refine ⟨_, rfl, nd, _, rfl, DPut.k (k := Sum.inr "source") upd_same (small1000 (by rw [KS_len]; omega)), ?_⟩
  rw [upd_upd, putS_K]
  refine ⟨_, rfl, nd, _, rfl, DPut.k (k := Sum.inr "number") upd_same (small1000 (by rw [KS_len]; omega)), ?_⟩
  rw [upd_upd, putS_K]
  exact ⟨_, rfl, q nd _ _ hnd (same_new hnd _) upd_same k3 (putS_ne _ _ _) (own_put (own_put (own_put ho (by decide +kernel)) (by decide +kernel)) (by decide +kernel))⟩
def spWithK : Sp := fun vs H Q _ => ∃ kd ks n z, vs = [.ref kd, .str n, .str z] ∧ H kd = some (.dK (KS ks)) ∧ KOk ks ∧ n ∈ Pool ∧ srt3 z ∧ ∀ nd ks' H', H nd = none → Same H H' → H' nd = some (.dK (KS ks')) → KOk ks' → Q (.ref nd) H'
theorem ok_with_kind (T : Txt K mg a) : FnOk P w K mg base CX0 1 a.f_with_kind a.d_with_kind ["_law_kinds_here", "_law_name", "_law_sort"] spWithK := by
  refine T.F_with_kind.ok sc_with_kind (fun vs H Q E h => ?_) (fun cdv A outer s H vs Q E hr h => ?_)
  · obtain ⟨_, _, _, _, rfl, _⟩ := h; rfl
  obtain ⟨kd, ks, n, z, rfl, hk, ok, hn, hz, q⟩ := h
  have hu1 := hu_of hr
  refine ⟨_, (pss_cons (ps_set (i := 3) sc_with_kind.nd rfl (by first | exact Or.inl rfl | exact Or.inr rfl) (pe_callTy call_dictC rfl T.n_dict (by decide +kernel) (pa_cons (pv 0) pa_nil))) (pss_cons (ps_dput hu1 (pv 3) (pv 1) (pv 2) rfl) (pss_one (ps_ret (pv 3))))), ?_⟩
  refine ⟨_, rfl, kd, _, rfl, .inl hk, fun nd hnd => ?_⟩
  have l0 := ok.len
  refine ⟨_, rfl, _, rfl, _, rfl, nd, _, rfl, DPut.k (k := Sum.inr n) upd_same (small1000 (by rw [KS_len]; omega)), ?_⟩
  rw [upd_upd, putS_K]
  exact ⟨_, rfl, q nd _ _ hnd (same_new hnd _) upd_same (ok.put hn hz)⟩
def spLess : Sp := fun vs H Q _ => ∃ kd ks v ns keep, vs = [.ref kd, v, .bl keep] ∧ H kd = some (.dK (KS ks)) ∧ KOk ks ∧ ListOf H v ns ∧ ns.length ≤ 60 ∧ ∀ nd ks' H', H nd = none → Same H H' → H' nd = some (.dK (KS ks')) → KOk ks' → Q (.ref nd) H'
theorem ok_less_kinds (T : Txt K mg a) : FnOk P w K mg base CX0 1 a.f_less_kinds a.d_less_kinds ["_law_kinds_here", "_law_names", "_law_keep"] spLess := by
  refine T.F_less_kinds.ok sc_less_kinds (fun vs H Q E h => ?_) (fun cdv A outer s H vs Q E hr h => ?_)
  · obtain ⟨_, _, _, _, _, rfl, _⟩ := h; rfl
  obtain ⟨kd, ks, v, ns, keep, rfl, hk, ok, hv, hn, q⟩ := h
  have hu1 := hu_of hr
  refine ⟨_, (pss_one (ps_ret (pe_callTy (call_dictP rfl) rfl T.n_dict (by decide +kernel) (pa_cons (pe_thaw (pe_comp ["_law_name", "_law_kinds_here", "_law_names", "_law_keep"] [none, some 0, some 1, some 2] (pi_dict (pv 0)) (fun _ _ _ _ _ => (pg_name (i := 0) (show List.Nodup (["_law_name", "_law_kinds_here", "_law_names", "_law_keep"] : List Str) from by decide +kernel) rfl (Or.inl rfl) (Or.inr rfl))) (fun _ _ _ _ _ => (pts_one (pt_cmpR op_eq (pe_cmpR (op_in_seqK rfl) (pv 0) (pv 2) (by with_unfolding_all rfl)) (pv 3) (nomark _)))) (fun _ _ _ _ _ => (pe_tup (pa_cons (pv 0) (pa_cons (pe_dget hu1 (pv 1) (pv 0) (fun _ _ => rfl)) pa_nil)))))) pa_nil)))), ?_⟩
  have l0 := ok.len
  obtain ⟨pv, rfl, hpv⟩ := hv
  refine ⟨_, rfl, kd, _, rfl, .inl ⟨hk, fun o => ?_⟩⟩
  have hpk : pv ≠ kd := fun z => by subst z; rcases hpv with h | h <;> (rw [hk] at h; cases h)
  refine comp_dictF (fun i ys H' => Same (upd H kd (.frz o (.dK (KS ks)))) H' ∧ ∃ (ts : List Addr) (ks' : List (Str × Str)), ys = ts.map V.ref ∧ Paired (PrAt H') ts ks' ∧ ks'.Sublist (ks.take i))
    ⟨Same.refl _, [], [], rfl, .nil, List.nil_sublist _⟩ (fun i ys H' hi hR => ?_) (fun i k vv ys H' N hx hR hN => ?_) (fun ys H' hR D hDn => ?_)
  · obtain ⟨g, ts, ks', rfl, hp, hs⟩ := hR
    have := hs.length_le
    rw [List.length_take] at this
    have := hp.length
    rw [List.length_map]
    exact ⟨small (by omega), g _ _ upd_same⟩
  · obtain ⟨g, ts, ks', rfl, hp, hs⟩ := hR
    unfold KS at hx
    rw [List.getElem?_map] at hx
    obtain ⟨pr, hpr, epr⟩ := Option.map_eq_some_iff.mp hx
    cases epr
    have hv := ks_val ok.nd (List.mem_of_getElem? hpr)
    have htk : ks.take (i + 1) = ks.take i ++ [pr] := by rw [List.take_add_one, hpr]; rfl
    have hpv' : H' pv = some (.lst (ns.map V.str)) ∨ H' pv = some (.tup (ns.map V.str)) := hpv.imp (fun h => g _ _ (by rw [upd_ne hpk]; exact h)) (fun h => g _ _ (by rw [upd_ne hpk]; exact h))
    refine ⟨_, rfl, _, rfl, pv, _, rfl, hpv'.imp SqL.of SqT.of, rfl, flat_s ns, _, rfl, rfl, _, rfl, ite2 (fun k => ?_) (fun k => ?_)⟩
    · refine ⟨_, rfl, _, rfl, _, rfl, kd, .str pr.2, rfl, .inl ⟨KS ks, .inr pr.1, .inr ⟨o, g _ _ upd_same⟩, rfl, hv.symm⟩, small (n := 2) (by decide), fun t' ht' => ?_⟩
      have g8 := same_new ht' (.tup [.str pr.1, .str pr.2])
      refine hN _ _ ⟨g.trans g8, ts ++ [t'], ks' ++ [pr], by simp, Paired.snoc (Paired.mapP hp fun x y z => g8 _ _ z) upd_same, ?_⟩
      rw [htk]; exact hs.append (List.Sublist.refl _)
    · refine hN _ _ ⟨g, ts, ks', rfl, hp, ?_⟩
      rw [htk]; exact hs.trans (List.sublist_append_left _ _)
  obtain ⟨g, ts, ks', rfl, hp, hs⟩ := hR
  rw [KS_len, List.take_length] at hs
  have gD := same_new hDn (.lst (ts.map V.ref))
  have g2 := thaw_same hk (g.trans gD)
  have kdD : D ≠ kd := fun z => by subst z; rw [g _ _ upd_same] at hDn; cases hDn
  have nd' : (ks'.map (·.1)).Nodup := ok.nd.sublist (hs.map _)
  have ok' : KOk ks' := ⟨nd', fun n hn => ok.pool n ((hs.map _).subset hn), fun p hp => ok.srt p (hs.subset hp)⟩
  refine .inr ⟨kd, o, KS ks, gD _ _ (g _ _ upd_same), (fun o u z => by have z : H kd = _ := z; rw [hk] at z; cases z), ?_⟩
  refine ⟨D, ts, KS ks', rfl, by rw [upd_ne kdD]; exact upd_same, by rw [KS_len]; exact hp.length, fun j t kv hj hkv => ?_, fun nd hnd => ?_⟩
  · unfold KS at hkv
    rw [List.getElem?_map] at hkv
    obtain ⟨pr, hpr, epr⟩ := Option.map_eq_some_iff.mp hkv
    cases epr
    have h0 := paired_get hp j t pr hj hpr
    have hne : t ≠ kd := fun z => by
      have h1 := g _ _ (upd_same (H := H) (a := kd) (o := .frz o (.dK (KS ks))))
      have h0 : H' t = some (.tup [.str pr.1, .str pr.2]) := h0
      rw [z, h1] at h0; cases h0
    rw [upd_ne hne]
    exact gD _ _ h0
  · rw [foldK_ks nd']
    exact q nd ks' _ (g2.free hnd) (g2.trans (same_new hnd _)) upd_same ok'
end

end My

set_option Elab.async false
set_option linter.all false
set_option maxRecDepth 100000
set_option maxHeartbeats 4000000
namespace My
open PySem L2
section
variable {P : Program} {w : World} {K : PySem.W.Frag} {mg : Str → Option Value} {base : Heap} {a : Adr}
def spJoinK : Sp := fun vs H Q _ => ∃ kd ks od os, vs = [.ref kd, .ref od] ∧ H kd = some (.dK (KS ks)) ∧ KOk ks ∧ H od = some (.dK (KS os)) ∧ KOk os ∧ (∀ n ∈ os.map (·.1), n ∈ own9) ∧ ∀ nd ks' H', H nd = none → Same H H' → H' nd = some (.dK (KS ks')) → KOk ks' → Q (.ref nd) H'
theorem that5 : ("that_" : Str).length = 5 := by decide +kernel
theorem ok_joined_kinds (T : Txt K mg a) : FnOk P w K mg base CX0 2 a.f_joined_kinds a.d_joined_kinds ["_law_kinds_here", "_law_own_here"] spJoinK := by
  refine T.F_joined_kinds.ok sc_joined_kinds (fun vs H Q E h => ?_) (fun cdv A outer s H vs Q E hr h => ?_)
  · obtain ⟨_, _, _, _, rfl, _⟩ := h; rfl
  obtain ⟨kd, ks, od, os, rfl, hk, ok, ho, oko, hos, q⟩ := h
  have hu1 := hu_of hr
  refine ⟨_, (pss_cons (ps_set (i := 2) sc_joined_kinds.nd rfl (by first | exact Or.inl rfl | exact Or.inr rfl) (pe_call (ok_less_kinds T) (hr.mono (by decide)) rfl T.m_less_kinds T.F_less_kinds.kp T.b_less_kinds .nil pass0 (pa_cons (pv 0) (pa_cons (pe_thaw (pe_comp ["_law_name"] [none] (pi_dict (pv 0)) (fun _ _ _ _ _ => (pg_name (i := 0) (show List.Nodup (["_law_name"] : List Str) from by decide +kernel) rfl (Or.inl rfl) (Or.inr rfl))) (fun _ _ _ _ _ => (pts_one (pt_cmpR op_eq (pe_slice sl_str (pv 0) po_none (po_some pe_int)) pe_str (nomark _)))) (fun _ _ _ _ _ => (pv 0)))) (pa_cons pe_bl pa_nil))))) (pss_cons (ps_thaw (ps_for PassesOwn.never rfl (pi_dict (pv 1)) (pg_name (i := 3) sc_joined_kinds.nd rfl (by first | exact Or.inl rfl | exact Or.inr rfl)) (pss_one (ps_dput hu1 (pv 2) (pe_op op_add_str pe_str (pv 3)) (pe_dget hu1 (pv 1) (pv 3) (fun _ _ => rfl)) rfl)))) (pss_cons (ps_dput hu1 (pv 2) pe_str pe_str rfl) (pss_one (ps_ret (pv 2)))))), ?_⟩
  have l0 := ok.len
  have lo := oko.len
  refine ⟨_, rfl, _, rfl, kd, _, rfl, .inl ⟨hk, fun o => ?_⟩⟩
  refine comp_dictF (fun i ys H' => H' = upd H kd (.frz o (.dK (KS ks))) ∧ ∃ ns : List Str, ys = ns.map V.str ∧ ns.length ≤ i) ⟨rfl, [], rfl, Nat.le_refl _⟩ (fun i ys H' hi hR => ?_) (fun i k vv ys H' N hx hR hN => ?_) (fun ys H' hR D hDn => ?_)
  · obtain ⟨rfl, ns, rfl, hs⟩ := hR
    rw [KS_len] at hi
    rw [List.length_map]
    exact ⟨small (by omega), upd_same⟩
  · obtain ⟨rfl, ns, rfl, hs⟩ := hR
    unfold KS at hx
    rw [List.getElem?_map] at hx
    obtain ⟨pr, hpr, epr⟩ := Option.map_eq_some_iff.mp hx
    cases epr
    have lp := ok.nl (List.mem_map.mpr ⟨pr, List.mem_of_getElem? hpr, rfl⟩)
    refine ⟨_, rfl, _, rfl, _, rfl, line5 (by omega), rfl, _, rfl, ite2 (fun k => ?_) (fun k => ?_)⟩
    · exact ⟨_, rfl, hN _ _ ⟨rfl, ns ++ [pr.1], by rw [List.map_append]; rfl, by simp; omega⟩⟩
    · exact hN _ _ ⟨rfl, ns, rfl, by omega⟩
  obtain ⟨rfl, ns, rfl, hs⟩ := hR
  rw [KS_len] at hs
  have gD := same_new hDn (.lst (ns.map V.str))
  have g1 := thaw_same hk gD
  have kdD : D ≠ kd := fun z => by subst z; rw [upd_same] at hDn; cases hDn
  refine .inr ⟨kd, o, KS ks, gD _ _ upd_same, (fun o u z => by have z : H kd = _ := z; rw [hk] at z; cases z), ?_⟩
  have hD' : upd (upd (upd H kd (.frz o (.dK (KS ks)))) D (.lst (ns.map V.str))) kd (.dK (KS ks)) D = some (.lst (ns.map V.str)) := by rw [upd_ne kdD]; exact upd_same
  generalize upd (upd (upd H kd (.frz o (.dK (KS ks)))) D (.lst (ns.map V.str))) kd (.dK (KS ks)) = H1 at g1 hD' ⊢
  refine ⟨kd, ks, .ref D, ns, false, rfl, g1 _ _ hk, ok, ⟨D, rfl, .inl hD'⟩, by omega, fun nd ks1 H2 hnd g2 hk2 ok1 => ?_⟩
  have g12 := g1.trans g2
  have ho2 := g12 _ _ ho
  have hnd0 := g1.free hnd
  have ndo : nd ≠ od := fun z => by subst z; rw [ho] at hnd0; cases hnd0
  refine ⟨_, rfl, od, _, rfl, .inl ⟨ho2, fun o2 => ?_⟩⟩
  refine for_dict (fun i σ H' => ∃ s3 ks', σ = [some (.ref kd), some (.ref od), some (.ref nd), s3] ∧ (∀ b u, b ≠ nd → upd H2 od (.frz o2 (.dK (KS os))) b = some u → H' b = some u) ∧ H' nd = some (.dK (KS ks')) ∧ KOk ks')
    ⟨_, ks1, rfl, fun b u _ e => e, by rw [upd_ne ndo]; exact hk2, ok1⟩ (fun i σ H' hi hP => ?_) (fun i k v σ H' hx hP => ?_) (fun σ H' hP => ?_)
  · obtain ⟨s3, ks', rfl, g3, _⟩ := hP
    exact g3 _ _ (Ne.symm ndo) upd_same
  · obtain ⟨s3, ks', rfl, g3, hk3, ok3⟩ := hP
    unfold KS at hx
    rw [List.getElem?_map] at hx
    obtain ⟨pr, hpr, epr⟩ := Option.map_eq_some_iff.mp hx
    cases epr
    have hmem := List.mem_of_getElem? hpr
    have hn9 := hos _ (List.mem_map.mpr ⟨pr, hmem, rfl⟩)
    have lp := oko.nl (List.mem_map.mpr ⟨pr, hmem, rfl⟩)
    have hv := ks_val oko.nd hmem
    have l3 := ok3.len
    have hz := oko.srt pr hmem
    have hok3 := ok3.put (n := "that_" ++ pr.1) (z := pr.2) (pool_own _ hn9).2 hz
    refine ⟨_, rfl, _, rfl, od, .str pr.2, rfl, .inl ⟨KS os, .inr pr.1, .inr ⟨o2, g3 _ _ (Ne.symm ndo) upd_same⟩, rfl, hv.symm⟩, _, rfl, _, rfl, _, _, rfl, rfl, line5 (by rw [that5]; omega), nd, _, rfl, DPut.k (k := Sum.inr ("that_" ++ pr.1)) hk3 (small1000 (by rw [KS_len]; omega)), ?_⟩
    rw [putS_K]
    exact ⟨_, _, rfl, fun b u hb e => by rw [upd_ne hb]; exact g3 b u hb e, upd_same, hok3⟩
  · obtain ⟨s3, ks', rfl, g3, hk3, ok3⟩ := hP
    have l3 := ok3.len
    refine .inr ⟨od, o2, KS os, g3 _ _ (Ne.symm ndo) upd_same, (fun o u z => by have z : H od = _ := z; rw [ho] at z; cases z), ?_⟩
    have hk4 : upd H' od (.dK (KS os)) nd = some (.dK (KS ks')) := by rw [upd_ne ndo]; exact hk3
    have g4 : ∀ b u, b ≠ nd → H2 b = some u → upd H' od (.dK (KS os)) b = some u := fun b u hb e => by
      by_cases hb2 : b = od
      · subst hb2; rw [ho2] at e; cases e; exact upd_same
      · rw [upd_ne hb2]; exact g3 b u hb (by rw [upd_ne hb2]; exact e)
    generalize upd H' od (.dK (KS os)) = H3 at hk4 g4 ⊢
    refine ⟨_, rfl, nd, _, rfl, DPut.k (k := Sum.inr "apart") hk4 (small1000 (by rw [KS_len]; omega)), ?_⟩
    rw [putS_K]
    refine ⟨_, rfl, q nd _ _ hnd0 (fun b u e => ?_) upd_same (ok3.put (by decide +kernel) (.inl rfl))⟩
    have hb : b ≠ nd := fun z => by rw [z, hnd0] at e; cases e
    rw [upd_ne hb]
    exact g4 b u hb (g12 b u e)
theorem strs_ne {H : Hp} {d p : Addr} {ss : List Str} (hD : Drw H d) (h : H p = some (.lst (ss.map V.str))) : p ≠ d := fun z => by
  obtain ⟨l, ns, a, b, c, h1, _⟩ := hD
  rw [z, h1] at h
  cases ss with
  | nil => cases h
  | cons s ss => injection h with h; injection h with h; injection h with h _; cases h
def spSome : Sp := fun vs H Q _ => ∃ d p ss, vs = [.ref d, .ref p] ∧ Drw H d ∧ H p = some (.lst (ss.map V.str)) ∧ 1 ≤ ss.length ∧ ss.length ≤ 60 ∧ ∀ v zs H', Ev d H H' → NsAt H' v zs → zs.Sublist ss → 1 ≤ zs.length → Q v H'
theorem ok_some (T : Txt K mg a) : FnOk P w K mg base CX0 3 a.f_some a.d_some ["_law_draw", "_law_names"] spSome := by
  refine T.F_some.ok sc_some (fun vs H Q E h => ?_) (fun cdv A outer s H vs Q E hr h => ?_)
  · obtain ⟨_, _, _, rfl, _⟩ := h; rfl
  obtain ⟨d, p, ss, rfl, hD, hp, l1, l2, q⟩ := h
  have hu := hr.units0
  have pd := strs_ne hD hp
  refine ⟨_, (pss_cons (ps_setC (i := 2) sc_some.nd rfl (by first | exact Or.inl rfl | exact Or.inr rfl) ["_law_name", "_law_draw"] [none, some 0] (pi_list (pv 1)) (fun _ _ _ _ _ => (pg_name (i := 0) (show List.Nodup (["_law_name", "_law_draw"] : List Str) from by decide +kernel) rfl (Or.inl rfl) (Or.inr rfl))) (fun _ _ _ _ _ => (pts_one (pt_cmpR op_eq (pe_call (ok_take T) (hr.mono (by decide)) rfl T.m_take T.F_take.kp T.b_take .nil pass0 (pa_cons (pv 1) (pa_cons pe_int pa_nil))) pe_int (nomark _)))) (fun _ _ _ _ _ => (pv 0))) (pss_one (ps_ret (pe_ifExp (pt_cmpR (op_neL hu) (pv 2) (pe_lst pa_nil) (nomark _)) (pe_callTy call_tuple_of rfl T.n_tuple (by decide +kernel) (pa_cons (pv 2) pa_nil)) (pe_tup (pa_cons (pe_call (ok_of T) (hr.mono (by decide)) rfl T.m_of T.F_of.kp T.b_of .nil pass0 (pa_cons (pv 0) (pa_cons (pv 1) pa_nil))) pa_nil)))))), ?_⟩
  refine ⟨_, rfl, p, rfl, ⟨_, SqL.of hp⟩, ?_⟩
  refine comp_listF (xs := ss.map V.str) (fun i ys H' => Ev d H H' ∧ ∃ zs : List Str, ys = zs.map V.str ∧ zs.Sublist (ss.take i)) ⟨Ev.refl hD, [], rfl, List.nil_sublist _⟩ (fun i ys H' hi hR => ?_) (fun i x ys H' N hx hR hN => ?_) (fun ys H' hR D hDn => ?_)
  · obtain ⟨ev, zs, rfl, hs⟩ := hR
    have := hs.length_le
    rw [List.length_take] at this
    rw [List.length_map]
    exact ⟨small (by omega), SqL.of (ev.same _ _ pd hp)⟩
  · obtain ⟨ev, zs, rfl, hs⟩ := hR
    rw [List.getElem?_map] at hx
    obtain ⟨n, hn, rfl⟩ := Option.map_eq_some_iff.mp hx
    have htk : ss.take (i + 1) = ss.take i ++ [n] := by rw [List.take_add_one, hn]; rfl
    refine ⟨_, rfl, d, _, rfl, ev.drw, by decide, by decide, fun r H2 r0 r1 ev2 => ⟨rfl, _, rfl, ite2 (fun k => ?_) (fun k => ?_)⟩⟩
    · exact ⟨_, rfl, hN _ _ ⟨ev.trans ev2, zs ++ [n], by simp, by rw [htk]; exact hs.append (List.Sublist.refl _)⟩⟩
    · exact hN _ _ ⟨ev.trans ev2, zs, rfl, by rw [htk]; exact hs.trans (List.sublist_append_left _ _)⟩
  obtain ⟨ev, zs, rfl, hs⟩ := hR
  rw [List.length_map, List.take_length] at hs
  have ls := hs.length_le
  have gD := same_new hDn (.lst (zs.map V.str))
  have ev1 := ev.then gD
  refine ⟨_, rfl, small (n := 0) (by decide), fun e he => ?_⟩
  have ge := same_new he (.lst [])
  have ev2 := ev1.then ge
  refine ⟨D, e, _, _, rfl, rfl, SqL.of (ge _ _ upd_same), SqL.of upd_same, flat_strs zs, rfl, _, rfl, ?_⟩
  cases zs with
  | nil =>
    refine iteF ⟨_, rfl, _, rfl, d, _, rfl, ev2.drw, .inr ⟨p, _, rfl, pd, ev2.same _ _ pd hp, by rw [List.length_map]; exact l1, by rw [List.length_map]; omega, fun v H3 ev3 hv => ⟨small (n := 1) (by decide), fun t ht => ?_⟩⟩⟩
    obtain ⟨n, hn, rfl⟩ := List.mem_map.mp hv
    exact q _ [n] _ ((ev2.trans ev3).then (same_new ht _)) ⟨t, rfl, upd_same⟩ (List.singleton_sublist.mpr hn) (Nat.le_refl 1)
  | cons z zs =>
    refine iteT ⟨_, rfl, D, _, rfl, .inl ⟨SqL.of (ge _ _ upd_same), fun t ht => ?_⟩⟩
    exact q _ (z :: zs) _ (ev2.then (same_new ht _)) ⟨t, rfl, upd_same⟩ hs (by simp)
def spBy : Sp := fun vs H Q _ => ∃ d p ss, vs = [.ref d, .ref p] ∧ Drw H d ∧ H p = some (.lst (ss.map V.str)) ∧ 1 ≤ ss.length ∧ ss.length ≤ 60 ∧ ∀ v zs H', Ev d H H' → NsAt H' v zs → zs.Sublist ss → Q v H'
theorem ok_by (T : Txt K mg a) : FnOk P w K mg base CX0 4 a.f_by a.d_by ["_law_draw", "_law_names"] spBy := by
  refine T.F_by.ok sc_by (fun vs H Q E h => ?_) (fun cdv A outer s H vs Q E hr h => ?_)
  · obtain ⟨_, _, _, rfl, _⟩ := h; rfl
  obtain ⟨d, p, ss, rfl, hD, hp, l1, l2, q⟩ := h
  have pd := strs_ne hD hp
  refine ⟨_, (pss_one (ps_ret (pe_ifExp (pt_cmpR op_eq (pe_call (ok_take T) (hr.mono (by decide)) rfl T.m_take T.F_take.kp T.b_take .nil pass0 (pa_cons (pv 0) (pa_cons pe_int pa_nil))) pe_int (nomark _)) (pe_tup pa_nil) (pe_call (ok_some T) (hr.mono (by decide)) rfl T.m_some T.F_some.kp T.b_some .nil pass0 (pa_cons (pv 0) (pa_cons (pv 1) pa_nil)))))), ?_⟩
  refine ⟨_, rfl, d, _, rfl, hD, by decide, by decide, fun r H2 r0 r1 ev2 => ⟨rfl, _, rfl, ite2 (fun k => ?_) (fun k => ?_)⟩⟩
  · exact ⟨small (n := 0) (by decide), fun t ht => q _ [] _ (ev2.then (same_new ht _)) ⟨t, rfl, upd_same⟩ (List.nil_sublist _)⟩
  · exact ⟨_, rfl, _, rfl, d, p, ss, rfl, ev2.drw, ev2.same _ _ pd hp, l1, l2, fun v zs H3 ev3 hv hs _ => q v zs H3 (ev2.trans ev3) hv hs⟩
abbrev srcS : List Str := ["web", "app", "db"]
def spSrc : Sp := fun vs H Q _ => ∃ d, vs = [.ref d] ∧ Drw H d ∧ ∀ p (ss : List Str) H', H p = none → Ev d H H' → H' p = some (.lst (ss.map V.str)) → 1 ≤ ss.length → ss.Sublist srcS → Q (.ref p) H'
theorem src_cut {r : Int} (h0 : 0 ≤ r) (h1 : r < 3) : ∃ m, 1 ≤ m ∧ m ≤ 3 ∧ cutV (srcS.map V.str) none (some (1 + r)) = (srcS.take m).map V.str := by
  have : r = 0 ∨ r = 1 ∨ r = 2 := by omega
  rcases this with rfl | rfl | rfl
  · exact ⟨1, by decide, by decide, by decide +kernel⟩
  · exact ⟨2, by decide, by decide, by decide +kernel⟩
  · exact ⟨3, by decide, by decide, by decide +kernel⟩
theorem ok_sources (T : Txt K mg a) : FnOk P w K mg base CX0 2 a.f_sources a.d_sources ["_law_draw"] spSrc := by
  refine T.F_sources.ok sc_sources (fun vs H Q E h => ?_) (fun cdv A outer s H vs Q E hr h => ?_)
  · obtain ⟨_, rfl, _⟩ := h; rfl
  obtain ⟨d, rfl, hD, q⟩ := h
  refine ⟨_, (pss_one (ps_ret (pe_slice sl_list (pe_lst (pa_cons pe_str (pa_cons pe_str (pa_cons pe_str pa_nil)))) po_none (po_some (pe_op op_add pe_int (pe_call (ok_take T) (hr.mono (by decide)) rfl T.m_take T.F_take.kp T.b_take .nil pass0 (pa_cons (pv 0) (pa_cons pe_int pa_nil)))))))), ?_⟩
  refine ⟨small (n := 3) (by decide), fun l hl => ?_⟩
  have ev0 := Ev.of hD (same_new hl (.lst (srcS.map V.str)))
  refine ⟨_, rfl, d, _, rfl, ev0.drw, by decide, by decide, fun r H1 r0 r1 ev1 => ?_⟩
  obtain ⟨m, m1, m2, hcut⟩ := src_cut r0 r1
  refine ⟨_, _, rfl, rfl, _, rfl, l, _, rfl, SqL.of (ev1.same _ _ (hD.ne_of_none hl) upd_same), fun p hp => ?_⟩
  have hc : cutV [.str "web", .str "app", .str "db"] none (some (1 + r)) = (srcS.take m).map V.str := hcut
  rw [hc]
  have g2 := same_new hp (.lst ((srcS.take m).map V.str))
  exact q p (srcS.take m) _ ((ev0.trans ev1).free hp) ((ev0.trans ev1).then g2) upd_same (by rw [List.length_take]; show 1 ≤ min m 3; omega) (List.take_sublist _ _)
end

end My

set_option Elab.async false
set_option linter.all false
set_option maxRecDepth 100000
set_option maxHeartbeats 4000000
namespace My
open PySem L2
/-! ### stages drawn -/
theorem comp_itsV {z : Str} {im : List (Option Nat)} {σ : St} {H : Hp} {Q : VK} {te : TE} (f : Nat → V) (hz : z.cps.size ≤ sizeLine)
    (he : ∀ c (R : VK), R (f c) H → te ((inner im σ).set 0 (some (.str ⟨#[c]⟩))) H R)
    (hq : ∀ D, H D = none → Q (.ref D) (upd H D (.lst (z.cps.toList.map f)))) :
    CompAt im (gName 0) tNoIf te σ Q (Its z) H := by
  have hs : z.cps.size = z.cps.toList.length := by simp
  refine ⟨fun i m ys H' => m = z.cps.size - i ∧ i ≤ z.cps.size ∧ ys = (z.cps.toList.take i).map f ∧ H' = H, ⟨z.cps.size, by simp⟩, ?_⟩
  rintro i m ys H' ⟨rfl, hi, rfl, rfl⟩
  refine ⟨by rw [List.length_map, List.length_take]; omega, ?_⟩
  by_cases hlt : i < z.cps.size
  · refine .inr ⟨hlt, fun x H'' y => ?_⟩
    obtain ⟨e, c, hc, rfl⟩ := y
    subst e
    refine he c _ ⟨z.cps.size - (i + 1), by omega, rfl, hlt, ?_, rfl⟩
    have hc' : z.cps.toList[i]? = some c := by rw [Array.getElem?_toList]; exact hc
    rw [List.take_add_one, hc']
    simp
  · have e : i = z.cps.size := by omega
    subst e
    refine .inl ⟨rfl, fun D hD => ?_⟩
    rw [hs, List.take_length]
    exact hq D hD
def letS : List Str := ("abcdefghijklmnopqrstuvwxyz" : Str).cps.toList.map fun c => ("f" : Str) ++ ⟨#[c]⟩
def freeS : List Str := (["many", "all_", "top", "x"] : List Str) ++ letS
theorem free_pool : ∀ n ∈ freeS, n ∈ Pool := by decide +kernel
theorem free_len : freeS.length = 30 := by decide +kernel
theorem pool_okN : ∀ n ∈ Pool, okN n := by
  have : ∀ n ∈ Pool, n.length ≤ 20 ∧ n ≠ "@" := by decide +kernel
  exact this
def StRes (H : Hp) (v : V) : Prop := ∃ p sv nd s ks', v = .ref p ∧ H p = some (.tup [sv, .ref nd]) ∧ SgAt H sv s ∧ s.ok ∧ H nd = some (.dK (KS ks')) ∧ KOk ks'
theorem okNs_sub {zs ss : List Str} (h : zs.Sublist ss) (hs : ∀ n ∈ ss, n ∈ Pool) (hl : ss.length ≤ 60) : okNs zs := ⟨Nat.le_trans h.length_le hl, fun n hn => pool_okN n (hs n (h.subset hn))⟩
theorem tup_ne {H : Hp} {d p : Addr} {xs : List V} (hD : Drw H d) (h : H p = some (.tup xs)) : p ≠ d := fun z => by
  obtain ⟨ys, e⟩ := hD.some
  rw [z, e] at h; cases h
def ThOk (t : Str × Str × Option Str) : Prop := okN t.1 ∧ t.2.1 ∈ howS ∧ ∀ f, t.2.2 = some f → okN f
structure FIv (d l0 l2 bp nl sp fl nd : Addr) (H0 : Hp) (ss zs us gs : List Str) (i : Nat) (H : Hp) : Prop where
  ev : Ev d H0 H
  l : Fst H d l0
  n : H l2 = some (.lst (ss.map V.str))
  b : H bp = some (.tup (zs.map V.str))
  u : H nl = some (.lst (us.map V.str))
  g : H sp = some (.lst (gs.map V.str))
  f : ∃ xs ths, H fl = some (.lst xs) ∧ Paired (ThAt H) xs ths ∧ ths.length ≤ i ∧ ∀ t ∈ ths, ThOk t
  k : ∃ ks', H nd = some (.dK (KS ks')) ∧ KOk ks'
theorem FIv.step {d l0 l2 bp nl sp fl nd : Addr} {H0 : Hp} {ss zs us gs : List Str} {i : Nat} {H H' : Hp} (h : FIv d l0 l2 bp nl sp fl nd H0 ss zs us gs i H) (fld : fl ≠ d) (e : Ev d H H') : FIv d l0 l2 bp nl sp fl nd H0 ss zs us gs i H' := by
  have hD := h.ev.drw
  obtain ⟨xs, ths, f1, f2, f3, f4⟩ := h.f
  obtain ⟨ks', k1, k2⟩ := h.k
  refine ⟨h.ev.trans e, e.fst _ h.l, e.same _ _ (strs_ne hD h.n) h.n, e.same _ _ (tup_ne hD h.b) h.b, e.same _ _ (strs_ne hD h.u) h.u, e.same _ _ (strs_ne hD h.g) h.g, ⟨xs, ths, e.same _ _ fld f1, Paired.mapP f2 fun _ _ z => z.keep (ev_tup e hD), f3, f4⟩, ⟨ks', e.same _ _ (fun z => ?_) k1, k2⟩⟩
  obtain ⟨ys, q⟩ := hD.some
  rw [z, q] at k1; cases k1
theorem ThAt.upd {H : Hp} {p : Addr} {o o' : HO} (hp : H p = some o) (ho : ∀ xs, o ≠ .tup xs) {v : V} {t : Str × Str × Option Str} (h : ThAt H v t) : ThAt (upd H p o') v t := h.keep fun b xs e => by rw [upd_ne (fun z => by rw [z, hp] at e; cases e; exact ho _ rfl)]; exact e
theorem ev_put {d x : Addr} {H0 H : Hp} {o o' : HO} (e : Ev d H0 H) (hn : H0 x = none) (hx : H x = some o) (hxd : x ≠ d) (hD : Drw (upd H x o') d) : Ev d H0 (upd H x o') :=
  ⟨fun b u hb q => by rw [upd_ne (ne_of_none q hn)]; exact e.same b u hb q, fun l h => let ⟨xs, q⟩ := e.fst l h; ⟨xs, by rw [upd_ne (Ne.symm hxd)]; exact q⟩, hD⟩
section
variable {P : Program} {w : World} {K : PySem.W.Frag} {mg : Str → Option Value} {base : Heap} {a : Adr}
def spFold : Sp := fun vs H Q _ => ∃ d kd ks, vs = [.ref d, .ref kd] ∧ Kn1 H d kd ks ∧ ∀ v H', Ev d H H' → StRes H' v → Q v H'
theorem ok_fold_stage (T : Txt K mg a) : FnOk P w K mg base CX0 7 a.f_fold_stage a.d_fold_stage ["_law_draw", "_law_kinds_here"] spFold := by
  refine T.F_fold_stage.ok sc_fold_stage (fun vs H Q E h => ?_) (fun cdv A outer s H vs Q E hr h => ?_)
  · obtain ⟨_, _, _, rfl, _⟩ := h; rfl
  obtain ⟨d, kd, ks, rfl, hK, q⟩ := h
  have hu := hr.units0
  have hu1 := hu_of hr
  refine ⟨_, (pss_cons (ps_set (i := 2) sc_fold_stage.nd rfl (by first | exact Or.inl rfl | exact Or.inr rfl) (pe_callB call_sortedS rfl T.n_sorted (by decide +kernel) (pa_cons (pe_callTy (call_listD rfl) rfl T.n_list (by decide +kernel) (pa_cons (pv 1) pa_nil)) pa_nil))) (pss_cons (ps_set (i := 3) sc_fold_stage.nd rfl (by first | exact Or.inl rfl | exact Or.inr rfl) (pe_call (ok_by T) (hr.mono (by decide)) rfl T.m_by T.F_by.kp T.b_by .nil pass0 (pa_cons (pv 0) (pa_cons (pv 2) pa_nil)))) (pss_cons (ps_set (i := 4) sc_fold_stage.nd rfl (by first | exact Or.inl rfl | exact Or.inr rfl) (pe_op op_cat (pe_lst (pa_cons pe_str (pa_cons pe_str (pa_cons pe_str (pa_cons pe_str pa_nil))))) (pe_comp ["_law_sign"] [none] (pi_str pe_str) (fun _ _ _ _ _ => (pg_name (i := 0) (show List.Nodup (["_law_sign"] : List Str) from by decide +kernel) rfl (Or.inl rfl) (Or.inr rfl))) (fun _ _ _ _ _ => pts_nil) (fun _ _ _ _ _ => (pe_op op_add_str pe_str (pv 0)))))) (pss_cons (ps_setC (i := 4) sc_fold_stage.nd rfl (by first | exact Or.inl rfl | exact Or.inr rfl) ["_law_name", "_law_by_here"] [none, some 3] (pi_list (pv 4)) (fun _ _ _ _ _ => (pg_name (i := 0) (show List.Nodup (["_law_name", "_law_by_here"] : List Str) from by decide +kernel) rfl (Or.inl rfl) (Or.inr rfl))) (fun _ _ _ _ _ => (pts_one (pt_cmpR (op_notIn_seqK rfl) (pv 0) (pv 1) (by with_unfolding_all rfl)))) (fun _ _ _ _ _ => (pv 0))) (pss_cons (ps_setC (i := 5) sc_fold_stage.nd rfl (by first | exact Or.inl rfl | exact Or.inr rfl) ["_law_name", "_law_kinds_here"] [none, some 1] (pi_list (pv 2)) (fun _ _ _ _ _ => (pg_name (i := 0) (show List.Nodup (["_law_name", "_law_kinds_here"] : List Str) from by decide +kernel) rfl (Or.inl rfl) (Or.inr rfl))) (fun _ _ _ _ _ => (pts_one (pt_cmpR op_eq (pe_dget hu1 (pv 1) (pv 0) (fun _ _ => rfl)) pe_str (nomark _)))) (fun _ _ _ _ _ => (pv 0))) (pss_cons (ps_set (i := 6) sc_fold_stage.nd rfl (by first | exact Or.inl rfl | exact Or.inr rfl) (pe_lst pa_nil)) (pss_cons (ps_set (i := 7) sc_fold_stage.nd rfl (by first | exact Or.inl rfl | exact Or.inr rfl) (pe_call (ok_less_kinds T) (hr.mono (by decide)) rfl T.m_less_kinds T.F_less_kinds.kp T.b_less_kinds .nil pass0 (pa_cons (pv 1) (pa_cons (pv 3) (pa_cons pe_bl pa_nil))))) (pss_cons (ps_for PassesOwn.never rfl (pi_list (pe_slice sl_list (pv 4) po_none (po_some (pe_op op_add pe_int (pe_call (ok_take T) (hr.mono (by decide)) rfl T.m_take T.F_take.kp T.b_take .nil pass0 (pa_cons (pv 0) (pa_cons pe_int pa_nil))))))) (pg_name (i := 8) sc_fold_stage.nd rfl (by first | exact Or.inl rfl | exact Or.inr rfl)) (pss_cons (ps_set (i := 9) sc_fold_stage.nd rfl (by first | exact Or.inl rfl | exact Or.inr rfl) (pe_call (ok_of T) (hr.mono (by decide)) rfl T.m_of T.F_of.kp T.b_of .nil pass0 (pa_cons (pv 0) (pa_cons (pe_lst (pa_cons pe_str (pa_cons pe_str (pa_cons pe_str (pa_cons pe_str (pa_cons pe_str pa_nil)))))) pa_nil)))) (pss_cons (ps_cut (ps_if (PW.pt (pw_and (pt_cmpR (op_eqL hu) (pv 5) (pe_lst pa_nil) (nomark _)) (pw_and1 (pt_cmpR op_in_seq (pv 9) (pe_tup (pa_cons pe_str (pa_cons pe_str (pa_cons pe_str pa_nil)))) (by with_unfolding_all rfl))))) (pss_one (ps_set (i := 9) sc_fold_stage.nd rfl (by first | exact Or.inl rfl | exact Or.inr rfl) pe_str)) pss_nil)) (pss_cons (ps_set (i := 10) sc_fold_stage.nd rfl (by first | exact Or.inl rfl | exact Or.inr rfl) (pe_call (ok_of T) (hr.mono (by decide)) rfl T.m_of T.F_of.kp T.b_of .nil pass0 (pa_cons (pv 0) (pa_cons (pe_cut (pe_ifExp (PW.pt (pw_or (pt_cmpR op_eq (pv 9) pe_str (nomark _)) (pw_or1 (pt_cmpR (op_eqL hu) (pv 5) (pe_lst pa_nil) (nomark _))))) (pv 2) (pv 5))) pa_nil)))) (pss_cons (ps_expr (pe_bm PySem.F.plainAttrs_list PySem.F.slot_list_append PySem.F.type_list_append mt_append (pv 6) (pa_cons (pe_tup (pa_cons (pv 8) (pa_cons (pv 9) (pa_cons (pe_cut (pe_ifExp (pt_cmpR op_eq (pv 9) pe_str (nomark _)) pe_non (pv 10))) pa_nil)))) pa_nil))) (pss_one (ps_dput hu1 (pv 7) (pv 8) pe_str rfl))))))) (pss_one (ps_ret (pe_tup (pa_cons (pe_tup (pa_cons pe_str (pa_cons (pe_callTy call_tuple_of rfl T.n_tuple (by decide +kernel) (pa_cons (pv 6) pa_nil)) (pa_cons (pv 3) pa_nil)))) (pa_cons (pv 7) pa_nil))))))))))))), ?_⟩
  have l0 := hK.ok.len
  have klen : (ks.map (·.1)).length ≤ 53 := by rw [List.length_map]; exact l0
  have hD := hK.drw
  refine ⟨_, rfl, kd, _, rfl, .inl hK.at', fun l1 hl1 => ?_⟩
  rw [ks_keys]
  have g1 := same_new hl1 (.lst ((ks.map (·.1)).map V.str))
  refine ⟨l1, _, rfl, SqL.of upd_same, by omega, fun ss l2 hpm _ hl2 => ?_⟩
  have g2 := same_new hl2 (.lst (ss.map V.str))
  have ev2 := Ev.of hD (g1.trans g2)
  have sl : ss.length ≤ 53 := by rw [hpm.length_eq]; exact klen
  have sl1 : 1 ≤ ss.length := by rw [hpm.length_eq, List.length_map]; exact hK.ne1
  have hss : ∀ n ∈ ss, n ∈ Pool := fun n hn => hK.ok.pool n (hpm.mem_iff.mp hn)
  have hn2 : upd (upd H l1 (.lst ((ks.map (·.1)).map V.str))) l2 (.lst (ss.map V.str)) l2 = some (.lst (ss.map V.str)) := upd_same
  generalize upd (upd H l1 (.lst ((ks.map (·.1)).map V.str))) l2 (.lst (ss.map V.str)) = H2 at ev2 hn2 ⊢
  have l2d := strs_ne ev2.drw hn2
  refine ⟨_, rfl, _, rfl, d, l2, ss, rfl, ev2.drw, hn2, sl1, by omega, fun bv zs H3 ev3 hbv hzs => ?_⟩
  have ev23 := ev2.trans ev3
  obtain ⟨bp, rfl, hbp⟩ := hbv
  have okzs := okNs_sub hzs hss (by omega)
  have hn3 := ev3.same _ _ l2d hn2
  -- free
  refine ⟨small (n := 4) (by decide), fun f1 hf1 => ?_⟩
  have gf1 := same_new hf1 (.lst [.str "many", .str "all_", .str "top", .str "x"])
  refine ⟨_, rfl, ?_⟩
  refine comp_itsV (z := "abcdefghijklmnopqrstuvwxyz") (f := fun c => .str (("f" : Str) ++ ⟨#[c]⟩)) (by decide +kernel) (fun c R hR => ?_) (fun f2 hf2 => ?_)
  · exact ⟨_, rfl, _, _, rfl, rfl, line5 (by have e1 : ("f" : Str).length = 1 := by decide +kernel
                                             have e2 : (⟨#[c]⟩ : Str).length = 1 := rfl
                                             omega), hR⟩
  have gf2 := same_new hf2 (.lst (("abcdefghijklmnopqrstuvwxyz" : Str).cps.toList.map fun c => V.str (("f" : Str) ++ ⟨#[c]⟩)))
  refine ⟨f1, f2, _, _, rfl, rfl, gf2 _ _ upd_same, upd_same, line5 (by decide +kernel), fun f3 hf3 => ?_⟩
  have ef : [V.str "many", .str "all_", .str "top", .str "x"] ++ (("abcdefghijklmnopqrstuvwxyz" : Str).cps.toList.map fun c => V.str (("f" : Str) ++ ⟨#[c]⟩)) = freeS.map V.str := by
    unfold freeS letS
    rw [List.map_append, List.map_map]; rfl
  rw [ef]
  have gf3 := same_new hf3 (.lst (freeS.map V.str))
  have ev4 := ev23.then ((gf1.trans gf2).trans gf3)
  have hn4 := gf3 _ _ (gf2 _ _ (gf1 _ _ hn3))
  have hbp4 := gf3 _ _ (gf2 _ _ (gf1 _ _ hbp))
  have hfree : upd (upd (upd H3 f1 (.lst [V.str "many", .str "all_", .str "top", .str "x"])) f2 (.lst (("abcdefghijklmnopqrstuvwxyz" : Str).cps.toList.map fun c => V.str (("f" : Str) ++ ⟨#[c]⟩)))) f3 (.lst (freeS.map V.str)) f3 = some (.lst (freeS.map V.str)) := upd_same
  generalize upd (upd (upd H3 f1 (.lst [V.str "many", .str "all_", .str "top", .str "x"])) f2 (.lst (("abcdefghijklmnopqrstuvwxyz" : Str).cps.toList.map fun c => V.str (("f" : Str) ++ ⟨#[c]⟩)))) f3 (.lst (freeS.map V.str)) = H4 at ev4 hn4 hbp4 hfree ⊢
  refine ⟨_, rfl, f3, rfl, ⟨_, SqL.of hfree⟩, ?_⟩
  refine comp_listF (xs := freeS.map V.str) (fun i ys H' => H' = H4 ∧ ∃ fs : List Str, ys = fs.map V.str ∧ fs.Sublist (freeS.take i)) ⟨rfl, [], rfl, List.nil_sublist _⟩ (fun i ys H' hi hR => ?_) (fun i x ys H' N hx hR hN => ?_) (fun ys H' hR f4 hf4 => ?_)
  · obtain ⟨rfl, fs, rfl, hs⟩ := hR
    have := hs.length_le
    rw [List.length_take, free_len] at this
    rw [List.length_map]
    exact ⟨small (by omega), SqL.of hfree⟩
  · obtain ⟨rfl, fs, rfl, hs⟩ := hR
    rw [List.getElem?_map] at hx
    obtain ⟨n, hn, rfl⟩ := Option.map_eq_some_iff.mp hx
    have htk : freeS.take (i + 1) = freeS.take i ++ [n] := by rw [List.take_add_one, hn]; rfl
    refine ⟨_, rfl, _, rfl, bp, _, rfl, .inr (SqT.of hbp4), rfl, flat_s zs, _, rfl, ite2 (fun k => ?_) (fun k => ?_)⟩
    · exact ⟨_, rfl, hN _ _ ⟨rfl, fs ++ [n], by simp, by rw [htk]; exact hs.append (List.Sublist.refl _)⟩⟩
    · exact hN _ _ ⟨rfl, fs, rfl, by rw [htk]; exact hs.trans (List.sublist_append_left _ _)⟩
  obtain ⟨rfl, fs, rfl, hfs⟩ := hR
  rw [List.length_map, List.take_length] at hfs
  have lfs := hfs.length_le
  rw [free_len] at lfs
  have hfp : ∀ n ∈ fs, n ∈ Pool := fun n hn => free_pool n (hfs.subset hn)
  have g4 := same_new hf4 (.lst (fs.map V.str))
  have ev5 := ev4.then g4
  have hn5 := g4 _ _ hn4
  have hbp5 := g4 _ _ hbp4
  have hf5 : upd H' f4 (.lst (fs.map V.str)) f4 = some (.lst (fs.map V.str)) := upd_same
  have f4d := ev4.drw.ne_of_none hf4
  generalize upd H' f4 (.lst (fs.map V.str)) = H5 at ev5 hn5 hbp5 hf5 ⊢
  have K5 := hK.ev ev5
  -- numbers
  refine ⟨_, rfl, l2, rfl, ⟨_, SqL.of hn5⟩, ?_⟩
  refine comp_listF (xs := ss.map V.str) (fun i ys H' => H' = H5 ∧ ∃ us : List Str, ys = us.map V.str ∧ us.Sublist (ss.take i)) ⟨rfl, [], rfl, List.nil_sublist _⟩ (fun i ys H' hi hR => ?_) (fun i x ys H' N hx hR hN => ?_) (fun ys H' hR nl hnl => ?_)
  · obtain ⟨rfl, us, rfl, hs⟩ := hR
    have := hs.length_le
    rw [List.length_take] at this
    rw [List.length_map]
    exact ⟨small (by omega), SqL.of hn5⟩
  · obtain ⟨rfl, us, rfl, hs⟩ := hR
    rw [List.getElem?_map] at hx
    obtain ⟨n, hn, rfl⟩ := Option.map_eq_some_iff.mp hx
    have htk : ss.take (i + 1) = ss.take i ++ [n] := by rw [List.take_add_one, hn]; rfl
    obtain ⟨pr, hpr, epr⟩ := List.mem_map.mp (hpm.mem_iff.mp (List.mem_of_getElem? hn))
    subst epr
    have hv := ks_val hK.ok.nd hpr
    refine ⟨_, rfl, _, rfl, kd, .str pr.2, rfl, ?_, rfl, _, rfl, ite2 (fun k => ?_) (fun k => ?_)⟩
    · have := DGet.k (k := Sum.inr pr.1) K5.at'
      rw [hv] at this
      exact this
    · exact ⟨_, rfl, hN _ _ ⟨rfl, us ++ [pr.1], by simp, by rw [htk]; exact hs.append (List.Sublist.refl _)⟩⟩
    · exact hN _ _ ⟨rfl, us, rfl, by rw [htk]; exact hs.trans (List.sublist_append_left _ _)⟩
  obtain ⟨rfl, us, rfl, hus⟩ := hR
  rw [List.length_map, List.take_length] at hus
  have lus := hus.length_le
  have g5 := same_new hnl (.lst (us.map V.str))
  refine ⟨small (n := 0) (by decide), fun fl hfl => ?_⟩
  have g6 := same_new hfl (.lst [])
  have ev6 := ev5.then (g5.trans g6)
  have hn6 := g6 _ _ (g5 _ _ hn5)
  have hbp6 := g6 _ _ (g5 _ _ hbp5)
  have hf6 := g6 _ _ (g5 _ _ hf5)
  have hnl6 := g6 _ _ (upd_same (H := H') (a := nl) (o := .lst (us.map V.str)))
  have hfl6 : upd (upd H' nl (.lst (us.map V.str))) fl (.lst []) fl = some (.lst []) := upd_same
  have fl0 : H fl = none := (ev5.then g5).free hfl
  obtain ⟨ld, _, hfst, hld⟩ := (ev5.then g5).drw.fst
  have l2f : l2 ≠ fl := ne_of_none (g5 _ _ hn5) hfl
  have nlf : nl ≠ fl := ne_of_none upd_same hfl
  have lfl : ld ≠ fl := fun z => by subst z; rw [hfl] at hld; cases hld
  have hfst6 : Fst (upd (upd H' nl (.lst (us.map V.str))) fl (.lst [])) d ld := let ⟨xs, e⟩ := hfst; ⟨xs, g6 _ _ e⟩
  have nld := ev5.drw.ne_of_none hnl
  have fld := (ev5.then g5).drw.ne_of_none hfl
  generalize upd (upd H' nl (.lst (us.map V.str))) fl (.lst []) = H6 at ev6 hn6 hbp6 hf6 hnl6 hfl6 hfst6 ⊢
  have K6 := hK.ev ev6
  refine ⟨_, rfl, _, rfl, kd, ks, .ref bp, zs, true, rfl, K6.at', K6.ok, ⟨bp, rfl, .inr hbp6⟩, by have := hzs.length_le; omega, fun nd ks1 H7 hnd g7 hk7 ok7 => ?_⟩
  have nd0 : H nd = none := ev6.free hnd
  have ndl : nd ≠ fl := fun z => by subst z; rw [hfl6] at hnd; cases hnd
  have ev7 := ev6.then g7
  have hf7 := g7 _ _ hf6
  refine ⟨_, rfl, _, rfl, d, _, rfl, ev7.drw, by decide, by decide, fun r H8 r0 r1 ev8 => ?_⟩
  have f4d := strs_ne ev7.drw hf7
  have hf8 := ev8.same _ _ f4d hf7
  obtain ⟨gs, egs, hgs, lgs⟩ : ∃ gs : List Str, cutV (fs.map V.str) none (some (1 + r)) = gs.map V.str ∧ (∀ n ∈ gs, n ∈ fs) ∧ gs.length ≤ fs.length := by
    unfold cutV
    rw [← List.map_drop, ← List.map_take]
    exact ⟨_, rfl, fun n hn => List.mem_of_mem_drop (List.mem_of_mem_take hn), by rw [List.length_take, List.length_drop]; omega⟩
  refine ⟨_, _, rfl, rfl, _, rfl, f4, _, rfl, SqL.of hf8, fun sp hsp => ?_⟩
  rw [egs]
  have g9 := same_new hsp (.lst (gs.map V.str))
  have evl := ev8.then g9
  have I0 : FIv d ld l2 bp nl sp fl nd H ss zs us gs 0 (upd H8 sp (.lst (gs.map V.str))) := by
    have l2d' := strs_ne ev7.drw (g7 _ _ hn6)
    refine ⟨ev7.trans evl, evl.fst _ (let ⟨xs, e⟩ := hfst6; ⟨xs, g7 _ _ e⟩), evl.same _ _ l2d' (g7 _ _ hn6), evl.same _ _ (tup_ne ev7.drw (g7 _ _ hbp6)) (g7 _ _ hbp6), evl.same _ _ nld (g7 _ _ hnl6), upd_same, ⟨[], [], evl.same _ _ fld (g7 _ _ hfl6), .nil, Nat.le_refl _, by simp⟩, ⟨ks1, evl.same _ _ (fun z => ?_) hk7, ok7⟩⟩
    obtain ⟨ys, e⟩ := ev7.drw.some
    rw [z, e] at hk7; cases hk7
  have hsp0 : H sp = none := ((ev7.trans ev8)).free hsp
  have spf : sp ≠ fl := fun z => by subst z; have := I0.g; obtain ⟨_, _, e, _⟩ := I0.f; rw [ev8.same _ _ fld (g7 _ _ hfl6)] at hsp; cases hsp
  generalize upd H8 sp (.lst (gs.map V.str)) = H9 at I0 ⊢
  refine ⟨sp, rfl, ⟨_, SqL.of I0.g⟩, ?_⟩
  refine for_list (xs := gs.map V.str) (fun i σ H' => ∃ s8 s9 s10, σ = [some (.ref d), some (.ref kd), some (.ref l2), some (.ref bp), some (.ref f4), some (.ref nl), some (.ref fl), some (.ref nd), s8, s9, s10] ∧ FIv d ld l2 bp nl sp fl nd H ss zs us gs i H') ⟨_, _, _, rfl, I0⟩ (fun i σ H' hi hP => ?_) (fun i x σ H' hx hP => ?_) (fun σ H' hP => ?_)
  · obtain ⟨s8, s9, s10, rfl, I⟩ := hP
    exact SqL.of I.g
  · obtain ⟨s8, s9, s10, rfl, I⟩ := hP
    rw [List.getElem?_map] at hx
    obtain ⟨n, hn, rfl⟩ := Option.map_eq_some_iff.mp hx
    have hng := List.mem_of_getElem? hn
    have hnp := hfp n (hgs n hng)
    have hi : i < gs.length := (List.getElem?_eq_some_iff.mp hn).1
    refine ⟨_, rfl, small (n := 5) (by decide), fun b1 hb1 => ?_⟩
    dsimp only [tCons, tNil]
    refine of_disp howS I.ev.drw hb1 (by decide) (by decide) fun how Ha hhow eva => ?_
    have Ia := I.step fld eva
    refine ⟨fun σ H' => ∃ how, σ = [some (.ref d), some (.ref kd), some (.ref l2), some (.ref bp), some (.ref f4), some (.ref nl), some (.ref fl), some (.ref nd), some (.str n), some (.str how), s10] ∧ how ∈ howS ∧ FIv d ld l2 bp nl sp fl nd H ss zs us gs i H', ?_, ?_⟩
    · refine ⟨_, rfl, small (n := 0) (by decide), fun e he => ?_⟩
      have ge := same_new he (.lst [])
      have Ib := Ia.step fld (Ev.of Ia.ev.drw ge)
      refine ⟨nl, e, _, _, rfl, rfl, SqL.of Ib.u, SqL.of upd_same, flat_s us, rfl, _, rfl, ite2 (fun k => ?_) (fun k => ?_)⟩
      · refine ⟨_, rfl, small (n := 3) (by decide), fun e2 he2 => ?_⟩
        have ge2 := same_new he2 (.tup [.str "sum", .str "least", .str "most"])
        have Ic := Ib.step fld (Ev.of Ib.ev.drw ge2)
        refine ⟨e2, _, rfl, .inr (SqT.of upd_same), rfl, rfl, _, rfl, ite2 (fun k2 => ?_) (fun k2 => ?_)⟩
        · exact ⟨"unlike", rfl, by decide +kernel, Ic⟩
        · exact ⟨how, rfl, hhow, Ic⟩
      · exact iteF ⟨how, rfl, hhow, Ib⟩
    rintro σ Hb ⟨how, rfl, hhow, Ib⟩
    refine ⟨_, rfl, fun v H' => ∃ p, ∃ ns : List Str, v = .ref p ∧ H' p = some (.lst (ns.map V.str)) ∧ 1 ≤ ns.length ∧ ns.length ≤ 53 ∧ (∀ n ∈ ns, n ∈ Pool) ∧ FIv d ld l2 bp nl sp fl nd H ss zs us gs i H', ?_, ?_⟩
    · refine ⟨_, rfl, rfl, _, rfl, ite2 (fun k => iteT ?_) (fun k => ?_)⟩
      · exact ⟨_, rfl, l2, ss, rfl, Ib.n, sl1, sl, hss, Ib⟩
      · refine ⟨_, rfl, small (n := 0) (by decide), fun e he => ?_⟩
        have ge := same_new he (.lst [])
        have Ic := Ib.step fld (Ev.of Ib.ev.drw ge)
        refine ⟨nl, e, _, _, rfl, rfl, SqL.of Ic.u, SqL.of upd_same, flat_s us, rfl, _, rfl, ite2 (fun k2 => ?_) (fun k2 => ?_)⟩
        · exact ⟨_, rfl, l2, ss, rfl, Ic.n, sl1, sl, hss, Ic⟩
        · exact ⟨_, rfl, nl, us, rfl, Ic.u, eqLs_nil k2, by omega, fun n hn => hss n (hus.subset hn), Ic⟩
    rintro v Hc ⟨p, ns, rfl, hp, ln1, ln2, hns, Ic⟩
    have pd := strs_ne Ic.ev.drw hp
    refine ⟨d, _, rfl, Ic.ev.drw, .inr ⟨p, _, rfl, pd, hp, by rw [List.length_map]; exact ln1, by rw [List.length_map]; omega, fun v Hd evd hv => ?_⟩⟩
    obtain ⟨fld', hfl', rfl⟩ := List.mem_map.mp hv
    have hfp' := hns fld' hfl'
    have Id := Ic.step fld evd
    obtain ⟨xs, ths, x1, x2, x3, x4⟩ := Id.f
    refine ⟨_, rfl, .inl ⟨rfl, _, SqL.of x1⟩, _, rfl, _, rfl, fun v H' => ∃ f, v = optV f ∧ (∀ y, f = some y → okN y) ∧ H' = Hd, ?_, ?_⟩
    · refine ⟨_, rfl, rfl, _, rfl, ite2 (fun k => ?_) (fun k => ?_)⟩
      · exact ⟨none, rfl, (fun y z => nomatch z), rfl⟩
      · exact ⟨_, rfl, some fld', rfl, (fun y z => by cases z; exact pool_okN _ hfp'), rfl⟩
    rintro v H' ⟨f, rfl, hf, rfl⟩
    refine ⟨small (n := 3) (by decide), fun t ht => ?_⟩
    have gt := same_new ht (.tup [.str n, .str how, optV f])
    have Ie := Id.step fld (Ev.of Id.ev.drw gt)
    have x1' := gt _ _ x1
    have ht' : upd H' t (.tup [.str n, .str how, optV f]) t = some (.tup [.str n, .str how, optV f]) := upd_same
    have x2' : Paired (ThAt (upd H' t (.tup [.str n, .str how, optV f]))) xs ths := Paired.mapP x2 fun _ _ z => z.keep (same_tup gt)
    generalize upd H' t (.tup [.str n, .str how, optV f]) = He at Ie x1' ht' x2' ⊢
    have lx := x2.length
    refine ⟨fl, xs, .ref t, rfl, rfl, x1', small1000 (by omega), ?_⟩
    obtain ⟨ks', k1, k2⟩ := Ie.k
    have lk := k2.len
    have k1' : upd He fl (.lst (xs ++ [.ref t])) nd = some (.dK (KS ks')) := by rw [upd_ne ndl]; exact k1
    refine ⟨_, rfl, _, rfl, nd, _, rfl, DPut.k (k := Sum.inr n) k1' (small1000 (by rw [KS_len]; omega)), ?_⟩
    rw [putS_K]
    have ndd : nd ≠ d := fun z => by
      obtain ⟨ys, e⟩ := Ie.ev.drw.some
      rw [z, e] at k1; cases k1
    have hD1 : Drw (upd He fl (.lst (xs ++ [.ref t]))) d := Ie.ev.drw.updL Ie.l fld lfl
    have evA := ev_put Ie.ev fl0 x1' fld hD1
    have hD2 : Drw (upd (upd He fl (.lst (xs ++ [.ref t]))) nd (.dK (KS (putS ks' n "number")))) d := drw_upd hD1 k1' fun _ z => nomatch z
    have evB := ev_put evA nd0 k1' ndd hD2
    have other : ∀ b o, b ≠ fl → b ≠ nd → He b = some o → upd (upd He fl (.lst (xs ++ [.ref t]))) nd (.dK (KS (putS ks' n "number"))) b = some o := fun b o h1 h2 e => by rw [upd_ne h2, upd_ne h1]; exact e
    have okt : ThOk (n, how, f) := ⟨pool_okN _ hnp, hhow, hf⟩
    have kn : ∀ {b : Addr} {u : HO}, He b = some u → (∀ kvs, u ≠ .dK kvs) → b ≠ nd := fun {b u} e hu z => by rw [z, k1] at e; cases e; exact hu _ rfl
    refine ⟨_, _, _, rfl, evB, ?_, other _ _ l2f (kn Ie.n fun _ z => nomatch z) Ie.n, other _ _ (ne_of Ie.b x1' fun z => nomatch z) (kn Ie.b fun _ z => nomatch z) Ie.b, other _ _ nlf (kn Ie.u fun _ z => nomatch z) Ie.u, other _ _ spf (kn Ie.g fun _ z => nomatch z) Ie.g, ⟨xs ++ [.ref t], ths ++ [(n, how, f)], ?_, ?_, ?_, ?_⟩, ⟨_, upd_same, k2.put hnp (.inl rfl)⟩⟩
    · obtain ⟨ys, e⟩ := Ie.l
      exact ⟨ys, by rw [upd_ne (Ne.symm ndd), upd_ne (Ne.symm fld)]; exact e⟩
    · rw [upd_ne (Ne.symm ndl)]; exact upd_same
    · exact Paired.snoc (Paired.mapP x2' fun _ _ z => (z.upd x1' fun _ z => nomatch z).upd k1' fun _ z => nomatch z) ⟨t, rfl, other _ _ (ne_of ht' x1' fun z => nomatch z) (kn ht' fun _ z => nomatch z) ht'⟩
    · rw [List.length_append, List.length_singleton]; omega
    · intro t' ht'
      rcases List.mem_append.mp ht' with h | h
      · exact x4 t' h
      · have : t' = (n, how, f) := by simpa using h
        rw [this]; exact okt
  · obtain ⟨s8, s9, s10, rfl, I⟩ := hP
    obtain ⟨xs, ths, x1, x2, x3, x4⟩ := I.f
    obtain ⟨ks', k1, k2⟩ := I.k
    have lgs' : gs.length ≤ 30 := by omega
    rw [List.length_map] at x3
    have lx := x2.length
    refine ⟨_, rfl, fl, _, rfl, .inl ⟨SqL.of x1, fun t ht => ?_⟩⟩
    have gt := same_new ht (.tup xs)
    refine ⟨_, rfl, small (n := 3) (by decide), fun t2 ht2 => ?_⟩
    have g2 := same_new ht2 (.tup [.str "fold", .ref t, .ref bp])
    refine ⟨_, rfl, small (n := 2) (by decide), fun t3 ht3 => ?_⟩
    have g3 := same_new ht3 (.tup [.ref t2, .ref nd])
    have gg := (gt.trans g2).trans g3
    refine q (.ref t3) _ (I.ev.then gg) ⟨t3, .ref t2, nd, .fld ths zs, ks', rfl, upd_same, ?_, ⟨by omega, x4, okzs⟩, gg _ _ k1, k2⟩
    exact ⟨t2, .ref t, .ref bp, t, xs, rfl, g3 _ _ upd_same, rfl, g3 _ _ (g2 _ _ upd_same), Paired.mapP x2 fun _ _ z => z.keep (same_tup gg), bp, rfl, gg _ _ I.b⟩
end

end My

set_option Elab.async false
set_option linter.all false
set_option maxRecDepth 100000
set_option maxHeartbeats 4000000
namespace My
open PySem L2
structure SEnv (H : Hp) (d kd : Addr) (ks : List (Str × Str)) (sp : Addr) (srcs : List Str) (od : Addr) (os : List (Str × Str)) : Prop extends Kn H d kd ks where
  s : H sp = some (.lst (srcs.map V.str))
  s1 : 1 ≤ srcs.length
  s2 : srcs.Sublist srcS
  o : H od = some (.dK (KS os))
  ok2 : KOk os
  o9 : ∀ n ∈ os.map (·.1), n ∈ own9
theorem dk_ne {H : Hp} {d kd : Addr} {kvs : List (Key × V)} (hD : Drw H d) (h : H kd = some (.dK kvs)) : kd ≠ d := fun z => by
  obtain ⟨xs, e⟩ := hD.some
  rw [z, e] at h; cases h
theorem SEnv.ev {H H' : Hp} {d kd sp od : Addr} {ks os : List (Str × Str)} {srcs : List Str} (h : SEnv H d kd ks sp srcs od os) (e : Ev d H H') : SEnv H' d kd ks sp srcs od os :=
  ⟨h.toKn.ev e, e.same _ _ (strs_ne h.drw h.s) h.s, h.s1, h.s2, e.same _ _ (dk_ne h.drw h.o) h.o, h.ok2, h.o9⟩
theorem src_okN {ss : List Str} (h : ss.Sublist srcS) : ∀ n ∈ ss, okN n := fun n hn => by
  have : ∀ n ∈ srcS, n.length ≤ 20 ∧ n ≠ "@" := by decide +kernel
  exact this n (h.subset hn)
theorem okI_small {i : Int} (h0 : 0 ≤ i) (h1 : i ≤ 1000) : okI i := .inl ⟨Int.lt_of_lt_of_le (by decide) h0, Int.lt_of_le_of_lt h1 (by decide)⟩
theorem StRes.mk {H H' : Hp} {sv : V} {nd : Addr} {s : Sg} {ks' : List (Str × Str)} {p : Addr} (hp : H p = none) (g : H' = upd H p (.tup [sv, .ref nd])) (h1 : SgAt H sv s) (h2 : s.ok) (h3 : H nd = some (.dK (KS ks'))) (h4 : KOk ks') : StRes H' (.ref p) := by
  subst g
  have g := same_new hp (.tup [sv, .ref nd])
  exact ⟨p, sv, nd, s, ks', rfl, upd_same, h1.keep (same_tup g), h2, g _ _ h3, h4⟩
section
variable {P : Program} {w : World} {K : PySem.W.Frag} {mg : Str → Option Value} {base : Heap} {a : Adr}
def spTimed : Sp := fun vs H Q _ => ∃ d kd ks sp srcs od os, vs = [.ref d, .ref kd, .ref sp, .ref od] ∧ SEnv H d kd ks sp srcs od os ∧ 1 ≤ ks.length ∧ ∀ v H', Ev d H H' → StRes H' v → Q v H'
theorem ok_timed_stage (T : Txt K mg a) : FnOk P w K mg base CX0 7 a.f_timed_stage a.d_timed_stage ["_law_draw", "_law_kinds_here", "_law_sources_here", "_law_own_here"] spTimed := by
  refine T.F_timed_stage.ok sc_timed_stage (fun vs H Q E h => ?_) (fun cdv A outer s H vs Q E hr h => ?_)
  · obtain ⟨_, _, _, _, _, _, _, rfl, _⟩ := h; rfl
  obtain ⟨d, kd, ks, sp, srcs, od, os, rfl, hS, ne1, q⟩ := h
  have hu := hr.units0
  have hu1 := hu_of hr
  refine ⟨_, (pss_cons (ps_set (i := 4) sc_timed_stage.nd rfl (by first | exact Or.inl rfl | exact Or.inr rfl) (pe_call (ok_take T) (hr.mono (by decide)) rfl T.m_take T.F_take.kp T.b_take .nil pass0 (pa_cons (pv 0) (pa_cons pe_int pa_nil)))) (pss_cons (ps_set (i := 5) sc_timed_stage.nd rfl (by first | exact Or.inl rfl | exact Or.inr rfl) (pe_callB call_sortedS rfl T.n_sorted (by decide +kernel) (pa_cons (pe_callTy (call_listD rfl) rfl T.n_list (by decide +kernel) (pa_cons (pv 1) pa_nil)) pa_nil))) (pss_cons (ps_if (pt_cmpR op_eq (pv 4) pe_int (nomark _)) (pss_one (ps_ret (pe_tup (pa_cons (pe_tup (pa_cons pe_str (pa_cons (pe_op op_add pe_int (pe_call (ok_take T) (hr.mono (by decide)) rfl T.m_take T.F_take.kp T.b_take .nil pass0 (pa_cons (pv 0) (pa_cons pe_int pa_nil)))) pa_nil))) (pa_cons (pe_call (ok_with_kind T) (hr.mono (by decide)) rfl T.m_with_kind T.F_with_kind.kp T.b_with_kind .nil pass0 (pa_cons (pv 1) (pa_cons pe_str (pa_cons pe_str pa_nil)))) pa_nil))))) pss_nil) (pss_cons (ps_setC (i := 6) sc_timed_stage.nd rfl (by first | exact Or.inl rfl | exact Or.inr rfl) ["_law_name", "_law_own_here", "_law_kinds_here"] [none, some 3, some 1] (pi_list (pv 5)) (fun _ _ _ _ _ => (pg_name (i := 0) (show List.Nodup (["_law_name", "_law_own_here", "_law_kinds_here"] : List Str) from by decide +kernel) rfl (Or.inl rfl) (Or.inr rfl))) (fun _ _ _ _ _ => (pts_one (pt_cmpR op_eq (pe_dget2 hu1 (pv 1) (pv 0) pe_str ⟨rfl, rfl, rfl, rfl⟩) (pe_dget hu1 (pv 2) (pv 0) (fun _ _ => rfl)) (nomark _)))) (fun _ _ _ _ _ => (pv 0))) (pss_cons (ps_if (pt_cut (PW.pt (pw_or (pt_cmpR op_eq (pv 4) pe_int (nomark _)) (pw_or (pt_cmpR (op_eqL hu) (pv 6) (pe_lst pa_nil) (nomark _)) (pw_or (pt_cmp (pc_din hu1 pe_str (pv 1))) (pw_or1 (pt_cmp (pc_din hu1 pe_str (pv 1))))))))) (pss_cons (ps_set (i := 7) sc_timed_stage.nd rfl (by first | exact Or.inl rfl | exact Or.inr rfl) (pe_tup (pa_cons pe_str (pa_cons (pe_call (ok_take T) (hr.mono (by decide)) rfl T.m_take T.F_take.kp T.b_take .nil pass0 (pa_cons (pv 0) (pa_cons pe_int pa_nil))) (pa_cons (pe_call (ok_by T) (hr.mono (by decide)) rfl T.m_by T.F_by.kp T.b_by .nil pass0 (pa_cons (pv 0) (pa_cons (pv 5) pa_nil))) pa_nil))))) (pss_one (ps_ret (pe_tup (pa_cons (pv 7) (pa_cons (pe_call (ok_with_kind T) (hr.mono (by decide)) rfl T.m_with_kind T.F_with_kind.kp T.b_with_kind .nil pass0 (pa_cons (pv 1) (pa_cons pe_str (pa_cons pe_str pa_nil)))) pa_nil)))))) pss_nil) (pss_cons (ps_set (i := 8) sc_timed_stage.nd rfl (by first | exact Or.inl rfl | exact Or.inr rfl) (pe_call (ok_of T) (hr.mono (by decide)) rfl T.m_of T.F_of.kp T.b_of .nil pass0 (pa_cons (pv 0) (pa_cons (pe_lst (pa_cons pe_int (pa_cons pe_int (pa_cons pe_int (pa_cons (pe_op op_pow pe_int pe_int) pa_nil))))) pa_nil)))) (pss_cons (ps_set (i := 7) sc_timed_stage.nd rfl (by first | exact Or.inl rfl | exact Or.inr rfl) (pe_tup (pa_cons pe_str (pa_cons (pe_call (ok_of T) (hr.mono (by decide)) rfl T.m_of T.F_of.kp T.b_of .nil pass0 (pa_cons (pv 0) (pa_cons (pv 2) pa_nil))) (pa_cons (pe_call (ok_of T) (hr.mono (by decide)) rfl T.m_of T.F_of.kp T.b_of .nil pass0 (pa_cons (pv 0) (pa_cons (pv 6) pa_nil))) (pa_cons (pv 8) pa_nil)))))) (pss_one (ps_ret (pe_tup (pa_cons (pv 7) (pa_cons (pe_call (ok_joined_kinds T) (hr.mono (by decide)) rfl T.m_joined_kinds T.F_joined_kinds.kp T.b_joined_kinds .nil pass0 (pa_cons (pv 1) (pa_cons (pv 3) pa_nil))) pa_nil)))))))))))), ?_⟩
  have klen : (ks.map (·.1)).length ≤ 53 := by rw [List.length_map]; exact hS.ok.len
  refine ⟨_, rfl, d, _, rfl, hS.drw, by decide, by decide, fun r H1 _ _ ev1 => ?_⟩
  have S1 := hS.ev ev1
  refine ⟨_, rfl, kd, _, rfl, .inl S1.at', fun l1 hl1 => ?_⟩
  rw [ks_keys]
  have g1 := same_new hl1 (.lst ((ks.map (·.1)).map V.str))
  refine ⟨l1, _, rfl, SqL.of upd_same, by omega, fun ss l2 hpm _ hl2 => ?_⟩
  have g2 := same_new hl2 (.lst (ss.map V.str))
  have ev2 := ev1.then (g1.trans g2)
  have sl : ss.length ≤ 53 := by rw [hpm.length_eq]; exact klen
  have sl1 : 1 ≤ ss.length := by rw [hpm.length_eq, List.length_map]; exact ne1
  have hss : ∀ n ∈ ss, n ∈ Pool := fun n hn => hS.ok.pool n (hpm.mem_iff.mp hn)
  have hn2 : upd (upd H1 l1 (.lst ((ks.map (·.1)).map V.str))) l2 (.lst (ss.map V.str)) l2 = some (.lst (ss.map V.str)) := upd_same
  generalize upd (upd H1 l1 (.lst ((ks.map (·.1)).map V.str))) l2 (.lst (ss.map V.str)) = H2 at ev2 hn2 ⊢
  have S2 := hS.ev ev2
  refine ⟨_, rfl, rfl, _, rfl, ite2 (fun k => ?_) (fun k => ?_)⟩
  · refine ⟨_, rfl, d, _, rfl, ev2.drw, by decide, by decide, fun r2 H3 r20 r21 ev3 => ⟨_, _, rfl, rfl, small (n := 2) (by decide), fun t ht => ?_⟩⟩
    have gt := same_new ht (.tup [.str "every", .int (1 + r2)])
    have evt := (ev2.trans ev3).then gt
    have St := hS.ev evt
    refine ⟨_, rfl, kd, ks, "span", "number", rfl, St.at', St.ok, by decide +kernel, .inl rfl, fun nd ks' H4 hnd g4 hk4 ok4 => ⟨small (n := 2) (by decide), fun p hp => ?_⟩⟩
    exact q _ _ ((evt.then g4).then (same_new hp _)) (StRes.mk (s := .num "every" (1 + r2)) hp rfl ⟨t, rfl, g4 _ _ upd_same⟩ ⟨by decide +kernel, okI_small (by omega) (by omega)⟩ hk4 ok4)
  -- like
  refine ⟨_, rfl, l2, rfl, ⟨_, SqL.of hn2⟩, ?_⟩
  refine comp_listF (xs := ss.map V.str) (fun i ys H' => H' = H2 ∧ ∃ us : List Str, ys = us.map V.str ∧ us.Sublist (ss.take i)) ⟨rfl, [], rfl, List.nil_sublist _⟩ (fun i ys H' hi hR => ?_) (fun i x ys H' N hx hR hN => ?_) (fun ys H' hR nl hnl => ?_)
  · obtain ⟨rfl, us, rfl, hs⟩ := hR
    have := hs.length_le
    rw [List.length_take] at this
    rw [List.length_map]
    exact ⟨small (by omega), SqL.of hn2⟩
  · obtain ⟨rfl, us, rfl, hs⟩ := hR
    rw [List.getElem?_map] at hx
    obtain ⟨n, hn, rfl⟩ := Option.map_eq_some_iff.mp hx
    have htk : ss.take (i + 1) = ss.take i ++ [n] := by rw [List.take_add_one, hn]; rfl
    obtain ⟨pr, hpr, epr⟩ := List.mem_map.mp (hpm.mem_iff.mp (List.mem_of_getElem? hn))
    subst epr
    have hv := ks_val hS.ok.nd hpr
    have hsc : ∃ z, (valV (KS os) (Sum.inr pr.1)).getD (.str "") = .str z := by
      by_cases h9 : pr.1 ∈ os.map (·.1)
      · obtain ⟨p9, hp9, e9⟩ := List.mem_map.mp h9
        have := ks_val hS.ok2.nd hp9
        rw [e9] at this
        exact ⟨_, by rw [this]; rfl⟩
      · exact ⟨_, by rw [ks_none h9]; rfl⟩
    obtain ⟨z9, e9⟩ := hsc
    refine ⟨_, rfl, od, rfl, .inl ⟨_, .inl S2.o⟩, _, rfl, _, DGet.k (k := Sum.inr pr.1) S2.o, ?_⟩
    rw [e9]
    refine ⟨_, rfl, _, rfl, kd, .str pr.2, rfl, ?_, rfl, _, rfl, ite2 (fun k => ?_) (fun k => ?_)⟩
    · have := DGet.k (k := Sum.inr pr.1) S2.at'
      rw [hv] at this
      exact this
    · exact ⟨_, rfl, hN _ _ ⟨rfl, us ++ [pr.1], by simp, by rw [htk]; exact hs.append (List.Sublist.refl _)⟩⟩
    · exact hN _ _ ⟨rfl, us, rfl, by rw [htk]; exact hs.trans (List.sublist_append_left _ _)⟩
  obtain ⟨rfl, us, rfl, hus⟩ := hR
  rw [List.length_map, List.take_length] at hus
  have lus := hus.length_le
  have g5 := same_new hnl (.lst (us.map V.str))
  have ev5 := ev2.then g5
  have S5 := hS.ev ev5
  have hn5 := g5 _ _ hn2
  have hu5 : upd H' nl (.lst (us.map V.str)) nl = some (.lst (us.map V.str)) := upd_same
  generalize upd H' nl (.lst (us.map V.str)) = H5 at g5 ev5 S5 hn5 hu5 ⊢
  have nld := strs_ne ev5.drw hu5
  have l2d := strs_ne ev5.drw hn5
  refine ⟨fun b H' => Ev d H5 H' ∧ (b = false → 1 ≤ us.length), ?_, ?_⟩
  · refine ⟨_, rfl, rfl, _, rfl, ite2 (fun k1 => ⟨Ev.refl ev5.drw, fun z => nomatch z⟩) (fun k1 => ?_)⟩
    refine ⟨_, rfl, small (n := 0) (by decide), fun e he => ?_⟩
    have ge := same_new he (.lst [])
    have eve := Ev.of ev5.drw ge
    have Se := S5.ev eve
    refine ⟨nl, e, _, _, rfl, rfl, SqL.of (ge _ _ hu5), SqL.of upd_same, flat_s us, rfl, _, rfl, ite2 (fun k2 => ⟨eve, fun z => nomatch z⟩) (fun k2 => ?_)⟩
    have n1 := eqLs_nil (ss := us) k2
    refine ⟨_, rfl, kd, _, rfl, DGet.k (k := Sum.inr "apart") Se.at', _, rfl, ite2 (fun k3 => ⟨eve, fun z => nomatch z⟩) (fun k3 => ?_)⟩
    exact ⟨_, rfl, kd, _, rfl, DGet.k (k := Sum.inr "that_time") Se.at', _, rfl, eve, fun _ => n1⟩
  rintro b H6 ⟨ev6, hb⟩
  have S6 := S5.ev ev6
  have hn6 := ev6.same _ _ l2d hn5
  have hu6 := ev6.same _ _ nld hu5
  have ev06 := ev5.trans ev6
  refine ite2 (fun k => ?_) (fun k => ?_)
  · refine ⟨_, rfl, d, _, rfl, ev06.drw, by decide, by decide, fun r2 H7 r20 r21 ev7 => ?_⟩
    have l2d6 := strs_ne ev06.drw hn6
    refine ⟨_, rfl, _, rfl, d, l2, ss, rfl, ev7.drw, ev7.same _ _ l2d6 hn6, sl1, by omega, fun bv zs H8 ev8 hbv hzs => ⟨small (n := 3) (by decide), fun t ht => ?_⟩⟩
    have gt := same_new ht (.tup [.str "sessions", .int r2, bv])
    have evt := ((ev06.trans ev7).trans ev8).then gt
    have St := hS.ev evt
    refine ⟨_, rfl, _, rfl, kd, ks, "session", "number", rfl, St.at', St.ok, by decide +kernel, .inl rfl, fun nd ks' H9 hnd g9 hk9 ok9 => ⟨small (n := 2) (by decide), fun p hp => ?_⟩⟩
    exact q _ _ ((evt.then g9).then (same_new hp _)) (StRes.mk (s := .ses r2 zs) hp rfl ⟨t, bv, rfl, g9 _ _ upd_same, (hbv.keep (same_tup gt)).keep (same_tup g9)⟩ ⟨okI_small (by omega) (by omega), okNs_sub hzs hss (by omega)⟩ hk9 ok9)
  · have hus1 := hb (by cases b <;> simp at k ⊢)
    have nld6 := strs_ne ev06.drw hu6
    have spd6 := strs_ne ev06.drw S6.s
    refine ⟨_, rfl, _, _, rfl, rfl, ⟨by decide, by decide, by decide⟩, small (n := 4) (by decide), fun fl hfl => ?_⟩
    have gf := same_new hfl (.lst [.int 0, .int 2, .int 9, .int (10 ^ 29)])
    have evf := ev06.then gf
    refine ⟨d, _, rfl, evf.drw, .inr ⟨fl, _, rfl, ev06.drw.ne_of_none hfl, upd_same, by decide, by decide, fun v H7 ev7 hv => ?_⟩⟩
    have hfar : ∃ i, v = .int i ∧ okI i := by
      simp at hv
      rcases hv with rfl | rfl | rfl | rfl
      · exact ⟨_, rfl, okI_small (by decide) (by decide)⟩
      · exact ⟨_, rfl, okI_small (by decide) (by decide)⟩
      · exact ⟨_, rfl, okI_small (by decide) (by decide)⟩
      · exact ⟨_, rfl, .inr rfl⟩
    obtain ⟨i, rfl, hi⟩ := hfar
    have ev67 := (Ev.of ev06.drw gf).trans ev7
    have S7 := S6.ev ev67
    refine ⟨_, rfl, _, rfl, d, _, rfl, ev7.drw, .inr ⟨sp, _, rfl, strs_ne ev7.drw S7.s, S7.s, by rw [List.length_map]; exact S7.s1, by rw [List.length_map]; have := S7.s2.length_le; have e3 : srcS.length = 3 := rfl; omega, fun v H8 ev8 hv => ?_⟩⟩
    obtain ⟨src, hsrc, rfl⟩ := List.mem_map.mp hv
    have hu8 := ev8.same _ _ (strs_ne ev7.drw (ev67.same _ _ nld6 hu6)) (ev67.same _ _ nld6 hu6)
    refine ⟨_, rfl, _, rfl, d, _, rfl, ev8.drw, .inr ⟨nl, _, rfl, strs_ne ev8.drw hu8, hu8, by rw [List.length_map]; exact hus1, by rw [List.length_map]; omega, fun v H9 ev9 hv => ?_⟩⟩
    obtain ⟨nm, hnm, rfl⟩ := List.mem_map.mp hv
    refine ⟨_, rfl, small (n := 4) (by decide), fun t ht => ?_⟩
    have gt := same_new ht (.tup [.str "join", .str src, .str nm, .int i])
    have evt := ((ev67.trans ev8).trans ev9).then gt
    have St := S6.ev evt
    refine ⟨_, rfl, _, rfl, _, rfl, kd, ks, od, os, rfl, St.at', St.ok, St.o, St.ok2, St.o9, fun nd ks' H10 hnd g10 hk10 ok10 => ⟨small (n := 2) (by decide), fun p hp => ?_⟩⟩
    exact q _ _ (((ev06.trans evt).then g10).then (same_new hp _)) (StRes.mk (s := .joi src nm i) hp rfl ⟨t, rfl, g10 _ _ upd_same⟩ ⟨src_okN S7.s2 _ hsrc, pool_okN _ (hss _ (hus.subset hnm)), hi⟩ hk10 ok10)
end

end My

set_option Elab.async false
set_option linter.all false
set_option maxRecDepth 100000
set_option maxHeartbeats 4000000
namespace My
open PySem L2
section
variable {P : Program} {w : World} {K : PySem.W.Frag} {mg : Str → Option Value} {base : Heap} {a : Adr}
def spStage : Sp := fun vs H Q _ => ∃ d kd ks sp srcs od os, vs = [.ref d, .ref kd, .ref sp, .ref od] ∧ SEnv H d kd ks sp srcs od os ∧ ∀ v H', Ev d H H' → StRes H' v → Q v H'
theorem sort3_in : ∀ s ∈ (["number", "word", "flag"] : List Str), s = "number" ∨ s = "flag" ∨ s = "word" := by decide +kernel
theorem five_in : ∀ s ∈ (["x", "took", "twice", "time", "that_y"] : List Str), s ∈ Pool := by decide +kernel
theorem keep_in : ∀ s ∈ (["keep", "drop"] : List Str), s ∈ kdS := by decide +kernel
theorem ok_stage (T : Txt K mg a) : FnOk P w K mg base CX0 14 a.f_stage a.d_stage ["_law_draw", "_law_kinds_here", "_law_sources_here", "_law_own_here"] spStage := by
  refine T.F_stage.ok sc_stage (fun vs H Q E h => ?_) (fun cdv A outer s H vs Q E hr h => ?_)
  · obtain ⟨_, _, _, _, _, _, _, rfl, _⟩ := h; rfl
  obtain ⟨d, kd, ks, sp, srcs, od, os, rfl, hS, q⟩ := h
  have hu := hr.units0
  have hu1 := hu_of hr
  refine ⟨_, (pss_cons (ps_set (i := 4) sc_stage.nd rfl (by first | exact Or.inl rfl | exact Or.inr rfl) (pe_call (ok_take T) (hr.mono (by decide)) rfl T.m_take T.F_take.kp T.b_take .nil pass0 (pa_cons (pv 0) (pa_cons pe_int pa_nil)))) (pss_cons (ps_set (i := 5) sc_stage.nd rfl (by first | exact Or.inl rfl | exact Or.inr rfl) (pe_callB call_sortedS rfl T.n_sorted (by decide +kernel) (pa_cons (pe_callTy (call_listD rfl) rfl T.n_list (by decide +kernel) (pa_cons (pv 1) pa_nil)) pa_nil))) (pss_cons (ps_if (pt_cut (PW.pt (pw_or (pt_cmpR op_lt (pv 4) pe_int (nomark _)) (pw_or1 (pt_cmpR (op_eqL hu) (pv 5) (pe_lst pa_nil) (nomark _)))))) (pss_cons (ps_set (i := 6) sc_stage.nd rfl (by first | exact Or.inl rfl | exact Or.inr rfl) (pe_cut (pe_ifExp (pt_cmpR (op_eqL hu) (pv 5) (pe_lst pa_nil) (nomark _)) (pe_tup (pa_cons pe_str (pa_cons pe_bl pa_nil))) (pe_call (ok_term T 4) (hr.mono (by decide)) rfl T.m_term T.F_term.kp T.b_term .nil pass0 (pa_cons (pv 0) (pa_cons (pv 1) (pa_cons pe_str (pa_cons pe_int pa_nil)))))))) (pss_one (ps_ret (pe_tup (pa_cons (pe_tup (pa_cons pe_str (pa_cons (pv 6) pa_nil))) (pa_cons (pv 1) pa_nil)))))) pss_nil) (pss_cons (ps_if (pt_cmpR op_eq (pv 4) pe_int (nomark _)) (pss_cons (ps_set (i := 7) sc_stage.nd rfl (by first | exact Or.inl rfl | exact Or.inr rfl) (pe_call (ok_of T) (hr.mono (by decide)) rfl T.m_of T.F_of.kp T.b_of .nil pass0 (pa_cons (pv 0) (pa_cons (pe_lst (pa_cons pe_str (pa_cons pe_str (pa_cons pe_str pa_nil)))) pa_nil)))) (pss_cons (ps_set (i := 8) sc_stage.nd rfl (by first | exact Or.inl rfl | exact Or.inr rfl) (pe_call (ok_of T) (hr.mono (by decide)) rfl T.m_of T.F_of.kp T.b_of .nil pass0 (pa_cons (pv 0) (pa_cons (pe_lst (pa_cons pe_str (pa_cons pe_str (pa_cons pe_str (pa_cons pe_str (pa_cons pe_str pa_nil)))))) pa_nil)))) (pss_cons (ps_set (i := 6) sc_stage.nd rfl (by first | exact Or.inl rfl | exact Or.inr rfl) (pe_call (ok_term T 4) (hr.mono (by decide)) rfl T.m_term T.F_term.kp T.b_term .nil pass0 (pa_cons (pv 0) (pa_cons (pv 1) (pa_cons (pv 7) (pa_cons (pe_op op_add pe_int (pe_callTy call_int1 rfl T.n_int (by decide +kernel) (pa_cons (pe_cmpR op_ne (pv 7) pe_str (nomark _)) pa_nil))) pa_nil)))))) (pss_one (ps_ret (pe_tup (pa_cons (pe_tup (pa_cons pe_str (pa_cons (pv 8) (pa_cons (pv 6) pa_nil)))) (pa_cons (pe_call (ok_with_kind T) (hr.mono (by decide)) rfl T.m_with_kind T.F_with_kind.kp T.b_with_kind .nil pass0 (pa_cons (pv 1) (pa_cons (pv 8) (pa_cons (pv 7) pa_nil)))) pa_nil)))))))) pss_nil) (pss_cons (ps_if (pt_cmpR op_eq (pv 4) pe_int (nomark _)) (pss_cons (ps_set (i := 9) sc_stage.nd rfl (by first | exact Or.inl rfl | exact Or.inr rfl) (pe_call (ok_of T) (hr.mono (by decide)) rfl T.m_of T.F_of.kp T.b_of .nil pass0 (pa_cons (pv 0) (pa_cons (pe_lst (pa_cons pe_str (pa_cons pe_str pa_nil))) pa_nil)))) (pss_cons (ps_set (i := 10) sc_stage.nd rfl (by first | exact Or.inl rfl | exact Or.inr rfl) (pe_call (ok_some T) (hr.mono (by decide)) rfl T.m_some T.F_some.kp T.b_some .nil pass0 (pa_cons (pv 0) (pa_cons (pv 5) pa_nil)))) (pss_one (ps_ret (pe_tup (pa_cons (pe_tup (pa_cons (pv 9) (pa_cons (pv 10) pa_nil))) (pa_cons (pe_call (ok_less_kinds T) (hr.mono (by decide)) rfl T.m_less_kinds T.F_less_kinds.kp T.b_less_kinds .nil pass0 (pa_cons (pv 1) (pa_cons (pv 10) (pa_cons (pe_cmpR op_eq (pv 9) pe_str (nomark _)) pa_nil)))) pa_nil))))))) pss_nil) (pss_cons (ps_if (pt_cmpR op_eq (pv 4) pe_int (nomark _)) (pss_one (ps_ret (pe_tup (pa_cons (pe_tup (pa_cons pe_str (pa_cons (pe_call (ok_of T) (hr.mono (by decide)) rfl T.m_of T.F_of.kp T.b_of .nil pass0 (pa_cons (pv 0) (pa_cons (pv 5) pa_nil))) (pa_cons (pe_cmpR op_eq (pe_call (ok_take T) (hr.mono (by decide)) rfl T.m_take T.F_take.kp T.b_take .nil pass0 (pa_cons (pv 0) (pa_cons pe_int pa_nil))) pe_int (nomark _)) pa_nil)))) (pa_cons (pv 1) pa_nil))))) pss_nil) (pss_cons (ps_if (pt_cmpR op_eq (pv 4) pe_int (nomark _)) (pss_one (ps_ret (pe_tup (pa_cons (pe_tup (pa_cons pe_str (pa_cons (pe_call (ok_take T) (hr.mono (by decide)) rfl T.m_take T.F_take.kp T.b_take .nil pass0 (pa_cons (pv 0) (pa_cons pe_int pa_nil))) pa_nil))) (pa_cons (pv 1) pa_nil))))) pss_nil) (pss_cons (ps_if (PW.pt (pw_and (pt_cmpR op_lt (pv 4) pe_int (nomark _)) (pw_and1 (pt_cmpR op_eq (pe_dget2 hu1 (pv 1) pe_str pe_str ⟨rfl, rfl, rfl, rfl⟩) pe_str (nomark _))))) (pss_one (ps_ret (pe_call (ok_timed_stage T) (hr.mono (by decide)) rfl T.m_timed_stage T.F_timed_stage.kp T.b_timed_stage .nil pass0 (pa_cons (pv 0) (pa_cons (pv 1) (pa_cons (pv 2) (pa_cons (pv 3) pa_nil))))))) pss_nil) (pss_one (ps_ret (pe_call (ok_fold_stage T) (hr.mono (by decide)) rfl T.m_fold_stage T.F_fold_stage.kp T.b_fold_stage .nil pass0 (pa_cons (pv 0) (pa_cons (pv 1) pa_nil))))))))))))), ?_⟩
  have klen : (ks.map (·.1)).length ≤ 53 := by rw [List.length_map]; exact hS.ok.len
  refine ⟨_, rfl, d, _, rfl, hS.drw, by decide, by decide, fun r H1 _ _ ev1 => ?_⟩
  have S1 := hS.ev ev1
  refine ⟨_, rfl, kd, _, rfl, .inl S1.at', fun l1 hl1 => ?_⟩
  rw [ks_keys]
  have g1 := same_new hl1 (.lst ((ks.map (·.1)).map V.str))
  refine ⟨l1, _, rfl, SqL.of upd_same, by omega, fun ss l2 hpm _ hl2 => ?_⟩
  have g2 := same_new hl2 (.lst (ss.map V.str))
  have ev2 := ev1.then (g1.trans g2)
  have sl : ss.length ≤ 53 := by rw [hpm.length_eq]; exact klen
  have hss : ∀ n ∈ ss, n ∈ Pool := fun n hn => hS.ok.pool n (hpm.mem_iff.mp hn)
  have hn2 : upd (upd H1 l1 (.lst ((ks.map (·.1)).map V.str))) l2 (.lst (ss.map V.str)) l2 = some (.lst (ss.map V.str)) := upd_same
  generalize upd (upd H1 l1 (.lst ((ks.map (·.1)).map V.str))) l2 (.lst (ss.map V.str)) = H2 at ev2 hn2 ⊢
  have S2 := hS.ev ev2
  have l2d := strs_ne ev2.drw hn2
  refine ⟨fun b H3 => Ev d H2 H3 ∧ (b = false → 1 ≤ ss.length), ?_, ?_⟩
  · refine ⟨_, rfl, _, _, rfl, rfl, _, rfl, ite2 (fun k => ⟨Ev.refl ev2.drw, fun z => nomatch z⟩) (fun k => ?_)⟩
    refine ⟨_, rfl, small (n := 0) (by decide), fun e he => ?_⟩
    have ge := same_new he (.lst [])
    exact ⟨l2, e, _, _, rfl, rfl, SqL.of (ge _ _ hn2), SqL.of upd_same, flat_s ss, rfl, _, rfl, Ev.of ev2.drw ge, fun z => eqLs_nil (ss := ss) (by intro y; rw [show (if false = true then !eqLs (ss.map V.str) [] else eqLs (ss.map V.str) []) = eqLs (ss.map V.str) [] from rfl, y] at z; cases z)⟩
  rintro b H3 ⟨ev3, hb⟩
  have S3 := S2.ev ev3
  have hn3 := ev3.same _ _ l2d hn2
  have ev03 := ev2.trans ev3
  have l2d3 := strs_ne ev3.drw hn3
  refine ite2 (fun k => ?_) (fun k => ?_)
  · refine ⟨fun v H4 => Ev d H3 H4 ∧ ∃ t, TmAt H4 v t ∧ t.ok ∧ t.deep < 4, ?_, ?_⟩
    · refine ⟨_, rfl, small (n := 0) (by decide), fun e he => ?_⟩
      have ge := same_new he (.lst [])
      have eve := Ev.of ev3.drw ge
      refine ⟨l2, e, _, _, rfl, rfl, SqL.of (ge _ _ hn3), SqL.of upd_same, flat_s ss, rfl, _, rfl, ite2 (fun k => ?_) (fun k => ?_)⟩
      · refine ⟨small (n := 2) (by decide), fun t ht => ?_⟩
        exact ⟨eve.then (same_new ht _), .lit "flag" (.bl true), ⟨t, rfl, upd_same⟩, ⟨by decide +kernel, .inl ⟨true, rfl⟩⟩, by decide⟩
      · have ne1 : 1 ≤ ks.length := by
          have := eqLs_nil (ss := ss) k
          rw [hpm.length_eq, List.length_map] at this
          exact this
        exact ⟨_, rfl, _, rfl, d, kd, ks, "flag", 2, rfl, ⟨(S3.ev eve).toKn, ne1⟩, .inr (.inl rfl), by decide, by decide, fun v t H4 ev4 ht hw hd => ⟨eve.trans ev4, t, ht, WK.ok hS.ok hw, by omega⟩⟩
    rintro v H4 ⟨ev4, t, ht, tok, td⟩
    refine ⟨_, rfl, small (n := 2) (by decide), fun p1 hp1 => ?_⟩
    have g1 := same_new hp1 (.tup [.str "where", v])
    have St := S3.ev (ev4.then g1)
    exact ⟨_, rfl, small (n := 2) (by decide), fun p hp => q _ _ (((ev03.trans ev4).then g1).then (same_new hp _)) (StRes.mk (s := .whr t) hp rfl ⟨p1, v, rfl, upd_same, ht.same g1⟩ ⟨tok, td⟩ St.at' St.ok)⟩
  have sl1 := hb (by cases b <;> simp at k ⊢)
  have ne1 : 1 ≤ ks.length := by
    rw [hpm.length_eq, List.length_map] at sl1
    exact sl1
  refine ⟨_, rfl, rfl, _, rfl, ite2 (fun k => ?_) (fun k => ?_)⟩
  · -- with
    refine ⟨_, rfl, small (n := 3) (by decide), fun lb hlb => ?_⟩
    dsimp only [tCons, tNil]
    refine of_disp ["number", "word", "flag"] ev3.drw hlb (by decide) (by decide) fun z H4 hz ev4 => ?_
    refine ⟨_, rfl, small (n := 5) (by decide), fun lb2 hlb2 => ?_⟩
    dsimp only [tCons, tNil]
    refine of_disp ["x", "took", "twice", "time", "that_y"] ev4.drw hlb2 (by decide) (by decide) fun n H5 hn ev5 => ?_
    have ev35 := ev4.trans ev5
    have S5 := S3.ev ev35
    have hz' := sort3_in z hz
    have hb : ∀ c : Bool, (0 : Int) ≤ 1 + (if c = true then 1 else 0) ∧ (1 : Int) + (if c = true then 1 else 0) < 4 := by decide
    refine ⟨_, rfl, _, rfl, _, rfl, _, rfl, rfl, .inr ⟨_, rfl, _, _, rfl, rfl, d, kd, ks, z, _, rfl, ⟨S5.toKn, ne1⟩, hz', (hb _).1, (hb _).2, fun v t H6 ev6 ht hw hd => ?_⟩⟩
    have td : t.deep < 4 := by have := (hb (!decide (V.str z = V.str "number"))).2; omega
    refine ⟨_, rfl, _, rfl, small (n := 3) (by decide), fun p1 hp1 => ?_⟩
    have g1 := same_new hp1 (.tup [.str "with", .str n, v])
    have evt := (ev35.trans ev6).then g1
    have St := S3.ev evt
    refine ⟨_, rfl, _, rfl, _, rfl, kd, ks, n, z, rfl, St.at', St.ok, five_in n hn, hz', fun nd ks' H7 hnd g7 hk7 ok7 => ⟨small (n := 2) (by decide), fun p hp => ?_⟩⟩
    exact q _ _ (((ev03.trans evt).then g7).then (same_new hp _)) (StRes.mk (s := .wth n t) hp rfl ⟨p1, v, rfl, g7 _ _ upd_same, (ht.same g1).same g7⟩ ⟨pool_okN _ (five_in n hn), WK.ok hS.ok hw, td⟩ hk7 ok7)
  refine ⟨_, rfl, rfl, _, rfl, ite2 (fun k => ?_) (fun k => ?_)⟩
  · -- keep, drop
    refine ⟨_, rfl, small (n := 2) (by decide), fun lb hlb => ?_⟩
    dsimp only [tCons, tNil]
    refine of_disp ["keep", "drop"] ev3.drw hlb (by decide) (by decide) fun wd H4 hwd ev4 => ?_
    have hn4 := ev4.same _ _ l2d3 hn3
    refine ⟨_, rfl, _, rfl, d, l2, ss, rfl, ev4.drw, hn4, sl1, by omega, fun bv zs H5 ev5 hbv hzs lzs => ?_⟩
    refine ⟨_, rfl, _, rfl, small (n := 2) (by decide), fun p1 hp1 => ?_⟩
    have g1 := same_new hp1 (.tup [.str wd, bv])
    have evt := (ev4.trans ev5).then g1
    have St := S3.ev evt
    have lzs2 := hzs.length_le
    obtain ⟨bp, rfl, hbp⟩ := hbv
    refine ⟨_, rfl, _, rfl, _, rfl, rfl, kd, ks, .ref bp, zs, _, rfl, St.at', St.ok, ⟨bp, rfl, .inr (g1 _ _ hbp)⟩, by omega, fun nd ks' H7 hnd g7 hk7 ok7 => ⟨small (n := 2) (by decide), fun p hp => ?_⟩⟩
    exact q _ _ (((ev03.trans evt).then g7).then (same_new hp _)) (StRes.mk (s := .nms wd zs) hp rfl ⟨p1, .ref bp, rfl, g7 _ _ upd_same, bp, rfl, g7 _ _ (g1 _ _ hbp)⟩ ⟨keep_in wd hwd, okNs_sub hzs hss (by omega)⟩ hk7 ok7)
  refine ⟨_, rfl, rfl, _, rfl, ite2 (fun k => ?_) (fun k => ?_)⟩
  · -- sort
    refine ⟨_, rfl, _, rfl, d, _, rfl, ev3.drw, .inr ⟨l2, _, rfl, l2d3, hn3, by rw [List.length_map]; exact sl1, by rw [List.length_map]; omega, fun v H4 ev4 hv => ?_⟩⟩
    obtain ⟨n, hn, rfl⟩ := List.mem_map.mp hv
    refine ⟨_, rfl, d, _, rfl, ev4.drw, by decide, by decide, fun r2 H5 _ _ ev5 => ⟨rfl, small (n := 3) (by decide), fun p1 hp1 => ?_⟩⟩
    have evt := (ev4.trans ev5).then (same_new hp1 (.tup [.str "sort", .str n, .bl (decide (V.int r2 = V.int 0))]))
    have St := S3.ev evt
    exact ⟨_, rfl, small (n := 2) (by decide), fun p hp => q _ _ ((ev03.trans evt).then (same_new hp _)) (StRes.mk (s := .srt n _) hp rfl ⟨p1, rfl, upd_same⟩ (pool_okN _ (hss n hn)) St.at' St.ok)⟩
  refine ⟨_, rfl, rfl, _, rfl, ite2 (fun k => ?_) (fun k => ?_)⟩
  · -- first
    refine ⟨_, rfl, d, _, rfl, ev3.drw, by decide, by decide, fun r2 H5 r20 r21 ev5 => ⟨small (n := 2) (by decide), fun p1 hp1 => ?_⟩⟩
    have evt := ev5.then (same_new hp1 (.tup [.str "first", .int r2]))
    have St := S3.ev evt
    exact ⟨_, rfl, small (n := 2) (by decide), fun p hp => q _ _ ((ev03.trans evt).then (same_new hp _)) (StRes.mk (s := .num "first" r2) hp rfl ⟨p1, rfl, upd_same⟩ ⟨by decide +kernel, okI_small (by omega) (by omega)⟩ St.at' St.ok)⟩
  have fold : spFold [.ref d, .ref kd] H3 Q E := ⟨d, kd, ks, rfl, ⟨S3.toKn, ne1⟩, fun v H' ev' h => q v H' (ev03.trans ev') h⟩
  refine ⟨_, rfl, _, _, rfl, rfl, _, rfl, ite2 (fun k => ?_) (fun k => iteF ⟨_, rfl, _, rfl, fold⟩)⟩
  have hsc : ∃ z, (valV (KS ks) (Sum.inr "time")).getD (.str "") = .str z := by
    by_cases h9 : ("time" : Str) ∈ ks.map (·.1)
    · obtain ⟨p9, hp9, e9⟩ := List.mem_map.mp h9
      have := ks_val hS.ok.nd hp9
      rw [e9] at this
      exact ⟨_, by rw [this]; rfl⟩
    · exact ⟨_, by rw [ks_none h9]; rfl⟩
  obtain ⟨z9, e9⟩ := hsc
  refine ⟨_, rfl, kd, rfl, .inl ⟨_, .inl S3.at'⟩, _, DGet.k (k := Sum.inr "time") S3.at', ?_⟩
  rw [e9]
  refine ⟨rfl, _, rfl, ite2 (fun k => ?_) (fun k => ⟨_, rfl, _, rfl, fold⟩)⟩
  exact ⟨_, rfl, _, rfl, _, rfl, _, rfl, d, kd, ks, sp, srcs, od, os, rfl, S3, ne1, fun v H' ev' h => q v H' (ev03.trans ev') h⟩
end

end My

set_option Elab.async false
set_option linter.all false
set_option maxRecDepth 100000
set_option maxHeartbeats 4000000
namespace My
open PySem L2
section
variable {P : Program} {w : World} {K : PySem.W.Frag} {mg : Str → Option Value} {base : Heap} {a : Adr}
def spKinds : Sp := fun vs H Q _ => ∃ d, vs = [.ref d] ∧ Drw H d ∧ ∀ kd m H', 3 ≤ m → m ≤ 6 → H kd = none → Ev d H H' → H' kd = some (.dK (KD m)) → Q (.ref kd) H'
theorem ok_kinds (T : Txt K mg a) : FnOk P w K mg base CX0 2 a.f_kinds a.d_kinds ["_law_draw"] spKinds := by
  refine T.F_kinds.ok sc_kinds (fun vs H Q E h => ?_) (fun cdv A outer s H vs Q E hr h => ?_)
  · obtain ⟨x, rfl, _⟩ := h; rfl
  obtain ⟨d, rfl, hD, q⟩ := h
  refine ⟨_, (pss_cons (ps_set (i := 1) sc_kinds.nd rfl (by first | exact Or.inl rfl | exact Or.inr rfl) (pe_slice sl_list (pe_lst (pa_cons pe_str (pa_cons pe_str (pa_cons pe_str (pa_cons pe_str (pa_cons pe_str (pa_cons pe_str pa_nil))))))) po_none (po_some (pe_op op_add pe_int (pe_call (ok_take T) (hr.mono (by decide)) rfl T.m_take T.F_take.kp T.b_take .nil pass0 (pa_cons (pv 0) (pa_cons pe_int pa_nil))))))) (pss_cons (ps_set (i := 2) sc_kinds.nd rfl (by first | exact Or.inl rfl | exact Or.inr rfl) (pe_lst (pa_cons pe_str (pa_cons pe_str (pa_cons pe_str (pa_cons pe_str (pa_cons pe_str (pa_cons pe_str pa_nil)))))))) (pss_one (ps_ret (pe_callTy (call_dictP rfl) rfl T.n_dict (by decide +kernel) (pa_cons (pe_comp (g := gTup K 2 (gCons (gName 0) (gCons (gName 1) gNil))) ["_law_name", "_law_sort"] [none, none] (pi_zip rfl T.n_zip (pa_cons (pv 1) (pa_cons (pv 2) pa_nil))) (fun _ _ _ _ _ => (pg_tup (n := 2) rfl (pgs_cons (pg_name (i := 0) (show List.Nodup (["_law_name", "_law_sort"] : List Str) from by decide +kernel) rfl (Or.inl rfl) (Or.inr rfl)) (pgs_cons (pg_name (i := 1) (show List.Nodup (["_law_name", "_law_sort"] : List Str) from by decide +kernel) rfl (Or.inl rfl) (Or.inr rfl)) pgs_nil)))) (fun _ _ _ _ _ => pts_nil) (fun _ _ _ _ _ => (pe_tup (pa_cons (pv 0) (pa_cons (pv 1) pa_nil))))) pa_nil)))))), ?_⟩
  refine ⟨small (n := 6) (by decide), fun l hl => ?_⟩
  have ev0 := Ev.of hD (same_new hl (.lst (kk.map fun p => V.str p.1)))
  refine ⟨_, rfl, d, _, rfl, ev0.drw, by decide, by decide, fun r H1 r0 r1 ev1 => ?_⟩
  obtain ⟨m, m1, m2, hcut, hfold⟩ := kk_cut r0 r1
  refine ⟨_, _, rfl, rfl, _, rfl, l, _, rfl, SqL.of (ev1.same _ _ (hD.ne_of_none hl) upd_same), fun p hp => ?_⟩
  refine ⟨small (n := 6) (by decide), fun l2 hl2 => ?_⟩
  have hc : cutV [.str "took", .str "user", .str "ok", .str "a", .str "level", .str "that_x"] none (some (3 + r)) = (kk.take m).map (fun p => V.str p.1) := hcut
  rw [hc] at hl2 ⊢
  have g2 := same_new hp (.lst ((kk.take m).map (fun p => V.str p.1)))
  have g3 := same_new hl2 (.lst (kk.map fun p => V.str p.2))
  have hxl : ((kk.take m).map (fun p => V.str p.1)).length = m := by rw [List.length_map, List.length_take]; show min m 6 = m; omega
  refine ⟨_, rfl, _, rfl, p, l2, rfl, ⟨_, SqL.of (g3 _ _ upd_same)⟩, ⟨_, SqL.of upd_same⟩, ?_⟩
  refine comp_pairs (xs := (kk.take m).map (fun p => V.str p.1)) (ys := kk.map fun p => V.str p.2) (by rw [hxl]; show m ≤ 6; omega) (SqL.of (g3 _ _ upd_same)) (SqL.of upd_same) (small (by omega)) (fun x y H' R hR => ?_) (fun D ts H' g hts hT hDn => ?_)
  · exact ⟨_, rfl, _, rfl, small (n := 2) (by decide), hR⟩
  · have g4 := same_new hDn (.lst (ts.map V.ref))
    refine ⟨D, ts, KD m, rfl, upd_same, by rw [hts, hxl]; show m = ((kk.take m).map _).length; rw [List.length_map, List.length_take]; show m = min m 6; omega, fun j t kv hj hkv => ?_, fun kd hkd => ?_⟩
    · obtain ⟨x, y, e1, e2, e3⟩ := hT j t hj
      refine g4 _ _ ?_
      rw [e3]
      unfold KD at hkv
      rw [List.getElem?_map] at hkv e1 e2
      cases ek : (kk.take m)[j]? with
      | none => rw [ek] at hkv; cases hkv
      | some pr =>
        have ek2 : kk[j]? = some pr := by
          rw [List.getElem?_take] at ek
          split at ek
          · exact ek
          · cases ek
        rw [ek] at hkv e1
        rw [ek2] at e2
        cases hkv; cases e1; cases e2
        rfl
    · have gg := ((g2.trans g3).trans g).trans g4
      have hkd0 : H kd = none := ((ev0.trans ev1).then gg).free hkd
      rw [hfold]
      exact q kd m _ m1 m2 hkd0 (((ev0.trans ev1).then gg).then (same_new hkd _)) upd_same
end
theorem KOk.sub {ks ks' : List (Str × Str)} (h : KOk ks) (hs : ks'.Sublist ks) : KOk ks' := ⟨h.nd.sublist (hs.map _), fun n hn => h.pool n ((hs.map _).subset hn), fun p hp => h.srt p (hs.subset hp)⟩
theorem kk_ok : KOk kk := by
  refine ⟨by decide +kernel, by decide +kernel, ?_⟩
  have : ∀ p ∈ kk, p.2 = "number" ∨ p.2 = "flag" ∨ p.2 = "word" := by decide +kernel
  exact this
theorem kk_own : ∀ n ∈ kk.map (·.1), n ∈ own9 := by decide +kernel
structure QIv (d l0 fd sp od hd : Addr) (H0 : Hp) (srcs : List Str) (os ks : List (Str × Str)) (i : Nat) (H : Hp) : Prop extends SEnv H d hd ks sp srcs od os where
  ev : Ev d H0 H
  l : Fst H d l0
  f : ∃ xs ss, H fd = some (.lst xs) ∧ Paired (SgAt H) xs ss ∧ ss.length ≤ i + 1 ∧ 1 ≤ ss.length ∧ ∀ s ∈ ss, Sg.ok s
theorem QIv.step {d l0 fd sp od hd : Addr} {H0 : Hp} {srcs : List Str} {os ks : List (Str × Str)} {i : Nat} {H H' : Hp} (h : QIv d l0 fd sp od hd H0 srcs os ks i H) (fdd : fd ≠ d) (e : Ev d H H') : QIv d l0 fd sp od hd H0 srcs os ks i H' := by
  obtain ⟨xs, ss, x1, x2, x3⟩ := h.f
  exact ⟨h.toSEnv.ev e, h.ev.trans e, e.fst _ h.l, ⟨xs, ss, e.same _ _ fdd x1, Paired.mapP x2 fun _ _ z => z.keep (ev_tup e h.drw), x3⟩⟩
def QnRes (H : Hp) (v : V) : Prop := ∃ p qv hv ss, v = .ref p ∧ H p = some (.tup [qv, hv]) ∧ QnAt H qv ss ∧ ss.length ≤ 9 ∧ 1 ≤ ss.length ∧ ∀ s ∈ ss, Sg.ok s
section
variable {P : Program} {w : World} {K : PySem.W.Frag} {mg : Str → Option Value} {base : Heap} {a : Adr}
def spQuest : Sp := fun vs H Q _ => ∃ d kd ks sp, ∃ srcs : List Str, vs = [.ref d, .ref kd, .ref sp, .int 7] ∧ Kn H d kd ks ∧ (∀ n ∈ ks.map (·.1), n ∈ own9) ∧ H sp = some (.lst (srcs.map V.str)) ∧ 1 ≤ srcs.length ∧ srcs.Sublist srcS ∧ ∀ v H', Ev d H H' → QnRes H' v → Q v H'
theorem ok_question (T : Txt K mg a) : FnOk P w K mg base CX0 15 a.f_question a.d_question ["_law_draw", "_law_kinds_here", "_law_sources_here", "_law_most"] spQuest := by
  refine T.F_question.ok sc_question (fun vs H Q E h => ?_) (fun cdv A outer s H vs Q E hr h => ?_)
  · obtain ⟨_, _, _, _, _, rfl, _⟩ := h; rfl
  obtain ⟨d, kd, ks, sp, srcs, rfl, hK, ho9, hsp, s1, s2, q⟩ := h
  have ls2 := s2.length_le
  have e3 : srcS.length = 3 := rfl
  refine ⟨_, (pss_cons (ps_set (i := 4) sc_question.nd rfl (by first | exact Or.inl rfl | exact Or.inr rfl) (pe_call (ok_of T) (hr.mono (by decide)) rfl T.m_of T.F_of.kp T.b_of .nil pass0 (pa_cons (pv 0) (pa_cons (pe_lst (pa_cons (pe_tup pa_nil) (pa_cons (pe_tup pa_nil) (pa_cons (pe_call (ok_some T) (hr.mono (by decide)) rfl T.m_some T.F_some.kp T.b_some .nil pass0 (pa_cons (pv 0) (pa_cons (pv 2) pa_nil))) pa_nil)))) pa_nil)))) (pss_cons (ps_set (i := 5) sc_question.nd rfl (by first | exact Or.inl rfl | exact Or.inr rfl) (pe_lst (pa_cons (pe_tup (pa_cons pe_str (pa_cons (pv 4) pa_nil))) pa_nil))) (pss_cons (ps_set (i := 6) sc_question.nd rfl (by first | exact Or.inl rfl | exact Or.inr rfl) (pe_call (ok_own T) (hr.mono (by decide)) rfl T.m_own T.F_own.kp T.b_own .nil pass0 (pa_cons (pv 1) pa_nil))) (pss_cons (ps_set (i := 7) sc_question.nd rfl (by first | exact Or.inl rfl | exact Or.inr rfl) (pv 6)) (pss_cons (ps_for PassesOwn.never rfl (pi_range1 rfl T.n_range (pa_cons (pe_call (ok_take T) (hr.mono (by decide)) rfl T.m_take T.F_take.kp T.b_take .nil pass0 (pa_cons (pv 0) (pa_cons (pe_op op_add (pv 3) pe_int) pa_nil))) pa_nil)) (pg_name (i := 8) sc_question.nd rfl (by first | exact Or.inl rfl | exact Or.inr rfl)) (pss_cons (ps_asg (pe_call (ok_stage T) (hr.mono (by decide)) rfl T.m_stage T.F_stage.kp T.b_stage .nil pass0 (pa_cons (pv 0) (pa_cons (pv 7) (pa_cons (pv 2) (pa_cons (pv 6) pa_nil))))) (pg_tup (n := 2) rfl (pgs_cons (pg_name (i := 9) sc_question.nd rfl (by first | exact Or.inl rfl | exact Or.inr rfl)) (pgs_cons (pg_name (i := 7) sc_question.nd rfl (by first | exact Or.inl rfl | exact Or.inr rfl)) pgs_nil)))) (pss_one (ps_expr (pe_bm PySem.F.plainAttrs_list PySem.F.slot_list_append PySem.F.type_list_append mt_append (pv 5) (pa_cons (pv 9) pa_nil)))))) (pss_one (ps_ret (pe_tup (pa_cons (pe_callTy call_tuple_of rfl T.n_tuple (by decide +kernel) (pa_cons (pv 5) pa_nil)) (pa_cons (pv 7) pa_nil)))))))))), ?_⟩
  refine ⟨_, rfl, small (n := 0) (by decide), fun e1 he1 => ⟨small (n := 0) (by decide), fun e2 he2 => ?_⟩⟩
  have g1 := same_new he1 (.tup [])
  have g2 := same_new he2 (.tup [])
  have ev2 := Ev.of hK.drw (g1.trans g2)
  have spd := strs_ne hK.drw hsp
  refine ⟨_, rfl, _, rfl, d, sp, srcs, rfl, ev2.drw, ev2.same _ _ spd hsp, s1, by omega, fun bv zs H3 ev3 hbv hzs lzs => ?_⟩
  have ev23 := ev2.trans ev3
  refine ⟨small (n := 3) (by decide), fun l hl => ?_⟩
  have gl := same_new hl (.lst [.ref e1, .ref e2, bv])
  have evl := ev23.then gl
  refine ⟨d, _, rfl, evl.drw, .inr ⟨l, _, rfl, ev23.drw.ne_of_none hl, upd_same, (show 1 ≤ 3 by decide), (show 3 ≤ 1000 by decide), fun v H4 ev4 hv => ?_⟩⟩
  have hnm : ∃ ns : List Str, NsAt H4 v ns ∧ okNs ns := by
    have k0 : okNs [] := ⟨by decide, by simp⟩
    have kt := fun b xs => ev_tup ev4 evl.drw b xs
    simp only [List.mem_cons, List.not_mem_nil, or_false] at hv
    rcases hv with rfl | rfl | rfl
    · exact ⟨[], ⟨e1, rfl, kt _ _ (gl _ _ (ev_tup ev3 ev2.drw _ _ (g2 _ _ upd_same)))⟩, k0⟩
    · exact ⟨[], ⟨e2, rfl, kt _ _ (gl _ _ (ev_tup ev3 ev2.drw _ _ upd_same))⟩, k0⟩
    · exact ⟨zs, (hbv.keep (same_tup gl)).keep kt, by have := hzs.length_le; omega, fun n hn => src_okN s2 _ (hzs.subset hn)⟩
  obtain ⟨ns, hns, okns⟩ := hnm
  have ev04 := evl.trans ev4
  refine ⟨_, rfl, small (n := 2) (by decide), fun t ht => ⟨small (n := 1) (by decide), fun fd hfd => ?_⟩⟩
  have gt := same_new ht (.tup [.str "from", v])
  have gf := same_new hfd (.lst [.ref t])
  have evt := ev04.then gt
  have ev5 := evt.then gf
  have fd0 : H fd = none := evt.free hfd
  obtain ⟨ld, _, hfst, hld⟩ := evt.drw.fst
  have lfl : ld ≠ fd := fun z => by subst z; rw [hfd] at hld; cases hld
  have fdd := evt.drw.ne_of_none hfd
  have hsp5 := ev5.same _ _ spd hsp
  have spf : sp ≠ fd := ne_of_none (evt.same _ _ spd hsp) hfd
  have K5 := hK.ev ev5
  have hfd5 : upd (upd H4 t (.tup [.str "from", v])) fd (.lst [.ref t]) fd = some (.lst [.ref t]) := upd_same
  have hsg : SgAt (upd (upd H4 t (.tup [.str "from", v])) fd (.lst [.ref t])) (.ref t) (.frm ns) := ⟨t, v, rfl, gf _ _ upd_same, (hns.keep (same_tup gt)).keep (same_tup gf)⟩
  have hfst5 : Fst (upd (upd H4 t (.tup [.str "from", v])) fd (.lst [.ref t])) d ld := let ⟨xs, e⟩ := hfst; ⟨xs, gf _ _ e⟩
  generalize upd (upd H4 t (.tup [.str "from", v])) fd (.lst [.ref t]) = H5 at ev5 hsp5 K5 hfd5 hsg hfst5 ⊢
  refine ⟨_, rfl, kd, ks, rfl, K5.at', K5.ok, ho9, fun od os H6 hod g6 hk6 ok6 one6 o96 => ?_⟩
  have ev6 := ev5.then g6
  refine ⟨_, rfl, ?_⟩
  have odf : od ≠ fd := fun z => by subst z; rw [hfd5] at hod; cases hod
  have I0 : QIv d ld fd sp od od H srcs os os 0 H6 := ⟨⟨⟨ev6.drw, hk6, ok6⟩, g6 _ _ hsp5, s1, s2, hk6, ok6, o96⟩, ev6, let ⟨xs, e⟩ := hfst5; ⟨xs, g6 _ _ e⟩, ⟨[.ref t], [.frm ns], g6 _ _ hfd5, .cons (hsg.keep (same_tup g6)) .nil, Nat.le_refl _, Nat.le_refl _, fun s hs => by
    have : s = .frm ns := by simpa using hs
    rw [this]; exact .inl okns⟩⟩
  refine ⟨_, rfl, _, rfl, _, _, rfl, rfl, d, _, rfl, ev6.drw, by decide, by decide, fun r H7 r0 r1 ev7 => ?_⟩
  have r1' : r < 8 := r1
  have I7 : QIv d ld fd sp od od H srcs os os 0 H7 := I0.step fdd ev7
  refine ⟨r, rfl, by omega, by omega, for_range (n := r.toNat) (lo := 0) (fun i σ H' => ∃ s8 s9 hd ks', σ = [some (.ref d), some (.ref kd), some (.ref sp), some (.int 7), some v, some (.ref fd), some (.ref od), some (.ref hd), s8, s9] ∧ i ≤ r.toNat ∧ QIv d ld fd sp od hd H srcs os ks' i H') ⟨_, _, od, os, rfl, Nat.zero_le _, I7⟩ (fun i σ H8 hi hP => ?_) (fun σ H8 hP => ?_)⟩
  · obtain ⟨s8, s9, hd, ks', rfl, hir, I⟩ := hP
    refine ⟨_, rfl, _, rfl, _, rfl, _, rfl, d, hd, ks', sp, srcs, od, os, rfl, I.toSEnv, fun v2 H9 ev9 hres => ?_⟩
    have I9 := I.step fdd ev9
    obtain ⟨p, sv, nd, s2', ks2, rfl, hp, hsv, sok, hnd, ok2⟩ := hres
    obtain ⟨xs, ss, x1, x2, x3, x4, x5⟩ := I9.f
    have lx := x2.length
    refine ⟨p, _, rfl, SqT.of hp, rfl, _, _, rfl, _, _, rfl, rfl, ?_⟩
    refine ⟨_, rfl, .inl ⟨rfl, _, SqL.of x1⟩, _, rfl, fd, xs, sv, rfl, rfl, x1, small1000 (by omega), ?_⟩
    have D9 := I9.ev.drw
    have hD : Drw (upd H9 fd (.lst (xs ++ [sv]))) d := D9.updL I9.l fdd lfl
    have kp : ∀ b ys, H9 b = some (.tup ys) → upd H9 fd (.lst (xs ++ [sv])) b = some (.tup ys) := fun b ys e => by rw [upd_ne (ne_of e x1 fun z => nomatch z)]; exact e
    have kd' : ∀ {b : Addr} {kvs : List (Key × V)}, H9 b = some (.dK kvs) → upd H9 fd (.lst (xs ++ [sv])) b = some (.dK kvs) := fun {b kvs} e => by rw [upd_ne (ne_of e x1 fun z => nomatch z)]; exact e
    refine ⟨_, _, nd, ks2, rfl, hi, ⟨⟨hD, kd' hnd, ok2⟩, by rw [upd_ne spf]; exact I9.s, s1, s2, kd' I9.o, I9.ok2, I9.o9⟩, ev_put I9.ev fd0 x1 fdd hD, ?_, xs ++ [sv], ss ++ [s2'], upd_same, Paired.snoc (Paired.mapP x2 fun _ _ z => z.keep kp) (hsv.keep kp), by rw [List.length_append, List.length_singleton]; omega, by rw [List.length_append]; omega, ?_⟩
    · obtain ⟨ys, e⟩ := I9.l
      exact ⟨ys, by rw [upd_ne (Ne.symm fdd)]; exact e⟩
    · intro s hs
      rcases List.mem_append.mp hs with h | h
      · exact x5 s h
      · have : s = s2' := by simpa using h
        rw [this]; exact sok
  · obtain ⟨s8, s9, hd, ks', rfl, hir, I⟩ := hP
    obtain ⟨xs, ss, x1, x2, x3, x4, x5⟩ := I.f
    have lx := x2.length
    refine ⟨_, rfl, fd, _, rfl, .inl ⟨SqL.of x1, fun t ht => ?_⟩⟩
    have gt := same_new ht (.tup xs)
    refine ⟨_, rfl, small (n := 2) (by decide), fun t3 ht3 => ?_⟩
    have g3 := same_new ht3 (.tup [.ref t, .ref hd])
    exact q _ _ (I.ev.then (gt.trans g3)) ⟨t3, .ref t, .ref hd, ss, rfl, upd_same, ⟨t, xs, rfl, g3 _ _ upd_same, Paired.mapP x2 fun _ _ z => z.keep (same_tup (gt.trans g3))⟩, by omega, x4, x5⟩
theorem pr_nil {α β : Type} {R : α → β → Prop} {xs : List α} {ys : List β} (h : Paired R xs ys) (e : xs = []) : Paired R [] ys := by subst e; exact h
theorem cut_one (xs : List V) (h : 1 ≤ xs.length) : cutV xs (some 1) none = xs.drop 1 := by
  unfold cutV
  rw [show (some (1 : Int)) = some ((1 : Nat) : Int) from rfl, HT.sIx_nat, HT.sIx_none, Nat.min_eq_left h]
  exact List.take_of_length_le (by rw [List.length_drop]; exact Nat.le_refl _)
def spLaw (K : PySem.W.Frag) : Sp := fun vs H Q _ => ∃ (b : Addr) (ns : List Int), vs = [.ref b] ∧ SqL K H b (ns.map V.int) ∧ ns.length ≤ 63 ∧ ∀ H', Q (.bl true) H'
theorem ok_law (T : Txt K mg a) : FnOk P w K mg base CX0 30 a.f_law a.d_law ["_law_script"] (spLaw K) := by
  refine T.F_law.ok sc_law (fun vs H Q E h => ?_) (fun cdv A outer s H vs Q E hr h => ?_)
  · obtain ⟨x, y, rfl, _⟩ := h; rfl
  obtain ⟨b, ns, rfl, hS, hn, q⟩ := h
  refine ⟨_, (pss_cons (ps_set (i := 1) sc_law.nd rfl (by first | exact Or.inl rfl | exact Or.inr rfl) (pe_call (ok_begin T) (hr.mono (by decide)) rfl T.m_begin T.F_begin.kp T.b_begin .nil pass0 (pa_cons (pv 0) pa_nil))) (pss_cons (ps_set (i := 2) sc_law.nd rfl (by first | exact Or.inl rfl | exact Or.inr rfl) (pe_call (ok_kinds T) (hr.mono (by decide)) rfl T.m_kinds T.F_kinds.kp T.b_kinds .nil pass0 (pa_cons (pv 1) pa_nil))) (pss_cons (ps_set (i := 3) sc_law.nd rfl (by first | exact Or.inl rfl | exact Or.inr rfl) (pe_call (ok_sources T) (hr.mono (by decide)) rfl T.m_sources T.F_sources.kp T.b_sources .nil pass0 (pa_cons (pv 1) pa_nil))) (pss_cons (ps_for PassesOwn.never rfl (pi_range1 rfl T.n_range (pa_cons pe_int pa_nil)) (pg_name (i := 4) sc_law.nd rfl (by first | exact Or.inl rfl | exact Or.inr rfl)) (pss_cons (ps_asg (pe_call (ok_question T) (hr.mono (by decide)) rfl T.m_question T.F_question.kp T.b_question .nil pass0 (pa_cons (pv 1) (pa_cons (pv 2) (pa_cons (pv 3) (pa_cons pe_int pa_nil))))) (pg_tup (n := 2) rfl (pgs_cons (pg_name (i := 5) sc_law.nd rfl (by first | exact Or.inl rfl | exact Or.inr rfl)) (pgs_cons (pg_name (i := 6) sc_law.nd rfl (by first | exact Or.inl rfl | exact Or.inr rfl)) pgs_nil)))) (pss_cons (ps_cut (ps_if (pt_cmpR op_eq (pe_call (ok_take T) (hr.mono (by decide)) rfl T.m_take T.F_take.kp T.b_take .nil pass0 (pa_cons (pv 1) (pa_cons pe_int pa_nil))) pe_int (nomark _)) (pss_one (ps_set (i := 5) sc_law.nd rfl (by first | exact Or.inl rfl | exact Or.inr rfl) (pe_op op_addT (pe_tup (pa_cons (pe_tup (pa_cons pe_str (pa_cons (pe_tup (pa_cons pe_str (pa_cons (pe_call (ok_drawn_name T) (hr.mono (by decide)) rfl T.m_drawn_name T.F_drawn_name.kp T.b_drawn_name .nil pass0 (pa_cons (pv 1) pa_nil)) pa_nil))) pa_nil))) pa_nil)) (pe_slice sl_tup (pv 5) (po_some pe_int) po_none)))) pss_nil)) (pss_one (ps_if (pt_not (pt_val (pe_call (ok_sameF T) (hr.mono (by decide)) rfl T.m_same T.F_same.kp T.b_same .nil pass0 (pa_cons (pe_call (ok_question_text T) (hr.mono (by decide)) rfl T.m_question_text T.F_question_text.kp T.b_question_text .nil pass0 (pa_cons (pv 5) pa_nil)) (pa_cons (pe_call (ok_asking T) (hr.mono (by decide)) rfl T.m_asking T.F_asking.kp T.b_asking .nil pass0 (pa_cons (pv 5) pa_nil)) pa_nil))))) (pss_one (ps_ret pe_bl)) pss_nil))))) (pss_one (ps_ret pe_bl)))))), ?_⟩
  refine ⟨_, rfl, b, ns, rfl, hS, hn, fun d H1 hdn g1 hD => ?_⟩
  refine ⟨_, rfl, d, rfl, hD, fun kd m H2 m1 m2 hkd ev2 hk2 => ?_⟩
  have okk : KOk (kk.take m) := kk_ok.sub (List.take_sublist _ _)
  have hko : ∀ n ∈ (kk.take m).map (·.1), n ∈ own9 := fun n hn => kk_own n (((List.take_sublist m kk).map _).subset hn)
  have hk2' : H2 kd = some (.dK (KS (kk.take m))) := hk2
  refine ⟨_, rfl, d, rfl, ev2.drw, fun sp srcs H3 hsp ev3 hs3 s1 s2 => ?_⟩
  have K3 : Kn H3 d kd (kk.take m) := (⟨ev2.drw, hk2', okk⟩ : Kn H2 d kd (kk.take m)).ev ev3
  refine ⟨6, rfl, by decide, by decide, for_range (n := 6) (lo := 0) (fun i σ H => ∃ s4 s5 s6, σ = [some (.ref b), some (.ref d), some (.ref kd), some (.ref sp), s4, s5, s6] ∧ Kn H d kd (kk.take m) ∧ H sp = some (.lst (srcs.map V.str))) ⟨_, _, _, rfl, K3, hs3⟩ (fun i σ H4 hi hP => ?_) (fun σ H4 hP => q _)⟩
  obtain ⟨s4, s5, s6, rfl, K4, hs4⟩ := hP
  refine ⟨_, rfl, _, rfl, _, rfl, d, kd, kk.take m, sp, srcs, rfl, K4, hko, hs4, s1, s2, fun v H5 ev5 hres => ?_⟩
  obtain ⟨p, qv, hv, ss, rfl, hp, hq, l9, l1, hok⟩ := hres
  refine ⟨p, _, rfl, SqT.of hp, rfl, _, _, rfl, _, _, rfl, rfl, ?_⟩
  have okq : QnOk ss := ⟨by omega, hok⟩
  refine ⟨fun σ H' => ∃ qv ss, σ = [some (.ref b), some (.ref d), some (.ref kd), some (.ref sp), some (.int (0 + (i : Nat))), some qv, some hv] ∧ Ev d H4 H' ∧ QnAt H' qv ss ∧ QnOk ss, ?_, ?_⟩
  · refine ⟨_, rfl, d, _, rfl, ev5.drw, by decide, by decide, fun r H6 _ _ ev6 => ⟨rfl, _, rfl, ite2 (fun k => ?_) (fun k => ?_)⟩⟩
    · have kt := ev_tup ev6 ev5.drw
      obtain ⟨qp, xs, rfl, hqp, hxs⟩ := hq
      have lx := hxs.length
      refine ⟨_, rfl, d, rfl, ev6.drw, fun x H7 ev7 hx => ⟨small (n := 2) (by decide), fun t1 ht1 => ⟨small (n := 2) (by decide), fun t2 ht2 => ⟨small (n := 1) (by decide), fun t3 ht3 => ?_⟩⟩⟩⟩
      have h1 := same_new ht1 (.tup [.str "@", .str x])
      have h2 := same_new ht2 (.tup [.str "from", .ref t1])
      have h3 := same_new ht3 (.tup [.ref t2])
      have hh := (h1.trans h2).trans h3
      have kt7 := ev_tup ev7 ev6.drw
      have hqp8 := hh _ _ (kt7 _ _ (kt _ _ hqp))
      have ev8 := (ev6.trans ev7).then hh
      refine ⟨_, rfl, _, rfl, qp, _, rfl, SqT.of hqp8, (fun z => by
        have z1 := z.1
        rw [show (some (1 : Int)) = some ((1 : Nat) : Int) from rfl, HT.sIx_nat] at z1
        omega), fun c hc => ?_⟩
      rw [cut_one xs (by omega)]
      have gc := same_new hc (.tup (xs.drop 1))
      have hsg : ∀ {H' : Hp}, Same (upd (upd (upd H7 t1 (.tup [.str "@", .str x])) t2 (.tup [.str "from", .ref t1])) t3 (.tup [.ref t2])) H' → SgAt H' (.ref t2) (.frm ["@", x]) := fun {H'} g => ⟨t2, .ref t1, rfl, g _ _ (h3 _ _ upd_same), t1, rfl, g _ _ (h3 _ _ (h2 _ _ upd_same))⟩
      have hrest : ∀ {H' : Hp}, Same (upd (upd (upd H7 t1 (.tup [.str "@", .str x])) t2 (.tup [.str "from", .ref t1])) t3 (.tup [.ref t2])) H' → Paired (SgAt H') (xs.drop 1) (ss.drop 1) := fun {H'} g => by
        have := Paired.mapP hxs fun _ _ z => (((z.keep kt).keep kt7).keep (same_tup hh)).keep (same_tup g)
        cases this with
        | nil => exact .nil
        | cons _ t => exact t
      have okn : QnOk (.frm ["@", x] :: ss.drop 1) := ⟨by rw [List.length_cons, List.length_drop]; omega, fun s hs => by
        rcases List.mem_cons.mp hs with e | hs
        · rw [e]; exact .inr ⟨x, rfl, hx⟩
        · exact hok s (List.mem_of_mem_drop hs)⟩
      refine ⟨t3, c, [.ref t2], xs.drop 1, rfl, rfl, SqT.of (gc _ _ upd_same), SqT.of upd_same, small (by rw [List.length_drop]; show 1 + _ ≤ 1000; omega), (fun z => nomatch z), (fun _ e => ?_), fun _ _ nn hnn => ?_⟩
      · refine ⟨.ref t3, .frm ["@", x] :: ss.drop 1, rfl, ev5.trans (ev8.then gc), ⟨t3, [.ref t2], rfl, gc _ _ upd_same, .cons (hsg gc) ?_⟩, okn⟩
        exact pr_nil (hrest gc) e
      · have gn := same_new hnn (.tup ([.ref t2] ++ xs.drop 1))
        exact ⟨.ref nn, .frm ["@", x] :: ss.drop 1, rfl, ev5.trans ((ev8.then gc).then gn), ⟨nn, _, rfl, upd_same, .cons (hsg (gc.trans gn)) (hrest (gc.trans gn))⟩, okn⟩
    · obtain ⟨qp, xs, rfl, hqp, hxs⟩ := hq
      have kt := ev_tup ev6 ev5.drw
      exact ⟨_, ss, rfl, ev5.trans ev6, ⟨qp, xs, rfl, kt _ _ hqp, Paired.mapP hxs fun _ _ z => z.keep kt⟩, okq⟩
  rintro σ H6 ⟨qv, ss, rfl, ev6, hq, okq⟩
  have qk : ∀ {H H' : Hp}, Same H H' → QnAt H qv ss → QnAt H' qv ss := fun {H H'} g h => let ⟨p, xs, e, h1, h2⟩ := h; ⟨p, xs, e, g _ _ h1, Paired.mapP h2 fun _ _ z => z.keep (same_tup g)⟩
  refine ⟨_, rfl, qv, ss, rfl, hq, okq, fun H7 g7 => ?_⟩
  refine ⟨_, rfl, qv, ss, rfl, qk g7 hq, okq, fun H8 g8 => ?_⟩
  refine ⟨_, _, rfl, rfl, rfl, fun H9 g9 => ⟨_, rfl, ?_⟩⟩
  rw [decide_eq_true rfl]
  refine iteF ?_
  have evz := ev6.then ((g7.trans g8).trans g9)
  exact ⟨_, _, _, rfl, K4.ev evz, evz.same _ _ (strs_ne K4.drw hs4) hs4⟩
end

end My

set_option Elab.async false
set_option linter.all false
set_option maxRecDepth 100000
set_option maxHeartbeats 4000000
namespace My
open PySem L2
theorem mk_txt {K : PySem.W.Frag} {h : Heap} {mg : Str → Option Value} {f0 : Addr} {od0 an0 : Option Addr} {sl0 : Array (Option Value)} {oc0 kV0 dc0 pm0 cd0 ct0 : Value} {f1 : Addr} {od1 an1 : Option Addr} {sl1 : Array (Option Value)} {oc1 kV1 dc1 pm1 cd1 ct1 : Value} {f2 : Addr} {od2 an2 : Option Addr} {sl2 : Array (Option Value)} {oc2 kV2 dc2 pm2 cd2 ct2 : Value} {f3 : Addr} {od3 an3 : Option Addr} {sl3 : Array (Option Value)} {oc3 kV3 dc3 pm3 cd3 ct3 : Value} {f4 : Addr} {od4 an4 : Option Addr} {sl4 : Array (Option Value)} {oc4 kV4 dc4 pm4 cd4 ct4 : Value} {f5 : Addr} {od5 an5 : Option Addr} {sl5 : Array (Option Value)} {oc5 kV5 dc5 pm5 cd5 ct5 : Value} {f6 : Addr} {od6 an6 : Option Addr} {sl6 : Array (Option Value)} {oc6 kV6 dc6 pm6 cd6 ct6 : Value} {f7 : Addr} {od7 an7 : Option Addr} {sl7 : Array (Option Value)} {oc7 kV7 dc7 pm7 cd7 ct7 : Value} {f8 : Addr} {od8 an8 : Option Addr} {sl8 : Array (Option Value)} {oc8 kV8 dc8 pm8 cd8 ct8 : Value} {f9 : Addr} {od9 an9 : Option Addr} {sl9 : Array (Option Value)} {oc9 kV9 dc9 pm9 cd9 ct9 : Value} {f10 : Addr} {od10 an10 : Option Addr} {sl10 : Array (Option Value)} {oc10 kV10 dc10 pm10 cd10 ct10 : Value} {f11 : Addr} {od11 an11 : Option Addr} {sl11 : Array (Option Value)} {oc11 kV11 dc11 pm11 cd11 ct11 : Value} {f12 : Addr} {od12 an12 : Option Addr} {sl12 : Array (Option Value)} {oc12 kV12 dc12 pm12 cd12 ct12 : Value} {f13 : Addr} {od13 an13 : Option Addr} {sl13 : Array (Option Value)} {oc13 kV13 dc13 pm13 cd13 ct13 : Value} {f14 : Addr} {od14 an14 : Option Addr} {sl14 : Array (Option Value)} {oc14 kV14 dc14 pm14 cd14 ct14 : Value} {f15 : Addr} {od15 an15 : Option Addr} {sl15 : Array (Option Value)} {oc15 kV15 dc15 pm15 cd15 ct15 : Value} {f16 : Addr} {od16 an16 : Option Addr} {sl16 : Array (Option Value)} {oc16 kV16 dc16 pm16 cd16 ct16 : Value} {f17 : Addr} {od17 an17 : Option Addr} {sl17 : Array (Option Value)} {oc17 kV17 dc17 pm17 cd17 ct17 : Value} {f18 : Addr} {od18 an18 : Option Addr} {sl18 : Array (Option Value)} {oc18 kV18 dc18 pm18 cd18 ct18 : Value} {f19 : Addr} {od19 an19 : Option Addr} {sl19 : Array (Option Value)} {oc19 kV19 dc19 pm19 cd19 ct19 : Value} {f20 : Addr} {od20 an20 : Option Addr} {sl20 : Array (Option Value)} {oc20 kV20 dc20 pm20 cd20 ct20 : Value} {f21 : Addr} {od21 an21 : Option Addr} {sl21 : Array (Option Value)} {oc21 kV21 dc21 pm21 cd21 ct21 : Value} {f22 : Addr} {od22 an22 : Option Addr} {sl22 : Array (Option Value)} {oc22 kV22 dc22 pm22 cd22 ct22 : Value} {f23 : Addr} {od23 an23 : Option Addr} {sl23 : Array (Option Value)} {oc23 kV23 dc23 pm23 cd23 ct23 : Value} {f24 : Addr} {od24 an24 : Option Addr} {sl24 : Array (Option Value)} {oc24 kV24 dc24 pm24 cd24 ct24 : Value} {f25 : Addr} {od25 an25 : Option Addr} {sl25 : Array (Option Value)} {oc25 kV25 dc25 pm25 cd25 ct25 : Value} {f26 : Addr} {od26 an26 : Option Addr} {sl26 : Array (Option Value)} {oc26 kV26 dc26 pm26 cd26 ct26 : Value} {f27 : Addr} {od27 an27 : Option Addr} {sl27 : Array (Option Value)} {oc27 kV27 dc27 pm27 cd27 ct27 : Value} {f28 : Addr} {od28 an28 : Option Addr} {sl28 : Array (Option Value)} {oc28 kV28 dc28 pm28 cd28 ct28 : Value} {f29 : Addr} {od29 an29 : Option Addr} {sl29 : Array (Option Value)} {oc29 kV29 dc29 pm29 cd29 ct29 : Value} {f30 : Addr} {od30 an30 : Option Addr} {sl30 : Array (Option Value)} {oc30 kV30 dc30 pm30 cd30 ct30 : Value} {f31 : Addr} {od31 an31 : Option Addr} {sl31 : Array (Option Value)} {oc31 kV31 dc31 pm31 cd31 ct31 : Value} {f32 : Addr} {od32 an32 : Option Addr} {sl32 : Array (Option Value)} {oc32 kV32 dc32 pm32 cd32 ct32 : Value} {f33 : Addr} {od33 an33 : Option Addr} {sl33 : Array (Option Value)} {oc33 kV33 dc33 pm33 cd33 ct33 : Value} {f34 : Addr} {od34 an34 : Option Addr} {sl34 : Array (Option Value)} {oc34 kV34 dc34 pm34 cd34 ct34 : Value} {f35 : Addr} {od35 an35 : Option Addr} {sl35 : Array (Option Value)} {oc35 kV35 dc35 pm35 cd35 ct35 : Value} {f36 : Addr} {od36 an36 : Option Addr} {sl36 : Array (Option Value)} {oc36 kV36 dc36 pm36 cd36 ct36 : Value} {f37 : Addr} {od37 an37 : Option Addr} {sl37 : Array (Option Value)} {oc37 kV37 dc37 pm37 cd37 ct37 : Value} {f38 : Addr} {od38 an38 : Option Addr} {sl38 : Array (Option Value)} {oc38 kV38 dc38 pm38 cd38 ct38 : Value} {f39 : Addr} {od39 an39 : Option Addr} {sl39 : Array (Option Value)} {oc39 kV39 dc39 pm39 cd39 ct39 : Value} {f40 : Addr} {od40 an40 : Option Addr} {sl40 : Array (Option Value)} {oc40 kV40 dc40 pm40 cd40 ct40 : Value} {f41 : Addr} {od41 an41 : Option Addr} {sl41 : Array (Option Value)} {oc41 kV41 dc41 pm41 cd41 ct41 : Value} {f42 : Addr} {od42 an42 : Option Addr} {sl42 : Array (Option Value)} {oc42 kV42 dc42 pm42 cd42 ct42 : Value} {f43 : Addr} {od43 an43 : Option Addr} {sl43 : Array (Option Value)} {oc43 kV43 dc43 pm43 cd43 ct43 : Value} {f44 : Addr} {od44 an44 : Option Addr} {sl44 : Array (Option Value)} {oc44 kV44 dc44 pm44 cd44 ct44 : Value} {f45 : Addr} {od45 an45 : Option Addr} {sl45 : Array (Option Value)} {oc45 kV45 dc45 pm45 cd45 ct45 : Value} {f46 : Addr} {od46 an46 : Option Addr} {sl46 : Array (Option Value)} {oc46 kV46 dc46 pm46 cd46 ct46 : Value} {f47 : Addr} {od47 an47 : Option Addr} {sl47 : Array (Option Value)} {oc47 kV47 dc47 pm47 cd47 ct47 : Value} {f48 : Addr} {od48 an48 : Option Addr} {sl48 : Array (Option Value)} {oc48 kV48 dc48 pm48 cd48 ct48 : Value} {f49 : Addr} {od49 an49 : Option Addr} {sl49 : Array (Option Value)} {oc49 kV49 dc49 pm49 cd49 ct49 : Value} {f50 : Addr} {od50 an50 : Option Addr} {sl50 : Array (Option Value)} {oc50 kV50 dc50 pm50 cd50 ct50 : Value} {f51 : Addr} {od51 an51 : Option Addr} {sl51 : Array (Option Value)} {oc51 kV51 dc51 pm51 cd51 ct51 : Value} {tc0 : Tok} {tc1 : Tok} {tc2 : Tok} {tc3 : Tok} {ta0 : Addr} {td0 : Option Addr} {tn0 : Nat} {ts0 : Array (Option Value)} {tt0_0 tt0_1 tt0_2 tt0_3 tt0_4 : Tok} {na0 : Addr} {nd0 : Option Addr} {nn0 : Nat} {ns0 : Array (Option Value)} {na0_0 : Addr} {nd0_0 : Option Addr} {nn0_0 : Nat} {ns0_0 : Array (Option Value)} {nt0_0_0 : Tok} {na0_1 : Addr} {nd0_1 : Option Addr} {nn0_1 : Nat} {ns0_1 : Array (Option Value)} {nt0_1_0 : Tok} {na0_2 : Addr} {nd0_2 : Option Addr} {nn0_2 : Nat} {ns0_2 : Array (Option Value)} {nt0_2_0 : Tok} {na0_3 : Addr} {nd0_3 : Option Addr} {nn0_3 : Nat} {ns0_3 : Array (Option Value)} {nt0_3_0 nt0_3_1 nt0_3_2 nt0_3_3 nt0_3_4 nt0_3_5 : Tok} {na0_4 : Addr} {nd0_4 : Option Addr} {nn0_4 : Nat} {ns0_4 : Array (Option Value)} {nt0_4_0 nt0_4_1 : Tok} {na0_5 : Addr} {nd0_5 : Option Addr} {nn0_5 : Nat} {ns0_5 : Array (Option Value)} {nt0_5_0 : Tok} {ka0 : Addr} {kd0 : Option Addr} {kn0 : Nat} {ks0 : Array (Option Value)} {kt0_0 kt0_1 kt0_2 kt0_3 kt0_4 kt0_5 kt0_6 kt0_7 kt0_8 kt0_9 kt0_10 : Tok} {kh0_0 kh0_1 kh0_2 kh0_3 kh0_4 kh0_5 kh0_6 kh0_7 kh0_8 kh0_9 kh0_10 : Int} (X : K.In h) (G : h.Ns mainGlobals mg)
    (a0 : PySem.W.nsIn K mainGlobals "value_text" = some (some (.ref f0)))
    (l0 : K.lookup f0 = some ⟨oc0, od0, .func (PySem.W.fnOf "value_text" "value_text" (defArgs (top 1)) (defBody (top 1)) (defScope (top 1)) .none kV0 dc0 pm0 an0 cd0 ct0), sl0⟩)
    (c0 : PySem.W.codeIn K cd0 "value_text" = true) (k0 : PySem.W.keepIn K (.ref f0) = true)
    (a1 : PySem.W.nsIn K mainGlobals "term_text" = some (some (.ref f1)))
    (l1 : K.lookup f1 = some ⟨oc1, od1, .func (PySem.W.fnOf "term_text" "term_text" (defArgs (top 9)) (defBody (top 9)) (defScope (top 9)) .none kV1 dc1 pm1 an1 cd1 ct1), sl1⟩)
    (c1 : PySem.W.codeIn K cd1 "term_text" = true) (k1 : PySem.W.keepIn K (.ref f1) = true)
    (a2 : PySem.W.nsIn K mainGlobals "part_text" = some (some (.ref f2)))
    (l2 : K.lookup f2 = some ⟨oc2, od2, .func (PySem.W.fnOf "part_text" "part_text" (defArgs (top 10)) (defBody (top 10)) (defScope (top 10)) .none kV2 dc2 pm2 an2 cd2 ct2), sl2⟩)
    (c2 : PySem.W.codeIn K cd2 "part_text" = true) (k2 : PySem.W.keepIn K (.ref f2) = true)
    (a3 : PySem.W.nsIn K mainGlobals "leaf_text" = some (some (.ref f3)))
    (l3 : K.lookup f3 = some ⟨oc3, od3, .func (PySem.W.fnOf "leaf_text" "leaf_text" (defArgs (top 11)) (defBody (top 11)) (defScope (top 11)) .none kV3 dc3 pm3 an3 cd3 ct3), sl3⟩)
    (c3 : PySem.W.codeIn K cd3 "leaf_text" = true) (k3 : PySem.W.keepIn K (.ref f3) = true)
    (a4 : PySem.W.nsIn K mainGlobals "bracketed" = some (some (.ref f4)))
    (l4 : K.lookup f4 = some ⟨oc4, od4, .func (PySem.W.fnOf "bracketed" "bracketed" (defArgs (top 12)) (defBody (top 12)) (defScope (top 12)) .none kV4 dc4 pm4 an4 cd4 ct4), sl4⟩)
    (c4 : PySem.W.codeIn K cd4 "bracketed" = true) (k4 : PySem.W.keepIn K (.ref f4) = true)
    (a5 : PySem.W.nsIn K mainGlobals "level_of" = some (some (.ref f5)))
    (l5 : K.lookup f5 = some ⟨oc5, od5, .func (PySem.W.fnOf "level_of" "level_of" (defArgs (top 13)) (defBody (top 13)) (defScope (top 13)) .none kV5 dc5 pm5 an5 cd5 ct5), sl5⟩)
    (c5 : PySem.W.codeIn K cd5 "level_of" = true) (k5 : PySem.W.keepIn K (.ref f5) = true)
    (a6 : PySem.W.nsIn K mainGlobals "built_up" = some (some (.ref f6)))
    (l6 : K.lookup f6 = some ⟨oc6, od6, .func (PySem.W.fnOf "built_up" "built_up" (defArgs (top 14)) (defBody (top 14)) (defScope (top 14)) .none kV6 dc6 pm6 an6 cd6 ct6), sl6⟩)
    (c6 : PySem.W.codeIn K cd6 "built_up" = true) (k6 : PySem.W.keepIn K (.ref f6) = true)
    (a7 : PySem.W.nsIn K mainGlobals "parts_in" = some (some (.ref f7)))
    (l7 : K.lookup f7 = some ⟨oc7, od7, .func (PySem.W.fnOf "parts_in" "parts_in" (defArgs (top 15)) (defBody (top 15)) (defScope (top 15)) .none kV7 dc7 pm7 an7 cd7 ct7), sl7⟩)
    (c7 : PySem.W.codeIn K cd7 "parts_in" = true) (k7 : PySem.W.keepIn K (.ref f7) = true)
    (a8 : PySem.W.nsIn K mainGlobals "question_text" = some (some (.ref f8)))
    (l8 : K.lookup f8 = some ⟨oc8, od8, .func (PySem.W.fnOf "question_text" "question_text" (defArgs (top 18)) (defBody (top 18)) (defScope (top 18)) .none kV8 dc8 pm8 an8 cd8 ct8), sl8⟩)
    (c8 : PySem.W.codeIn K cd8 "question_text" = true) (k8 : PySem.W.keepIn K (.ref f8) = true)
    (a9 : PySem.W.nsIn K mainGlobals "stage_text" = some (some (.ref f9)))
    (l9 : K.lookup f9 = some ⟨oc9, od9, .func (PySem.W.fnOf "stage_text" "stage_text" (defArgs (top 19)) (defBody (top 19)) (defScope (top 19)) .none kV9 dc9 pm9 an9 cd9 ct9), sl9⟩)
    (c9 : PySem.W.codeIn K cd9 "stage_text" = true) (k9 : PySem.W.keepIn K (.ref f9) = true)
    (a10 : PySem.W.nsIn K mainGlobals "from_text" = some (some (.ref f10)))
    (l10 : K.lookup f10 = some ⟨oc10, od10, .func (PySem.W.fnOf "from_text" "from_text" (defArgs (top 20)) (defBody (top 20)) (defScope (top 20)) .none kV10 dc10 pm10 an10 cd10 ct10), sl10⟩)
    (c10 : PySem.W.codeIn K cd10 "from_text" = true) (k10 : PySem.W.keepIn K (.ref f10) = true)
    (a11 : PySem.W.nsIn K mainGlobals "with_text" = some (some (.ref f11)))
    (l11 : K.lookup f11 = some ⟨oc11, od11, .func (PySem.W.fnOf "with_text" "with_text" (defArgs (top 21)) (defBody (top 21)) (defScope (top 21)) .none kV11 dc11 pm11 an11 cd11 ct11), sl11⟩)
    (c11 : PySem.W.codeIn K cd11 "with_text" = true) (k11 : PySem.W.keepIn K (.ref f11) = true)
    (a12 : PySem.W.nsIn K mainGlobals "names_text" = some (some (.ref f12)))
    (l12 : K.lookup f12 = some ⟨oc12, od12, .func (PySem.W.fnOf "names_text" "names_text" (defArgs (top 22)) (defBody (top 22)) (defScope (top 22)) .none kV12 dc12 pm12 an12 cd12 ct12), sl12⟩)
    (c12 : PySem.W.codeIn K cd12 "names_text" = true) (k12 : PySem.W.keepIn K (.ref f12) = true)
    (a13 : PySem.W.nsIn K mainGlobals "sort_text" = some (some (.ref f13)))
    (l13 : K.lookup f13 = some ⟨oc13, od13, .func (PySem.W.fnOf "sort_text" "sort_text" (defArgs (top 23)) (defBody (top 23)) (defScope (top 23)) .none kV13 dc13 pm13 an13 cd13 ct13), sl13⟩)
    (c13 : PySem.W.codeIn K cd13 "sort_text" = true) (k13 : PySem.W.keepIn K (.ref f13) = true)
    (a14 : PySem.W.nsIn K mainGlobals "sessions_text" = some (some (.ref f14)))
    (l14 : K.lookup f14 = some ⟨oc14, od14, .func (PySem.W.fnOf "sessions_text" "sessions_text" (defArgs (top 24)) (defBody (top 24)) (defScope (top 24)) .none kV14 dc14 pm14 an14 cd14 ct14), sl14⟩)
    (c14 : PySem.W.codeIn K cd14 "sessions_text" = true) (k14 : PySem.W.keepIn K (.ref f14) = true)
    (a15 : PySem.W.nsIn K mainGlobals "join_text" = some (some (.ref f15)))
    (l15 : K.lookup f15 = some ⟨oc15, od15, .func (PySem.W.fnOf "join_text" "join_text" (defArgs (top 25)) (defBody (top 25)) (defScope (top 25)) .none kV15 dc15 pm15 an15 cd15 ct15), sl15⟩)
    (c15 : PySem.W.codeIn K cd15 "join_text" = true) (k15 : PySem.W.keepIn K (.ref f15) = true)
    (a16 : PySem.W.nsIn K mainGlobals "fold_text" = some (some (.ref f16)))
    (l16 : K.lookup f16 = some ⟨oc16, od16, .func (PySem.W.fnOf "fold_text" "fold_text" (defArgs (top 26)) (defBody (top 26)) (defScope (top 26)) .none kV16 dc16 pm16 an16 cd16 ct16), sl16⟩)
    (c16 : PySem.W.codeIn K cd16 "fold_text" = true) (k16 : PySem.W.keepIn K (.ref f16) = true)
    (a17 : PySem.W.nsIn K mainGlobals "thing_text" = some (some (.ref f17)))
    (l17 : K.lookup f17 = some ⟨oc17, od17, .func (PySem.W.fnOf "thing_text" "thing_text" (defArgs (top 27)) (defBody (top 27)) (defScope (top 27)) .none kV17 dc17 pm17 an17 cd17 ct17), sl17⟩)
    (c17 : PySem.W.codeIn K cd17 "thing_text" = true) (k17 : PySem.W.keepIn K (.ref f17) = true)
    (a18 : PySem.W.nsIn K mainGlobals "by_text" = some (some (.ref f18)))
    (l18 : K.lookup f18 = some ⟨oc18, od18, .func (PySem.W.fnOf "by_text" "by_text" (defArgs (top 28)) (defBody (top 28)) (defScope (top 28)) .none kV18 dc18 pm18 an18 cd18 ct18), sl18⟩)
    (c18 : PySem.W.codeIn K cd18 "by_text" = true) (k18 : PySem.W.keepIn K (.ref f18) = true)
    (a19 : PySem.W.nsIn K mainGlobals "_law_begin" = some (some (.ref f19)))
    (l19 : K.lookup f19 = some ⟨oc19, od19, .func (PySem.W.fnOf "_law_begin" "_law_begin" (defArgs (top 31)) (defBody (top 31)) (defScope (top 31)) .none kV19 dc19 pm19 an19 cd19 ct19), sl19⟩)
    (c19 : PySem.W.codeIn K cd19 "_law_begin" = true) (k19 : PySem.W.keepIn K (.ref f19) = true)
    (a20 : PySem.W.nsIn K mainGlobals "_law_take" = some (some (.ref f20)))
    (l20 : K.lookup f20 = some ⟨oc20, od20, .func (PySem.W.fnOf "_law_take" "_law_take" (defArgs (top 32)) (defBody (top 32)) (defScope (top 32)) .none kV20 dc20 pm20 an20 cd20 ct20), sl20⟩)
    (c20 : PySem.W.codeIn K cd20 "_law_take" = true) (k20 : PySem.W.keepIn K (.ref f20) = true)
    (a21 : PySem.W.nsIn K mainGlobals "_law_of" = some (some (.ref f21)))
    (l21 : K.lookup f21 = some ⟨oc21, od21, .func (PySem.W.fnOf "_law_of" "_law_of" (defArgs (top 33)) (defBody (top 33)) (defScope (top 33)) .none kV21 dc21 pm21 an21 cd21 ct21), sl21⟩)
    (c21 : PySem.W.codeIn K cd21 "_law_of" = true) (k21 : PySem.W.keepIn K (.ref f21) = true)
    (a22 : PySem.W.nsIn K mainGlobals "_law_same" = some (some (.ref f22)))
    (l22 : K.lookup f22 = some ⟨oc22, od22, .func (PySem.W.fnOf "_law_same" "_law_same" (defArgs (top 34)) (defBody (top 34)) (defScope (top 34)) .none kV22 dc22 pm22 an22 cd22 ct22), sl22⟩)
    (c22 : PySem.W.codeIn K cd22 "_law_same" = true) (k22 : PySem.W.keepIn K (.ref f22) = true)
    (a23 : PySem.W.nsIn K mainGlobals "_law_kept_word" = some (some (.ref f23)))
    (l23 : K.lookup f23 = some ⟨oc23, od23, .func (PySem.W.fnOf "_law_kept_word" "_law_kept_word" (defArgs (top 35)) (defBody (top 35)) (defScope (top 35)) .none kV23 dc23 pm23 an23 cd23 ct23), sl23⟩)
    (c23 : PySem.W.codeIn K cd23 "_law_kept_word" = true) (k23 : PySem.W.keepIn K (.ref f23) = true)
    (a24 : PySem.W.nsIn K mainGlobals "_law_letters" = some (some (.ref f24)))
    (l24 : K.lookup f24 = some ⟨oc24, od24, .func (PySem.W.fnOf "_law_letters" "_law_letters" (defArgs (top 36)) (defBody (top 36)) (defScope (top 36)) .none kV24 dc24 pm24 an24 cd24 ct24), sl24⟩)
    (c24 : PySem.W.codeIn K cd24 "_law_letters" = true) (k24 : PySem.W.keepIn K (.ref f24) = true)
    (a25 : PySem.W.nsIn K mainGlobals "_law_drawn_name" = some (some (.ref f25)))
    (l25 : K.lookup f25 = some ⟨oc25, od25, .func (PySem.W.fnOf "_law_drawn_name" "_law_drawn_name" (defArgs (top 37)) (defBody (top 37)) (defScope (top 37)) .none kV25 dc25 pm25 an25 cd25 ct25), sl25⟩)
    (c25 : PySem.W.codeIn K cd25 "_law_drawn_name" = true) (k25 : PySem.W.keepIn K (.ref f25) = true)
    (a26 : PySem.W.nsIn K mainGlobals "_law_drawn_word" = some (some (.ref f26)))
    (l26 : K.lookup f26 = some ⟨oc26, od26, .func (PySem.W.fnOf "_law_drawn_word" "_law_drawn_word" (defArgs (top 38)) (defBody (top 38)) (defScope (top 38)) .none kV26 dc26 pm26 an26 cd26 ct26), sl26⟩)
    (c26 : PySem.W.codeIn K cd26 "_law_drawn_word" = true) (k26 : PySem.W.keepIn K (.ref f26) = true)
    (a27 : PySem.W.nsIn K mainGlobals "_law_number" = some (some (.ref f27)))
    (l27 : K.lookup f27 = some ⟨oc27, od27, .func (PySem.W.fnOf "_law_number" "_law_number" (defArgs (top 39)) (defBody (top 39)) (defScope (top 39)) .none kV27 dc27 pm27 an27 cd27 ct27), sl27⟩)
    (c27 : PySem.W.codeIn K cd27 "_law_number" = true) (k27 : PySem.W.keepIn K (.ref f27) = true)
    (a28 : PySem.W.nsIn K mainGlobals "_law_value" = some (some (.ref f28)))
    (l28 : K.lookup f28 = some ⟨oc28, od28, .func (PySem.W.fnOf "_law_value" "_law_value" (defArgs (top 40)) (defBody (top 40)) (defScope (top 40)) .none kV28 dc28 pm28 an28 cd28 ct28), sl28⟩)
    (c28 : PySem.W.codeIn K cd28 "_law_value" = true) (k28 : PySem.W.keepIn K (.ref f28) = true)
    (a29 : PySem.W.nsIn K mainGlobals "_law_value_text" = some (some (.ref f29)))
    (l29 : K.lookup f29 = some ⟨oc29, od29, .func (PySem.W.fnOf "_law_value_text" "_law_value_text" (defArgs (top 41)) (defBody (top 41)) (defScope (top 41)) .none kV29 dc29 pm29 an29 cd29 ct29), sl29⟩)
    (c29 : PySem.W.codeIn K cd29 "_law_value_text" = true) (k29 : PySem.W.keepIn K (.ref f29) = true)
    (a30 : PySem.W.nsIn K mainGlobals "_law_kinds" = some (some (.ref f30)))
    (l30 : K.lookup f30 = some ⟨oc30, od30, .func (PySem.W.fnOf "_law_kinds" "_law_kinds" (defArgs (top 42)) (defBody (top 42)) (defScope (top 42)) .none kV30 dc30 pm30 an30 cd30 ct30), sl30⟩)
    (c30 : PySem.W.codeIn K cd30 "_law_kinds" = true) (k30 : PySem.W.keepIn K (.ref f30) = true)
    (a31 : PySem.W.nsIn K mainGlobals "_law_own" = some (some (.ref f31)))
    (l31 : K.lookup f31 = some ⟨oc31, od31, .func (PySem.W.fnOf "_law_own" "_law_own" (defArgs (top 43)) (defBody (top 43)) (defScope (top 43)) .none kV31 dc31 pm31 an31 cd31 ct31), sl31⟩)
    (c31 : PySem.W.codeIn K cd31 "_law_own" = true) (k31 : PySem.W.keepIn K (.ref f31) = true)
    (a32 : PySem.W.nsIn K mainGlobals "_law_leaf" = some (some (.ref f32)))
    (l32 : K.lookup f32 = some ⟨oc32, od32, .func (PySem.W.fnOf "_law_leaf" "_law_leaf" (defArgs (top 44)) (defBody (top 44)) (defScope (top 44)) .none kV32 dc32 pm32 an32 cd32 ct32), sl32⟩)
    (c32 : PySem.W.codeIn K cd32 "_law_leaf" = true) (k32 : PySem.W.keepIn K (.ref f32) = true)
    (a33 : PySem.W.nsIn K mainGlobals "_law_term" = some (some (.ref f33)))
    (l33 : K.lookup f33 = some ⟨oc33, od33, .func (PySem.W.fnOf "_law_term" "_law_term" (defArgs (top 45)) (defBody (top 45)) (defScope (top 45)) .none kV33 dc33 pm33 an33 cd33 ct33), sl33⟩)
    (c33 : PySem.W.codeIn K cd33 "_law_term" = true) (k33 : PySem.W.keepIn K (.ref f33) = true)
    (a34 : PySem.W.nsIn K mainGlobals "_law_two_parts" = some (some (.ref f34)))
    (l34 : K.lookup f34 = some ⟨oc34, od34, .func (PySem.W.fnOf "_law_two_parts" "_law_two_parts" (defArgs (top 46)) (defBody (top 46)) (defScope (top 46)) .none kV34 dc34 pm34 an34 cd34 ct34), sl34⟩)
    (c34 : PySem.W.codeIn K cd34 "_law_two_parts" = true) (k34 : PySem.W.keepIn K (.ref f34) = true)
    (a35 : PySem.W.nsIn K mainGlobals "_law_level" = some (some (.ref f35)))
    (l35 : K.lookup f35 = some ⟨oc35, od35, .func (PySem.W.fnOf "_law_level" "_law_level" (defArgs (top 47)) (defBody (top 47)) (defScope (top 47)) .none kV35 dc35 pm35 an35 cd35 ct35), sl35⟩)
    (c35 : PySem.W.codeIn K cd35 "_law_level" = true) (k35 : PySem.W.keepIn K (.ref f35) = true)
    (a36 : PySem.W.nsIn K mainGlobals "_law_wrapped" = some (some (.ref f36)))
    (l36 : K.lookup f36 = some ⟨oc36, od36, .func (PySem.W.fnOf "_law_wrapped" "_law_wrapped" (defArgs (top 48)) (defBody (top 48)) (defScope (top 48)) .none kV36 dc36 pm36 an36 cd36 ct36), sl36⟩)
    (c36 : PySem.W.codeIn K cd36 "_law_wrapped" = true) (k36 : PySem.W.keepIn K (.ref f36) = true)
    (a37 : PySem.W.nsIn K mainGlobals "_law_text" = some (some (.ref f37)))
    (l37 : K.lookup f37 = some ⟨oc37, od37, .func (PySem.W.fnOf "_law_text" "_law_text" (defArgs (top 49)) (defBody (top 49)) (defScope (top 49)) .none kV37 dc37 pm37 an37 cd37 ct37), sl37⟩)
    (c37 : PySem.W.codeIn K cd37 "_law_text" = true) (k37 : PySem.W.keepIn K (.ref f37) = true)
    (a38 : PySem.W.nsIn K mainGlobals "_law_some" = some (some (.ref f38)))
    (l38 : K.lookup f38 = some ⟨oc38, od38, .func (PySem.W.fnOf "_law_some" "_law_some" (defArgs (top 50)) (defBody (top 50)) (defScope (top 50)) .none kV38 dc38 pm38 an38 cd38 ct38), sl38⟩)
    (c38 : PySem.W.codeIn K cd38 "_law_some" = true) (k38 : PySem.W.keepIn K (.ref f38) = true)
    (a39 : PySem.W.nsIn K mainGlobals "_law_by" = some (some (.ref f39)))
    (l39 : K.lookup f39 = some ⟨oc39, od39, .func (PySem.W.fnOf "_law_by" "_law_by" (defArgs (top 51)) (defBody (top 51)) (defScope (top 51)) .none kV39 dc39 pm39 an39 cd39 ct39), sl39⟩)
    (c39 : PySem.W.codeIn K cd39 "_law_by" = true) (k39 : PySem.W.keepIn K (.ref f39) = true)
    (a40 : PySem.W.nsIn K mainGlobals "_law_with_kind" = some (some (.ref f40)))
    (l40 : K.lookup f40 = some ⟨oc40, od40, .func (PySem.W.fnOf "_law_with_kind" "_law_with_kind" (defArgs (top 52)) (defBody (top 52)) (defScope (top 52)) .none kV40 dc40 pm40 an40 cd40 ct40), sl40⟩)
    (c40 : PySem.W.codeIn K cd40 "_law_with_kind" = true) (k40 : PySem.W.keepIn K (.ref f40) = true)
    (a41 : PySem.W.nsIn K mainGlobals "_law_less_kinds" = some (some (.ref f41)))
    (l41 : K.lookup f41 = some ⟨oc41, od41, .func (PySem.W.fnOf "_law_less_kinds" "_law_less_kinds" (defArgs (top 53)) (defBody (top 53)) (defScope (top 53)) .none kV41 dc41 pm41 an41 cd41 ct41), sl41⟩)
    (c41 : PySem.W.codeIn K cd41 "_law_less_kinds" = true) (k41 : PySem.W.keepIn K (.ref f41) = true)
    (a42 : PySem.W.nsIn K mainGlobals "_law_joined_kinds" = some (some (.ref f42)))
    (l42 : K.lookup f42 = some ⟨oc42, od42, .func (PySem.W.fnOf "_law_joined_kinds" "_law_joined_kinds" (defArgs (top 54)) (defBody (top 54)) (defScope (top 54)) .none kV42 dc42 pm42 an42 cd42 ct42), sl42⟩)
    (c42 : PySem.W.codeIn K cd42 "_law_joined_kinds" = true) (k42 : PySem.W.keepIn K (.ref f42) = true)
    (a43 : PySem.W.nsIn K mainGlobals "_law_fold_stage" = some (some (.ref f43)))
    (l43 : K.lookup f43 = some ⟨oc43, od43, .func (PySem.W.fnOf "_law_fold_stage" "_law_fold_stage" (defArgs (top 55)) (defBody (top 55)) (defScope (top 55)) .none kV43 dc43 pm43 an43 cd43 ct43), sl43⟩)
    (c43 : PySem.W.codeIn K cd43 "_law_fold_stage" = true) (k43 : PySem.W.keepIn K (.ref f43) = true)
    (a44 : PySem.W.nsIn K mainGlobals "_law_timed_stage" = some (some (.ref f44)))
    (l44 : K.lookup f44 = some ⟨oc44, od44, .func (PySem.W.fnOf "_law_timed_stage" "_law_timed_stage" (defArgs (top 56)) (defBody (top 56)) (defScope (top 56)) .none kV44 dc44 pm44 an44 cd44 ct44), sl44⟩)
    (c44 : PySem.W.codeIn K cd44 "_law_timed_stage" = true) (k44 : PySem.W.keepIn K (.ref f44) = true)
    (a45 : PySem.W.nsIn K mainGlobals "_law_stage" = some (some (.ref f45)))
    (l45 : K.lookup f45 = some ⟨oc45, od45, .func (PySem.W.fnOf "_law_stage" "_law_stage" (defArgs (top 57)) (defBody (top 57)) (defScope (top 57)) .none kV45 dc45 pm45 an45 cd45 ct45), sl45⟩)
    (c45 : PySem.W.codeIn K cd45 "_law_stage" = true) (k45 : PySem.W.keepIn K (.ref f45) = true)
    (a46 : PySem.W.nsIn K mainGlobals "_law_question" = some (some (.ref f46)))
    (l46 : K.lookup f46 = some ⟨oc46, od46, .func (PySem.W.fnOf "_law_question" "_law_question" (defArgs (top 58)) (defBody (top 58)) (defScope (top 58)) .none kV46 dc46 pm46 an46 cd46 ct46), sl46⟩)
    (c46 : PySem.W.codeIn K cd46 "_law_question" = true) (k46 : PySem.W.keepIn K (.ref f46) = true)
    (a47 : PySem.W.nsIn K mainGlobals "_law_by_text" = some (some (.ref f47)))
    (l47 : K.lookup f47 = some ⟨oc47, od47, .func (PySem.W.fnOf "_law_by_text" "_law_by_text" (defArgs (top 59)) (defBody (top 59)) (defScope (top 59)) .none kV47 dc47 pm47 an47 cd47 ct47), sl47⟩)
    (c47 : PySem.W.codeIn K cd47 "_law_by_text" = true) (k47 : PySem.W.keepIn K (.ref f47) = true)
    (a48 : PySem.W.nsIn K mainGlobals "_law_stage_text" = some (some (.ref f48)))
    (l48 : K.lookup f48 = some ⟨oc48, od48, .func (PySem.W.fnOf "_law_stage_text" "_law_stage_text" (defArgs (top 60)) (defBody (top 60)) (defScope (top 60)) .none kV48 dc48 pm48 an48 cd48 ct48), sl48⟩)
    (c48 : PySem.W.codeIn K cd48 "_law_stage_text" = true) (k48 : PySem.W.keepIn K (.ref f48) = true)
    (a49 : PySem.W.nsIn K mainGlobals "_law_asking" = some (some (.ref f49)))
    (l49 : K.lookup f49 = some ⟨oc49, od49, .func (PySem.W.fnOf "_law_asking" "_law_asking" (defArgs (top 61)) (defBody (top 61)) (defScope (top 61)) .none kV49 dc49 pm49 an49 cd49 ct49), sl49⟩)
    (c49 : PySem.W.codeIn K cd49 "_law_asking" = true) (k49 : PySem.W.keepIn K (.ref f49) = true)
    (a50 : PySem.W.nsIn K mainGlobals "_law_sources" = some (some (.ref f50)))
    (l50 : K.lookup f50 = some ⟨oc50, od50, .func (PySem.W.fnOf "_law_sources" "_law_sources" (defArgs (top 62)) (defBody (top 62)) (defScope (top 62)) .none kV50 dc50 pm50 an50 cd50 ct50), sl50⟩)
    (c50 : PySem.W.codeIn K cd50 "_law_sources" = true) (k50 : PySem.W.keepIn K (.ref f50) = true)
    (a51 : PySem.W.nsIn K mainGlobals "law" = some (some (.ref f51)))
    (l51 : K.lookup f51 = some ⟨oc51, od51, .func (PySem.W.fnOf "law" "law" (defArgs (top 63)) (defBody (top 63)) (defScope (top 63)) .none kV51 dc51 pm51 an51 cd51 ct51), sl51⟩)
    (c51 : PySem.W.codeIn K cd51 "law" = true) (k51 : PySem.W.keepIn K (.ref f51) = true)
    (gc0 : PySem.W.nsIn K mainGlobals "NOT_LEVEL" = some (some (.int 2 tc0)))
    (gc1 : PySem.W.nsIn K mainGlobals "COMPARISON_LEVEL" = some (some (.int 3 tc1)))
    (gc2 : PySem.W.nsIn K mainGlobals "LEAF_LEVEL" = some (some (.int 6 tc2)))
    (gc3 : PySem.W.nsIn K mainGlobals "KEPT" = some (some (.str "@" tc3)))
    (ta0_g : PySem.W.nsIn K mainGlobals "LEAVES" = some (some (.ref ta0)))
    (tl0 : K.lookup ta0 = some ⟨.type "tuple", td0, .seq #[.str "number" tt0_0, .str "word" tt0_1, .str "flag" tt0_2, .str "field" tt0_3, .str "has" tt0_4] tn0, ts0⟩)
    (na0_g : PySem.W.nsIn K mainGlobals "LEVELS" = some (some (.ref na0)))
    (nl0 : K.lookup na0 = some ⟨.type "tuple", nd0, .seq #[.ref na0_0, .ref na0_1, .ref na0_2, .ref na0_3, .ref na0_4, .ref na0_5] nn0, ns0⟩)
    (nl0_0 : K.lookup na0_0 = some ⟨.type "tuple", nd0_0, .seq #[.str "or" nt0_0_0] nn0_0, ns0_0⟩)
    (nl0_1 : K.lookup na0_1 = some ⟨.type "tuple", nd0_1, .seq #[.str "and" nt0_1_0] nn0_1, ns0_1⟩)
    (nl0_2 : K.lookup na0_2 = some ⟨.type "tuple", nd0_2, .seq #[.str "not" nt0_2_0] nn0_2, ns0_2⟩)
    (nl0_3 : K.lookup na0_3 = some ⟨.type "tuple", nd0_3, .seq #[.str "=" nt0_3_0, .str "!=" nt0_3_1, .str "<" nt0_3_2, .str "<=" nt0_3_3, .str ">" nt0_3_4, .str ">=" nt0_3_5] nn0_3, ns0_3⟩)
    (nl0_4 : K.lookup na0_4 = some ⟨.type "tuple", nd0_4, .seq #[.str "+" nt0_4_0, .str "-" nt0_4_1] nn0_4, ns0_4⟩)
    (nl0_5 : K.lookup na0_5 = some ⟨.type "tuple", nd0_5, .seq #[.str "*" nt0_5_0] nn0_5, ns0_5⟩)
    (ka0_g : PySem.W.nsIn K mainGlobals "WRITERS" = some (some (.ref ka0)))
    (kl0 : K.lookup ka0 = some ⟨.type "dict", kd0, .dict #[⟨kh0_0, .str "from" kt0_0, .ref f10⟩, ⟨kh0_1, .str "where" kt0_1, .ref f1⟩, ⟨kh0_2, .str "with" kt0_2, .ref f11⟩, ⟨kh0_3, .str "keep" kt0_3, .ref f12⟩, ⟨kh0_4, .str "drop" kt0_4, .ref f12⟩, ⟨kh0_5, .str "sort" kt0_5, .ref f13⟩, ⟨kh0_6, .str "first" kt0_6, .ref f0⟩, ⟨kh0_7, .str "every" kt0_7, .ref f0⟩, ⟨kh0_8, .str "sessions" kt0_8, .ref f14⟩, ⟨kh0_9, .str "join" kt0_9, .ref f15⟩, ⟨kh0_10, .str "fold" kt0_10, .ref f16⟩] kn0, ks0⟩)
    (z_len : PySem.W.nsIn K mainGlobals "len" = some none)
    (z_all : PySem.W.nsIn K mainGlobals "all" = some none)
    (z_isinstance : PySem.W.nsIn K mainGlobals "isinstance" = some none)
    (z_bool : PySem.W.nsIn K mainGlobals "bool" = some none)
    (z_int : PySem.W.nsIn K mainGlobals "int" = some none)
    (z_str : PySem.W.nsIn K mainGlobals "str" = some none)
    (z_list : PySem.W.nsIn K mainGlobals "list" = some none)
    (z_dict : PySem.W.nsIn K mainGlobals "dict" = some none)
    (z_tuple : PySem.W.nsIn K mainGlobals "tuple" = some none)
    (z_range : PySem.W.nsIn K mainGlobals "range" = some none)
    (z_zip : PySem.W.nsIn K mainGlobals "zip" = some none)
    (z_sorted : PySem.W.nsIn K mainGlobals "sorted" = some none)
    (z_enumerate : PySem.W.nsIn K mainGlobals "enumerate" = some none) :
    ∃ a, Txt K mg a := by
  have F0 := fun_mk (st := top 1) l0 c0 k0
  have F1 := fun_mk (st := top 9) l1 c1 k1
  have F2 := fun_mk (st := top 10) l2 c2 k2
  have F3 := fun_mk (st := top 11) l3 c3 k3
  have F4 := fun_mk (st := top 12) l4 c4 k4
  have F5 := fun_mk (st := top 13) l5 c5 k5
  have F6 := fun_mk (st := top 14) l6 c6 k6
  have F7 := fun_mk (st := top 15) l7 c7 k7
  have F8 := fun_mk (st := top 18) l8 c8 k8
  have F9 := fun_mk (st := top 19) l9 c9 k9
  have F10 := fun_mk (st := top 20) l10 c10 k10
  have F11 := fun_mk (st := top 21) l11 c11 k11
  have F12 := fun_mk (st := top 22) l12 c12 k12
  have F13 := fun_mk (st := top 23) l13 c13 k13
  have F14 := fun_mk (st := top 24) l14 c14 k14
  have F15 := fun_mk (st := top 25) l15 c15 k15
  have F16 := fun_mk (st := top 26) l16 c16 k16
  have F17 := fun_mk (st := top 27) l17 c17 k17
  have F18 := fun_mk (st := top 28) l18 c18 k18
  have F19 := fun_mk (st := top 31) l19 c19 k19
  have F20 := fun_mk (st := top 32) l20 c20 k20
  have F21 := fun_mk (st := top 33) l21 c21 k21
  have F22 := fun_mk (st := top 34) l22 c22 k22
  have F23 := fun_mk (st := top 35) l23 c23 k23
  have F24 := fun_mk (st := top 36) l24 c24 k24
  have F25 := fun_mk (st := top 37) l25 c25 k25
  have F26 := fun_mk (st := top 38) l26 c26 k26
  have F27 := fun_mk (st := top 39) l27 c27 k27
  have F28 := fun_mk (st := top 40) l28 c28 k28
  have F29 := fun_mk (st := top 41) l29 c29 k29
  have F30 := fun_mk (st := top 42) l30 c30 k30
  have F31 := fun_mk (st := top 43) l31 c31 k31
  have F32 := fun_mk (st := top 44) l32 c32 k32
  have F33 := fun_mk (st := top 45) l33 c33 k33
  have F34 := fun_mk (st := top 46) l34 c34 k34
  have F35 := fun_mk (st := top 47) l35 c35 k35
  have F36 := fun_mk (st := top 48) l36 c36 k36
  have F37 := fun_mk (st := top 49) l37 c37 k37
  have F38 := fun_mk (st := top 50) l38 c38 k38
  have F39 := fun_mk (st := top 51) l39 c39 k39
  have F40 := fun_mk (st := top 52) l40 c40 k40
  have F41 := fun_mk (st := top 53) l41 c41 k41
  have F42 := fun_mk (st := top 54) l42 c42 k42
  have F43 := fun_mk (st := top 55) l43 c43 k43
  have F44 := fun_mk (st := top 56) l44 c44 k44
  have F45 := fun_mk (st := top 57) l45 c45 k45
  have F46 := fun_mk (st := top 58) l46 c46 k46
  have F47 := fun_mk (st := top 59) l47 c47 k47
  have F48 := fun_mk (st := top 60) l48 c48 k48
  have F49 := fun_mk (st := top 61) l49 c49 k49
  have F50 := fun_mk (st := top 62) l50 c50 k50
  have F51 := fun_mk (st := top 63) l51 c51 k51
  exact ⟨⟨f0, _, f1, _, f2, _, f3, _, f4, _, f5, _, f6, _, f7, _, f8, _, f9, _, f10, _, f11, _, f12, _, f13, _, f14, _, f15, _, f16, _, f17, _, f18, _, f19, _, f20, _, f21, _, f22, _, f23, _, f24, _, f25, _, f26, _, f27, _, f28, _, f29, _, f30, _, f31, _, f32, _, f33, _, f34, _, f35, _, f36, _, f37, _, f38, _, f39, _, f40, _, f41, _, f42, _, f43, _, f44, _, f45, _, f46, _, f47, _, f48, _, f49, _, f50, _, f51, _, _, _, _, _, ta0, na0, na0_0, na0_1, na0_2, na0_3, na0_4, na0_5, ka0⟩, ⟨F0,
    PySem.W.mg_of X G a0,
    F0.binds fun _ _ _ _ _ _ us hl => match us, hl with | [_], _ => rfl,
    F1,
    PySem.W.mg_of X G a1,
    F1.binds fun _ _ _ _ _ _ us hl => match us, hl with | [_], _ => rfl,
    F2,
    PySem.W.mg_of X G a2,
    F2.binds fun _ _ _ _ _ _ us hl => match us, hl with | [_, _], _ => rfl,
    F3,
    PySem.W.mg_of X G a3,
    F3.binds fun _ _ _ _ _ _ us hl => match us, hl with | [_], _ => rfl,
    F4,
    PySem.W.mg_of X G a4,
    F4.binds fun _ _ _ _ _ _ us hl => match us, hl with | [_, _], _ => rfl,
    F5,
    PySem.W.mg_of X G a5,
    F5.binds fun _ _ _ _ _ _ us hl => match us, hl with | [_], _ => rfl,
    F6,
    PySem.W.mg_of X G a6,
    F6.binds fun _ _ _ _ _ _ us hl => match us, hl with | [_, _], _ => rfl,
    F7,
    PySem.W.mg_of X G a7,
    F7.binds fun _ _ _ _ _ _ us hl => match us, hl with | [_], _ => rfl,
    F8,
    PySem.W.mg_of X G a8,
    F8.binds fun _ _ _ _ _ _ us hl => match us, hl with | [_], _ => rfl,
    F9,
    PySem.W.mg_of X G a9,
    F9.binds fun _ _ _ _ _ _ us hl => match us, hl with | [_], _ => rfl,
    F10,
    PySem.W.mg_of X G a10,
    F10.binds fun _ _ _ _ _ _ us hl => match us, hl with | [_], _ => rfl,
    F11,
    PySem.W.mg_of X G a11,
    F11.binds fun _ _ _ _ _ _ us hl => match us, hl with | [_, _], _ => rfl,
    F12,
    PySem.W.mg_of X G a12,
    F12.binds fun _ _ _ _ _ _ us hl => match us, hl with | [_], _ => rfl,
    F13,
    PySem.W.mg_of X G a13,
    F13.binds fun _ _ _ _ _ _ us hl => match us, hl with | [_, _], _ => rfl,
    F14,
    PySem.W.mg_of X G a14,
    F14.binds fun _ _ _ _ _ _ us hl => match us, hl with | [_, _], _ => rfl,
    F15,
    PySem.W.mg_of X G a15,
    F15.binds fun _ _ _ _ _ _ us hl => match us, hl with | [_, _, _], _ => rfl,
    F16,
    PySem.W.mg_of X G a16,
    F16.binds fun _ _ _ _ _ _ us hl => match us, hl with | [_, _], _ => rfl,
    F17,
    PySem.W.mg_of X G a17,
    F17.binds fun _ _ _ _ _ _ us hl => match us, hl with | [_], _ => rfl,
    F18,
    PySem.W.mg_of X G a18,
    F18.binds fun _ _ _ _ _ _ us hl => match us, hl with | [_], _ => rfl,
    F19,
    PySem.W.mg_of X G a19,
    F19.binds fun _ _ _ _ _ _ us hl => match us, hl with | [_], _ => rfl,
    F20,
    PySem.W.mg_of X G a20,
    F20.binds fun _ _ _ _ _ _ us hl => match us, hl with | [_, _], _ => rfl,
    F21,
    PySem.W.mg_of X G a21,
    F21.binds fun _ _ _ _ _ _ us hl => match us, hl with | [_, _], _ => rfl,
    F22,
    PySem.W.mg_of X G a22,
    F22.binds fun _ _ _ _ _ _ us hl => match us, hl with | [_, _], _ => rfl,
    F23,
    PySem.W.mg_of X G a23,
    F23.binds fun _ _ _ _ _ _ us hl => match us, hl with | [_], _ => rfl,
    F24,
    PySem.W.mg_of X G a24,
    F24.binds fun _ _ _ _ _ _ us hl => match us, hl with | [_, _, _], _ => rfl,
    F25,
    PySem.W.mg_of X G a25,
    F25.binds fun _ _ _ _ _ _ us hl => match us, hl with | [_], _ => rfl,
    F26,
    PySem.W.mg_of X G a26,
    F26.binds fun _ _ _ _ _ _ us hl => match us, hl with | [_], _ => rfl,
    F27,
    PySem.W.mg_of X G a27,
    F27.binds fun _ _ _ _ _ _ us hl => match us, hl with | [_], _ => rfl,
    F28,
    PySem.W.mg_of X G a28,
    F28.binds fun _ _ _ _ _ _ us hl => match us, hl with | [_, _], _ => rfl,
    F29,
    PySem.W.mg_of X G a29,
    F29.binds fun _ _ _ _ _ _ us hl => match us, hl with | [_], _ => rfl,
    F30,
    PySem.W.mg_of X G a30,
    F30.binds fun _ _ _ _ _ _ us hl => match us, hl with | [_], _ => rfl,
    F31,
    PySem.W.mg_of X G a31,
    F31.binds fun _ _ _ _ _ _ us hl => match us, hl with | [_], _ => rfl,
    F32,
    PySem.W.mg_of X G a32,
    F32.binds fun _ _ _ _ _ _ us hl => match us, hl with | [_, _, _], _ => rfl,
    F33,
    PySem.W.mg_of X G a33,
    F33.binds fun _ _ _ _ _ _ us hl => match us, hl with | [_, _, _, _], _ => rfl,
    F34,
    PySem.W.mg_of X G a34,
    F34.binds fun _ _ _ _ _ _ us hl => match us, hl with | [_, _, _, _, _], _ => rfl,
    F35,
    PySem.W.mg_of X G a35,
    F35.binds fun _ _ _ _ _ _ us hl => match us, hl with | [_], _ => rfl,
    F36,
    PySem.W.mg_of X G a36,
    F36.binds fun _ _ _ _ _ _ us hl => match us, hl with | [_, _], _ => rfl,
    F37,
    PySem.W.mg_of X G a37,
    F37.binds fun _ _ _ _ _ _ us hl => match us, hl with | [_], _ => rfl,
    F38,
    PySem.W.mg_of X G a38,
    F38.binds fun _ _ _ _ _ _ us hl => match us, hl with | [_, _], _ => rfl,
    F39,
    PySem.W.mg_of X G a39,
    F39.binds fun _ _ _ _ _ _ us hl => match us, hl with | [_, _], _ => rfl,
    F40,
    PySem.W.mg_of X G a40,
    F40.binds fun _ _ _ _ _ _ us hl => match us, hl with | [_, _, _], _ => rfl,
    F41,
    PySem.W.mg_of X G a41,
    F41.binds fun _ _ _ _ _ _ us hl => match us, hl with | [_, _, _], _ => rfl,
    F42,
    PySem.W.mg_of X G a42,
    F42.binds fun _ _ _ _ _ _ us hl => match us, hl with | [_, _], _ => rfl,
    F43,
    PySem.W.mg_of X G a43,
    F43.binds fun _ _ _ _ _ _ us hl => match us, hl with | [_, _], _ => rfl,
    F44,
    PySem.W.mg_of X G a44,
    F44.binds fun _ _ _ _ _ _ us hl => match us, hl with | [_, _, _, _], _ => rfl,
    F45,
    PySem.W.mg_of X G a45,
    F45.binds fun _ _ _ _ _ _ us hl => match us, hl with | [_, _, _, _], _ => rfl,
    F46,
    PySem.W.mg_of X G a46,
    F46.binds fun _ _ _ _ _ _ us hl => match us, hl with | [_, _, _, _], _ => rfl,
    F47,
    PySem.W.mg_of X G a47,
    F47.binds fun _ _ _ _ _ _ us hl => match us, hl with | [_], _ => rfl,
    F48,
    PySem.W.mg_of X G a48,
    F48.binds fun _ _ _ _ _ _ us hl => match us, hl with | [_], _ => rfl,
    F49,
    PySem.W.mg_of X G a49,
    F49.binds fun _ _ _ _ _ _ us hl => match us, hl with | [_], _ => rfl,
    F50,
    PySem.W.mg_of X G a50,
    F50.binds fun _ _ _ _ _ _ us hl => match us, hl with | [_], _ => rfl,
    F51,
    PySem.W.mg_of X G a51,
    F51.binds fun _ _ _ _ _ _ us hl => match us, hl with | [_], _ => rfl,
    ⟨PySem.W.mg_of X G gc0, ⟨_, rfl⟩⟩,
    ⟨PySem.W.mg_of X G gc1, ⟨_, rfl⟩⟩,
    ⟨PySem.W.mg_of X G gc2, ⟨_, rfl⟩⟩,
    ⟨PySem.W.mg_of X G gc3, ⟨_, rfl⟩⟩,
    ⟨PySem.W.mg_of X G ta0_g, rfl⟩,
    fun H => .inr ⟨_, _, _, tl0, rfl, rfl, (by show 5 ≤ sizeLine; rw [sizeLine_eq]; decide), (.cons ⟨_, rfl⟩ (.cons ⟨_, rfl⟩ (.cons ⟨_, rfl⟩ (.cons ⟨_, rfl⟩ (.cons ⟨_, rfl⟩ .nil)))))⟩,
    ⟨PySem.W.mg_of X G na0_g, rfl⟩,
    fun H => .inr ⟨_, _, _, nl0, rfl, rfl, (by show 6 ≤ sizeLine; rw [sizeLine_eq]; decide), (.cons rfl (.cons rfl (.cons rfl (.cons rfl (.cons rfl (.cons rfl .nil))))))⟩,
    fun H => .inr ⟨_, _, _, nl0_0, rfl, rfl, (by show 1 ≤ sizeLine; rw [sizeLine_eq]; decide), (.cons ⟨_, rfl⟩ .nil)⟩,
    fun H => .inr ⟨_, _, _, nl0_1, rfl, rfl, (by show 1 ≤ sizeLine; rw [sizeLine_eq]; decide), (.cons ⟨_, rfl⟩ .nil)⟩,
    fun H => .inr ⟨_, _, _, nl0_2, rfl, rfl, (by show 1 ≤ sizeLine; rw [sizeLine_eq]; decide), (.cons ⟨_, rfl⟩ .nil)⟩,
    fun H => .inr ⟨_, _, _, nl0_3, rfl, rfl, (by show 6 ≤ sizeLine; rw [sizeLine_eq]; decide), (.cons ⟨_, rfl⟩ (.cons ⟨_, rfl⟩ (.cons ⟨_, rfl⟩ (.cons ⟨_, rfl⟩ (.cons ⟨_, rfl⟩ (.cons ⟨_, rfl⟩ .nil))))))⟩,
    fun H => .inr ⟨_, _, _, nl0_4, rfl, rfl, (by show 2 ≤ sizeLine; rw [sizeLine_eq]; decide), (.cons ⟨_, rfl⟩ (.cons ⟨_, rfl⟩ .nil))⟩,
    fun H => .inr ⟨_, _, _, nl0_5, rfl, rfl, (by show 1 ≤ sizeLine; rw [sizeLine_eq]; decide), (.cons ⟨_, rfl⟩ .nil)⟩,
    ⟨PySem.W.mg_of X G ka0_g, rfl⟩,
    ⟨_, _, _, kl0, rfl, rfl, (.cons rfl rfl (.cons rfl rfl (.cons rfl rfl (.cons rfl rfl (.cons rfl rfl (.cons rfl rfl (.cons rfl rfl (.cons rfl rfl (.cons rfl rfl (.cons rfl rfl (.cons rfl rfl .nil)))))))))))⟩,
    PySem.W.mg_none_of X G z_len,
    PySem.W.mg_none_of X G z_all,
    PySem.W.mg_none_of X G z_isinstance,
    PySem.W.mg_none_of X G z_bool,
    PySem.W.mg_none_of X G z_int,
    PySem.W.mg_none_of X G z_str,
    PySem.W.mg_none_of X G z_list,
    PySem.W.mg_none_of X G z_dict,
    PySem.W.mg_none_of X G z_tuple,
    PySem.W.mg_none_of X G z_range,
    PySem.W.mg_none_of X G z_zip,
    PySem.W.mg_none_of X G z_sorted,
    PySem.W.mg_none_of X G z_enumerate⟩⟩
theorem walk {l : PySem.W.OpenLaw} {q : Program} {loose : List Str} {XP : (Str → Option Value) → Heap → Prop} {YP : World → Heap → Prop} {d : DefRec} {K : Params → PySem.W.Frag} (hn : l.most = some 63) (hdf : d.params.defaults = [])
    (hY : ∀ (w : World) (h : Heap), YP w h → (K w.params).In h)
    (F : ∀ (w : World) (mg : Str → Option Value) (fa : Addr) (h : Heap), (K w.params).In h → h.Ns mainGlobals mg → mg d.name = some (.ref fa) →
      ∃ fd : FuncData, (∀ (s : Shared) (u : Value), BindsTo s fd ⟨[u], []⟩ [("_law_script", u)]) ∧ ∀ base : Heap, (K w.params).In base → base.Ns mainGlobals mg → FnOk l.prog w (K w.params) mg base CX0 30 fa fd ["_law_script"] (spLaw (K w.params))) :
    PySem.W.WalkO q loose XP YP l.row.toRowW d [] (fun f vs => PySem.call f vs) :=
  L2.walk_of (n := 63) (k := 30) (x := "_law_script") (CX := fun _ => CX0) (sp := fun w => spLaw (K w.params)) hn (by decide) hdf ⟨rfl, by decide, by decide, rfl⟩ hY F (fun _ _ a ns hl _ hS => ⟨a, ns, rfl, hS, hl, fun _ => rfl⟩) fun _ _ _ _ _ z => z
theorem law_mk {l : PySem.W.OpenLaw} {w : World} {K : PySem.W.Frag} {h : Heap} {mg : Str → Option Value} {fa : Addr} (hfa : mg "law" = some (.ref fa)) (T : ∃ a, Txt K mg a) :
    ∃ fd : FuncData, (∀ (s : Shared) (v : Value), BindsTo s fd ⟨[v], []⟩ [("_law_script", v)]) ∧ ∀ base : Heap, K.In base → base.Ns mainGlobals mg → FnOk l.prog w K mg base CX0 30 fa fd ["_law_script"] (spLaw K) := by
  obtain ⟨a, T⟩ := T
  have e := hfa.symm.trans T.m_law
  cases e
  obtain ⟨oc, od, kV, doc, pm, an, cdv, ct, osl, hfd, lk, hcd⟩ := T.F_law.ex
  refine ⟨a.d_law, fun s v => ?_, fun base _ _ => ok_law T⟩
  rw [hfd]
  exact .of_eq rfl
end My
theorem PySem.W.Fast.tw10047268069392916105 : True := trivial
theorem PySem.W.Fast.tw12833362489006729303 : True := trivial
theorem PySem.W.Fast.tw8350273740540274340 : True := trivial
theorem PySem.W.Fast.tw7718908092053410289 : True := trivial
theorem PySem.W.Fast.tw2466418992574085956 : True := trivial
theorem PySem.W.Fast.tw12006380336935156413 : True := trivial
theorem PySem.W.Fast.tw1685553370572784602 : True := trivial
theorem PySem.W.Fast.tw12734221181824307058 : True := trivial
theorem PySem.W.Fast.tw1855500044900430911 : True := trivial
open PySem PySem.W PyProof.Rows
set_option maxRecDepth 100000 in
set_option maxHeartbeats 0 in
theorem PySem.Challenge.cw_logdelve_k12_questions_written_holds : PySem.Challenge.rw_logdelve_k12_questions_written.Holds := by
  w_on; o_law; k_head; (case hw => w_witness2)
  k_fill
  refine My.walk (l := PySem.Challenge.rw_logdelve_k12_questions_written) rfl rfl (fun w h Y => PySem.W.kIn_of Y) ?F
  case F =>
    intro w mg fa h KX G hmg
    have T : ∃ a, My.Txt (L2.KOf KX) mg a := by
      dsimp only [L2.KOf]
      refine' My.mk_txt KX G ?a0 ?l0 ?c0 ?k0 ?a1 ?l1 ?c1 ?k1 ?a2 ?l2 ?c2 ?k2 ?a3 ?l3 ?c3 ?k3 ?a4 ?l4 ?c4 ?k4 ?a5 ?l5 ?c5 ?k5 ?a6 ?l6 ?c6 ?k6 ?a7 ?l7 ?c7 ?k7 ?a8 ?l8 ?c8 ?k8 ?a9 ?l9 ?c9 ?k9 ?a10 ?l10 ?c10 ?k10 ?a11 ?l11 ?c11 ?k11 ?a12 ?l12 ?c12 ?k12 ?a13 ?l13 ?c13 ?k13 ?a14 ?l14 ?c14 ?k14 ?a15 ?l15 ?c15 ?k15 ?a16 ?l16 ?c16 ?k16 ?a17 ?l17 ?c17 ?k17 ?a18 ?l18 ?c18 ?k18 ?a19 ?l19 ?c19 ?k19 ?a20 ?l20 ?c20 ?k20 ?a21 ?l21 ?c21 ?k21 ?a22 ?l22 ?c22 ?k22 ?a23 ?l23 ?c23 ?k23 ?a24 ?l24 ?c24 ?k24 ?a25 ?l25 ?c25 ?k25 ?a26 ?l26 ?c26 ?k26 ?a27 ?l27 ?c27 ?k27 ?a28 ?l28 ?c28 ?k28 ?a29 ?l29 ?c29 ?k29 ?a30 ?l30 ?c30 ?k30 ?a31 ?l31 ?c31 ?k31 ?a32 ?l32 ?c32 ?k32 ?a33 ?l33 ?c33 ?k33 ?a34 ?l34 ?c34 ?k34 ?a35 ?l35 ?c35 ?k35 ?a36 ?l36 ?c36 ?k36 ?a37 ?l37 ?c37 ?k37 ?a38 ?l38 ?c38 ?k38 ?a39 ?l39 ?c39 ?k39 ?a40 ?l40 ?c40 ?k40 ?a41 ?l41 ?c41 ?k41 ?a42 ?l42 ?c42 ?k42 ?a43 ?l43 ?c43 ?k43 ?a44 ?l44 ?c44 ?k44 ?a45 ?l45 ?c45 ?k45 ?a46 ?l46 ?c46 ?k46 ?a47 ?l47 ?c47 ?k47 ?a48 ?l48 ?c48 ?k48 ?a49 ?l49 ?c49 ?k49 ?a50 ?l50 ?c50 ?k50 ?a51 ?l51 ?c51 ?k51 ?gc0 ?gc1 ?gc2 ?gc3 ?ta0_g ?tl0 ?na0_g ?nl0 ?nl0_0 ?nl0_1 ?nl0_2 ?nl0_3 ?nl0_4 ?nl0_5 ?ka0_g ?kl0 ?z_len ?z_all ?z_isinstance ?z_bool ?z_int ?z_str ?z_list ?z_dict ?z_tuple ?z_range ?z_zip ?z_sorted ?z_enumerate
      (case a0 => k_is)
      (case l0 => k_is)
      (case c0 => k_is)
      (case k0 => k_is)
      (case a1 => k_is)
      (case l1 => k_is)
      (case c1 => k_is)
      (case k1 => k_is)
      (case a2 => k_is)
      (case l2 => k_is)
      (case c2 => k_is)
      (case k2 => k_is)
      (case a3 => k_is)
      (case l3 => k_is)
      (case c3 => k_is)
      (case k3 => k_is)
      (case a4 => k_is)
      (case l4 => k_is)
      (case c4 => k_is)
      (case k4 => k_is)
      (case a5 => k_is)
      (case l5 => k_is)
      (case c5 => k_is)
      (case k5 => k_is)
      (case a6 => k_is)
      (case l6 => k_is)
      (case c6 => k_is)
      (case k6 => k_is)
      (case a7 => k_is)
      (case l7 => k_is)
      (case c7 => k_is)
      (case k7 => k_is)
      (case a8 => k_is)
      (case l8 => k_is)
      (case c8 => k_is)
      (case k8 => k_is)
      (case a9 => k_is)
      (case l9 => k_is)
      (case c9 => k_is)
      (case k9 => k_is)
      (case a10 => k_is)
      (case l10 => k_is)
      (case c10 => k_is)
      (case k10 => k_is)
      (case a11 => k_is)
      (case l11 => k_is)
      (case c11 => k_is)
      (case k11 => k_is)
      (case a12 => k_is)
      (case l12 => k_is)
      (case c12 => k_is)
      (case k12 => k_is)
      (case a13 => k_is)
      (case l13 => k_is)
      (case c13 => k_is)
      (case k13 => k_is)
      (case a14 => k_is)
      (case l14 => k_is)
      (case c14 => k_is)
      (case k14 => k_is)
      (case a15 => k_is)
      (case l15 => k_is)
      (case c15 => k_is)
      (case k15 => k_is)
      (case a16 => k_is)
      (case l16 => k_is)
      (case c16 => k_is)
      (case k16 => k_is)
      (case a17 => k_is)
      (case l17 => k_is)
      (case c17 => k_is)
      (case k17 => k_is)
      (case a18 => k_is)
      (case l18 => k_is)
      (case c18 => k_is)
      (case k18 => k_is)
      (case a19 => k_is)
      (case l19 => k_is)
      (case c19 => k_is)
      (case k19 => k_is)
      (case a20 => k_is)
      (case l20 => k_is)
      (case c20 => k_is)
      (case k20 => k_is)
      (case a21 => k_is)
      (case l21 => k_is)
      (case c21 => k_is)
      (case k21 => k_is)
      (case a22 => k_is)
      (case l22 => k_is)
      (case c22 => k_is)
      (case k22 => k_is)
      (case a23 => k_is)
      (case l23 => k_is)
      (case c23 => k_is)
      (case k23 => k_is)
      (case a24 => k_is)
      (case l24 => k_is)
      (case c24 => k_is)
      (case k24 => k_is)
      (case a25 => k_is)
      (case l25 => k_is)
      (case c25 => k_is)
      (case k25 => k_is)
      (case a26 => k_is)
      (case l26 => k_is)
      (case c26 => k_is)
      (case k26 => k_is)
      (case a27 => k_is)
      (case l27 => k_is)
      (case c27 => k_is)
      (case k27 => k_is)
      (case a28 => k_is)
      (case l28 => k_is)
      (case c28 => k_is)
      (case k28 => k_is)
      (case a29 => k_is)
      (case l29 => k_is)
      (case c29 => k_is)
      (case k29 => k_is)
      (case a30 => k_is)
      (case l30 => k_is)
      (case c30 => k_is)
      (case k30 => k_is)
      (case a31 => k_is)
      (case l31 => k_is)
      (case c31 => k_is)
      (case k31 => k_is)
      (case a32 => k_is)
      (case l32 => k_is)
      (case c32 => k_is)
      (case k32 => k_is)
      (case a33 => k_is)
      (case l33 => k_is)
      (case c33 => k_is)
      (case k33 => k_is)
      (case a34 => k_is)
      (case l34 => k_is)
      (case c34 => k_is)
      (case k34 => k_is)
      (case a35 => k_is)
      (case l35 => k_is)
      (case c35 => k_is)
      (case k35 => k_is)
      (case a36 => k_is)
      (case l36 => k_is)
      (case c36 => k_is)
      (case k36 => k_is)
      (case a37 => k_is)
      (case l37 => k_is)
      (case c37 => k_is)
      (case k37 => k_is)
      (case a38 => k_is)
      (case l38 => k_is)
      (case c38 => k_is)
      (case k38 => k_is)
      (case a39 => k_is)
      (case l39 => k_is)
      (case c39 => k_is)
      (case k39 => k_is)
      (case a40 => k_is)
      (case l40 => k_is)
      (case c40 => k_is)
      (case k40 => k_is)
      (case a41 => k_is)
      (case l41 => k_is)
      (case c41 => k_is)
      (case k41 => k_is)
      (case a42 => k_is)
      (case l42 => k_is)
      (case c42 => k_is)
      (case k42 => k_is)
      (case a43 => k_is)
      (case l43 => k_is)
      (case c43 => k_is)
      (case k43 => k_is)
      (case a44 => k_is)
      (case l44 => k_is)
      (case c44 => k_is)
      (case k44 => k_is)
      (case a45 => k_is)
      (case l45 => k_is)
      (case c45 => k_is)
      (case k45 => k_is)
      (case a46 => k_is)
      (case l46 => k_is)
      (case c46 => k_is)
      (case k46 => k_is)
      (case a47 => k_is)
      (case l47 => k_is)
      (case c47 => k_is)
      (case k47 => k_is)
      (case a48 => k_is)
      (case l48 => k_is)
      (case c48 => k_is)
      (case k48 => k_is)
      (case a49 => k_is)
      (case l49 => k_is)
      (case c49 => k_is)
      (case k49 => k_is)
      (case a50 => k_is)
      (case l50 => k_is)
      (case c50 => k_is)
      (case k50 => k_is)
      (case a51 => k_is)
      (case l51 => k_is)
      (case c51 => k_is)
      (case k51 => k_is)
      (case gc0 => k_is)
      (case gc1 => k_is)
      (case gc2 => k_is)
      (case gc3 => k_is)
      (case ta0_g => k_is)
      (case tl0 => k_is)
      (case na0_g => k_is)
      (case nl0 => k_is)
      (case nl0_0 => k_is)
      (case nl0_1 => k_is)
      (case nl0_2 => k_is)
      (case nl0_3 => k_is)
      (case nl0_4 => k_is)
      (case nl0_5 => k_is)
      (case ka0_g => k_is)
      (case kl0 => k_is)
      (case z_len => k_is)
      (case z_all => k_is)
      (case z_isinstance => k_is)
      (case z_bool => k_is)
      (case z_int => k_is)
      (case z_str => k_is)
      (case z_list => k_is)
      (case z_dict => k_is)
      (case z_tuple => k_is)
      (case z_range => k_is)
      (case z_zip => k_is)
      (case z_sorted => k_is)
      (case z_enumerate => k_is)
    exact My.law_mk (h := h) hmg T

