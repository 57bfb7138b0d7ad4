import PyProof.Rows.All
import Wide.All
import OpenK.AllK
import Wide.FinOn
import Lean
import PyProof.EqAt
import PyProof.EqKinds
import PyProof.TupleCall
import PyProof.NeKinds
import KE.KIntText
import PyProof.ExcAttrAll.ValueError
import KE.KDictList
import KE.KDictOf
import PyProof.AttrMissHeap
import PyProof.Rows.SortStr
import KE.KRevSl
import PyProof.Draws
import PyProof.EnumMake
import KE.KNest
import KE.KLam
import KE.KNestM
import PyProof.FitsBits
import PyProof.ReprRoads
import PyProof.StrLawsRepr
import PyProof.Rows.StrNews2
import PyProof.DictUpdate
import PyProof.DictTable
import PyProof.StrOps2
import KE.KTab
import KE.KStar
import KE.KUnpackStar
import PyProof.TupleKey
import PyProof.DictRoadsH
import PyProof.TupleOfStr
import PySem.Challenge.RW_logdelve_k07_terms_misread
set_option Elab.async false
set_option linter.all false
set_option maxRecDepth 100000
namespace L2
open PySem PySem.Spec PyProof.Rows
abbrev Key:=Sum Int Str
def keyIs:Key→Value→Bool
  | .inl k,v=>Value.isInt k v
  | .inr x,v=>Value.isStrOf x v
def keyH (w:World):Key→Int
  | .inl k=>hashInt k
  | .inr x=>hashStr w x
theorem keyIs_shape:∀ {k:Key} {v:Value},keyIs k v=true→(∃ i t,k=Sum.inl i∧v=Value.int i t)∨(∃ x t,k=Sum.inr x∧v=Value.str x t)
  | .inl i,v,h=>by
    obtain ⟨t,e⟩:=Value.isInt_shape (k:=i) (v:=v) h
    exact .inl ⟨i,t,rfl,e⟩
  | .inr x,v,h=>by
    obtain ⟨t,e⟩:=Value.isStrOf_shape (x:=x) (v:=v) h
    exact .inr ⟨x,t,rfl,e⟩
theorem keyIs_int (i:Int) (t:Tok):keyIs (.inl i) (.int i t)=true:=by simp [keyIs,Value.isInt]
theorem keyIs_str (x:Str) (t:Tok):keyIs (.inr x) (.str x t)=true:=by simp [keyIs,Value.isStrOf]
theorem key_ll (a b:Int):decide ((Sum.inl a:Key)=Sum.inl b)=(a == b):=by
  by_cases e:a=b
  · subst e;simp
  · have h:¬ (Sum.inl a:Key)=Sum.inl b:=fun q=>e (Sum.inl.inj q)
    rw [decide_eq_false h]
    exact (beq_eq_false_iff_ne.mpr e).symm
theorem key_rr (a b:Str):decide ((Sum.inr a:Key)=Sum.inr b)=decide (a=b):=by
  by_cases e:a=b
  · subst e;simp
  · have h:¬ (Sum.inr a:Key)=Sum.inr b:=fun q=>e (Sum.inr.inj q)
    rw [decide_eq_false h,decide_eq_false e]
theorem key_lr (a:Int) (b:Str):decide ((Sum.inl a:Key)=Sum.inr b)=false:=decide_eq_false (fun q=>nomatch q)
theorem key_rl (a:Str) (b:Int):decide ((Sum.inr a:Key)=Sum.inl b)=false:=decide_eq_false (fun q=>nomatch q)
def mixKind (prog:Program) (w:World):PySem.KeyKind prog w Key where
  is:=keyIs
  hash:=keyH w
  inj := fun v a b ha hb=>by
    rcases keyIs_shape ha with ⟨i,t,rfl,rfl⟩ | ⟨x,t,rfl,rfl⟩
    · rcases keyIs_shape hb with ⟨j,u,rfl,e⟩ | ⟨y,u,rfl,e⟩
      · injection e with e1 _;rw [e1]
      · exact nomatch e
    · rcases keyIs_shape hb with ⟨j,u,rfl,e⟩ | ⟨y,u,rfl,e⟩
      · exact nomatch e
      · injection e with e1 _;rw [e1]
  byValue:=fun k v h=>by
    rcases keyIs_shape h with ⟨i,t,rfl,rfl⟩ | ⟨x,t,rfl,rfl⟩ <;> rfl
  pyHash:=fun hv h=>by
    rcases keyIs_shape hv with ⟨i,t,rfl,rfl⟩ | ⟨x,t,rfl,rfl⟩
    · exact wpAny_pyHash_int h
    · exact wpAny_pyHash_str h
  eqBool:=fun hu hv h=>by
    rcases keyIs_shape hu with ⟨i,t,rfl,rfl⟩ | ⟨x,t,rfl,rfl⟩
    · rcases keyIs_shape hv with ⟨j,u,rfl,rfl⟩ | ⟨y,u,rfl,rfl⟩
      · rw [key_ll] at h;exact wpAny_eqBool_int h
      · rw [key_lr] at h;exact SeqAt.EqAt.int_str i t y u _ _ _ _ h
    · rcases keyIs_shape hv with ⟨j,u,rfl,rfl⟩ | ⟨y,u,rfl,rfl⟩
      · rw [key_rl] at h;exact SeqAt.EqAt.str_int x t j u _ _ _ _ h
      · rw [key_rr] at h;exact wpAny_eqBool_str h
  «strs»:=fun k x t v h=>by
    rcases keyIs_shape h with ⟨i,u,rfl,e⟩ | ⟨y,u,rfl,e⟩
    · exact nomatch e
    · injection e with e1 _
      subst e1
      cases v <;> rfl
theorem mixKind_int (prog:Program) (w:World) (i:Int) (t:Tok):(mixKind prog w).is (.inl i) (.int i t)=true:=keyIs_int i t
theorem mixKind_str (prog:Program) (w:World) (x:Str) (t:Tok):(mixKind prog w).is (.inr x) (.str x t)=true:=keyIs_str x t
end L2
namespace L2
open PySem PySem.Spec PyProof.Rows
inductive V where
  | non | bl (b:Bool) | int (i:Int) | str (x:Str) | byt (b:Array UInt8) | flt (b:UInt64) | ref (a:Addr) | ty (n:String)
  deriving DecidableEq
def RelV:V→Value→Prop
  | .non,u=>u=Value.none
  | .bl b,u=>u=Value.bool b
  | .int i,u=>∃ t,u=Value.int i t
  | .str x,u=>∃ t,u=Value.str x t
  | .byt b,u=>∃ t,u=Value.bytes b t
  | .flt b,u=>∃ t,u=Value.float b t
  | .ref a,u=>u=Value.ref a
  | .ty n,u=>u=Value.type n
abbrev Vals:List V→List Value→Prop:=Paired RelV
theorem Vals.length {xs:List V} {us:List Value} (r:Vals xs us):xs.length=us.length:=Paired.length r
theorem Vals.get:∀ {xs:List V} {us:List Value} {i:Nat} {x:V},Vals xs us→xs[i]?=some x→∃ u,us[i]?=some u∧RelV x u
  | _,_,_,_,.nil,e=>by simp at e
  | _,_,0,_,.cons r _,e=>by simp at e;subst e;exact ⟨_,rfl,r⟩
  | _,_,i+1,x,.cons _ t,e=>by
    obtain ⟨u,h1,h2⟩:=Vals.get (i:=i) (x:=x) t (by simpa using e)
    exact ⟨u,by simpa using h1,h2⟩
theorem Vals.set {x:V} {u:Value} (r:RelV x u):∀ {xs:List V} {us:List Value} (i:Nat),Vals xs us→Vals (xs.set i x) (us.set i u)
  | _,_,_,.nil=>.nil
  | _,_,0,.cons _ t=>.cons r t
  | _,_,i+1,.cons q t=>.cons q (Vals.set r i t)
theorem Vals.append:∀ {xs ys:List V} {us ws:List Value},Vals xs us→Vals ys ws→Vals (xs++ys) (us++ws)
  | _,_,_,_,.nil,s=>s
  | _,_,_,_,.cons r t,s=>.cons r (Vals.append t s)
theorem Vals.take:∀ {xs:List V} {us:List Value} (n:Nat),Vals xs us→Vals (xs.take n) (us.take n)
  | _,_,0,_=>.nil
  | _,_,_+1,.nil=>.nil
  | _,_,n+1,.cons r t=>.cons r (Vals.take n t)
theorem Vals.drop:∀ {xs:List V} {us:List Value} (n:Nat),Vals xs us→Vals (xs.drop n) (us.drop n)
  | _,_,0,r=>r
  | _,_,_+1,.nil=>.nil
  | _,_,n+1,.cons _ t=>Vals.drop n t
def RelO:Option V→Option Value→Prop
  | some v,some u=>RelV v u
  | none,none=>True
  | _,_=>False
def KV {κ:Type}:List (κ × V)→List (κ × Value)→Prop:=Paired fun (p:κ × V) (q:κ × Value)=>p.1=q.1∧RelV p.2 q.2
def kV:Key→V
  | .inl i=>.int i
  | .inr x=>.str x
inductive HO where
    | lst (xs:List V)
    | tup (xs:List V)
    | dK (kvs:List (Key × V)) | dT (kvs:List (List Key × V))
    | set (S:Int→Bool) (n:Nat)
    | ins (C dx:Addr) (fs:List (Str × V))
    | own (x:Addr)
    | xd (fs:List (Str × V))
    | met (f x:Addr)
    | rng (lo hi:Int)
    | frz (o:Obj) (u:HO)
    | tbl (ps:Array Value)
    | ext (φ:Heap→Prop)
abbrev Hp:=Addr→Option HO
def upd (H:Hp) (a:Addr) (o:HO):Hp:=fun b=>if b=a then some o else H b
theorem upd_same {H:Hp} {a:Addr} {o:HO}:upd H a o a=some o:=by unfold upd;rw [if_pos rfl]
theorem upd_ne {H:Hp} {a b:Addr} {o:HO} (h:b≠a):upd H a o b=H b:=by unfold upd;rw [if_neg h]
theorem upd_upd {H:Hp} {a:Addr} {o u:HO}:upd (upd H a o) a u=upd H a u:=by
  funext b;unfold upd;split <;> rfl
theorem ne_of {H:Hp} {a b:Addr} {o u:HO} (h:H a=some o) (h':H b=some u) (d:o≠u):a≠b:=by
  intro e;subst e;rw [h] at h';exact d (Option.some.inj h')
theorem ne_of_none {H:Hp} {a b:Addr} {o:HO} (h:H a=some o) (h':H b=none):a≠b:=by
  intro e;subst e;rw [h] at h';cases h'
section
variable (P:Program) (w:World)
def ObjOk (H:Hp) (h:Heap) (a:Addr):HO→Prop
  | .lst xs=>xs.length≤sizeLine∧∃ (its:List Value) (n:Nat),Vals xs its∧h.get? a=some { cls:=.type "list",data:=.seq its.toArray n }
  | .tup xs=>xs.length≤sizeLine∧∃ its:List Value,Vals xs its∧IsTup h a its.toArray
  | .dK kvs=>kvs.length≤sizeLine∧(a == sysModules)=false∧∃ vs,KV kvs vs∧h.DictOf (mixKind P w) a vs
  | .dT kvs=>kvs.length≤sizeLine∧(a == sysModules)=false∧∃ xs:List (List Key × Addr × Value),
      Paired (fun (p:List Key × V) (q:List Key × Addr × Value)=>p.1=q.1∧H q.2.1=some (.tup (p.1.map kV))∧RelV p.2 q.2.2) kvs xs ∧
      ∃ o es ep,h.get? a=some o∧o.ExactDict∧o.data=.dict es ep∧es.toList=xs.map (entryOfKey (tupleKind (mixKind P w)))∧(xs.map (·.1)).Nodup
  | .set S n=>h.SetOf (intKind P w) a S n
  | .ins C dx fs=>H dx=some (.own a)∧fs.length≤1000∧dx≠a∧h.get? a=some (PySem.W.instObj C dx) ∧
      ∃ mA,h.Ns1 dx mA∧(∀ f,RelO (fs.lookup f) (mA f))∧PySem.Within mA (fs.map (·.1))
  | .own _=>∃ o,h.get? a=some o
  | .xd fs=>∃ mA,h.Ns1 a mA∧∀ f,RelO (fs.lookup f) (mA f)
  | .rng lo hi=>∃ t u v,h.get? a=some { cls:=.type "range",data:=.fields #[.int lo t,.int hi u,.int 1 v] }
  | .frz o u=>h.get? a=some o∧ObjOk H h a u
  | .tbl ps=>h.get? a=some { cls:=.none,data:=.fields ps }
  | .met f x=>h.get? a=some (PySem.W.methodObj (.ref f) (.ref x))
  | .ext φ=>φ h∧(∃ o,h.get? a=some o)∧∀ h1 h2:Heap,φ h1→(∀ o,h1.get? a=some o→h2.get? a=some o)→φ h2
def HOk (H:Hp) (h:Heap):Prop:=∀ a o,H a=some o→ObjOk P w H h a o
end
section
variable {P:Program} {w:World} {H H':Hp} {h h':Heap} {a:Addr} {o:HO}
theorem ObjOk.lt (x:ObjOk P w H h a o):a < h.objs.size:=by
  cases o with
  | lst xs=>obtain ⟨_,_,_,_,e⟩:=x;exact Heap.lt_size e
  | tup xs=>obtain ⟨_,_,_,p⟩:=x;exact p.lt
  | dK kvs=>obtain ⟨_,_,_,_,o,_,_,e,_⟩:=x;exact Heap.lt_size e
  | dT kvs=>obtain ⟨_,_,_,_,o,_,_,e,_⟩:=x;exact Heap.lt_size e
  | set S n=>obtain ⟨o,_,_,_,e,_⟩:=x;exact Heap.lt_size e
  | ins C dx fs=>obtain ⟨_,_,_,e,_⟩:=x;exact Heap.lt_size e
  | own y=>obtain ⟨_,e⟩:=x;exact Heap.lt_size e
  | xd fs=>obtain ⟨_,⟨_,_,_,e,_⟩,_⟩:=x;exact Heap.lt_size e
  | rng lo hi=>obtain ⟨_,_,_,e⟩:=x;exact Heap.lt_size e
  | frz ob u=>obtain ⟨e,_⟩:=x;exact Heap.lt_size e
  | tbl ps=>exact Heap.lt_size (show h.get? a=some _ from x)
  | met f y=>exact Heap.lt_size (show h.get? a=some _ from x)
  | ext φ=>obtain ⟨_,⟨_,e⟩,_⟩:=x;exact Heap.lt_size e
theorem Paired.mapP {α β:Type} {F G:α→β→Prop}:∀ {l₁:List α} {l₂:List β},Paired F l₁ l₂→(∀ a b,F a b→G a b)→Paired G l₁ l₂
  | _,_,.nil,_=>.nil
  | _,_,.cons r t,f=>.cons (f _ _ r) (Paired.mapP t f)
theorem ObjOk.stay (x:ObjOk P w H h a o) (k:∀ b u,(b=a∨H b=some (.own a))→h.get? b=some u→h'.get? b=some u)
    (ho:∀ b,H b=some (.own a)→H' b=some (.own a)) (ht:∀ b xs,H b=some (.tup xs)→H' b=some (.tup xs)):ObjOk P w H' h' a o:=by
  induction o with
  | lst xs=>obtain ⟨z,its,n,r,e⟩:=x;exact ⟨z,its,n,r,k _ _ (.inl rfl) e⟩
  | tup xs=>obtain ⟨z,its,r,ob,e,c⟩:=x;exact ⟨z,its,r,ob,k _ _ (.inl rfl) e,c⟩
  | dK kvs=>obtain ⟨z,y,vs,r,ob,es,ep,e,c⟩:=x;exact ⟨z,y,vs,r,ob,es,ep,k _ _ (.inl rfl) e,c⟩
  | dT kvs =>
    obtain ⟨z,y,xs,r,ob,es,ep,e,c⟩:=x
    exact ⟨z,y,xs,Paired.mapP r fun p q z=>⟨z.1,ht _ _ z.2.1,z.2.2⟩,ob,es,ep,k _ _ (.inl rfl) e,c⟩
  | set S n=>obtain ⟨ob,es,ep,t,e,c⟩:=x;exact ⟨ob,es,ep,t,k _ _ (.inl rfl) e,c⟩
  | ins C dx fs =>
    obtain ⟨d,z,ne,e,mA,⟨od,es,ep,e2,c⟩,r⟩:=x
    exact ⟨ho _ d,z,ne,k _ _ (.inl rfl) e,mA,⟨od,es,ep,k _ _ (.inr d) e2,c⟩,r⟩
  | own y=>obtain ⟨ob,e⟩:=x;exact ⟨ob,k _ _ (.inl rfl) e⟩
  | xd fs=>obtain ⟨mA,⟨od,es,ep,e,c⟩,r⟩:=x;exact ⟨mA,⟨od,es,ep,k _ _ (.inl rfl) e,c⟩,r⟩
  | rng lo hi=>obtain ⟨t,u,v,e⟩:=x;exact ⟨t,u,v,k _ _ (.inl rfl) e⟩
  | frz ob u ih=>obtain ⟨e,q⟩:=x;exact ⟨k _ _ (.inl rfl) e,ih q⟩
  | tbl ps =>
    have e:h.get? a=some { cls:=.none,data:=.fields ps }:=x
    show h'.get? a=some { cls:=.none,data:=.fields ps }
    exact k a _ (.inl rfl) e
  | met f y =>
    have e:h.get? a=some (PySem.W.methodObj (.ref f) (.ref y)):=x
    show h'.get? a=some (PySem.W.methodObj (.ref f) (.ref y))
    exact k a _ (.inl rfl) e
  | ext φ=>obtain ⟨p,⟨o,e⟩,st⟩:=x;exact ⟨st _ _ p fun o q=>k _ _ (.inl rfl) q,⟨o,k _ _ (.inl rfl) e⟩,st⟩
theorem HOk.lt (x:HOk P w H h) (e:H a=some o):a < h.objs.size:=(x a o e).lt
theorem HOk.fresh (x:HOk P w H h) (e:h.objs.size≤a):H a=none:=by
  cases q:H a with
  | none=>rfl
  | some u=>exact absurd (Nat.lt_of_lt_of_le (x.lt q) e) (Nat.lt_irrefl _)
theorem HOk.kept (x:HOk P w H h) (k:∀ b u,h.get? b=some u→h'.get? b=some u):HOk P w H h':=fun a o e =>
  (x a o e).stay (fun b u _ q=>k b u q) (fun _ q=>q) fun _ _ q=>q
theorem HOk.laid (x:HOk P w H h) (k:∀ b u,h.get? b=some u→h'.get? b=some u) (hp:h.objs.size≤a) (new:ObjOk P w (upd H a o) h' a o):HOk P w (upd H a o) h':=fun b u e=>by
  have hn:=x.fresh hp
  by_cases hb:b=a
  · subst hb;rw [upd_same] at e;cases e;exact new
  · rw [upd_ne hb] at e
    exact (x b u e).stay (fun c v _ q=>k c v q) (fun c q=>by rw [upd_ne (ne_of_none q hn)];exact q) fun c xs q=>by rw [upd_ne (ne_of_none q hn)];exact q
end
def Rd (H:Hp) (a:Addr) (u:HO):Prop:=H a=some u∨∃ o,H a=some (.frz o u)
theorem Rd.ok {P:Program} {w:World} {H:Hp} {h:Heap} {a:Addr} {u:HO} (r:Rd H a u) (x:HOk P w H h):ObjOk P w H h a u:=by
  rcases r with r | ⟨o,r⟩
  · exact x a u r
  · obtain ⟨_,q⟩:=x a _ r
    exact q
def Mut:Option HO→Prop
  | some (.lst _)=>True
  | some (.dK _)=>True
  | some (.dT _)=>True
  | some (.set _ _)=>True
  | some (.ins _ _ _)=>True
  | some (.ext _)=>True
  | _=>False
section
variable {P:Program} {w:World} {H:Hp} {h h':Heap} {x e:Addr} {o':HO}
theorem HOk.write (ok:HOk P w H h) (mu:Mut (H x)) (he:e=x∨H e=some (.own x)) (k:∀ b u,b≠e→h.get? b=some u→h'.get? b=some u) (heo:∃ u,h'.get? e=some u)
    (new:ObjOk P w (upd H x o') h' x o'):HOk P w (upd H x o') h':=fun b u q=>by
  have nown:∀ c y,H c=some (.own y)→c≠x:=fun c y r z=>by subst z;rw [r] at mu;exact mu
  have ntup:∀ c xs,H c=some (.tup xs)→c≠x:=fun c xs r z=>by subst z;rw [r] at mu;exact mu
  by_cases hb:b=x
  · subst hb;rw [upd_same] at q;cases q;exact new
  · rw [upd_ne hb] at q
    by_cases hbe:b=e
    · have q':H b=some (.own x):=by
        rcases he with z | z
        · exact absurd (hbe.trans z) hb
        · rw [hbe];exact z
      rw [q] at q';cases q'
      obtain ⟨v,hv⟩:=heo
      exact ⟨v,by rw [hbe];exact hv⟩
    · refine (ok b u q).stay (fun c v hc r=>k c v ?_ r) (fun c r=>by rw [upd_ne (nown c b r)];exact r) fun c xs r=>by rw [upd_ne (ntup c xs r)];exact r
      rcases hc with rfl | hc
      · exact hbe
      · rintro rfl
        rcases he with z | z
        · exact nown c b hc z
        · rw [hc] at z;cases z;exact hb rfl
end
structure Un (fs ex:List Addr) (H H':Hp) (h h':Heap):Prop where
  keep:∀ b o,h.get? b=some o→H b=none→b ∉ fs→b ∉ ex→h'.get? b=some o
  slot:∀ b o,h.get? b=some o→H b=none→b ∈ fs→b ∉ ex→∃ sl,h'.get? b=some { o with slots:=sl }
  free:∀ b o,h.get? b=some o→H b=none→b ∉ ex→H' b=none
  there:∀ b o,h.get? b=some o→b ∉ ex→∃ o',h'.get? b=some o'
  tups:∀ b xs,H b=some (.tup xs)→H' b=some (.tup xs)
  frzs:∀ b o u,H b=some (.frz o u)→H' b=some (.frz o u)
  tbls:∀ b ps,H b=some (.tbl ps)→∃ more,H' b=some (.tbl (ps++more))
section
variable {fs fs' ex ex':List Addr} {H H1 H2:Hp} {h h1 h2 h':Heap} {a x e:Addr} {o:HO}
theorem Un.any (u:Un fs ex H H1 h h1) {b:Addr} {ob:Obj} (q:h.get? b=some ob) (n:H b=none) (hx:b ∉ ex):∃ sl,h1.get? b=some { ob with slots:=sl }:=by
  by_cases hb:b ∈ fs
  · exact u.slot b ob q n hb hx
  · exact ⟨ob.slots,u.keep b ob q n hb hx⟩
theorem Un.kept (k:∀ b u,h.get? b=some u→h'.get? b=some u):Un fs ex H H h h' :=
  ⟨fun b ob q _ _ _=>k b ob q,fun b ob q _ _ _=>⟨ob.slots,k b ob q⟩,fun _ _ _ n _=>n,fun b ob q _=>⟨ob,k b ob q⟩,fun _ _ q=>q,fun _ _ _ q=>q,fun _ ps q=>⟨#[],by rw [q];simp⟩⟩
theorem Un.refl:Un fs ex H H h h:=Un.kept fun _ _ q=>q
theorem Un.laid (k:∀ b u,h.get? b=some u→h'.get? b=some u) (hp:h.objs.size≤a) (hn:H a=none):Un fs ex H (upd H a o) h h' where
  keep:=fun b u q _ _ _=>k b u q
  slot:=fun b u q _ _ _=>⟨u.slots,k b u q⟩
  free:=fun b u q n _=>by rw [upd_ne (Nat.ne_of_lt (Nat.lt_of_lt_of_le (Heap.lt_size q) hp))];exact n
  there:=fun b u q _=>⟨u,k b u q⟩
  tups:=fun b xs q=>by rw [upd_ne (ne_of_none q hn)];exact q
  frzs:=fun b u xs q=>by rw [upd_ne (ne_of_none q hn)];exact q
  tbls:=fun b ps q=>⟨#[],by rw [upd_ne (ne_of_none q hn),q];simp⟩
theorem Un.write (mu:Mut (H x)) (he:e=x∨H e=some (.own x)) (k:∀ b u,b≠e→h.get? b=some u→h'.get? b=some u) (heo:∃ u,h'.get? e=some u):Un fs ex H (upd H x o) h h':=by
  have hx:∀ b,H b=none→b≠x:=fun b n z=>by subst z;rw [n] at mu;exact mu
  have hb:∀ b,H b=none→b≠e:=fun b n z=>by
    subst z
    rcases he with r | r
    · exact hx b n r
    · rw [n] at r;cases r
  have hm:∀ b u,H b=some u→¬ Mut (some u)→b≠x:=fun b u q nm z=>by subst z;rw [q] at mu;exact nm mu
  refine ⟨fun b u q n _ _=>k b u (hb b n) q,fun b u q n _ _=>⟨u.slots,k b u (hb b n) q⟩,fun b u q n _=>by rw [upd_ne (hx b n)];exact n,fun b u q _=>?_,
    fun b xs q=>by rw [upd_ne (hm b _ q fun z=>z)];exact q,fun b u xs q=>by rw [upd_ne (hm b _ q fun z=>z)];exact q,fun b ps q=>⟨#[],by rw [upd_ne (hm b _ q fun z=>z),q];simp⟩⟩
  by_cases hbe:b=e
  · subst hbe;exact heo
  · exact ⟨u,k b u hbe q⟩
end
def trk (h:Heap) (H:Hp):List Addr:=(List.range h.objs.size).filter fun a=>(H a).isSome
def hidT (h:Heap) (H:Hp):Heap:=PySem.W.hideAll h (trk h H)
theorem hidT_size (h:Heap) (H:Hp):(hidT h H).objs.size=h.objs.size:=PySem.W.hideAll_size _ _
theorem hidT_get {h:Heap} {H:Hp} {b:Addr} {o:Obj} (e:h.get? b=some o) (n:H b=none):(hidT h H).get? b=some o :=
  PySem.W.hideAll_get _ e fun hm=>by
    have q:(H b).isSome=true:=(List.mem_filter.mp hm).2
    rw [n] at q;simp at q
theorem of_hidT {h:Heap} {H:Hp} {b:Addr} {o:Obj} (e:(hidT h H).get? b=some o):h.get? b=some o∧H b=none:=by
  have e':h.get? b=some o:=PySem.W.of_hideAll (trk h H) e
  refine ⟨e',?_⟩
  cases q:H b with
  | none=>rfl
  | some x =>
    have hm:b ∈ trk h H:=List.mem_filter.mpr ⟨List.mem_range.mpr (Heap.lt_size e'),by simp [q]⟩
    have z:(hidT h H).get? b=none:=PySem.W.hideAll_none (trk h H) hm
    rw [z] at e;cases e
end L2
namespace L2
open PySem PySem.Spec PyProof.Rows
structure Mod (K:PySem.W.Frag) (mg:Str→Option Value) (base:Heap):Prop where
  kin:K.In base
  glob:base.Ns mainGlobals mg
  blt:∃ mb,base.Ns builtinsNs mb∧∀ x:Str,x≠"__name__"→mb x=bootBuiltins x
  nolimit:base.NoLimit
structure Cx where
  prog:Program
  w:World
  K:PySem.W.Frag
  mg:Str→Option Value
  base:Heap
  A:Around
  N:List Str
  s₀:Shared
  H₀:Hp
  env:Env
  outer:List Env
  stack:List Env
  ex:List Addr
  fn:Str→Bool
  calm:Bool
  pn:List (Addr × Obj)
  xe:Value→Shared→Prop
def frs (l:List Env):List Addr:=l.filterMap (·.frame)
abbrev Cx.fs (X:Cx):List Addr:=frs X.outer
def Vis (sc:Scope) (x:Str):Prop:=sc.names.lookup x=some .local∨sc.names.lookup x=some .cell∨sc.names.lookup x=some .free
def Loc (sc:Scope) (x:Str):Prop:=sc.names.lookup x=some .local∨sc.names.lookup x=some .cell
def Look (env:Env) (h:Heap) (m:Str→Option Value) (x:Str) (u:Value):Prop :=
  (env.kindOf x=some .local∧m x=some u)∨((env.kindOf x=some .cell∨env.kindOf x=some .free)∧∃ c,env.cells.lookup x=some c∧h.IsCell c (some u))
structure Cx.Ok (X:Cx):Prop where
  mod:Mod X.K X.mg X.base
  kind:X.env.scope.kind=.function
  glob:X.env.globals=mainGlobals
  blt:X.env.builtins=builtinsNs
  above:X.s₀.heap.objs.size≤X.env.locals
  inj:∀ x y c,X.env.cells.lookup x=some c→X.env.cells.lookup y=some c→x=y
  has:∀ x,(X.env.kindOf x=some .cell∨X.env.kindOf x=some .free)→∃ c,X.env.cells.lookup x=some c
  cab:∀ x c,X.fn x=true→X.env.cells.lookup x=some c→X.s₀.heap.objs.size≤c
  hd:X.calm=true→X.A.handled=none
  frames:X.A.frames=some X.stack
  stk:X.stack=X.outer∨(X.stack=X.env :: X.outer∧X.env.frame=some X.env.locals)
  exf:∀ b ∈ X.ex,b≠X.env.locals∧∀ x c,X.env.cells.lookup x=some c→c≠b
  bs:∀ b o,X.base.get? b=some o→X.s₀.heap.get? b=some o∧X.H₀ b=none
  bsz:X.base.objs.size≤X.s₀.heap.objs.size
  noex:∀ b o,X.base.get? b=some o→b ∉ X.ex
  exfs:∀ b ∈ X.ex,b ∉ X.fs
  funs:X.s₀.heap.FunFrames X.base X.outer
  frf:∀ b ∈ X.fs,X.H₀ b=none
structure Inv (X:Cx) (pins:List (Addr × Obj)) (σ:List (Option V)) (H:Hp) (s:Shared):Prop where
  ok:X.Ok
  os:s.os=X.s₀.os
  bare:AllBare s.gens
  base:Un X.fs X.ex X.H₀ H X.s₀.heap s.heap
  loc:∃ m,s.heap.Ns X.env.locals m∧∀ (i:Nat) (x:Str) (v:V),X.N[i]?=some x→σ[i]?=some (some v)→Vis X.env.scope x→∃ u,RelV v u∧Look X.env s.heap m x u
  cell:∀ x c,X.env.cells.lookup x=some c→∃ v,s.heap.IsCell c v
  free:H X.env.locals=none
  freeC:∀ x c,X.env.cells.lookup x=some c→H c=none
  pin:∀ p ∈ X.pn++pins,s.heap.get? p.1=some p.2∧H p.1=none∧p.1≠X.env.locals∧p.1 ∉ X.fs∧∀ v,p.2.data≠.cell v
  hok:HOk X.prog X.w H s.heap
  len:σ.length=X.N.length
section
variable {X:Cx} {pins:List (Addr × Obj)} {σ:List (Option V)} {H H':Hp} {s:Shared} {h':Heap}
theorem Cx.Ok.nofr (ok:X.Ok) {b:Addr} {o:Obj} (e:X.base.get? b=some o):b ∉ X.fs:=fun hb=>by
  have:=(ok.funs.mem hb).1
  rw [e] at this;cases this
theorem Inv.bs (I:Inv X pins σ H s):∀ b o,X.base.get? b=some o→s.heap.get? b=some o∧H b=none:=fun b o e =>
  ⟨I.base.keep b o (I.ok.bs b o e).1 (I.ok.bs b o e).2 (I.ok.nofr e) (I.ok.noex b o e),I.base.free b o (I.ok.bs b o e).1 (I.ok.bs b o e).2 (I.ok.noex b o e)⟩
theorem Inv.bk (I:Inv X pins σ H s):∀ b o,X.base.get? b=some o→s.heap.get? b=some o:=fun b o e=>(I.bs b o e).1
theorem Inv.mod (I:Inv X pins σ H s):Mod X.K X.mg X.base:=I.ok.mod
theorem Inv.kIn (I:Inv X pins σ H s):X.K.In s.heap:=I.ok.mod.kin.keeps I.bk
theorem Inv.lt (I:Inv X pins σ H s):X.env.locals < s.heap.objs.size:=let ⟨_,hn,_⟩:=I.loc;hn.lt
theorem Inv.sz (I:Inv X pins σ H s):X.s₀.heap.objs.size≤s.heap.objs.size:=Nat.le_trans I.ok.above (Nat.le_of_lt I.lt)
theorem Inv.nofs (I:Inv X pins σ H s) {a:Addr} (h:s.heap.objs.size≤a):a ∉ X.fs:=fun hb=>by
  obtain ⟨_,o,ho,_⟩:=I.ok.funs.mem hb
  exact absurd (Nat.lt_of_lt_of_le (Heap.lt_size ho) (Nat.le_trans I.sz h)) (Nat.lt_irrefl _)
theorem Inv.cne (I:Inv X pins σ H s):∀ x c,X.env.cells.lookup x=some c→c≠X.env.locals:=fun x c e z=>by
  obtain ⟨v,o,ho,hd⟩:=I.cell x c e
  obtain ⟨m,⟨o',es,ep,ho',hd',_⟩,_⟩:=I.loc
  rw [z,ho'] at ho;cases ho;rw [hd'] at hd;cases hd
theorem Inv.funs (I:Inv X pins σ H s):s.heap.FunFrames X.base X.outer:=by
  have all:∀ (l:List Env),(∀ b ∈ frs l,b ∈ X.fs)→X.s₀.heap.FunFrames X.base l→s.heap.FunFrames X.base l:=by
    intro l
    induction l with
    | nil=>intro _ _;trivial
    | cons env r ih =>
      intro hs hl
      obtain ⟨hk,⟨L,o,hf,hn,ho,hd⟩,hr⟩:=hl
      have hL:L ∈ X.fs:=hs L (by unfold frs;rw [List.filterMap_cons,hf];exact List.mem_cons_self)
      obtain ⟨sl,e⟩:=I.base.slot L o ho (I.ok.frf L hL) hL fun z=>I.ok.exfs L z hL
      exact ⟨hk,⟨L,_,hf,hn,e,hd⟩,ih (fun b hb=>hs b (by unfold frs;rw [List.filterMap_cons,hf];exact List.mem_cons_of_mem _ hb)) hr⟩
  exact all X.outer (fun _ hb=>hb) I.ok.funs
theorem Inv.stack (I:Inv X pins σ H s):s.heap.FunFrames X.base X.stack:=by
  rcases I.ok.stk with e | ⟨e,hf⟩
  · rw [e];exact I.funs
  · rw [e]
    obtain ⟨m,hn,_⟩:=I.loc
    refine .cons (by rw [I.ok.kind];decide) hf hn ?_ I.funs
    exact Heap.get?_none_of_le (Nat.le_trans I.ok.bsz I.ok.above)
theorem Inv.stkSub (I:Inv X pins σ H s):∀ b ∈ frs X.stack,b ∈ X.env.locals :: X.fs:=fun b hb=>by
  rcases I.ok.stk with e | ⟨e,hf⟩
  · rw [e] at hb;exact List.mem_cons_of_mem _ hb
  · rw [e] at hb
    unfold frs at hb
    rw [List.filterMap_cons,hf] at hb
    exact hb
theorem Inv.stkFree (I:Inv X pins σ H s):∀ b ∈ frs X.stack,H b=none:=fun b hb=>by
  rcases List.mem_cons.mp (I.stkSub b hb) with e | hb
  · rw [e];exact I.free
  · obtain ⟨_,o,ho,_⟩:=I.ok.funs.mem hb
    exact I.base.free b o ho (I.ok.frf b hb) fun z=>I.ok.exfs b z hb
theorem Inv.step {g':Array GenState} {t':Nat} {d':Drawn} {ch:List Addr} (I:Inv X pins σ H s)
    (hch:∀ b ∈ ch,(b ∈ X.ex∨X.s₀.heap.objs.size≤b)∧b≠X.env.locals∧(∀ x c,X.env.cells.lookup x=some c→c≠b)∧∀ p ∈ X.pn++pins,p.1≠b)
    (keep:∀ b o,b≠X.env.locals→b ∉ X.fs→b ∉ ch→s.heap.get? b=some o→H b=none→h'.get? b=some o)
    (slot:∀ b o,b≠X.env.locals→b ∈ X.fs→b ∉ ch→s.heap.get? b=some o→H b=none→∃ sl,h'.get? b=some { o with slots:=sl }) (free:∀ b o,b ∉ ch→s.heap.get? b=some o→H b=none→H' b=none)
    (there:∀ b o,b ∉ ch→s.heap.get? b=some o→∃ o',h'.get? b=some o')
    (tups:∀ b xs,H b=some (.tup xs)→H' b=some (.tup xs)) (frzs:∀ b o u,H b=some (.frz o u)→H' b=some (.frz o u)) (tbls:∀ b ps,H b=some (.tbl ps)→∃ more,H' b=some (.tbl (ps++more)))
    (ns:∀ m,s.heap.Ns X.env.locals m→h'.Ns X.env.locals m) (hok:HOk X.prog X.w H' h') (hg:AllBare g') :
    Inv X pins σ H' { s with heap:=h',gens:=g',drawn:=d',toks:=t' }:=by
  have neL:∀ b o,X.s₀.heap.get? b=some o→b≠X.env.locals:=fun b o e=>Nat.ne_of_lt (Nat.lt_of_lt_of_le (Heap.lt_size e) I.ok.above)
  have neC:∀ b o,X.s₀.heap.get? b=some o→b ∉ X.ex→b ∉ ch:=fun b o e hx hb=>by
    rcases (hch b hb).1 with z | z
    · exact hx z
    · exact absurd (Nat.lt_of_lt_of_le (Heap.lt_size e) z) (Nat.lt_irrefl _)
  have cellK:∀ x c,X.env.cells.lookup x=some c→∀ v,s.heap.IsCell c v→h'.IsCell c v:=fun x c e v ⟨o,ho,hd⟩=>by
    have nch:c ∉ ch:=fun z=>(hch c z).2.2.1 x c e rfl
    by_cases hc:c ∈ X.fs
    · obtain ⟨sl,q⟩:=slot c o (I.cne x c e) hc nch ho (I.freeC x c e)
      exact ⟨_,q,hd⟩
    · exact ⟨o,keep c o (I.cne x c e) hc nch ho (I.freeC x c e),hd⟩
  refine ⟨I.ok,I.os,hg,⟨fun b o e n hb hx=>?_,fun b o e n hb hx=>?_,fun b o e n hx=>?_,fun b o e hx=>?_,fun b xs e=>tups b xs (I.base.tups b xs e),fun b o xs e=>frzs b o xs (I.base.frzs b o xs e),fun b ps e=>?_⟩,?_,fun x c e=>?_,?_,fun x c e=>?_,fun p hp=>?_,hok,I.len⟩
  · exact keep b o (neL b o e) hb (neC b o e hx) (I.base.keep b o e n hb hx) (I.base.free b o e n hx)
  · obtain ⟨sl,e1⟩:=I.base.slot b o e n hb hx
    obtain ⟨sl',e2⟩:=slot b _ (neL b o e) hb (neC b o e hx) e1 (I.base.free b o e n hx)
    exact ⟨sl',e2⟩
  · obtain ⟨o',e1⟩:=I.base.there b o e hx
    exact free b o' (neC b o e hx) e1 (I.base.free b o e n hx)
  · obtain ⟨o',e1⟩:=I.base.there b o e hx
    exact there b o' (neC b o e hx) e1
  · obtain ⟨m1,e1⟩:=I.base.tbls b ps e
    obtain ⟨m2,e2⟩:=tbls b _ e1
    exact ⟨m1++m2,by rw [e2,Array.append_assoc]⟩
  · obtain ⟨m,hn,hl⟩:=I.loc
    refine ⟨m,ns m hn,fun i x v e1 e2 e3=>?_⟩
    obtain ⟨u,r,l⟩:=hl i x v e1 e2 e3
    refine ⟨u,r,?_⟩
    rcases l with l | ⟨k,c,e,z⟩
    · exact .inl l
    · exact .inr ⟨k,c,e,cellK x c e _ z⟩
  · obtain ⟨v,z⟩:=I.cell x c e
    exact ⟨v,cellK x c e v z⟩
  · obtain ⟨m,⟨o,_,_,ho,_⟩,_⟩:=I.loc
    exact free _ o (fun z=>(hch _ z).2.1 rfl) ho I.free
  · obtain ⟨v,o,ho,hd⟩:=I.cell x c e
    exact free c o (fun z=>(hch c z).2.2.1 x c e rfl) ho (I.freeC x c e)
  · obtain ⟨e,n,ne,nf,d⟩:=I.pin p hp
    have nch:p.1 ∉ ch:=fun z=>(hch p.1 z).2.2.2 p hp rfl
    exact ⟨keep p.1 p.2 ne nf nch e n,free p.1 p.2 nch e n,ne,nf,d⟩
theorem Inv.un {t':Nat} (I:Inv X pins σ H s) (u:Un X.fs [] H H' s.heap h') (hok:HOk X.prog X.w H' h'):Inv X pins σ H' { s with heap:=h',toks:=t' }:=by
  obtain ⟨m,⟨o,es,ep,ho,r⟩,_⟩:=id I.loc
  obtain ⟨sl,hL⟩:=u.any ho I.free (by simp)
  exact I.step (g':=s.gens) (d':=s.drawn) (ch:=[]) (fun _ z=>nomatch z) (fun b o _ hb _ e n=>u.keep b o e n hb (by simp)) (fun b o _ hb _ e n=>u.slot b o e n hb (by simp)) (fun b o _ e n=>u.free b o e n (by simp)) (fun b o _ e=>u.there b o e (by simp)) u.tups u.frzs u.tbls (fun m' hm=>by
    obtain ⟨o',es',ep',ho',r'⟩:=hm
    rw [ho] at ho';cases ho'
    exact ⟨_,es',ep',hL,r'⟩) hok I.bare
theorem Inv.call {g':Array GenState} {t':Nat} {d':Drawn} {ch:List Addr} (I:Inv X pins σ H s) (u:Un (frs X.stack) ch H H' s.heap h') (hok:HOk X.prog X.w H' h') (hg:AllBare g')
    (hch:∀ b ∈ ch,(b ∈ X.ex∨X.s₀.heap.objs.size≤b)∧b≠X.env.locals∧(∀ x c,X.env.cells.lookup x=some c→c≠b)∧∀ p ∈ X.pn++pins,p.1≠b) :
    Inv X pins σ H' { s with heap:=h',gens:=g',drawn:=d',toks:=t' }:=by
  obtain ⟨m,⟨o,es,ep,ho,r⟩,_⟩:=id I.loc
  obtain ⟨sl,hL⟩:=u.any ho I.free fun z=>(hch _ z).2.1 rfl
  exact I.step (ch:=ch) hch (fun b o hL hb hc e n=>u.keep b o e n (fun z=>(List.mem_cons.mp (I.stkSub b z)).elim hL hb) hc) (fun b o _ _ hc e n=>u.any e n hc) (fun b o hc e n=>u.free b o e n hc) (fun b o hc e=>u.there b o e hc) u.tups u.frzs u.tbls (fun m' hm=>by
    obtain ⟨o',es',ep',ho',r'⟩:=hm
    rw [ho] at ho';cases ho'
    exact ⟨_,es',ep',hL,r'⟩) hok hg
theorem Inv.turned {t':Nat} {it:Addr} (I:Inv X pins σ H s) (k:∀ b o,b≠it→s.heap.get? b=some o→h'.get? b=some o) (hn:H it=none) (hL:it≠X.env.locals)
    (h1:it ∈ X.ex∨X.s₀.heap.objs.size≤it) (h2:∀ x c,X.env.cells.lookup x=some c→c≠it) (h3:∀ p ∈ X.pn++pins,p.1≠it):Inv X pins σ H { s with heap:=h',toks:=t' }:=by
  have nit:∀ b u,H b=some u→b≠it:=fun b u e z=>by rw [z,hn] at e;cases e
  refine I.step (g':=s.gens) (d':=s.drawn) (ch:=[it]) (fun b hb=>?_) (fun b o _ _ hc e _=>k b o (fun z=>hc (by simp [z])) e) (fun b o _ _ hc e _=>⟨o.slots,k b o (fun z=>hc (by simp [z])) e⟩) (fun _ _ _ _ n=>n)
    (fun b o hc e=>⟨o,k b o (fun z=>hc (by simp [z])) e⟩) (fun _ _ e=>e) (fun _ _ _ e=>e) (fun b ps e=>⟨#[],by rw [e];simp⟩) (fun m hm=>?_) (fun b u e=>?_) I.bare
  · have e:b=it:=by simpa using hb
    subst e
    exact ⟨h1,hL,h2,h3⟩
  · obtain ⟨o,es,ep,ho,r⟩:=hm
    exact ⟨o,es,ep,k _ o (Ne.symm hL) ho,r⟩
  · refine (I.hok b u e).stay (fun c v hc q=>k c v ?_ q) (fun _ q=>q) fun _ _ q=>q
    rcases hc with z | z
    · rw [z];exact nit b u e
    · exact nit c _ z
theorem Inv.tok (I:Inv X pins σ H s) (t:Nat):Inv X pins σ H { s with toks:=t }:=I.un (h':=s.heap) (t':=t) Un.refl I.hok
theorem Inv.kept {t':Nat} (I:Inv X pins σ H s) (k:∀ b u,s.heap.get? b=some u→h'.get? b=some u):Inv X pins σ H { s with heap:=h',toks:=t' }:=I.un (Un.kept k) (I.hok.kept k)
theorem Inv.laid {a:Addr} {o:HO} {t':Nat} (I:Inv X pins σ H s) (k:∀ b u,s.heap.get? b=some u→h'.get? b=some u) (hp:s.heap.objs.size≤a) (new:ObjOk X.prog X.w (upd H a o) h' a o) :
    Inv X pins σ (upd H a o) { s with heap:=h',toks:=t' }:=I.un (Un.laid k hp (I.hok.fresh hp)) (I.hok.laid k hp new)
theorem Inv.write {x e:Addr} {o:HO} {t':Nat} (I:Inv X pins σ H s) (mu:Mut (H x)) (he:e=x∨H e=some (.own x)) (k:∀ b u,b≠e→s.heap.get? b=some u→h'.get? b=some u) (heo:∃ u,h'.get? e=some u)
    (new:ObjOk X.prog X.w (upd H x o) h' x o):Inv X pins σ (upd H x o) { s with heap:=h',toks:=t' }:=I.un (Un.write mu he k heo) (I.hok.write mu he k heo new)
theorem Inv.pins_of {pins':List (Addr × Obj)} (I:Inv X pins σ H s) (h:∀ p ∈ pins',s.heap.get? p.1=some p.2∧H p.1=none∧p.1≠X.env.locals∧p.1 ∉ X.fs∧∀ v,p.2.data≠.cell v):Inv X pins' σ H s :=
  ⟨I.ok,I.os,I.bare,I.base,I.loc,I.cell,I.free,I.freeC,fun p hp=>(List.mem_append.mp hp).elim (fun z=>I.pin p (List.mem_append_left _ z)) (h p),I.hok,I.len⟩
theorem nodup_ix {N:List Str} (hN:N.Nodup) {i j:Nat} {x:Str} (a:N[i]?=some x) (b:N[j]?=some x):i=j:=by
  obtain ⟨h1,e1⟩:=List.getElem?_eq_some_iff.mp a
  obtain ⟨h2,e2⟩:=List.getElem?_eq_some_iff.mp b
  exact (List.getElem_inj hN).mp (e1.trans e2.symm)
theorem store_ok2 {M:Model} {A:Around} {E:Value→Shared→Prop} {i:Nat} {x:Str} {v:V} {u:Value} {Q:Unit→Shared→Prop} (I:Inv X pins σ H s) (hN:X.N.Nodup) (hi:X.N[i]?=some x) (hx:Loc X.env.scope x) (r:RelV v u)
    (h:∀ s',Inv X pins (σ.set i (some v)) H s'→(∃ a,Heap.SameBut a s.heap s'.heap∧(a=X.env.locals∨X.env.cells.lookup x=some a))→Q () s') (hf:X.fn x=true∨X.env.scope.names.lookup x=some .local:=by first | exact .inl rfl | exact .inr rfl | assumption):wpAny M A (storeName X.env x u) Q E s:=by
  obtain ⟨m,hn,hl⟩:=id I.loc
  have hcls:(X.env.scope.kind == .class || (X.env.scope.kind == .module&&X.env.locals != X.env.globals))=false:=by rw [I.ok.kind];rfl
  have hiσ:i < σ.length:=by rw [I.len];exact (List.getElem?_eq_some_iff.mp hi).1
  have cne:=I.cne
  have tracked:∀ {a:Addr} {h':Heap},(∃ o,s.heap.get? a=some o∧H a=none)→Heap.SameBut a s.heap h'→HOk X.prog X.w H h':=fun {a h'} ha hs b ob e=>by
    obtain ⟨_,_,hfree⟩:=ha
    refine (I.hok b ob e).stay (fun c w' hc q=>(hs.2 c ?_).trans q) (fun _ q=>q) fun _ _ q=>q
    rintro rfl
    rcases hc with rfl | hc
    · rw [hfree] at e;cases e
    · rw [hfree] at hc;cases hc
  rcases hx with hk | hk
  · refine wpAny_storeName_local hk hn (fun h' hn' hs=>?_) hcls
    obtain ⟨oL,_,_,hoL,_⟩:=id hn
    refine h _ ⟨I.ok,I.os,I.bare,⟨fun b o e n hb hx=>?_,fun b o e n hb hx=>?_,I.base.free,fun b o e hx=>?_,I.base.tups,I.base.frzs,I.base.tbls⟩,⟨_,hn',fun j y v' e1 e2 e3=>?_⟩,fun y c e=>?_,I.free,I.freeC,fun p hp=>?_,tracked ⟨oL,hoL,I.free⟩ hs,by simpa using I.len⟩ ⟨_,hs,.inl rfl⟩
    · exact (hs.2 b (Nat.ne_of_lt (Nat.lt_of_lt_of_le (Heap.lt_size e) I.ok.above))).trans (I.base.keep b o e n hb hx)
    · obtain ⟨sl,e1⟩:=I.base.slot b o e n hb hx
      exact ⟨sl,(hs.2 b (Nat.ne_of_lt (Nat.lt_of_lt_of_le (Heap.lt_size e) I.ok.above))).trans e1⟩
    · obtain ⟨o',e1⟩:=I.base.there b o e hx
      exact ⟨o',(hs.2 b (Nat.ne_of_lt (Nat.lt_of_lt_of_le (Heap.lt_size e) I.ok.above))).trans e1⟩
    · by_cases hj:j=i
      · subst hj
        rw [hi] at e1;cases e1
        rw [List.getElem?_set_self hiσ] at e2
        cases e2
        exact ⟨u,r,.inl ⟨hk,by simp⟩⟩
      · rw [List.getElem?_set_ne (Ne.symm hj)] at e2
        obtain ⟨u',r',q⟩:=hl j y v' e1 e2 e3
        refine ⟨u',r',?_⟩
        rcases q with ⟨k,e⟩ | ⟨k,c,e,z⟩
        · refine .inl ⟨k,?_⟩
          have:y≠x:=fun e=>hj (nodup_ix hN e1 (e ▸ hi))
          simp [this,e]
        · exact .inr ⟨k,c,e,z.sameBut hs (cne y c e)⟩
    · obtain ⟨w',z⟩:=I.cell y c e
      exact ⟨w',z.sameBut hs (cne y c e)⟩
    · obtain ⟨e,n,ne,nf,d⟩:=I.pin p hp
      exact ⟨(hs.2 p.1 ne).trans e,n,ne,nf,d⟩
  · have hfn:X.fn x=true:=by
      rcases hf with z | z
      · exact z
      · rw [z] at hk;cases hk
    obtain ⟨c,hc⟩:=I.ok.has x (.inl hk)
    obtain ⟨w',z⟩:=I.cell x c hc
    refine wpAny_storeName_cell I.ok.kind hk hc z (fun h' hc' hs=>?_)
    obtain ⟨oc,hoc,hocd⟩:=id z
    refine h { s with heap:=h' } ⟨I.ok,I.os,I.bare,⟨fun b o e n hb hx=>?_,fun b o e n hb hx=>?_,I.base.free,fun b o e hx=>?_,I.base.tups,I.base.frzs,I.base.tbls⟩,⟨m,hn.sameBut hs (Ne.symm (cne x c hc)),fun j y v' e1 e2 e3=>?_⟩,fun y c' e=>?_,I.free,I.freeC,fun p hp=>?_,tracked ⟨oc,hoc,I.freeC x c hc⟩ hs,by simpa using I.len⟩ ⟨c,hs,.inr hc⟩
    · exact (hs.2 b (Nat.ne_of_lt (Nat.lt_of_lt_of_le (Heap.lt_size e) (I.ok.cab x c hfn hc)))).trans (I.base.keep b o e n hb hx)
    · obtain ⟨sl,e1⟩:=I.base.slot b o e n hb hx
      exact ⟨sl,(hs.2 b (Nat.ne_of_lt (Nat.lt_of_lt_of_le (Heap.lt_size e) (I.ok.cab x c hfn hc)))).trans e1⟩
    · obtain ⟨o',e1⟩:=I.base.there b o e hx
      exact ⟨o',(hs.2 b (Nat.ne_of_lt (Nat.lt_of_lt_of_le (Heap.lt_size e) (I.ok.cab x c hfn hc)))).trans e1⟩
    · by_cases hj:j=i
      · subst hj
        rw [hi] at e1;cases e1
        rw [List.getElem?_set_self hiσ] at e2
        cases e2
        exact ⟨u,r,.inr ⟨.inl hk,c,hc,hc'⟩⟩
      · rw [List.getElem?_set_ne (Ne.symm hj)] at e2
        obtain ⟨u',r',q⟩:=hl j y v' e1 e2 e3
        refine ⟨u',r',?_⟩
        rcases q with q | ⟨k,c',e,z'⟩
        · exact .inl q
        · refine .inr ⟨k,c',e,z'.sameBut hs ?_⟩
          rintro rfl
          exact hj (nodup_ix hN e1 (I.ok.inj _ _ _ e hc ▸ hi))
    · by_cases hcc:c'=c
      · subst hcc;exact ⟨_,hc'⟩
      · obtain ⟨w2,z2⟩:=I.cell y c' e
        exact ⟨w2,z2.sameBut hs hcc⟩
    · obtain ⟨e,n,ne,nf,d⟩:=I.pin p hp
      refine ⟨(hs.2 p.1 ?_).trans e,n,ne,nf,d⟩
      intro q
      rw [q,hoc] at e
      have q':oc=p.2:=Option.some.inj e
      exact d w' (by rw [← q'];exact hocd)
theorem store_ok {M:Model} {A:Around} {E:Value→Shared→Prop} {i:Nat} {x:Str} {v:V} {u:Value} {Q:Unit→Shared→Prop} (I:Inv X pins σ H s) (hN:X.N.Nodup) (hi:X.N[i]?=some x) (hx:Loc X.env.scope x) (r:RelV v u)
    (h:∀ s',Inv X pins (σ.set i (some v)) H s'→Q () s') (hf:X.fn x=true∨X.env.scope.names.lookup x=some .local:=by first | exact .inl rfl | exact .inr rfl | assumption):wpAny M A (storeName X.env x u) Q E s :=
  store_ok2 I hN hi hx r (fun s' I' _=>h s' I') hf
theorem Inv.call' {s':Shared} {ch:List Addr} (I:Inv X pins σ H s) (ho:s'.os=s.os) (u:Un (frs X.stack) ch H H' s.heap s'.heap) (hok:HOk X.prog X.w H' s'.heap) (hg:AllBare s'.gens)
    (hch:∀ b ∈ ch,(b ∈ X.ex∨X.s₀.heap.objs.size≤b)∧b≠X.env.locals∧(∀ x c,X.env.cells.lookup x=some c→c≠b)∧∀ p ∈ X.pn++pins,p.1≠b):Inv X pins σ H' s':=by
  obtain ⟨h',g',d',t',o'⟩:=s'
  have e:o'=s.os:=ho
  subst e
  exact I.call (g':=g') (t':=t') (d':=d') u hok hg hch
end
abbrev XK:=Value→Option Addr→Hp→Prop
abbrev St:=List (Option V)
abbrev VK:=V→Hp→Prop
abbrev TE:=St→Hp→VK→Prop
abbrev TT:=St→Hp→(Bool→Hp→Prop)→Prop
abbrev TA:=St→Hp→(List V→Hp→Prop)→Prop
structure Ends where
  nx:St→Hp→Prop
  rt:VK
  bk:St→Hp→Prop:=fun _ _=>False
  ct:St→Hp→Prop:=fun _ _=>False
abbrev TS:=Ends→St→Hp→Prop
def EP (X:Cx) (pins:List (Addr × Obj)) (σ:St) (Q:VK) (u:Value) (s':Shared):Prop:=∃ v H',Inv X pins σ H' s'∧RelV v u∧Q v H'
def TP (X:Cx) (pins:List (Addr × Obj)) (σ:St) (Q:Bool→Hp→Prop) (b:Bool) (s':Shared):Prop:=∃ H',Inv X pins σ H' s'∧Q b H'
def AP (X:Cx) (pins:List (Addr × Obj)) (σ:St) (Q:List V→Hp→Prop) (us:List Value) (s':Shared):Prop:=∃ vs H',Inv X pins σ H' s'∧Vals vs us∧Q vs H'
def SP (X:Cx) (pins:List (Addr × Obj)) (D:Ends) (f:Flow) (s':Shared):Prop :=
  match f with
  | .next=>∃ σ' H',Inv X pins σ' H' s'∧D.nx σ' H'
  | .brk=>∃ σ' H',Inv X pins σ' H' s'∧D.bk σ' H'
  | .cont=>∃ σ' H',Inv X pins σ' H' s'∧D.ct σ' H'
  | .ret u=>∃ v σ' H',Inv X pins σ' H' s'∧RelV v u∧D.rt v H'
def PE (X:Cx) (e:Expr) (t:TE):Prop :=
  ∀ (pins:List (Addr × Obj)) (s:Shared) (σ:St) (H:Hp) (Q:VK),Inv X pins σ H s→t σ H Q→wpAny (model X.prog X.w) X.A (eval e X.env) (EP X pins σ Q) X.xe s
def PT (X:Cx) (e:Expr) (t:TT):Prop :=
  ∀ (pins:List (Addr × Obj)) (s:Shared) (σ:St) (H:Hp) (Q:Bool→Hp→Prop),Inv X pins σ H s→t σ H Q→wpAny (model X.prog X.w) X.A (isTrue e X.env (eval e X.env)) (TP X pins σ Q) X.xe s
def PW (X:Cx) (e:Expr) (t:TT):Prop :=
  ∀ (whole:Sem Value) (pins:List (Addr × Obj)) (s:Shared) (σ:St) (H:Hp) (Q:Bool→Hp→Prop),Inv X pins σ H s→t σ H Q→wpAny (model X.prog X.w) X.A (isTrue e X.env whole) (TP X pins σ Q) X.xe s
theorem PW.pt {X:Cx} {e:Expr} {t:TT} (h:PW X e t):PT X e t:=h _
def PA (X:Cx) (es:List Expr) (t:TA):Prop :=
  ∀ (pos:Pos) (pins:List (Addr × Obj)) (s:Shared) (σ:St) (H:Hp) (Q:List V→Hp→Prop),Inv X pins σ H s→t σ H Q→wpAny (model X.prog X.w) X.A (spliced (backTo pos (starEach es X.env))) (AP X pins σ Q) X.xe s
def PS (X:Cx) (st:Stmt) (t:TS):Prop :=
  ∀ (pins:List (Addr × Obj)) (s:Shared) (σ:St) (H:Hp) (D:Ends),Inv X pins σ H s→t D σ H→wpAny (model X.prog X.w) X.A (exec st X.env) (SP X pins D) X.xe s
def PSs (X:Cx) (st:List Stmt) (t:TS):Prop :=
  ∀ (pins:List (Addr × Obj)) (s:Shared) (σ:St) (H:Hp) (D:Ends),Inv X pins σ H s→t D σ H→wpAny (model X.prog X.w) X.A (execs st X.env) (SP X pins D) X.xe s
theorem thn {α:Type} {t:Sem α} {Q Q':α→Shared→Prop} {M:Model} {A:Around} {E:Value→Shared→Prop} {s:Shared} (h:wpAny M A t Q E s) (hQ:∀ a s,Q a s→Q' a s):wpAny M A t Q' E s:=wpAny_mono h hQ fun _ _ x=>x
end L2
namespace L2
open PySem PySem.Spec PyProof.Rows
section
variable {X:Cx}
def tVar (i:Nat):TE:=fun σ H Q=>∃ v,σ[i]?=some (some v)∧Q v H
def tC (v:V):TE:=fun _ H Q=>Q v H
theorem pe_var {i:Nat} {x:Str} {pos:Pos} (hN:X.N[i]?=some x) (hv:Vis X.env.scope x) (hd:(x == ("__debug__":Str))=false:=by decide) (hcd:(x == ("__classdict__":Str))=false:=by decide):PE X (.Name x pos) (tVar i):=by
  intro pins s σ H Q I h
  obtain ⟨v,e,h⟩:=h
  obtain ⟨m,hn,hl⟩:=I.loc
  obtain ⟨u,r,l⟩:=hl i x v hN e hv
  have fin:EP X pins σ Q u s:=⟨v,H,I,r,h⟩
  rcases l with ⟨hk,hm⟩ | ⟨hk,c,hc,hcell⟩
  · exact wpAny_Name (wpAny_loadName_local I.ok.kind hk hn hm fin) hd
  · rcases hk with hk | hk
    · exact wpAny_Name (wpAny_loadName_cell I.ok.kind hk hc hcell fin) hd
    · exact wpAny_Name (wpAny_loadName_free I.ok.kind hk hc hcell fin hcd) hd
theorem pe_int {i j pos}:PE X (.Constant (.int i) j pos) (tC (.int i)):=fun _ _ _ H _ I h=>wpAny_Constant_int ⟨.int i,H,I.tok _,⟨_,rfl⟩,h⟩
theorem pe_bl {b j pos}:PE X (.Constant (.bool b) j pos) (tC (.bl b)):=fun _ _ _ H _ I h=>Constant_bool ⟨.bl b,H,I,rfl,h⟩
theorem pe_non {j pos}:PE X (.Constant .none j pos) (tC .non):=fun _ _ _ H _ I h=>Constant_none ⟨.non,H,I,rfl,h⟩
theorem pe_str {x j pos}:PE X (.Constant (.str x) j pos) (tC (.str x)):=fun _ _ _ H _ I h=>Calls.Constant_str ⟨.str x,H,I.tok _,⟨_,rfl⟩,h⟩
def Gl (X:Cx) (x:Str):Prop:=X.env.kindOf x=some .globalImplicit
theorem ld_glob {E:Value→Shared→Prop} {pins:List (Addr × Obj)} {s:Shared} {σ:St} {H:Hp} {x:Str} {u:Value} {pos:Pos} {Q:Value→Shared→Prop} (I:Inv X pins σ H s) (hg:Gl X x) (hm:X.mg x=some u) (h:Q u s)
    (hd:(x == ("__debug__":Str))=false:=by decide):wpAny (model X.prog X.w) X.A (eval (.Name x pos) X.env) Q E s :=
  Calls.Name_function_global I.ok.kind hg (Calls.loadGlobal_global (by rw [I.ok.glob];exact I.mod.glob.keeps I.bk) hm h) hd
theorem ld_blt {E:Value→Shared→Prop} {pins:List (Addr × Obj)} {s:Shared} {σ:St} {H:Hp} {x:Str} {u:Value} {pos:Pos} {Q:Value→Shared→Prop} (I:Inv X pins σ H s) (hg:Gl X x) (hm:X.mg x=none) (hv:bootBuiltins x=some u) (h:Q u s)
    (hn:x≠"__name__":=by decide) (hd:(x == ("__debug__":Str))=false:=by decide):wpAny (model X.prog X.w) X.A (eval (.Name x pos) X.env) Q E s:=by
  obtain ⟨mb,h1,h2⟩:=I.mod.blt
  exact Calls.Name_function_global I.ok.kind hg (Calls.loadGlobal_builtin (by rw [I.ok.glob];exact I.mod.glob.keeps I.bk) hm (by rw [I.ok.blt];exact h1.keeps I.bk) ((h2 x hn).trans hv) h) hd
theorem pe_glob {x:Str} {v:V} {u:Value} {pos:Pos} (hg:Gl X x) (hm:X.mg x=some u) (r:RelV v u) (hd:(x == ("__debug__":Str))=false:=by decide):PE X (.Name x pos) (tC v) :=
  fun _ _ _ H _ I h=>ld_glob I hg hm ⟨v,H,I,r,h⟩ hd
theorem pe_bltn {x:Str} {v:V} {u:Value} {pos:Pos} (hg:Gl X x) (hm:X.mg x=none) (hv:bootBuiltins x=some u) (r:RelV v u) (hn:x≠"__name__":=by decide) (hd:(x == ("__debug__":Str))=false:=by decide):PE X (.Name x pos) (tC v) :=
  fun _ _ _ H _ I h=>ld_blt I hg hm hv ⟨v,H,I,r,h⟩ hn hd
variable {a b:Expr} {ta tb:TE} {pos:Pos}
def tB (t:TE):TT:=fun σ H Q=>t σ H fun x H1=>∃ c,x=.bl c∧Q c H1
theorem pt_val {e:Expr} {t:TE} (h:PE X e t) (he:∀ whole,isTrue e X.env whole=(do let v ← whole;standAt e.pos;holding [v] (truthy v)):=by intro _;rfl):PT X e (tB t):=by
  intro pins s σ H Q I hw
  refine isTrue_plain (thn (h pins s σ H _ I hw) fun v s1 ⟨x,H1,I1,r1,q1⟩=>?_) (he _)
  obtain ⟨d,rfl,q⟩:=q1
  cases r1
  exact wpAny_truthy_bool ⟨H1,I1,q⟩
variable {tA tB':TT} {rest:List Expr}
def tAnd (t u:TT):TT:=fun σ H Q=>t σ H fun c H1=>if c=true then u σ H1 Q else Q false H1
def tOr (t u:TT):TT:=fun σ H Q=>t σ H fun c H1=>if c=true then Q true H1 else u σ H1 Q
def tNot (t:TT):TT:=fun σ H Q=>t σ H fun c H1=>Q (!c) H1
theorem pw_and1 (ha:PT X a tA):PW X (.BoolOp .And [a] pos) tA:=by
  intro wh pins s σ H Q I h
  refine isTrue_and (thn (ha pins s σ H Q I h) fun c s1 e=>?_)
  cases c with
  | true=>exact isTrue_and_nil e
  | false=>exact e
theorem pw_or1 (ha:PT X a tA):PW X (.BoolOp .Or [a] pos) tA:=by
  intro wh pins s σ H Q I h
  refine isTrue_or (thn (ha pins s σ H Q I h) fun c s1 e=>?_)
  cases c with
  | false=>exact isTrue_or_nil e
  | true=>exact e
theorem pw_and (ha:PT X a tA) (hb:PW X (.BoolOp .And (b :: rest) pos) tB'):PW X (.BoolOp .And (a :: b :: rest) pos) (tAnd tA tB'):=by
  intro wh pins s σ H Q I h
  refine isTrue_and (thn (ha pins s σ H _ I h) fun c s1 ⟨H1,I1,q1⟩=>?_)
  cases c with
  | true=>exact hb wh pins s1 σ H1 Q I1 q1
  | false=>exact ⟨H1,I1,q1⟩
theorem pw_or (ha:PT X a tA) (hb:PW X (.BoolOp .Or (b :: rest) pos) tB'):PW X (.BoolOp .Or (a :: b :: rest) pos) (tOr tA tB'):=by
  intro wh pins s σ H Q I h
  refine isTrue_or (thn (ha pins s σ H _ I h) fun c s1 ⟨H1,I1,q1⟩=>?_)
  cases c with
  | true=>exact ⟨H1,I1,q1⟩
  | false=>exact hb wh pins s1 σ H1 Q I1 q1
theorem pt_not (ha:PT X a tA):PT X (.UnaryOp .Not a pos) (tNot tA):=by
  intro pins s σ H Q I h
  exact isTrue_not (ha pins s σ H (fun c H1=>Q (!c) H1) I h)
def tAndV (ta tb:TE):TE:=fun σ H Q=>ta σ H fun x H1=>∃ c,x=.bl c∧if c=true then tb σ H1 Q else Q (.bl false) H1
def tOrV (ta tb:TE):TE:=fun σ H Q=>ta σ H fun x H1=>∃ c,x=.bl c∧if c=true then Q (.bl true) H1 else tb σ H1 Q
def tNotV (ta:TE):TE:=fun σ H Q=>ta σ H fun x H1=>∃ c,x=.bl c∧Q (.bl (!c)) H1
theorem pe_one {op} {t:TE} (h:PE X a t):PE X (.BoolOp op [a] pos) t:=fun pins s σ H Q I hw=>BoolOp_one (h pins s σ H Q I hw)
theorem pe_and (ha:PE X a ta) (hb:PE X (.BoolOp .And (b :: rest) pos) tb):PE X (.BoolOp .And (a :: b :: rest) pos) (tAndV ta tb):=by
  intro pins s σ H Q I h
  refine BoolOp_and (thn (ha pins s σ H _ I h) fun v s1 ⟨x,H1,I1,r1,q1⟩=>?_)
  obtain ⟨c,rfl,q1⟩:=q1
  cases r1
  refine wpAny_truthy_bool ?_
  cases c with
  | true=>exact hb pins s1 σ H1 Q I1 q1
  | false=>exact ⟨.bl false,H1,I1,rfl,q1⟩
theorem pe_or (ha:PE X a ta) (hb:PE X (.BoolOp .Or (b :: rest) pos) tb):PE X (.BoolOp .Or (a :: b :: rest) pos) (tOrV ta tb):=by
  intro pins s σ H Q I h
  refine BoolOp_or (thn (ha pins s σ H _ I h) fun v s1 ⟨x,H1,I1,r1,q1⟩=>?_)
  obtain ⟨c,rfl,q1⟩:=q1
  cases r1
  refine wpAny_truthy_bool ?_
  cases c with
  | false=>exact hb pins s1 σ H1 Q I1 q1
  | true=>exact ⟨.bl true,H1,I1,rfl,q1⟩
theorem pe_not (ha:PE X a ta):PE X (.UnaryOp .Not a pos) (tNotV ta):=by
  intro pins s σ H Q I h
  refine UnaryOp_ (thn (ha pins s σ H _ I h) fun v s1 ⟨x,H1,I1,r1,q1⟩=>?_)
  obtain ⟨c,rfl,q1⟩:=q1
  cases r1
  exact not_of (wpAny_truthy_bool ⟨.bl (!c),H1,I1,rfl,q1⟩)
def tIf (t:TT) (ta tb:TE):TE:=fun σ H Q=>t σ H fun c H1=>if c=true then ta σ H1 Q else tb σ H1 Q
theorem pe_ifExp {c:Expr} (hc:PT X c tA) (ha:PE X a ta) (hb:PE X b tb):PE X (.IfExp c a b pos) (tIf tA ta tb):=by
  intro pins s σ H Q I h
  refine wpAny_IfExp (thn (hc pins s σ H _ I h) fun d s1 ⟨H1,I1,q1⟩=>?_)
  cases d with
  | true=>exact ha pins s1 σ H1 Q I1 q1
  | false=>exact hb pins s1 σ H1 Q I1 q1
end
end L2
namespace L2
open PySem PySem.Spec PyProof.Rows
def SqL (K:PySem.W.Frag) (H:Hp) (a:Addr) (xs:List V):Prop :=
  Rd H a (.lst xs) ∨
    ∃ (o:Obj) (its:Array Value) (n:Nat),K.lookup a=some o∧o.cls=.type "list"∧o.dict=none∧o.data=.seq its n∧its.size≤sizeLine∧Vals xs its.toList
def SqT (K:PySem.W.Frag) (H:Hp) (a:Addr) (xs:List V):Prop :=
  Rd H a (.tup xs) ∨
    ∃ (o:Obj) (its:Array Value) (n:Nat),K.lookup a=some o∧o.cls=.type "tuple"∧o.data=.seq its n∧its.size≤sizeLine∧Vals xs its.toList
def absV:Value→Option V
  | .none=>some .non
  | .bool b=>some (.bl b)
  | .int i _=>some (.int i)
  | .str x _=>some (.str x)
  | .bytes b _=>some (.byt b)
  | .float b _=>some (.flt b)
  | .ref a=>some (.ref a)
  | .type n=>some (.ty n)
  | _=>none
theorem RelV.abs {x:V} {u:Value} (r:RelV x u):absV u=some x:=by
  cases x with
  | non=>cases r;rfl
  | bl _=>cases r;rfl
  | int _=>obtain ⟨t,rfl⟩:=r;rfl
  | str _=>obtain ⟨t,rfl⟩:=r;rfl
  | byt _=>obtain ⟨t,rfl⟩:=r;rfl
  | flt _=>obtain ⟨t,rfl⟩:=r;rfl
  | ref _=>cases r;rfl
  | ty _=>cases r;rfl
theorem RelV.inj {x y:V} {u:Value} (r:RelV x u) (q:RelV y u):x=y:=Option.some.inj (r.abs.symm.trans q.abs)
theorem Vals.inj:∀ {xs ys:List V} {us:List Value},Vals xs us→Vals ys us→xs=ys
  | _,_,_,.nil,.nil=>rfl
  | _,_,_,.cons r t,.cons r' t'=>by rw [r.inj r',Vals.inj t t']
section
variable {X:Cx} {pins:List (Addr × Obj)} {σ:St} {H:Hp} {s:Shared} {a:Addr} {xs ys:List V}
theorem SqL.of {K:PySem.W.Frag} (h:H a=some (.lst xs)):SqL K H a xs:=.inl (.inl h)
theorem SqT.of {K:PySem.W.Frag} (h:H a=some (.tup xs)):SqT K H a xs:=.inl (.inl h)
theorem Inv.list (I:Inv X pins σ H s) (h:SqL X.K H a xs):∃ its:List Value,Vals xs its∧PlainL s.heap a its.toArray∧xs.length≤sizeLine:=by
  rcases h with h | ⟨o,its,n,hk,hc,hd,hs,hz,r⟩
  · obtain ⟨z,its,n,r,e⟩:=h.ok I.hok
    exact ⟨its,r,⟨_,n,e,rfl,rfl,rfl⟩,z⟩
  · refine ⟨its.toList,r,⟨o,n,I.kIn a o hk,hc,hd,by simpa using hs⟩,?_⟩
    have e:=r.length
    simp only [Array.length_toList] at e
    omega
theorem Inv.tuple (I:Inv X pins σ H s) (h:SqT X.K H a xs):∃ its:List Value,Vals xs its∧IsTup s.heap a its.toArray∧xs.length≤sizeLine:=by
  rcases h with h | ⟨o,its,n,hk,hc,hs,hz,r⟩
  · obtain ⟨z,its,r,p⟩:=h.ok I.hok
    exact ⟨its,r,p,z⟩
  · refine ⟨its.toList,r,⟨o,I.kIn a o hk,hc,n,by simpa using hs⟩,?_⟩
    have e:=r.length
    simp only [Array.length_toList] at e
    omega
theorem Inv.list_inj (I:Inv X pins σ H s) (h:SqL X.K H a xs) (h':SqL X.K H a ys):xs=ys:=by
  obtain ⟨its,r,⟨o,n,e,_,_,d⟩,_⟩:=I.list h
  obtain ⟨its',r',⟨o',n',e',_,_,d'⟩,_⟩:=I.list h'
  rw [e] at e';cases e'
  rw [d] at d'
  injection d' with d1 _
  have:its=its':=by simpa using congrArg Array.toList d1
  subst this
  exact r.inj r'
theorem Inv.tuple_inj (I:Inv X pins σ H s) (h:SqT X.K H a xs) (h':SqT X.K H a ys):xs=ys:=by
  obtain ⟨its,r,⟨o,e,_,n,d⟩,_⟩:=I.tuple h
  obtain ⟨its',r',⟨o',e',_,n',d'⟩,_⟩:=I.tuple h'
  rw [e] at e';cases e'
  rw [d] at d'
  injection d' with d1 _
  have:its=its':=by simpa using congrArg Array.toList d1
  subst this
  exact r.inj r'
end
abbrev Cx.wish (X:Cx) (E:Value→Shared→Prop):Cx:={ X with xe:=E }
abbrev Cx.nox (X:Cx):Cx:=X.wish fun _ _=>False
theorem Cx.Ok.wish {X:Cx} (ok:X.Ok) (E:Value→Shared→Prop):(X.wish E).Ok :=
  ⟨ok.mod,ok.kind,ok.glob,ok.blt,ok.above,ok.inj,ok.has,ok.cab,ok.hd,ok.frames,ok.stk,ok.exf,ok.bs,ok.bsz,ok.noex,ok.exfs,ok.funs,ok.frf⟩
theorem Cx.Ok.unwish {X:Cx} {E:Value→Shared→Prop} (ok:(X.wish E).Ok):X.Ok :=
  ⟨ok.mod,ok.kind,ok.glob,ok.blt,ok.above,ok.inj,ok.has,ok.cab,ok.hd,ok.frames,ok.stk,ok.exf,ok.bs,ok.bsz,ok.noex,ok.exfs,ok.funs,ok.frf⟩
section
variable {X:Cx} {pins:List (Addr × Obj)} {σ:St} {H:Hp} {s:Shared} {E:Value→Shared→Prop}
theorem Inv.wish (I:Inv X pins σ H s) (E:Value→Shared→Prop):Inv (X.wish E) pins σ H s:=⟨I.ok.wish E,I.os,I.bare,I.base,I.loc,I.cell,I.free,I.freeC,I.pin,I.hok,I.len⟩
theorem Inv.unwish (I:Inv (X.wish E) pins σ H s):Inv X pins σ H s:=⟨I.ok.unwish,I.os,I.bare,I.base,I.loc,I.cell,I.free,I.freeC,I.pin,I.hok,I.len⟩
theorem SP.unwish {D:Ends} {f:Flow} {s':Shared} (h:SP (X.wish E) pins D f s'):SP X pins D f s':=by
  cases f with
  | next=>obtain ⟨σ',H',I,q⟩:=h;exact ⟨σ',H',I.unwish,q⟩
  | brk=>obtain ⟨σ',H',I,q⟩:=h;exact ⟨σ',H',I.unwish,q⟩
  | cont=>obtain ⟨σ',H',I,q⟩:=h;exact ⟨σ',H',I.unwish,q⟩
  | ret u=>obtain ⟨v,σ',H',I,r,q⟩:=h;exact ⟨v,σ',H',I.unwish,r,q⟩
theorem PSs.nox {st:List Stmt} {t:TS} (h:PSs X.nox st t):PSs X st t:=fun pins s σ H D I hw =>
  wpAny_mono (h pins s σ H D (I.wish _) hw) (fun _ _ q=>q.unwish) fun _ _ z=>False.elim z
end
section
variable {X:Cx} {st:Stmt} {rest:List Stmt} {t u:TS} {e:Expr} {te:TE} {pos:Pos}
def tNext:TS:=fun D σ H=>D.nx σ H
def tSeq (t u:TS):TS:=fun D σ H=>t { D with nx:=u D } σ H
theorem pss_nil:PSs X [] tNext:=fun _ _ σ H _ I h=>wpAny_execs_nil ⟨σ,H,I,h⟩
theorem pss_cons (h1:PS X st t) (h2:PSs X rest u):PSs X (st :: rest) (tSeq t u):=by
  intro pins s σ H D I h
  refine wpAny_execs_cons (thn (h1 pins s σ H { D with nx:=u D } I h) fun f s1 q=>?_)
  cases f with
  | next =>
    obtain ⟨σ',H',I',q⟩:=q
    exact h2 pins s1 σ' H' D I' q
  | ret v=>exact q
  | brk=>exact q
  | cont=>exact q
theorem pss_one (h1:PS X st t):PSs X [st] t:=by
  intro pins s σ H D I h
  refine wpAny_execs_cons (thn (h1 pins s σ H D I h) fun f s1 q=>?_)
  cases f with
  | next=>exact wpAny_execs_nil q
  | ret v=>exact q
  | brk=>exact q
  | cont=>exact q
theorem Inv.quiet {pins:List (Addr × Obj)} {σ:St} {H:Hp} {s:Shared} (I:Inv X pins σ H s):interactive X.env=false:=by simp [interactive,I.ok.kind]
def tDrop (te:TE):TS:=fun D σ H=>te σ H fun _ H1=>D.nx σ H1
theorem ps_expr (he:PE X e te) (hs:swapsWith e none pos.line X.env=pure false:=by rfl):PS X (.Expr e pos) (tDrop te):=by
  intro pins s σ H D I h
  exact wpAny_Expr_any (thn (he pins s σ H _ I h) fun v s1 ⟨x,H1,I1,r1,q1⟩=>⟨σ,H1,I1,q1⟩) I.quiet hs
def tRet (te:TE):TS:=fun D σ H=>te σ H D.rt
theorem ps_ret (he:PE X e te):PS X (.Return (some e) pos) (tRet te):=by
  intro pins s σ H D I h
  exact wpAny_Return_some (thn (he pins s σ H _ I h) fun v s1 ⟨x,H1,I1,r1,q1⟩=>⟨x,σ,H1,I1,r1,q1⟩)
def tIfS (c:TT) (t u:TS):TS:=fun D σ H=>c σ H fun b H1=>if b=true then t D σ H1 else u D σ H1
theorem ps_if {c:Expr} {a b:List Stmt} {tc:TT} (hc:PT X c tc) (ha:PSs X a t) (hb:PSs X b u):PS X (.If c a b pos) (tIfS tc t u):=by
  intro pins s σ H D I h
  refine wpAny_If (thn (hc pins s σ H _ I h) fun d s1 ⟨H1,I1,q1⟩=>?_)
  cases d with
  | true=>exact ha pins s1 σ H1 D I1 q1
  | false=>exact hb pins s1 σ H1 D I1 q1
def tNever:TS:=fun _ _ _=>False
theorem pss_never {sts:List Stmt}:PSs X sts tNever:=fun _ _ _ _ _ _ h=>h.elim
end
abbrev TG:=V→St→Hp→(St→Hp→Prop)→Prop
abbrev TGs:=List V→St→Hp→(St→Hp→Prop)→Prop
def PG (X:Cx) (target:Expr) (t:TG):Prop :=
  ∀ (pins:List (Addr × Obj)) (s:Shared) (σ:St) (H:Hp) (v:V) (u:Value) (Q:St→Hp→Prop),Inv X pins σ H s→RelV v u→t v σ H Q →
    wpAny (model X.prog X.w) X.A (assign target X.env u) (fun _ s'=>∃ σ' H',Inv X pins σ' H' s'∧Q σ' H') X.xe s
def PGs (X:Cx) (ts:List Expr) (t:TGs):Prop :=
  ∀ (pins:List (Addr × Obj)) (s:Shared) (σ:St) (H:Hp) (vs:List V) (us:List Value) (Q:St→Hp→Prop),Inv X pins σ H s→Vals vs us→t vs σ H Q →
    wpAny (model X.prog X.w) X.A (assignInOrder ((assignEach ts X.env).map (·.2)) us) (fun _ s'=>∃ σ' H',Inv X pins σ' H' s'∧Q σ' H') X.xe s
abbrev TSet:=V→V→V→Hp→(Hp→Prop)→Prop
def PSet (X:Cx) (t:TSet):Prop :=
  ∀ (pins:List (Addr × Obj)) (s:Shared) (σ:St) (H:Hp) (o i v:V) (ov iv u:Value) (Q:Hp→Prop),Inv X pins σ H s→RelV o ov→RelV i iv→RelV v u→t o i v H Q →
    wpAny (model X.prog X.w) X.A (setItem ov iv u) (fun _ s'=>∃ H',Inv X pins σ H' s'∧Q H') X.xe s
abbrev TIp:=V→V→Hp→VK→Prop
def PIp (X:Cx) (op:Operator) (t:TIp):Prop :=
  ∀ (pins:List (Addr × Obj)) (s:Shared) (σ:St) (H:Hp) (x y:V) (v u:Value) (Q:VK),Inv X pins σ H s→RelV x v→RelV y u→t x y H Q →
    wpAny (model X.prog X.w) X.A (inplaceOp op v u) (EP X pins σ Q) X.xe s
section
variable {X:Cx} {pos:Pos}
def gName (i:Nat):TG:=fun v σ H Q=>Q (σ.set i (some v)) H
theorem pg_name {i:Nat} {x:Str} (hN:X.N.Nodup) (hi:X.N[i]?=some x) (hx:Loc X.env.scope x) (hf:X.fn x=true∨X.env.scope.names.lookup x=some .local:=by first | exact .inl rfl | exact .inr rfl | assumption):PG X (.Name x pos) (gName i):=by
  intro pins s σ H v u Q I r h
  exact wpAny_assign_Name (store_ok I hN hi hx r (fun s' I'=>⟨_,H,I',h⟩) hf)
def gNil:TGs:=fun vs σ H Q=>vs=[]∧Q σ H
def gCons (t:TG) (u:TGs):TGs:=fun vs σ H Q=>∃ v r,vs=v :: r∧t v σ H fun σ' H'=>u r σ' H' Q
theorem pgs_nil:PGs X [] gNil:=by
  intro pins s σ H vs us Q I r h
  obtain ⟨e,h⟩:=h
  subst e
  cases r
  exact assignInOrder_nil ⟨σ,H,I,h⟩
theorem pgs_cons {e:Expr} {es:List Expr} {t:TG} {u:TGs} (h1:PG X e t) (h2:PGs X es u)
    (hs:(assignEach (e :: es) X.env).map (·.2)=assign e X.env :: (assignEach es X.env).map (·.2):=by rfl):PGs X (e :: es) (gCons t u):=by
  intro pins s σ H vs us Q I r h
  obtain ⟨v,vr,e1,h⟩:=h
  subst e1
  cases r with
  | cons r rr =>
    rw [hs]
    refine assignInOrder_cons (thn (h1 pins s σ H _ _ _ I r h) fun _ s1 ⟨σ1,H1,I1,q1⟩=>?_)
    exact h2 pins s1 σ1 H1 _ _ Q I1 rr q1
def gTup (K:PySem.W.Frag) (n:Nat) (t:TGs):TG:=fun v σ H Q=>∃ a xs,v=.ref a∧SqT K H a xs∧xs.length=n∧t xs σ H Q
theorem pg_tup {es:List Expr} {k:Nat} {t:TGs} {n:Nat} (hc:X.calm=true) (h:PGs X es t)
    (hn:(assignEach es X.env).length=n:=by rfl) (hst:(assignEach es X.env).findIdx? (·.1)=none:=by rfl):PG X (.Tuple es k pos) (gTup X.K n t):=by
  intro pins s σ H v u Q I r hw
  obtain ⟨a,xs,e1,hq,hl,hw⟩:=hw
  subst e1
  cases r
  obtain ⟨its,rv,ht,hz⟩:=I.tuple hq
  refine assign_Tuple_tuple (I.ok.hd hc) ht (by simp [hn,← hl,rv.length]) hst fun h' hx=>?_
  have I1:Inv X pins σ H { s with heap:=h' }:=I.kept (t':=s.toks) fun b o e=>hx b o (Nat.ne_of_lt (Heap.lt_size e)) e
  exact h pins _ σ H xs _ Q I1 (by simpa using rv) hw
def gSub (to ti:TE) (t:TSet):TG:=fun v σ H Q=>to σ H fun o H1=>ti σ H1 fun i H2=>t o i v H2 fun H3=>Q σ H3
theorem pg_sub {o i:Expr} {to ti:TE} {t:TSet} (ho:PE X o to) (hi:PE X i ti) (hs:PSet X t)
    (ha:∀ v,assign (.Subscript o i pos) X.env v=(do
      let ov ← holding [v] (eval o X.env)
      let iv ← holding [v,ov] (eval i X.env)
      standAt pos
      holding [v,ov,iv] (setItem ov iv v)
      release [v,ov,iv] []):=by intro _;rfl):PG X (.Subscript o i pos) (gSub to ti t):=by
  intro pins s σ H v u Q I r h
  rw [ha]
  refine wpAny_bind (wpAny_holding (thn (ho pins s σ H _ I h) fun ov s1 ⟨x,H1,I1,r1,q1⟩=>?_))
  refine wpAny_bind (wpAny_holding (thn (hi pins s1 σ H1 _ I1 q1) fun iv s2 ⟨y,H2,I2,r2,q2⟩=>?_))
  refine wpAny_bind (wpAny_standAt (wpAny_bind (wpAny_holding (thn (hs pins s2 σ H2 x y v ov iv u _ I2 r1 r2 r q2) fun _ s3 ⟨H3,I3,q3⟩=>?_))))
  exact wpAny_release ⟨σ,H3,I3,q3⟩
def tAsg (te:TE) (g:TG):TS:=fun D σ H=>te σ H fun x H1=>g x σ H1 D.nx
theorem ps_asg {tg e:Expr} {te:TE} {g:TG} (he:PE X e te) (hg:PG X tg g) (hs:swapsWithSole [tg] e pos.line X.env=pure false:=by rfl) (hw:swappedStores [tg] e X.env=pure none:=by rfl)
    (h1:(assignEach [tg] X.env).map (·.2)=[assign tg X.env]:=by rfl):PS X (.Assign [tg] e pos) (tAsg te g):=by
  intro pins s σ H D I h
  refine wpAny_Assign_stores (thn (he pins s σ H _ I h) fun v s1 ⟨x,H1,I1,r1,q1⟩=>?_) hs hw
  rw [h1]
  exact thn (hg pins s1 σ H1 x v _ I1 r1 q1) fun _ s2 q=>q
theorem ps_set {i:Nat} {x:Str} {e:Expr} {te:TE} {pos':Pos} (hN:X.N.Nodup) (hi:X.N[i]?=some x) (hx:Loc X.env.scope x) (he:PE X e te) (hs:swapsWith e (some (.Name x pos')) pos.line X.env=pure false:=by rfl) (hf:X.fn x=true∨X.env.scope.names.lookup x=some .local:=by first | exact .inl rfl | exact .inr rfl | assumption) :
    PS X (.Assign [.Name x pos'] e pos) (tAsg te (gName i)):=by
  intro pins s σ H D I h
  refine wpAny_Assign_Name (thn (he pins s σ H _ I h) fun v s1 ⟨y,H1,I1,r1,q1⟩=>?_) hs
  exact store_ok I1 hN hi hx r1 (fun s2 I2=>⟨_,H1,I2,q1⟩) hf
def tAug (i:Nat) (te:TE) (ti:TIp):TS:=fun D σ H=>∃ x,σ[i]?=some (some x)∧te σ H fun y H1=>ti x y H1 fun z H2=>D.nx (σ.set i (some z)) H2
theorem ps_aug {i:Nat} {x:Str} {e:Expr} {te:TE} {op:Operator} {ti:TIp} {pos':Pos} (hN:X.N.Nodup) (hi:X.N[i]?=some x) (hx:Loc X.env.scope x) (he:PE X e te) (ho:PIp X op ti) (hf:X.fn x=true∨X.env.scope.names.lookup x=some .local:=by first | exact .inl rfl | exact .inr rfl | assumption) :
    PS X (.AugAssign (.Name x pos') op e pos) (tAug i te ti):=by
  intro pins s σ H D I h
  obtain ⟨v,e1,h⟩:=h
  obtain ⟨m,hn,hl⟩:=I.loc
  have vis:Vis X.env.scope x:=by rcases hx with k | k;exact .inl k;exact .inr (.inl k)
  obtain ⟨u,r,l⟩:=hl i x v hi e1 vis
  refine wpAny_AugAssign_Name ?_
  have go:wpAny (model X.prog X.w) X.A (eval e X.env) (fun w s₂=>wpAny (model X.prog X.w) X.A (inplaceOp op u w) (fun r s₃=>wpAny (model X.prog X.w) X.A (storeName X.env x r) (fun _=>SP X pins D .next) X.xe s₃) X.xe s₂) X.xe s:=by
    refine thn (he pins s σ H _ I h) fun w s1 ⟨y,H1,I1,r1,q1⟩=>?_
    refine thn (ho pins s1 σ H1 v y u w _ I1 r r1 q1) fun z s2 ⟨zv,H2,I2,r2,q2⟩=>?_
    exact store_ok I2 hN hi hx r2 (fun s3 I3=>⟨_,H2,I3,q2⟩) hf
  rcases l with ⟨hk,hm⟩ | ⟨hk,c,hc,hcell⟩
  · exact wpAny_loadName_local I.ok.kind hk hn hm go
  · rcases hk with hk | hk
    · exact wpAny_loadName_cell I.ok.kind hk hc hcell go
    · rcases hx with k | k
      · have:X.env.scope.names.lookup x=some .free:=hk
        rw [k] at this;cases this
      · have:X.env.scope.names.lookup x=some .free:=hk
        rw [k] at this;cases this
def ipI (f:Int→Int→Int):TIp:=fun x y H Q=>∃ i j,x=.int i∧y=.int j∧Q (.int (f i j)) H
theorem ip_add:PIp X .Add (ipI fun i j=>i+j):=by
  intro pins s σ H x y v u Q I r1 r2 h
  obtain ⟨i,j,e1,e2,q⟩:=h
  subst e1;subst e2
  obtain ⟨t,rfl⟩:=r1
  obtain ⟨t',rfl⟩:=r2
  exact iadd_int ⟨.int _,H,I.tok _,⟨_,rfl⟩,q⟩
end
section
variable {X:Cx} {pos:Pos}
def tWhile (c:TT) (tb:TS):TS:=fun D σ H=>∃ W:Nat→St→Hp→Prop,(∃ m,W m σ H)∧∀ m σ H,W m σ H →
  c σ H fun b H1=>if b=true then ∃ N:St→Hp→Prop,(∀ σ' H',N σ' H'→∃ m',m' < m∧W m' σ' H')∧tb { D with nx:=N,ct:=N,bk:=D.nx } σ H1 else D.nx σ H1
theorem ps_while {c:Expr} {body:List Stmt} {tc:TT} {tb:TS} (hp:PassesOwn (model X.prog X.w) X.A X.env X.xe) (hc:PT X c tc) (hb:PSs X body tb):PS X (.While c body [] pos) (tWhile tc tb):=by
  intro pins s σ H D I h
  obtain ⟨W,⟨m0,w0⟩,turn⟩:=h
  refine wpAny_While (codeAny_whileLoop (fun n s'=>∃ σ' H',Inv X pins σ' H' s'∧W n σ' H') ?_ m0 ⟨σ,H,I,w0⟩)
  rintro n s1 ⟨σ1,H1,I1,w1⟩
  refine wpAny_passesOwn hp (thn (hc pins s1 σ1 H1 _ I1 (turn n σ1 H1 w1)) fun b s2 ⟨H2,I2,q2⟩=>?_)
  cases b with
  | true =>
    obtain ⟨N,hN,q2⟩:=q2
    rw [if_pos rfl]
    refine wpAny_passesOwn hp (thn (hb pins s2 σ1 H2 _ I2 q2) fun f s3 q3=>?_)
    cases f with
    | next =>
      obtain ⟨σ3,H3,I3,n3⟩:=q3
      obtain ⟨m',hm,w3⟩:=hN σ3 H3 n3
      exact ⟨m',hm,σ3,H3,I3,w3⟩
    | cont =>
      obtain ⟨σ3,H3,I3,n3⟩:=q3
      obtain ⟨m',hm,w3⟩:=hN σ3 H3 n3
      exact ⟨m',hm,σ3,H3,I3,w3⟩
    | brk=>exact q3
    | ret v=>exact q3
  | false =>
    rw [if_neg Bool.false_ne_true]
    exact wpAny_execs_nil ⟨σ1,H2,I2,q2⟩
end
structure It where
  go:Nat→Hp→Prop
  yld:Nat→Hp→V→Hp→Prop
  stop:Nat→Hp→Prop
def FpOk (X:Cx) (pins:List (Addr × Obj)) (H:Hp) (b:Addr):Prop :=
  H b=none∧b≠X.env.locals∧b ∉ X.fs∧(b ∈ X.ex∨X.s₀.heap.objs.size≤b)∧(∀ x c,X.env.cells.lookup x=some c→c≠b)∧∀ p ∈ X.pn++pins,p.1≠b
theorem Inv.fpOk {X:Cx} {pins:List (Addr × Obj)} {σ:St} {H H':Hp} {s:Shared} {b:Addr} (I:Inv X pins σ H s) (hb:s.heap.objs.size≤b) (hn:H' b=none):FpOk X pins H' b:=by
  refine ⟨hn,Nat.ne_of_gt (Nat.lt_of_lt_of_le I.lt hb),I.nofs hb,.inr (Nat.le_trans I.sz hb),fun x c e z=>?_,fun p hp z=>?_⟩
  · obtain ⟨v,q⟩:=I.cell x c e
    exact absurd (Nat.lt_of_lt_of_le q.lt (by rw [z];exact hb)) (Nat.lt_irrefl _)
  · exact absurd (Nat.lt_of_lt_of_le (Heap.lt_size (I.pin p hp).1) (by rw [z];exact hb)) (Nat.lt_irrefl _)
structure Turn (P:Program) (w:World) (K:PySem.W.Frag) (tg:Expr) (J:It) (fp:List Addr) (it:Addr) (tn:Nat→Heap→Prop):Prop where
  mem:it ∈ fp
  obj:∀ i h,tn i h→∀ b ∈ fp,∃ o,h.get? b=some o∧∀ v,o.data≠.cell v
  keep:∀ i h h',tn i h→(∀ b ∈ fp,∀ o,h.get? b=some o→h'.get? b=some o)→tn i h'
  item:∀ (X:Cx),X.prog=P→X.w=w→X.K=K→X.calm=true→∀ (i:Nat) (pins:List (Addr × Obj)) (s:Shared) (σ:St) (H:Hp) (E:Value→Shared→Prop),Inv X pins σ H s→(∀ b ∈ fp,FpOk X pins H b)→tn i s.heap→J.go i H →
    wpAny (model P w) X.A (pyNext (.ref it)) (fun r s1=>∃ u,r=some u ∧
      wpAny (model P w) X.A (letOwnedTupleGo tg (.ref it) u) (fun _ s2=>∃ x H',Inv X pins σ H' s2∧RelV x u∧J.yld i H x H'∧tn (i+1) s2.heap∧∀ b ∈ fp,H' b=none) E s1) E s
  done:∀ (X:Cx),X.prog=P→X.w=w→X.K=K→X.calm=true→∀ (i:Nat) (pins:List (Addr × Obj)) (s:Shared) (σ:St) (H:Hp) (E:Value→Shared→Prop),Inv X pins σ H s→(∀ b ∈ fp,FpOk X pins H b)→tn i s.heap→J.stop i H →
    wpAny (model P w) X.A (pyNext (.ref it)) (fun r s1=>r=none∧Inv X pins σ H s1) E s
  self:∀ (A:Around) (i:Nat) (s:Shared) (Q:Value→Shared→Prop) (E:Value→Shared→Prop),tn i s.heap→Q (.ref it) s→wpAny (model P w) A (pyIter (.ref it)) Q E s
abbrev TI:=St→Hp→(It→Hp→Prop)→Prop
def PIE (X:Cx) (pins:List (Addr × Obj)) (σ:St) (tg:Expr) (R:It→Hp→Prop) (itv:Value) (s2:Shared):Prop :=
  ∃ (it:Addr) (fp:List Addr) (tn:Nat→Heap→Prop) (J:It) (H':Hp),itv=.ref it∧Inv X pins σ H' s2∧Turn X.prog X.w X.K tg J fp it tn∧tn 0 s2.heap∧(∀ b ∈ fp,FpOk X pins H' b)∧R J H'
def PI (X:Cx) (tg iter:Expr) (wi:TI):Prop :=
  ∀ (pins:List (Addr × Obj)) (s:Shared) (σ:St) (H:Hp) (R:It→Hp→Prop),Inv X pins σ H s→wi σ H R →
    wpAny (model X.prog X.w) X.A (eval iter X.env) (fun v s1=>wpAny (model X.prog X.w) X.A (pyIter v) (PIE X pins σ tg R) X.xe s1) X.xe s
theorem go_of {M:Model} {A:Around} {E:Value→Shared→Prop} {s:Shared} {tg:Expr} {it:Addr} {u:Value} {o:Obj} {n:String} {vs:Array Value} {Q:Unit→Shared→Prop} (ho:s.heap.get? it=some o) (hc:o.cls=.type n) (hd:o.data=.fields vs)
    (hn:["enumerate","zip","dict_itemiterator","dict_reverseitemiterator","odict_iterator","itertools.zip_longest","itertools.pairwise"].contains n=false) (hQ:Q () s):wpAny M A (letOwnedTupleGo tg (.ref it) u) Q E s:=by
  unfold letOwnedTupleGo
  cases tg <;> first
    | exact wpAny_pure hQ
    | (cases u <;> first
        | exact wpAny_pure hQ
        | (refine wpAny_bind (wpAny_load ho ?_)
           rw [hc,hd]
           show wpAny M A (if (["enumerate","zip","dict_itemiterator","dict_reverseitemiterator","odict_iterator","itertools.zip_longest","itertools.pairwise"].contains n&&vs[0]? == some (rawInt _))=true then _ else _) Q E s
           rw [if_neg (by intro h;rw [hn,Bool.false_and] at h;cases h)]
           exact wpAny_pure hQ))
def Itl (K:PySem.W.Frag) (a:Addr):It :=
  ⟨fun i H=>∃ xs x,SqL K H a xs∧xs[i]?=some x,fun i H x H'=>H'=H∧∀ xs,SqL K H a xs→xs[i]?=some x,fun i H=>∃ xs,SqL K H a xs∧xs.length≤i⟩
def Itr (lo:Int) (n:Nat):It:=⟨fun i _=>i < n,fun i H x H'=>H'=H∧x=.int (lo+i),fun i _=>n≤i⟩
theorem turn_list {P:Program} {w:World} {K:PySem.W.Frag} {tg:Expr} (a it:Addr):Turn P w K tg (Itl K a) [it] it (fun i h=>h.IsListIter it a i) where
  mem:=by simp
  obj:=fun i h st b hb=>by
    have e:b=it:=by simpa using hb
    subst e
    obtain ⟨o,e,c,d⟩:=st
    exact ⟨o,e,fun v z=>by rw [d] at z;cases z⟩
  keep:=fun i h h' st k=>st.at fun o e=>k it (by simp) o e
  item:=by
    intro X hP hw hK hc i pins s σ H E I hf st hg
    subst hP hw hK
    obtain ⟨xs,x,hq,hx⟩:=hg
    obtain ⟨its,rv,p,hz⟩:=I.list hq
    obtain ⟨u,hu,ru⟩:=rv.get hx
    obtain ⟨f0,f1,f2,f3,f4,f5⟩:=hf it (by simp)
    refine wpAny_pyNext_list_item st p.isList (x:=u) (by simpa using hu) fun h' st' sb=>?_
    have I1:Inv X pins σ H { s with heap:=h' }:=I.turned (t':=s.toks) (fun b o hb e=>(sb.2 b hb).trans e) f0 f1 f3 f4 f5
    obtain ⟨o,e,c,d⟩:=id st'
    exact ⟨u,rfl,go_of (s:={ s with heap:=h' }) e c d (by decide) ⟨x,H,I1,ru,⟨rfl,fun ys hy=>by rw [I.list_inj hy hq];exact hx⟩,st',fun b hb=>(hf b hb).1⟩⟩
  done:=by
    intro X hP hw hK hc i pins s σ H E I hf st hg
    subst hP hw hK
    obtain ⟨xs,hq,hx⟩:=hg
    obtain ⟨its,rv,p,hz⟩:=I.list hq
    obtain ⟨f0,f1,f2,f3,f4,f5⟩:=hf it (by simp)
    have hl:=rv.length
    exact wpAny_pyNext_list_end (I.ok.hd hc) st p.isList (by simp;omega) fun h' eb=>⟨rfl,I.turned (t':=s.toks) (fun b o hb e=>eb b o hb e) f0 f1 f3 f4 f5⟩
  self:=fun _ _ _ _ _ st h=>wpAny_pyIter_listiter st h
theorem turn_range {P:Program} {w:World} {K:PySem.W.Frag} {tg:Expr} (it:Addr) (lo:Int) (n:Nat):Turn P w K tg (Itr lo n) [it] it (fun i h=>IsRangeIter h it (lo+(i:Nat) * 1) ((n:Int) - (i:Nat)) 1) where
  mem:=by simp
  obj := fun i h st b hb=>by
    have e:b=it:=by simpa using hb
    subst e
    exact ⟨_,st,fun v z=>by
      have z':Data.fields _=Data.cell v:=z
      cases z'⟩
  keep:=fun i h h' st k=>k it (by simp) _ st
  item:=by
    intro X hP hw hK hc i pins s σ H E I hf st hg
    subst hP hw hK
    obtain ⟨f0,f1,f2,f3,f4,f5⟩:=hf it (by simp)
    have W:=Walks.range (prog:=X.prog) (w:=X.w) (I.ok.hd hc) it lo 1 n
    refine W.item i s _ _ hg st fun v h' tk hv st' kk=>?_
    obtain ⟨t,rfl⟩:=hv
    have I1:Inv X pins σ H { s with heap:=h',toks:=tk }:=I.turned (fun b o hb e=>kk b o (by simpa using hb) e) f0 f1 f3 f4 f5
    refine ⟨_,rfl,go_of (s:={ s with heap:=h',toks:=tk }) (n:="range_iterator") st' rfl rfl (by decide) ⟨.int (lo+i),H,I1,⟨t,?_⟩,⟨rfl,rfl⟩,st',fun b hb=>(hf b hb).1⟩⟩
    rw [Int.mul_one]
  done:=by
    intro X hP hw hK hc i pins s σ H E I hf st hg
    subst hP hw hK
    obtain ⟨f0,f1,f2,f3,f4,f5⟩:=hf it (by simp)
    exact wpAny_pyNext_range_end (I.ok.hd hc) st (by have:n≤i:=hg;omega) fun h' eb=>⟨rfl,I.turned (t':=s.toks) (fun b o hb e=>eb b o hb e) f0 f1 f3 f4 f5⟩
  self:=fun _ _ _ _ _ st h=>wpAny_pyIter_rangeiter st h
end L2
namespace L2
open PySem PySem.Spec PyProof.Rows
section
variable {X:Cx} {tg:Expr}
def iList (K:PySem.W.Frag) (tl:TE):TI:=fun σ H R=>tl σ H fun x H1=>∃ a,x=.ref a∧(∃ xs,SqL K H1 a xs)∧R (Itl K a) H1
theorem pi_list {l:Expr} {tl:TE} (hl:PE X l tl):PI X tg l (iList X.K tl):=by
  intro pins s σ H R I h
  refine thn (hl pins s σ H _ I h) fun v s1 ⟨x,H1,I1,r1,q1⟩=>?_
  obtain ⟨a,e,⟨xs,hq⟩,q⟩:=q1
  subst e
  cases r1
  obtain ⟨its,rv,p,hz⟩:=I1.list hq
  refine wpAny_pyIter_list p.isList ?_
  refine ⟨s1.heap.objs.size,[s1.heap.objs.size],_,_,H1,rfl,I1.kept (t':=s1.toks) fun b o e=>Heap.get?_push_of_some _ e,turn_list a _,⟨_,Heap.get?_push_size _ rfl,rfl,rfl⟩,fun b hb=>?_,q⟩
  have e:b=s1.heap.objs.size:=by simpa using hb
  subst e
  exact I1.fpOk (Nat.le_refl _) (I1.hok.fresh (Nat.le_refl _))
theorem range_it {pins:List (Addr × Obj)} {σ:St} {H:Hp} {s:Shared} {R:It→Hp→Prop} {E:Value→Shared→Prop} {lo hi:Int} {t u v:Tok} {tk:Nat} (I:Inv X pins σ H s) (h1:-(2 ^ 62)≤lo) (h2:lo < 2 ^ 62) (h3:-(2 ^ 62)≤hi) (h4:hi < 2 ^ 62)
    (q:R (Itr lo (hi - lo).toNat) H):wpAny (model X.prog X.w) X.A (pyIter (.ref s.heap.objs.size)) (PIE X pins σ tg R) E { s with heap:=s.heap.push { cls:=.type "range",data:=.fields #[.int lo t,.int hi u,.int 1 v] },toks:=tk }:=by
  refine wpAny_pyIter_range (IsRange.new ..) (small_one h1 h2 h3 h4) ?_
  have I1:Inv X pins σ H { s with heap:=s.heap.push { cls:=.type "range",data:=.fields #[.int lo t,.int hi u,.int 1 v] },toks:=tk }:=I.kept fun b o e=>Heap.get?_push_of_some _ e
  refine ⟨(s.heap.push { cls:=.type "range",data:=.fields #[.int lo t,.int hi u,.int 1 v] }).objs.size,[(s.heap.push { cls:=.type "range",data:=.fields #[.int lo t,.int hi u,.int 1 v] }).objs.size],_,_,H,rfl,
    I1.kept (t':=tk) fun b o e=>Heap.get?_push_of_some _ e,turn_range _ lo (hi - lo).toNat,?_,fun b hb=>?_,q⟩
  · have e1:lo+((0:Nat):Int) * 1=lo:=by simp
    have e2:(((hi - lo).toNat:Nat):Int) - ((0:Nat):Int)=Builtin.Range.rangeSize lo hi 1:=by rw [rangeSize_one];split <;> omega
    show IsRangeIter _ _ (lo+((0:Nat):Int) * 1) ((((hi - lo).toNat:Nat):Int) - ((0:Nat):Int)) 1
    rw [e1,e2]
    exact Heap.get?_push_size _ rfl
  · have e:b=(s.heap.push { cls:=.type "range",data:=.fields #[.int lo t,.int hi u,.int 1 v] }).objs.size:=by simpa using hb
    subst e
    exact I1.fpOk (Nat.le_refl _) (I1.hok.fresh (Nat.le_refl _))
def iRng1 (ta:TA):TI:=fun σ H R=>ta σ H fun vs H1=>∃ j:Int,vs=[.int j]∧-(2 ^ 62)≤j∧j < 2 ^ 62∧R (Itr 0 j.toNat) H1
theorem pi_range1 {a:Expr} {ta:TA} {p pos:Pos} (hg:Gl X "range") (hm:X.mg "range"=none) (ha:PA X [a] ta) (hs:starEach [a] X.env=[(false,eval a X.env)]:=by rfl):PI X tg (.Call (.Name "range" p) [a] [] pos) (iRng1 ta):=by
  intro pins s σ H R I h
  refine Call_ (ld_blt I hg hm boot_range (PyProof.Rows.callWith_type1 (thn (ha pos pins s σ H _ I h) fun us s1 ⟨vs,H1,I1,r1,q1⟩=>?_) hs rfl))
  obtain ⟨j,e,q1,q2,q⟩:=q1
  subst e
  cases r1 with
  | cons r rr =>
    cases rr
    obtain ⟨t,rfl⟩:=r
    exact call_range_1 (range_it I1 (by omega) (by omega) q1 q2 (by simpa using q))
def tFor (wi:TI) (g:TG) (tb:TS):TS:=fun D σ H=>wi σ H fun J H1=>∃ W:Nat→Nat→St→Hp→Prop,(∃ m,W 0 m σ H1)∧∀ i m σ H,W i m σ H →
  (J.stop i H∧D.nx σ H)∨(J.go i H∧∃ N:St→Hp→Prop,(∀ σ' H',N σ' H'→∃ m',m' < m∧W (i+1) m' σ' H')∧∀ x H',J.yld i H x H'→g x σ H' fun σ2 H2=>tb { D with nx:=N,ct:=N,bk:=D.nx } σ2 H2)
def pinsAt (fp:List Addr) (h:Heap):List (Addr × Obj):=fp.filterMap fun b=>(h.get? b).map fun o=>(b,o)
theorem mem_pinsAt {fp:List Addr} {h:Heap} {b:Addr} {o:Obj} (hb:b ∈ fp) (e:h.get? b=some o):(b,o) ∈ pinsAt fp h:=List.mem_filterMap.mpr ⟨b,hb,by rw [e];rfl⟩
theorem of_pinsAt {fp:List Addr} {h:Heap} {p:Addr × Obj} (hp:p ∈ pinsAt fp h):p.1 ∈ fp∧h.get? p.1=some p.2:=by
  obtain ⟨b,hb,e⟩:=List.mem_filterMap.mp hp
  cases q:h.get? b with
  | none=>rw [q] at e;cases e
  | some o =>
    rw [q] at e
    have e':(b,o)=p:=Option.some.inj e
    subst e'
    exact ⟨hb,q⟩
theorem Inv.pinned {pins:List (Addr × Obj)} {σ:St} {H:Hp} {s:Shared} {fp:List Addr} (I:Inv X pins σ H s) (hf:∀ b ∈ fp,FpOk X pins H b) (ho:∀ b ∈ fp,∃ o,s.heap.get? b=some o∧∀ v,o.data≠.cell v):Inv X (pins++pinsAt fp s.heap) σ H s :=
  I.pins_of fun p hp=>(List.mem_append.mp hp).elim (fun z=>I.pin p (List.mem_append_right _ z)) fun z=>by
    obtain ⟨hb,e⟩:=of_pinsAt z
    obtain ⟨f0,f1,f2,_⟩:=hf p.1 hb
    obtain ⟨o,e',d⟩:=ho p.1 hb
    rw [e] at e';cases e'
    exact ⟨e,f0,f1,f2,d⟩
theorem Inv.unpinned {pins pl:List (Addr × Obj)} {σ:St} {H:Hp} {s:Shared} (I:Inv X (pins++pl) σ H s):Inv X pins σ H s:=I.pins_of fun p hp=>I.pin p (List.mem_append_right _ (List.mem_append_left _ hp))
theorem ps_for {iter:Expr} {body:List Stmt} {wi:TI} {g:TG} {tb:TS} {pos:Pos} (hp:PassesOwn (model X.prog X.w) X.A X.env X.xe) (hc:X.calm=true) (hi:PI X tg iter wi) (hg:PG X tg g) (hb:PSs X body tb)
    (hs:∀ x,foldedSetIterable iter X.env x=pure x:=by intro _;rfl):PS X (.For tg iter body [] pos) (tFor wi g tb):=by
  intro pins s σ H D I h
  refine wpAny_For (thn (hi pins s σ H _ I h) fun v s1 h1=>thn h1 fun itv s2 h2=>?_) hs
  obtain ⟨it,fp,tn,J,H2,e,I2,T,st2,f2,W,⟨m0,w0⟩,turn⟩:=h2
  subst e
  have stat:∀ {H':Hp},(∀ b ∈ fp,H' b=none)→∀ b ∈ fp,FpOk X pins H' b:=fun hn b hb=>⟨hn b hb,(f2 b hb).2⟩
  refine codeAny_forLoop_any (fun n s'=>∃ i σ' H',Inv X pins σ' H' s'∧tn i s'.heap∧(∀ b ∈ fp,H' b=none)∧W i n σ' H') ?_ m0 ⟨0,σ,H2,I2,st2,fun b hb=>(f2 b hb).1,w0⟩
  rintro n s3 ⟨i,σ3,H3,I3,st3,fr3,w3⟩
  rcases turn i n σ3 H3 w3 with ⟨stop,qn⟩ | ⟨go,N,hN,step⟩
  · refine wpAny_passesOwn hp (thn (T.done X rfl rfl rfl hc i pins s3 σ3 H3 X.xe I3 (stat fr3) st3 stop) fun r s4 ⟨hr,I4⟩=>?_)
    subst hr
    exact wpAny_execs_nil ⟨σ3,H3,I4,qn⟩
  · refine wpAny_passesOwn hp (thn (T.item X rfl rfl rfl hc i pins s3 σ3 H3 X.xe I3 (stat fr3) st3 go) fun r s4 ⟨u,hr,h4⟩=>?_)
    subst hr
    refine wpAny_passesOwn hp (thn h4 fun _ s5 ⟨x,H5,I5,r5,y5,st5,fr5⟩=>?_)
    have I5':=I5.pinned (stat fr5) (T.obj _ _ st5)
    refine wpAny_passesOwn hp (thn (hg _ s5 σ3 H5 x u _ I5' r5 (step x H5 y5)) fun _ s6 ⟨σ6,H6,I6,q6⟩=>?_)
    refine wpAny_passesOwn hp (thn (hb _ s6 σ6 H6 _ I6 q6) fun f s7 q7=>?_)
    have again:∀ {σ7:St} {H7:Hp},Inv X (pins++pinsAt fp s5.heap) σ7 H7 s7→N σ7 H7→∃ m,m < n∧∃ i σ' H',Inv X pins σ' H' s7∧tn i s7.heap∧(∀ b ∈ fp,H' b=none)∧W i m σ' H':=fun {σ7 H7} I7 n7=>by
      obtain ⟨m',hm,w7⟩:=hN σ7 H7 n7
      refine ⟨m',hm,i+1,σ7,H7,I7.unpinned,T.keep _ _ _ st5 fun b hb o e=>(I7.pin (b,o) (List.mem_append_right _ (List.mem_append_right _ (mem_pinsAt hb e)))).1,fun b hb=>?_,w7⟩
      obtain ⟨o,e,d⟩:=T.obj _ _ st5 b hb
      exact (I7.pin (b,o) (List.mem_append_right _ (List.mem_append_right _ (mem_pinsAt hb e)))).2.1
    cases f with
    | next=>obtain ⟨σ7,H7,I7,n7⟩:=q7;exact again I7 n7
    | cont=>obtain ⟨σ7,H7,I7,n7⟩:=q7;exact again I7 n7
    | brk=>obtain ⟨σ7,H7,I7,q7⟩:=q7;exact ⟨σ7,H7,I7.unpinned,q7⟩
    | ret v=>obtain ⟨x7,σ7,H7,I7,r7,q7⟩:=q7;exact ⟨x7,σ7,H7,I7.unpinned,r7,q7⟩
end
theorem for_range {lo:Int} {n:Nat} {g:TG} {tb:TS} {D:Ends} {σ:St} {H:Hp} (Pv:Nat→St→Hp→Prop) (h0:Pv 0 σ H)
    (hs:∀ i σ H,i < n→Pv i σ H→g (.int (lo+i)) σ H fun σ2 H2=>tb { D with nx:=Pv (i+1),ct:=Pv (i+1),bk:=D.nx } σ2 H2) (hd:∀ σ H,Pv n σ H→D.nx σ H) :
    ∃ W:Nat→Nat→St→Hp→Prop,(∃ m,W 0 m σ H)∧∀ i m σ H,W i m σ H →
      ((Itr lo n).stop i H∧D.nx σ H)∨((Itr lo n).go i H∧∃ N:St→Hp→Prop,(∀ σ' H',N σ' H'→∃ m',m' < m∧W (i+1) m' σ' H')∧∀ x H',(Itr lo n).yld i H x H'→g x σ H' fun σ2 H2=>tb { D with nx:=N,ct:=N,bk:=D.nx } σ2 H2):=by
  refine ⟨fun i m σ H=>m=n - i∧i≤n∧Pv i σ H,⟨n,by simp,Nat.zero_le _,h0⟩,?_⟩
  rintro i m σ H ⟨rfl,hi,p⟩
  by_cases hlt:i < n
  · refine .inr ⟨hlt,Pv (i+1),fun σ' H' p'=>⟨n - (i+1),by omega,rfl,hlt,p'⟩,fun x H' y=>?_⟩
    obtain ⟨e,y⟩:=y
    subst e y
    exact hs i σ _ hlt p
  · have e:i=n:=by omega
    subst e
    exact .inl ⟨Nat.le_refl _,hd σ H p⟩
theorem while_by {c:TT} {tb:TS} {D:Ends} {σ:St} {H:Hp} (Pv:St→Hp→Prop) (μ:St→Hp→Nat) (h0:Pv σ H)
    (hs:∀ σ H,Pv σ H→c σ H fun b H1=>if b=true then tb { D with nx:=fun σ' H'=>Pv σ' H'∧μ σ' H' < μ σ H,ct:=fun σ' H'=>Pv σ' H'∧μ σ' H' < μ σ H,bk:=D.nx } σ H1 else D.nx σ H1)
    (mono:∀ σ H Q Q',(∀ b H1,Q b H1→Q' b H1)→c σ H Q→c σ H Q'):tWhile c tb D σ H:=by
  refine ⟨fun m σ H=>m=μ σ H∧Pv σ H,⟨_,rfl,h0⟩,?_⟩
  rintro m σ H ⟨rfl,p⟩
  refine mono σ H _ _ (fun b H1 q=>?_) (hs σ H p)
  cases b with
  | true=>exact ⟨_,fun σ' H' ⟨p',l⟩=>⟨_,l,rfl,p'⟩,q⟩
  | false=>exact q
end L2
namespace L2
open PySem PySem.Spec PyProof.Rows
abbrev R2:=V→V→Hp→VK→Prop
def OpR (X:Cx) (f:Value→Value→Sem Value) (r:R2):Prop :=
  ∀ (pins:List (Addr × Obj)) (s:Shared) (σ:St) (H:Hp) (x y:V) (v u:Value) (Q:VK),Inv X pins σ H s→RelV x v→RelV y u→r x y H Q →
    wpAny (model X.prog X.w) X.A (f v u) (EP X pins σ Q) X.xe s
def CallR (X:Cx) (f:Value) (r:List V→Hp→VK→Prop):Prop :=
  ∀ (pins:List (Addr × Obj)) (s:Shared) (σ:St) (H:Hp) (xs:List V) (us:List Value) (Q:VK),Inv X pins σ H s→Vals xs us→r xs H Q →
    wpAny (model X.prog X.w) X.A (call f us) (EP X pins σ Q) X.xe s
def TruR (X:Cx) (r:V→Hp→(Bool→Hp→Prop)→Prop):Prop :=
  ∀ (pins:List (Addr × Obj)) (s:Shared) (σ:St) (H:Hp) (x:V) (v:Value) (Q:Bool→Hp→Prop),Inv X pins σ H s→RelV x v→r x H Q →
    wpAny (model X.prog X.w) X.A (truthy v) (TP X pins σ Q) X.xe s
def tOp (r:R2) (ta tb:TE):TE:=fun σ H Q=>ta σ H fun x H1=>tb σ H1 fun y H2=>r x y H2 Q
def rI (C:Int→Int→Prop) (g:Int→Int→V):R2:=fun x y H Q=>∃ i j,x=.int i∧y=.int j∧C i j∧Q (g i j) H
def rI0 (g:Int→Int→V):R2:=fun x y H Q=>∃ i j,x=.int i∧y=.int j∧Q (g i j) H
section
variable {X:Cx} {a b c:Expr} {ta tb tc:TE} {pos:Pos}
theorem binT (ha:PE X a ta) (hb:PE X b tb) {pins:List (Addr × Obj)} {s:Shared} {σ:St} {H:Hp} {R:V→V→Hp→Prop} (I:Inv X pins σ H s)
    (h:ta σ H fun x H1=>tb σ H1 fun y H2=>R x y H2) {Q:Value→Shared→Prop} {f:Value→Value→Sem Value}
    (hf:∀ v u s2 x y H2,Inv X pins σ H2 s2→RelV x v→RelV y u→R x y H2→wpAny (model X.prog X.w) X.A (f v u) Q X.xe s2) :
    wpAny (model X.prog X.w) X.A (eval a X.env) (fun v s₁=>wpAny (model X.prog X.w) X.A (eval b X.env) (fun u s₂=>wpAny (model X.prog X.w) X.A (f v u) Q X.xe s₂) X.xe s₁) X.xe s:=by
  refine thn (ha pins s σ H _ I h) fun v s1 ⟨x,H1,I1,r1,q1⟩=>?_
  refine thn (hb pins s1 σ H1 _ I1 q1) fun u s2 ⟨y,H2,I2,r2,q2⟩=>?_
  exact hf v u s2 x y H2 I2 r1 r2 q2
theorem pe_op {op:Operator} {r:R2} (ho:OpR X (binaryOp op) r) (ha:PE X a ta) (hb:PE X b tb):PE X (.BinOp a op b pos) (tOp r ta tb):=by
  intro pins s σ H Q I h
  exact wpAny_BinOp (binT ha hb I h fun v u s2 x y H2 I2 rx ry q=>ho pins s2 σ H2 x y v u Q I2 rx ry q)
theorem opI {f:Value→Value→Sem Value} {C:Int→Int→Prop} {g:Int→Int→Int}
    (rule:∀ (i j:Int) (t u:Tok) (s:Shared) (Q:Value→Shared→Prop) (E:Value→Shared→Prop),C i j→Q (.int (g i j) s.toks) { s with toks:=s.toks+1 }→wpAny (model X.prog X.w) X.A (f (.int i t) (.int j u)) Q E s) :
    OpR X f (rI C fun i j=>.int (g i j)):=by
  intro pins s σ H x y v u Q I rx ry h
  obtain ⟨i,j,rfl,rfl,hc,q⟩:=h
  obtain ⟨t,rfl⟩:=rx
  obtain ⟨t',rfl⟩:=ry
  exact rule i j t t' s _ _ hc ⟨.int (g i j),H,I.tok _,⟨_,rfl⟩,q⟩
theorem opI0 {f:Value→Value→Sem Value} {g:Int→Int→Int}
    (rule:∀ (i j:Int) (t u:Tok) (s:Shared) (Q:Value→Shared→Prop) (E:Value→Shared→Prop),Q (.int (g i j) s.toks) { s with toks:=s.toks+1 }→wpAny (model X.prog X.w) X.A (f (.int i t) (.int j u)) Q E s) :
    OpR X f (rI0 fun i j=>.int (g i j)):=by
  intro pins s σ H x y v u Q I rx ry h
  obtain ⟨i,j,rfl,rfl,q⟩:=h
  obtain ⟨t,rfl⟩:=rx
  obtain ⟨t',rfl⟩:=ry
  exact rule i j t t' s _ _ ⟨.int (g i j),H,I.tok _,⟨_,rfl⟩,q⟩
theorem opB0 {f:Value→Value→Sem Value} {g:Int→Int→Bool}
    (rule:∀ (i j:Int) (t u:Tok) (s:Shared) (Q:Value→Shared→Prop) (E:Value→Shared→Prop),Q (.bool (g i j)) s→wpAny (model X.prog X.w) X.A (f (.int i t) (.int j u)) Q E s) :
    OpR X f (rI0 fun i j=>.bl (g i j)):=by
  intro pins s σ H x y v u Q I rx ry h
  obtain ⟨i,j,rfl,rfl,q⟩:=h
  obtain ⟨t,rfl⟩:=rx
  obtain ⟨t',rfl⟩:=ry
  exact rule i j t t' s _ _ ⟨.bl (g i j),H,I,rfl,q⟩
def CPow (i j:Int):Prop:=0≤j∧j≤1000000∧i.natAbs < 2 ^ 64
def CMul (i j:Int):Prop:=(-(2 ^ 64) < i∧i < 2 ^ 64)∨(-(2 ^ 64) < j∧j < 2 ^ 64)
theorem CMul.ok {i j:Int} (h:CMul i j):IntMulOk i j:=by
  rcases h with ⟨h1,h2⟩ | ⟨h1,h2⟩
  · exact .of_left (intBits_le_64 h1 h2)
  · exact .of_right (intBits_le_64 h1 h2)
theorem op_add:OpR X (binaryOp .Add) (rI0 fun i j=>.int (i+j)):=opI0 fun _ _ _ _ _ _ _ q=>add_int q
theorem op_sub:OpR X (binaryOp .Sub) (rI0 fun i j=>.int (i - j)):=opI0 fun _ _ _ _ _ _ _ q=>sub_int q
theorem op_mul:OpR X (binaryOp .Mult) (rI CMul fun i j=>.int (i * j)):=opI fun _ _ _ _ _ _ _ hc q=>mul_int q hc.ok
theorem op_mod:OpR X (binaryOp .Mod) (rI (fun _ j=>0 < j) fun i j=>.int (i % j)):=opI fun i j _ _ _ _ _ hc q=>by
  have h1:(0:Int) < j:=hc
  exact mod_int' (by omega) (by rw [Int.fmod_eq_emod_of_nonneg i (by omega)];exact q)
theorem op_pow:OpR X (binaryOp .Pow) (rI CPow fun i j=>.int (i ^ j.toNat)):=opI fun _ _ _ _ _ _ _ hc q=>pow_int_small hc.1 hc.2.1 hc.2.2 q
end
def scal:V→V→Bool
  | .non,.non=>true | .non,.int _=>true | .int _,.non=>true | .non,.bl _=>true | .bl _,.non=>true | .non,.str _=>true | .str _,.non=>true
  | .int _,.int _=>true | .bl _,.bl _=>true | .str _,.str _=>true | .byt _,.byt _=>true
  | .int _,.str _=>true | .str _,.int _=>true | .bl _,.str _=>true | .str _,.bl _=>true
  | _,_=>false
def rEq:R2:=fun x y H Q=>scal x y=true∧Q (.bl (decide (x=y))) H
def rNe:R2:=fun x y H Q=>scal x y=true∧Q (.bl (!decide (x=y))) H
theorem dec_int {i j:Int}:decide (V.int i=V.int j)=(i == j):=by
  rw [Bool.eq_iff_iff]
  simp
theorem dec_bl {i j:Bool}:decide (V.bl i=V.bl j)=(i == j):=by
  rw [Bool.eq_iff_iff]
  simp
theorem dec_str {i j:Str}:decide (V.str i=V.str j)=(i == j):=by
  rw [Bool.eq_iff_iff]
  simp
theorem dec_byt {i j:Array UInt8}:decide (V.byt i=V.byt j)=(i.toList == j.toList):=by
  rw [Bool.eq_iff_iff]
  cases i
  cases j
  simp
section
variable {X:Cx} {a b c:Expr} {ta tb tc:TE} {pos:Pos}
theorem fin_bl {pins:List (Addr × Obj)} {σ:St} {H:Hp} {s:Shared} {Q:VK} {k k':Bool} (I:Inv X pins σ H s) (q:Q (.bl k) H) (e:k=k'):EP X pins σ Q (.bool k') s:=by
  subst e
  exact ⟨.bl k,H,I,rfl,q⟩
theorem op_eq:OpR X (compareOp .Eq) rEq:=by
  intro pins s σ H x y v u Q I rx ry h
  obtain ⟨hs,q⟩:=h
  cases x with
  | non =>
    cases rx
    cases y with
    | non=>cases ry;exact PySem.EqNone.eq_none_none (fin_bl I q (by simp))
    | bl j=>cases ry;exact PySem.EqNone.eq_none_bool (fin_bl I q (by simp))
    | int j=>obtain ⟨t',rfl⟩:=ry;exact PySem.EqNone.eq_none_int (fin_bl I q (by simp))
    | str j=>obtain ⟨t',rfl⟩:=ry;exact PySem.EqNone.eq_none_str (fin_bl I q (by simp))
    | _=>exact absurd (show false=true from hs) Bool.false_ne_true
  | bl i =>
    cases rx
    cases y with
    | non=>cases ry;exact PySem.EqNone.eq_bool_none (fin_bl I q (by simp))
    | bl j=>cases ry;exact eq_bool (fin_bl I q dec_bl)
    | str j=>obtain ⟨t',rfl⟩:=ry;exact PySem.EqMixed.eq_bool_str (fin_bl I q (by simp))
    | _=>exact absurd (show false=true from hs) Bool.false_ne_true
  | int i =>
    obtain ⟨t,rfl⟩:=rx
    cases y with
    | non=>cases ry;exact PySem.EqNone.eq_int_none (fin_bl I q (by simp))
    | int j=>obtain ⟨t',rfl⟩:=ry;exact eq_int (fin_bl I q dec_int)
    | str j=>obtain ⟨t',rfl⟩:=ry;exact PySem.EqMixed.eq_int_str (fin_bl I q (by simp))
    | _=>exact absurd (show false=true from hs) Bool.false_ne_true
  | str i =>
    obtain ⟨t,rfl⟩:=rx
    cases y with
    | non=>cases ry;exact PySem.EqNone.eq_str_none (fin_bl I q (by simp))
    | bl j=>cases ry;exact PySem.EqMixed.eq_str_bool (fin_bl I q (by simp))
    | int j=>obtain ⟨t',rfl⟩:=ry;exact PySem.EqMixed.eq_str_int (fin_bl I q (by simp))
    | str j=>obtain ⟨t',rfl⟩:=ry;exact eq_str (fin_bl I q dec_str)
    | _=>exact absurd (show false=true from hs) Bool.false_ne_true
  | byt i =>
    obtain ⟨t,rfl⟩:=rx
    cases y with
    | byt j=>obtain ⟨t',rfl⟩:=ry;exact PySem.W.eq_bytes (fin_bl I q dec_byt)
    | _=>exact absurd (show false=true from hs) Bool.false_ne_true
  | _=>cases y <;> exact absurd (show false=true from hs) Bool.false_ne_true
theorem op_ne:OpR X (compareOp .NotEq) rNe:=by
  intro pins s σ H x y v u Q I rx ry h
  obtain ⟨hs,q⟩:=h
  cases x with
  | non =>
    cases rx
    cases y with
    | non=>cases ry;exact PySem.EqNone.ne_none_none (fin_bl I q (by simp))
    | bl j=>cases ry;exact PySem.EqNone.ne_none_bool (fin_bl I q (by simp))
    | int j=>obtain ⟨t',rfl⟩:=ry;exact PySem.EqNone.ne_none_int (fin_bl I q (by simp))
    | str j=>obtain ⟨t',rfl⟩:=ry;exact PySem.EqNone.ne_none_str (fin_bl I q (by simp))
    | _=>exact absurd (show false=true from hs) Bool.false_ne_true
  | bl i =>
    cases rx
    cases y with
    | non=>cases ry;exact PySem.EqNone.ne_bool_none (fin_bl I q (by simp))
    | bl j=>cases ry;exact ne_bool (fin_bl I q (congrArg not dec_bl))
    | str j=>obtain ⟨t',rfl⟩:=ry;exact PySem.EqMixed.ne_bool_str (fin_bl I q (by simp))
    | _=>exact absurd (show false=true from hs) Bool.false_ne_true
  | int i =>
    obtain ⟨t,rfl⟩:=rx
    cases y with
    | non=>cases ry;exact PySem.EqNone.ne_int_none (fin_bl I q (by simp))
    | int j=>obtain ⟨t',rfl⟩:=ry;exact ne_int (fin_bl I q (congrArg not dec_int))
    | str j=>obtain ⟨t',rfl⟩:=ry;exact PySem.EqMixed.ne_int_str (fin_bl I q (by simp))
    | _=>exact absurd (show false=true from hs) Bool.false_ne_true
  | str i =>
    obtain ⟨t,rfl⟩:=rx
    cases y with
    | non=>cases ry;exact PySem.EqNone.ne_str_none (fin_bl I q (by simp))
    | bl j=>cases ry;exact PySem.EqMixed.ne_str_bool (fin_bl I q (by simp))
    | int j=>obtain ⟨t',rfl⟩:=ry;exact PySem.EqMixed.ne_str_int (fin_bl I q (by simp))
    | str j=>obtain ⟨t',rfl⟩:=ry;exact ne_str (fin_bl I q (congrArg not dec_str))
    | _=>exact absurd (show false=true from hs) Bool.false_ne_true
  | byt i =>
    obtain ⟨t,rfl⟩:=rx
    cases y with
    | byt j=>obtain ⟨t',rfl⟩:=ry;exact PySem.W.ne_bytes (fin_bl I q (congrArg not dec_byt))
    | _=>exact absurd (show false=true from hs) Bool.false_ne_true
  | _=>cases y <;> exact absurd (show false=true from hs) Bool.false_ne_true
theorem op_lt:OpR X (compareOp .Lt) (rI0 fun i j=>.bl (decide (i < j))):=opB0 fun _ _ _ _ _ _ _ q=>lt_int q
theorem op_le:OpR X (compareOp .LtE) (rI0 fun i j=>.bl (decide (i≤j))):=opB0 fun _ _ _ _ _ _ _ q=>le_int q
theorem op_gt:OpR X (compareOp .Gt) (rI0 fun i j=>.bl (decide (j < i))):=opB0 fun _ _ _ _ _ _ _ q=>gt_int q
theorem op_ge:OpR X (compareOp .GtE) (rI0 fun i j=>.bl (decide (j≤i))):=opB0 fun _ _ _ _ _ _ _ q=>ge_int q
theorem op_in_str:OpR X (compareOp .In) (fun x y H Q=>∃ i j,x=.str i∧y=.str j∧Q (.bl (!(Builtin.Str.occurrences j i 0 j.length 1).isEmpty)) H):=by
  intro pins s σ H x y v u Q I rx ry h
  obtain ⟨i,j,rfl,rfl,q⟩:=h
  obtain ⟨t,rfl⟩:=rx
  obtain ⟨t',rfl⟩:=ry
  exact in_str (fin_bl I q rfl)
theorem op_isN:OpR X (compareOp .Is) (fun x y H Q=>y=.non∧Q (.bl (decide (x=.non))) H):=by
  intro pins s σ H x y v u Q I rx ry h
  obtain ⟨rfl,q⟩:=h
  cases ry
  refine is_none_gen (fin_bl I q ?_)
  cases x <;> first
    | (cases rx;rfl)
    | (obtain ⟨t,rfl⟩:=rx;rfl)
theorem op_notN:OpR X (compareOp .IsNot) (fun x y H Q=>y=.non∧Q (.bl (!decide (x=.non))) H):=by
  intro pins s σ H x y v u Q I rx ry h
  obtain ⟨rfl,q⟩:=h
  cases ry
  refine isnot_none_gen (fin_bl I q ?_)
  cases x <;> first
    | (cases rx;rfl)
    | (obtain ⟨t,rfl⟩:=rx;rfl)
theorem nomark (b:Expr) {op:CmpOp} (h:op≠.In:=by decide) (h2:op≠.NotIn:=by decide):behindInMarks op b=false:=by
  have e1:(op == CmpOp.In)=false:=by cases op <;> first | rfl | exact absurd rfl h
  have e2:(op == CmpOp.NotIn)=false:=by cases op <;> first | rfl | exact absurd rfl h2
  cases b <;> simp [behindInMarks,e1,e2]
theorem pe_cmpR {op:CmpOp} {r:R2} (ho:OpR X (compareOp op) r) (ha:PE X a ta) (hb:PE X b tb) (hm:behindInMarks op b=false):PE X (.Compare a [op] [b] pos) (tOp r ta tb):=by
  intro pins s σ H Q I h
  exact wpAny_Compare1 (binT ha hb I h fun v u s2 x y H2 I2 rx ry q=>ho pins s2 σ H2 x y v u Q I2 rx ry q) hm
def tTest (t:TE):TT:=fun σ H Q=>t σ H fun x H'=>∃ k,x=.bl k∧Q k H'
theorem pt_cmpR {op:CmpOp} {r:R2} (ho:OpR X (compareOp op) r) (ha:PE X a ta) (hb:PE X b tb) (hm:behindInMarks op b=false):PT X (.Compare a [op] [b] pos) (tTest (tOp r ta tb)):=by
  intro pins s σ H Q I h
  refine wpAny_isTrue_Compare1 (thn (ha pins s σ H _ I h) fun v s1 ⟨x,H1,I1,r1,q1⟩=>thn (hb pins s1 σ H1 _ I1 q1) fun u s2 ⟨y,H2,I2,r2,q2⟩ =>
    thn (ho pins s2 σ H2 x y v u _ I2 r1 r2 q2) fun c s3 ⟨z,H3,I3,r3,k,e,q3⟩=>?_) hm
  subst e
  cases r3
  exact wpAny_truthy_bool ⟨H3,I3,q3⟩
def tChain (r r':R2) (ta tb tc:TE):TE:=fun σ H Q=>ta σ H fun x H1=>tb σ H1 fun y H2=>r x y H2 fun z H3=>∃ k,z=.bl k ∧
  (if k=true then tc σ H3 fun w' H4=>r' y w' H4 Q else Q (.bl false) H3)
theorem pe_chain {op op':CmpOp} {r r':R2} (ho:OpR X (compareOp op) r) (ho':OpR X (compareOp op') r') (ha:PE X a ta) (hb:PE X b tb) (hc:PE X c tc)
    (hm:lastMarks [op,op'] [b,c]=false:=by with_unfolding_all rfl):PE X (.Compare a [op,op'] [b,c] pos) (tChain r r' ta tb tc):=by
  intro pins s σ H Q I h
  refine Compare_chain (thn (ha pins s σ H _ I h) fun v s1 ⟨x,H1,I1,r1,q1⟩=>chain_link (thn (hb pins s1 σ H1 _ I1 q1) fun u s2 ⟨y,H2,I2,r2,q2⟩ =>
    thn (ho pins s2 σ H2 x y v u _ I2 r1 r2 q2) fun d s3 ⟨z,H3,I3,r3,k,e,q3⟩=>?_)) hm
  subst e
  cases r3
  refine wpAny_truthy_bool ?_
  cases k with
  | false=>exact ite_ff ⟨.bl false,H3,I3,rfl,q3⟩
  | true=>exact ite_tt (chain_last (thn (hc pins s3 σ H3 _ I3 q3) fun w' s4 ⟨z',H4,I4,r4,q4⟩=>ho' pins s4 σ H4 y z' u w' Q I4 r2 r4 q4))
def TruV (K:PySem.W.Frag) (x:V) (H:Hp) (k:Bool):Prop :=
  match x with
  | .non=>k=false
  | .bl b=>k=b
  | .int i=>k=(i != 0)
  | .str y=>y.length≤sizeLine∧k=((y.length:Int) != 0)
  | .byt y=>y.size≤sizeLine∧k=((y.size:Int) != 0)
  | .ref p=>(∃ xs,SqL K H p xs∧k=!xs.isEmpty)∨(∃ xs,SqT K H p xs∧k=!xs.isEmpty)∨∃ kvs,H p=some (.dK kvs)∧k=!kvs.isEmpty
  | _=>False
theorem isEmpty_kv {κ:Type} {kvs:List (κ × V)} {vs:List (κ × Value)} (r:KV kvs vs):(!vs.isEmpty)=!kvs.isEmpty:=by
  cases r <;> rfl
theorem isEmpty_of {xs:List V} {its:List Value} (r:Vals xs its):(!its.toArray.isEmpty)=!xs.isEmpty:=by
  cases r <;> simp
theorem line63:(sizeLine:Nat) < 2 ^ 63:=by rw [sizeLine_eq];decide
theorem tru_ok:TruR X (fun x H Q=>∃ k,TruV X.K x H k∧Q k H):=by
  intro pins s σ H x v Q I rx h
  obtain ⟨k,e,q⟩:=h
  have hl:=line63
  have hs:sizeLine=16777216:=sizeLine_eq
  cases x with
  | non =>
    cases rx
    have e':k=false:=e
    subst e'
    exact truthy_none ⟨H,I,q⟩
  | bl b =>
    cases rx
    have e':k=b:=e
    subst e'
    exact wpAny_truthy_bool ⟨H,I,q⟩
  | int i =>
    obtain ⟨t,rfl⟩:=rx
    have e':k=(i != 0):=e
    subst e'
    exact PySem.P.truthy_int ⟨H,I,q⟩
  | str y =>
    obtain ⟨t,rfl⟩:=rx
    obtain ⟨hy,e'⟩:y.length≤sizeLine∧k=((y.length:Int) != 0):=e
    subst e'
    exact PySem.P.truthy_str (by omega) ⟨H,I.tok _,q⟩
  | byt y =>
    obtain ⟨t,rfl⟩:=rx
    obtain ⟨hy,e'⟩:y.size≤sizeLine∧k=((y.size:Int) != 0):=e
    subst e'
    exact PySem.W.truthy_bytes (by omega) ⟨H,I.tok _,q⟩
  | ref p =>
    cases rx
    have e':(∃ xs,SqL X.K H p xs∧k=!xs.isEmpty)∨(∃ xs,SqT X.K H p xs∧k=!xs.isEmpty)∨∃ kvs,H p=some (.dK kvs)∧k=!kvs.isEmpty:=e
    rcases e' with ⟨xs,hx,e'⟩ | ⟨xs,hx,e'⟩ | ⟨kvs,hx,e'⟩
    · subst e'
      obtain ⟨its,r,pl,hz⟩:=I.list hx
      have hlen:=r.length
      exact wpAny_truthy_list pl.isList (by simp only [List.size_toArray];omega) ⟨H,I.tok _,by rw [isEmpty_of r];exact q⟩
    · subst e'
      obtain ⟨its,r,pl,hz⟩:=I.tuple hx
      have hlen:=r.length
      exact truthy_tuple pl (by simp only [List.size_toArray];omega) ⟨H,I.tok _,by rw [isEmpty_of r];exact q⟩
    · subst e'
      obtain ⟨hz,hS,vs,r,m⟩:kvs.length≤sizeLine∧(p == sysModules)=false∧∃ vs,KV kvs vs∧s.heap.DictOf (mixKind X.prog X.w) p vs:=I.hok p _ hx
      have hlen:kvs.length=vs.length:=Paired.length r
      exact wpAny_truthy_dict hS m (by omega) ⟨H,I.tok _,by rw [isEmpty_kv r];exact q⟩
  | _=>exact (show False from e).elim
theorem pt_truth (ha:PE X a ta) (he:∀ whole,isTrue a X.env whole=(do let v ← whole;standAt a.pos;holding [v] (truthy v))) :
    PT X a (fun σ H Q=>ta σ H fun x H'=>∃ k,TruV X.K x H' k∧Q k H'):=by
  intro pins s σ H Q I h
  exact isTrue_plain (thn (ha pins s σ H _ I h) fun v s1 ⟨x,H1,I1,r1,q1⟩=>tru_ok pins s1 σ H1 x v Q I1 r1 q1) (he _)
theorem op_add_str:OpR X (binaryOp .Add) (fun x y H Q=>∃ i j,x=.str i∧y=.str j∧i.length+j.length≤sizeLine∧Q (.str (i++j)) H):=by
  intro pins s σ H x y v u Q I rx ry h
  obtain ⟨i,j,rfl,rfl,hz,q⟩:=h
  obtain ⟨t,rfl⟩:=rx
  obtain ⟨t',rfl⟩:=ry
  exact add_str (fun t' tk=>⟨.str (i++j),H,I.tok _,⟨_,rfl⟩,q⟩) hz
theorem vals1 {x:V} {us:List Value} (r:Vals [x] us):∃ u,us=[u]∧RelV x u:=by
  cases r with
  | cons r1 r2=>cases r2;exact ⟨_,rfl,r1⟩
theorem vals2 {x y:V} {us:List Value} (r:Vals [x,y] us):∃ u w',us=[u,w']∧RelV x u∧RelV y w':=by
  cases r with
  | cons r1 r2 =>
    cases r2 with
    | cons r3 r4=>cases r4;exact ⟨_,_,rfl,r1,r3⟩
theorem call_int1:CallR X (.type "int") (fun xs H Q=>(∃ i,xs=[.int i]∧Q (.int i) H)∨∃ k,xs=[.bl k]∧Q (.int (if k then 1 else 0)) H):=by
  intro pins s σ H xs us Q I r h
  rcases h with ⟨i,rfl,q⟩ | ⟨k,rfl,q⟩
  · obtain ⟨u,rfl,t,rfl⟩:=vals1 r
    exact call_int_int ⟨.int i,H,I,⟨_,rfl⟩,q⟩
  · obtain ⟨u,rfl,r1⟩:=vals1 r
    cases r1
    exact call_int_bool ⟨.int (if k then 1 else 0),H,I.tok _,⟨_,rfl⟩,q⟩
theorem call_str_int:CallR X (.type "str") (fun xs H Q=>∃ i,xs=[.int i]∧i.natAbs.log2 < 1920∧Q (.str (toString i)) H):=by
  intro pins s σ H xs us Q I r h
  obtain ⟨i,rfl,hz,q⟩:=h
  obtain ⟨u,rfl,t,rfl⟩:=vals1 r
  exact PySem.P.str_of_int hz ⟨.str _,H,I.tok _,⟨_,rfl⟩,q⟩
def LenV (K:PySem.W.Frag) (x:V) (H:Hp) (n:Nat):Prop :=
  match x with
  | .str y=>y.length≤sizeLine∧n=y.length
  | .byt y=>y.size≤sizeLine∧n=y.size
  | .ref p=>(∃ xs,SqL K H p xs∧n=xs.length)∨∃ xs,SqT K H p xs∧n=xs.length
  | _=>False
theorem call_len:CallR X (.builtin "len") (fun xs H Q=>∃ x n,xs=[x]∧LenV X.K x H n∧Q (.int n) H):=by
  intro pins s σ H xs us Q I r h
  obtain ⟨x,n,rfl,e,q⟩:=h
  obtain ⟨u,rfl,rx⟩:=vals1 r
  have hl:=line63
  have hs:sizeLine=16777216:=sizeLine_eq
  cases x with
  | str y =>
    obtain ⟨t,rfl⟩:=rx
    obtain ⟨hy,e'⟩:y.length≤sizeLine∧n=y.length:=e
    subst e'
    exact len_str (by omega) ⟨.int _,H,I.tok _,⟨_,rfl⟩,q⟩
  | byt y =>
    obtain ⟨t,rfl⟩:=rx
    obtain ⟨hy,e'⟩:y.size≤sizeLine∧n=y.size:=e
    subst e'
    exact PySem.W.len_bytes (by omega) ⟨.int _,H,I.tok _,⟨_,rfl⟩,q⟩
  | ref p =>
    cases rx
    have e':(∃ xs,SqL X.K H p xs∧n=xs.length)∨∃ xs,SqT X.K H p xs∧n=xs.length:=e
    rcases e' with ⟨xs,hx,e'⟩ | ⟨xs,hx,e'⟩
    · subst e'
      obtain ⟨its,r',pl,hz⟩:=I.list hx
      have hlen:=r'.length
      exact Calls.call_len_list pl.isList (by simp only [List.size_toArray];omega) ⟨.int xs.length,H,I.tok _,⟨_,by simp only [List.size_toArray];rw [hlen]⟩,q⟩
    · subst e'
      obtain ⟨its,r',pl,hz⟩:=I.tuple hx
      have hlen:=r'.length
      exact len_tuple pl (by simp only [List.size_toArray];omega) ⟨.int xs.length,H,I.tok _,⟨_,by simp only [List.size_toArray];rw [hlen]⟩,q⟩
  | _=>exact (show False from e).elim
end
end L2
namespace L2
open PySem PySem.Spec PyProof.Rows
structure ObjM (h:Heap) (x dx C:Addr) (mA:Str→Option Value):Prop where
  obj:h.get? x=some (PySem.W.instObj C dx)
  ns:h.Ns1 dx mA
  ne:dx≠x
theorem lookIn_ns {h:Heap} {dx:Addr} {mA:Str→Option Value} (n:h.Ns1 dx mA):∃ od,h.get? dx=some od∧∀ name,PySem.W.lookIn name od=some (mA name):=by
  obtain ⟨o,es,ep,ho,hd,hk,_,hm⟩:=n
  refine ⟨o,ho,fun name=>?_⟩
  have e:=hm name
  unfold nsFind findBy at e
  rw [← Array.find?_toList] at e
  unfold PySem.W.lookIn
  rw [hd]
  dsimp only
  split
  · rename_i y q
    rw [q] at e
    exact congrArg some e
  · rename_i q
    rw [q] at e
    have a:es.toList.any (·.refKey)=false:=by
      rw [List.any_eq_false]
      intro y hy
      obtain ⟨z,t,hkey⟩:=hk y (Array.mem_toList_iff.mp hy)
      simp [DictEntry.refKey,hkey]
    have a':¬ es.toList.any (·.refKey)=true:=by rw [a];exact Bool.false_ne_true
    rw [if_neg a']
    exact congrArg some e
theorem ObjM.look {h:Heap} {x dx C:Addr} {mA:Str→Option Value} (I:ObjM h x dx C mA):∃ od,PySem.W.InstAt h x (PySem.W.instObj C dx) C (some od)∧∀ name,PySem.W.lookIn name od=some (mA name) :=
  let ⟨od,ho,hl⟩:=lookIn_ns I.ns
  ⟨od,⟨I.obj,rfl,rfl,ho⟩,hl⟩
section
variable {prog:Program} {w:World} {A:Around} {E:Value→Shared→Prop} {s:Shared} {K:PySem.W.Frag} {x dx C f:Addr} {mA:Str→Option Value} {name:Str} {v:Value}
theorem get_map {expr:Bool} {Q:Value→Shared→Prop} (X:K.In s.heap) (I:ObjM s.heap x dx C mA) (hg:PySem.W.plainGet K C name=true) (hh:PySem.W.hasDictIn K C=true)
    (ha:PySem.W.findIn K (.ref C) name=some none) (hv:mA name=some v) (hv':PySem.W.handedIn v=true) (h:Q v { s with toks:=s.toks+1 }) :
    wpAny (model prog w) A (getAttr (.ref x) name expr) Q E s:=by
  obtain ⟨od,J,hl⟩:=I.look
  exact PySem.W.get_value X J (PySem.W.plainGet_of hg).1 (PySem.W.findObj_own hh ha rfl (by rw [hl,hv])) hv' h
theorem get_meth {pl:Sem Bool} {Q:Value × List Value→Shared→Prop} (X:K.In s.heap) (I:ObjM s.heap x dx C mA) (hg:PySem.W.plainGet K C name=true)
    (hf:PySem.W.findIn K (.ref C) name=some (some (.ref f))) (ht:PySem.W.isFn K (.ref f)=true) (hv:mA name=none) (h:Q (.ref f,[.ref x]) s) :
    wpAny (model prog w) A (getMethod (.ref x) name pl) Q E s:=by
  obtain ⟨od,J,hl⟩:=I.look
  exact PySem.W.method_fn X J (PySem.W.plainGet_of hg).1 (PySem.W.plainGet_of hg).2 hf (beq_iff_eq.mp ht) (by show (PySem.W.lookIn name od).map (·.isSome)=some false;rw [hl,hv];rfl) h
theorem set_map {ns:List Str} {Q:Unit→Shared→Prop} (X:K.In s.heap) (I:ObjM s.heap x dx C mA)
    (hs:PySem.W.findIn K (.ref C) "__setattr__"=some (some (.builtin "object.__setattr__"))) (hp:PySem.W.plainOver K C=true) (ht:PySem.W.takerIn K C name=some none) (hh:PySem.W.hasDictIn K C=true)
    (hw:PySem.Within mA ns) (hsz:ns.length≤sizeLine)
    (h:∀ h',ObjM h' x dx C (fun y=>if y=name then some v else mA y)→Heap.SameBut dx s.heap h'→Q () { s with heap:=h',toks:=s.toks+2 }) :
    wpAny (model prog w) A (setAttr (.ref x) name v) Q E s:=by
  obtain ⟨od,J,hl⟩:=I.look
  refine PySem.W.set_plain X J hs (PySem.W.osa_open (s:={ s with toks:=s.toks+1 }) (r:=none) X J hp ht fun b=>?_)
  obtain ⟨cd,hc,hd'⟩:=PySem.W.any_some hh
  have hx:s.heap.get? x=some ⟨.ref C,some dx,.plain,#[]⟩:=I.obj
  refine wpAny_bind (wpAny_pure (wpAny_bind (wpAny_bind (wpAny_loadPart hx (wpAny_bind (PySem.W.Looks.here (s:={ s with toks:=s.toks+1 }) (PySem.W.looks_clsIn X hc) ?_))))))
  rw [hd']
  refine wpAny_pure (a:=some dx) (wpAny_bind (wpAny_pure (wpAny_bind ?_)))
  refine wpAny_nsSet1 (s:={ s with toks:=s.toks+1 }) I.ns fun h' hn2 hs2=>?_
  obtain ⟨oD,esD,epD,hoD,hdD,hcD⟩:=hn2.count (PySem.Within.cons name v hw)
  refine wpAny_bind (wpAny_lookBehind hoD (by rw [hdD];exact pastItsLine_dict (Nat.le_trans hcD (by rw [List.length_cons];omega))) ?_)
  exact wpAny_pure (h _ ⟨(hs2.2 _ (Ne.symm I.ne)).trans I.obj,hn2,I.ne⟩ hs2)
theorem make_map {R:Result→Shared→Prop} {vs:List Value} {kw:List (Str × Value)} (X:K.In s.heap) (hm:PySem.W.makesIn K C=true)
    (hi:PySem.W.findIn K (.ref C) "__init__"=some (some (.ref f))) (hf:PySem.W.typeIn K (.ref f)=some (.type "function"))
    (h:codeAny (model prog w) (A.under (.builtin "type.__call__" ⟨.ref C :: vs,kw⟩)) (.call (.ref f) ⟨.ref (s.heap.objs.size+1) :: vs,kw⟩) (PySem.W.InitBack (s.heap.objs.size+1) R)
      { s with heap:=(s.heap.push PySem.W.emptyDict).push (PySem.W.instObj C s.heap.objs.size) }) :
    codeAny (model prog w) A (.call (.ref C) ⟨vs,kw⟩) R s:=by
  obtain ⟨hh,g,d,t,os⟩:=s
  exact PySem.W.make_core (PySem.W.makes_of X hm) (PySem.W.looks_findIn X hi) (fun self=>PySem.W.bind_fn X self hf) (.inl rfl) h
end
def putF (f:Str) (v:V):List (Str × V)→List (Str × V)
  | []=>[(f,v)]
  | (g,x) :: r=>if g=f then (g,v) :: r else (g,x) :: putF f v r
theorem lookup_putF (f g:Str) (v:V):∀ fs:List (Str × V),(putF f v fs).lookup g=if g=f then some v else fs.lookup g
  | []=>by
    show List.lookup g [(f,v)]=_
    by_cases h:g=f
    · have hb:(g == f)=true:=beq_iff_eq.mpr h
      simp only [List.lookup,hb,if_pos h]
    · have hb:(g == f)=false:=beq_eq_false_iff_ne.mpr h
      simp only [List.lookup,hb,if_neg h]
  | (k, x) :: r=>by
    have ih:=lookup_putF f g v r
    rw [show putF f v ((k,x) :: r)=(if k=f then (k,v) :: r else (k,x) :: putF f v r) from rfl]
    by_cases hk:k=f
    · rw [if_pos hk]
      by_cases h:g=k
      · have hb:(g == k)=true:=beq_iff_eq.mpr h
        simp only [List.lookup,hb,if_pos (h.trans hk)]
      · have hb:(g == k)=false:=beq_eq_false_iff_ne.mpr h
        simp only [List.lookup,hb,if_neg (fun e:g=f=>h (e.trans hk.symm))]
    · rw [if_neg hk]
      by_cases h:g=k
      · have hb:(g == k)=true:=beq_iff_eq.mpr h
        simp only [List.lookup,hb,if_neg (fun e:g=f=>hk (h.symm.trans e))]
      · have hb:(g == k)=false:=beq_eq_false_iff_ne.mpr h
        simp only [List.lookup,hb]
        exact ih
theorem keys_putF (f:Str) (v:V):∀ fs:List (Str × V),f ∈ (putF f v fs).map (·.1)∧∀ g,g ∈ fs.map (·.1)→g ∈ (putF f v fs).map (·.1)
  | []=>⟨by simp [putF],fun g h=>by simp at h⟩
  | (k, x) :: r=>by
    obtain ⟨i1,i2⟩:=keys_putF f v r
    rw [show putF f v ((k,x) :: r)=(if k=f then (k,v) :: r else (k,x) :: putF f v r) from rfl]
    by_cases hk:k=f
    · rw [if_pos hk]
      subst hk
      exact ⟨by simp,fun g h=>by simpa using h⟩
    · rw [if_neg hk]
      refine ⟨?_,fun g h=>?_⟩
      · rw [List.map_cons]
        exact List.mem_cons_of_mem _ i1
      · rw [List.map_cons] at h ⊢
        rcases List.mem_cons.mp h with e | e
        · exact List.mem_cons.mpr (.inl e)
        · exact List.mem_cons_of_mem _ (i2 g e)
theorem length_putF (f:Str) (v:V):∀ fs:List (Str × V),(putF f v fs).length≤fs.length+1
  | []=>by simp [putF]
  | (k,x) :: r=>by
    have ih:=length_putF f v r
    rw [show putF f v ((k,x) :: r)=(if k=f then (k,v) :: r else (k,x) :: putF f v r) from rfl]
    by_cases hk:k=f
    · rw [if_pos hk,List.length_cons,List.length_cons];omega
    · rw [if_neg hk,List.length_cons,List.length_cons];omega
theorem RelO.some_of {v:V} {o:Option Value} (r:RelO (some v) o):∃ u,o=some u∧RelV v u:=by
  cases o with
  | none=>exact (show False from r).elim
  | some u=>exact ⟨u,rfl,r⟩
theorem RelO.none_of {o:Option Value} (r:RelO none o):o=none:=by
  cases o with
  | none=>rfl
  | some u=>exact (show False from r).elim
theorem handed_of {v:V} {u:Value} (r:RelV v u):PySem.W.handedIn u=true:=by
  cases v with
  | non=>cases (show u=Value.none from r);rfl
  | bl b=>cases (show u=Value.bool b from r);rfl
  | int i=>obtain ⟨t,e⟩:=(show ∃ t,u=Value.int i t from r);cases e;rfl
  | str x=>obtain ⟨t,e⟩:=(show ∃ t,u=Value.str x t from r);cases e;rfl
  | byt b=>obtain ⟨t,e⟩:=(show ∃ t,u=Value.bytes b t from r);cases e;rfl
  | flt b=>obtain ⟨t,e⟩:=(show ∃ t,u=Value.float b t from r);cases e;rfl
  | ref a=>cases (show u=Value.ref a from r);rfl
  | ty n=>cases (show u=Value.type n from r);rfl
section
variable {P:Program} {w:World} {H H':Hp} {h h':Heap} {a C dx:Addr} {fs fs':List (Str × V)}
theorem ins_get (hok:HOk P w H h) (e:H a=some (.ins C dx fs)):∃ mA,ObjM h a dx C mA∧(∀ f,RelO (fs.lookup f) (mA f))∧PySem.Within mA (fs.map (·.1))∧fs.length≤1000∧H dx=some (.own a):=by
  obtain ⟨d,z,ne,ob,mA,n,r,q⟩:=(show ObjOk P w H h a (.ins C dx fs) from hok a _ e)
  exact ⟨mA,⟨ob,n,ne⟩,r,q,z,d⟩
end
structure Cls (K:PySem.W.Frag) (C:Addr):Prop where
  pg:PySem.W.plainGet K C Str.empty=true
  hd:PySem.W.hasDictIn K C=true
  po:PySem.W.plainOver K C=true
  sa:PySem.W.findIn K (.ref C) "__setattr__"=some (some (.builtin "object.__setattr__"))
theorem Cls.get {K:PySem.W.Frag} {C:Addr} (c:Cls K C) (f:Str):PySem.W.plainGet K C f=true:=c.pg
def NoAttr (K:PySem.W.Frag) (C:Addr) (f:Str):Prop:=PySem.W.findIn K (.ref C) f=some none
theorem NoAttr.taker {K:PySem.W.Frag} {C:Addr} {f:Str} (n:NoAttr K C f):PySem.W.takerIn K C f=some none:=by
  unfold PySem.W.takerIn
  rw [show PySem.W.findIn K (.ref C) f=some none from n]
  rfl
structure Meth (K:PySem.W.Frag) (C:Addr) (m:Str) (f:Addr):Prop where
  at_:PySem.W.findIn K (.ref C) m=some (some (.ref f))
  fn:PySem.W.isFn K (.ref f)=true
  kp:PySem.W.keepIn K (.ref f)=true
section
variable {X:Cx} {pins:List (Addr × Obj)} {σ:St} {H:Hp} {s:Shared} {a C dx:Addr} {fs:List (Str × V)} {f:Str} {v:V} {A:Around} {E:Value→Shared→Prop}
theorem getattr_ok {b:Bool} {Q:Value→Shared→Prop} (I:Inv X pins σ H s) (e:H a=some (.ins C dx fs)) (c:Cls X.K C) (n:NoAttr X.K C f) (l:fs.lookup f=some v)
    (h:∀ u s',Inv X pins σ H s'→RelV v u→Q u s'):wpAny (model X.prog X.w) A (getAttr (.ref a) f b) Q E s:=by
  obtain ⟨mA,O,r,_,_,_⟩:=ins_get I.hok e
  obtain ⟨u,hu,ru⟩:=RelO.some_of (v:=v) (o:=mA f) (by rw [← l];exact r f)
  exact get_map I.kIn O (c.get f) c.hd n hu (handed_of ru) (h u _ (I.tok _) ru)
theorem getmeth_ok {m:Str} {g:Addr} {pl:Sem Bool} {Q:Value × List Value→Shared→Prop} (I:Inv X pins σ H s) (e:H a=some (.ins C dx fs)) (c:Cls X.K C) (k:Meth X.K C m g) (l:fs.lookup m=none)
    (h:Q (.ref g,[.ref a]) s):wpAny (model X.prog X.w) A (getMethod (.ref a) m pl) Q E s:=by
  obtain ⟨mA,O,r,_,_,_⟩:=ins_get I.hok e
  have hn:mA m=none:=RelO.none_of (by rw [← l];exact r m)
  exact get_meth I.kIn O (c.get m) k.at_ k.fn hn h
theorem setattr_ok {y:V} {u:Value} {Q:Unit→Shared→Prop} (I:Inv X pins σ H s) (e:H a=some (.ins C dx fs)) (c:Cls X.K C) (n:NoAttr X.K C f) (hl:fs.length < 1000) (ry:RelV y u)
    (h:∀ s',Inv X pins σ (upd H a (.ins C dx (putF f y fs))) s'→Q () s'):wpAny (model X.prog X.w) A (setAttr (.ref a) f u) Q E s:=by
  obtain ⟨mA,O,r,wi,_,ho⟩:=ins_get I.hok e
  have hz:(fs.map (·.1)).length≤sizeLine:=by rw [List.length_map,sizeLine_eq];omega
  refine set_map I.kIn O c.sa c.po n.taker c.hd wi hz fun h' O' sb=>h _ ?_
  have hd:∃ o,h'.get? dx=some o:=let ⟨o,_,_,e',_⟩:=O'.ns;⟨o,e'⟩
  refine I.write (x:=a) (e:=dx) (by rw [e];exact True.intro) (.inr ho) (fun b q hb z=>(sb.2 b hb).trans z) hd ?_
  refine ⟨by rw [upd_ne O.ne];exact ho,?_,O.ne,O'.obj,_,O'.ns,fun g=>?_,fun g hg=>?_⟩
  · have:=length_putF f y fs;omega
  · show RelO ((putF f y fs).lookup g) (if g=f then some u else mA g)
    rw [lookup_putF]
    by_cases q:g=f
    · rw [if_pos q,if_pos q];exact ry
    · rw [if_neg q,if_neg q];exact r g
  · by_cases q:g=f
    · rw [q];exact (keys_putF f y fs).1
    · refine (keys_putF f y fs).2 g (wi g fun z=>hg ?_)
      show (if g=f then some u else mA g)=none
      rw [if_neg q];exact z
theorem Inv.made (I:Inv X pins σ H s):Inv X pins σ (upd (upd H s.heap.objs.size (.own (s.heap.objs.size+1))) (s.heap.objs.size+1) (.ins C s.heap.objs.size []))
    { s with heap:=(s.heap.push PySem.W.emptyDict).push (PySem.W.instObj C s.heap.objs.size) }:=by
  have e1:(s.heap.push PySem.W.emptyDict).get? s.heap.objs.size=some PySem.W.emptyDict:=Heap.get?_push_size s.heap rfl
  have e2:((s.heap.push PySem.W.emptyDict).push (PySem.W.instObj C s.heap.objs.size)).get? (s.heap.objs.size+1)=some (PySem.W.instObj C s.heap.objs.size):=by
    have:=Heap.get?_push_size (s.heap.push PySem.W.emptyDict) (o:=PySem.W.instObj C s.heap.objs.size) rfl
    rwa [Heap.size_push] at this
  have e3:(s.heap.push PySem.W.emptyDict).Ns s.heap.objs.size (fun _=>none):=⟨PySem.W.emptyDict,#[],_,e1,rfl,(fun e he=>absurd he (by simp)),fun _=>rfl⟩
  have I1:=I.laid (a:=s.heap.objs.size) (o:=.own (s.heap.objs.size+1)) (h':=s.heap.push PySem.W.emptyDict) (t':=s.toks) (fun b u q=>Heap.get?_push_of_some _ q) (Nat.le_refl _) ⟨_,e1⟩
  refine I1.laid (a:=s.heap.objs.size+1) (o:=.ins C s.heap.objs.size []) (t':=s.toks) (fun b u q=>Heap.get?_push_of_some _ q) (Nat.le_of_eq (Heap.size_push _ _)) ?_
  have ne:s.heap.objs.size≠s.heap.objs.size+1:=Nat.ne_of_lt (Nat.lt_succ_self _)
  refine ⟨by rw [upd_ne ne,upd_same],Nat.zero_le _,ne,e2,fun _=>none,(Heap.Ns1.of_empty e3).at fun o q=>Heap.get?_push_of_some _ q,fun _=>True.intro,fun y hy=>absurd rfl hy⟩
theorem attr_of {prog:Program} {w:World} {env:Env} {e:Expr} {f:Str} {pos:Pos} {s:Shared} {Q:Value→Shared→Prop} (hb:attributeBase e f env (eval e env)=eval e env)
    (h:wpAny (model prog w) A (eval e env) (fun o s₁=>wpAny (model prog w) A (getAttr o f true) Q E s₁) E s):wpAny (model prog w) A (eval (.Attribute e f pos) env) Q E s :=
  Attribute_any_ h (by rw [arm_eval_Attribute,hb])
end
def tFld (K:PySem.W.Frag) (ta:TE) (f:Str):TE:=fun σ H Q=>ta σ H fun x H1=>∃ a C dx fs v,x=.ref a∧H1 a=some (.ins C dx fs)∧Cls K C∧NoAttr K C f∧fs.lookup f=some v∧Q v H1
def sFld (K:PySem.W.Frag) (ta tv:TE) (f:Str):TS:=fun D σ H=>tv σ H fun y H1=>ta σ H1 fun x H2=>∃ a C dx fs,x=.ref a∧H2 a=some (.ins C dx fs)∧Cls K C∧NoAttr K C f∧fs.length < 1000 ∧
  D.nx σ (upd H2 a (.ins C dx (putF f y fs)))
def InOp (X:Cx) (op:Operator) (rd:V→V→Hp→VK→Prop):Prop :=
  ∀ (pins:List (Addr × Obj)) (s:Shared) (σ:St) (H:Hp) (x y:V) (u v:Value) (Q:VK),Inv X pins σ H s→RelV x u→RelV y v→rd x y H Q→wpAny (model X.prog X.w) X.A (inplaceOp op u v) (EP X pins σ Q) X.xe s
def sFldAug (K:PySem.W.Frag) (ta tv:TE) (rd:V→V→Hp→VK→Prop) (f:Str):TS:=fun D σ H=>ta σ H fun x H1=>∃ a C dx fs v,x=.ref a∧H1 a=some (.ins C dx fs)∧Cls K C∧NoAttr K C f∧fs.lookup f=some v ∧
  tv σ H1 fun y H2=>rd v y H2 fun z H3=>∃ dx' fs',H3 a=some (.ins C dx' fs')∧fs'.length < 1000∧D.nx σ (upd H3 a (.ins C dx' (putF f z fs')))
section
variable {X:Cx} {o e value:Expr} {f:Str} {pos pos' tpos:Pos} {ta tv:TE}
theorem pe_fld (he:PE X e ta) (hb:attributeBase e f X.env (eval e X.env)=eval e X.env):PE X (.Attribute e f pos) (tFld X.K ta f):=by
  intro pins s σ H Q I h
  refine attr_of hb (thn (he pins s σ H _ I h) fun u s1 ⟨x,H1,I1,rx,a,C,dx,fs,v,ex,ea,c,n,l,q⟩=>?_)
  subst ex
  obtain rfl:u=Value.ref a:=rx
  exact getattr_ok I1 ea c n l fun u' s2 I2 ru=>⟨v,H1,I2,ru,q⟩
theorem ps_fld (ha:PE X o ta) (hv:PE X value tv) (hs:swapsWith value (some (.Attribute o f pos')) pos.line X.env=pure false):PS X (.Assign [.Attribute o f pos'] value pos) (sFld X.K ta tv f):=by
  intro pins s σ H D I h
  refine plainObj_wpAny_Assign_Attribute (thn (hv pins s σ H _ I h) fun u s1 ⟨y,H1,I1,ry,q⟩=>thn (ha pins s1 σ H1 _ I1 q) fun ov s2 ⟨x,H2,I2,rx,a,C,dx,fs,ex,ea,c,n,l,q2⟩=>?_) hs
  subst ex
  obtain rfl:ov=Value.ref a:=rx
  exact setattr_ok I2 ea c n l ry fun s3 I3=>⟨σ,_,I3,q2⟩
theorem ps_fldaug {op:Operator} {rd:V→V→Hp→VK→Prop} (ha:PE X o ta) (hv:PE X value tv) (hop:InOp X op rd):PS X (.AugAssign (.Attribute o f tpos) op value pos) (sFldAug X.K ta tv rd f):=by
  intro pins s σ H D I h
  refine wpAny_AugAssign_AttributeAny (thn (ha pins s σ H _ I h) fun ov s1 ⟨x,H1,I1,rx,a,C,dx,fs,v,ex,ea,c,n,l,q⟩=>?_)
  subst ex
  obtain rfl:ov=Value.ref a:=rx
  refine getattr_ok I1 ea c n l fun u s2 I2 ru=>thn (hv pins s2 σ H1 _ I2 q) fun w3 s3 ⟨y,H2,I3,ry,q3⟩=>thn (hop pins s3 σ H2 v y u w3 _ I3 ru ry q3) fun w4 s4 ⟨z,H3,I4,rz,dx',fs',ea',l',q4⟩=>?_
  exact setattr_ok I4 ea' c n l' rz fun s5 I5=>⟨σ,_,I5,q4⟩
def rAdd:V→V→Hp→VK→Prop:=fun x y H Q=>∃ i j,x=.int i∧y=.int j∧Q (.int (i+j)) H
theorem in_add:InOp X .Add rAdd:=by
  rintro pins s σ H x y u v Q I rx ry ⟨i,j,rfl,rfl,q⟩
  obtain ⟨t,rfl⟩:=(show ∃ t,u=Value.int i t from rx)
  obtain ⟨t',rfl⟩:=(show ∃ t',v=Value.int j t' from ry)
  exact PyProof.Rows.iadd_int ⟨.int (i+j),H,I.tok _,⟨_,rfl⟩,q⟩
end
section
variable {X:Cx} {pins:List (Addr × Obj)} {σ:St} {H:Hp} {s:Shared} {A:Around} {E:Value→Shared→Prop} {Q:Value→Shared→Prop} {c:Value} {b:Bool}
inductive TyOf (K:PySem.W.Frag) (H:Hp):V→Value→Prop where
  | non:TyOf K H .non (.type "NoneType")
  | bl (x:Bool):TyOf K H (.bl x) (.type "bool")
  | int (i:Int):TyOf K H (.int i) (.type "int")
  | str (x:Str):TyOf K H (.str x) (.type "str")
  | flt (x:UInt64):TyOf K H (.flt x) (.type "float")
  | lst {a:Addr} {xs:List V} (e:H a=some (.lst xs)):TyOf K H (.ref a) (.type "list")
  | frz {a:Addr} {o:Obj} {xs:List V} (e:H a=some (.frz o (.lst xs))):TyOf K H (.ref a) (.type "list")
  | tup {a:Addr} {xs:List V} (e:H a=some (.tup xs)):TyOf K H (.ref a) (.type "tuple")
  | dK {a:Addr} {kvs:List (Key × V)} (e:H a=some (.dK kvs)):TyOf K H (.ref a) (.type "dict")
  | dT {a:Addr} {kvs:List (List Key × V)} (e:H a=some (.dT kvs)):TyOf K H (.ref a) (.type "dict")
  | ins {a C dx:Addr} {fs:List (Str × V)} (e:H a=some (.ins C dx fs)) (cl:Cls K C) (ha:PySem.W.findIn K (.ref C) "__class__"=some (some (.builtin "object.__class__")))
      (hn:PySem.W.specialIn K (.builtin "object.__class__") "__get__"=some (some (.builtin "getset_descriptor.__get__"))) (htk:PySem.W.takesIn K (.builtin "object.__class__")=some true)
      (hm:PySem.W.mroIn K C (.type "object")=some true):TyOf K H (.ref a) (.ref C)
theorem isinst_ok {x:V} {u t:Value} (I:Inv X pins σ H s) (rx:RelV x u) (ty:TyOf X.K H x t) (e:PySem.W.kitOne X.K t c=some b) (h:∀ tk,Q (.bool b) { s with toks:=tk }) :
    wpAny (model X.prog X.w) A (call (.builtin "isinstance") [u,c]) Q E s:=by
  cases ty with
  | non=>cases (show u=Value.none from rx);exact PySem.W.kia_one PySem.W.kitx_none I.kIn True.intro e (fun z=>nomatch z) h
  | bl y=>cases (show u=Value.bool y from rx);exact PySem.W.kia_one PySem.W.kitx_bool I.kIn True.intro e (fun z=>nomatch z) h
  | int i=>obtain ⟨t,q⟩:=(show ∃ t,u=Value.int i t from rx);cases q;exact PySem.W.kia_one PySem.W.kitx_int I.kIn True.intro e (fun z=>nomatch z) h
  | str y=>obtain ⟨t,q⟩:=(show ∃ t,u=Value.str y t from rx);cases q;exact PySem.W.kia_one PySem.W.kitx_str I.kIn True.intro e (fun z=>nomatch z) h
  | flt y=>obtain ⟨t,q⟩:=(show ∃ t,u=Value.float y t from rx);cases q;exact PySem.W.kia_one PySem.W.kitx_float I.kIn True.intro e (fun z=>nomatch z) h
  | @lst a xs ea =>
    cases (show u=Value.ref a from rx)
    obtain ⟨_,_,n,_,h1⟩:=(show ObjOk X.prog X.w H s.heap a (.lst xs) from I.hok a _ ea)
    exact PySem.W.kia_one PySem.W.kitx_list I.kIn ⟨_,h1,rfl⟩ e (fun z=>nomatch z) h
  | @frz a ob xs ea =>
    cases (show u=Value.ref a from rx)
    obtain ⟨_,_,_,n,_,h1⟩:=(show ObjOk X.prog X.w H s.heap a (.frz ob (.lst xs)) from I.hok a _ ea)
    exact PySem.W.kia_one PySem.W.kitx_list I.kIn ⟨_,h1,rfl⟩ e (fun z=>nomatch z) h
  | @tup a xs ea =>
    cases (show u=Value.ref a from rx)
    obtain ⟨_,_,_,p⟩:=(show ObjOk X.prog X.w H s.heap a (.tup xs) from I.hok a _ ea)
    obtain ⟨o,h1,h2,_⟩:=p
    exact PySem.W.kia_one PySem.W.kitx_tuple I.kIn ⟨o,h1,h2⟩ e (fun z=>nomatch z) h
  | @dK a kvs ea =>
    cases (show u=Value.ref a from rx)
    obtain ⟨_,_,vs,_,p⟩:=(show ObjOk X.prog X.w H s.heap a (.dK kvs) from I.hok a _ ea)
    obtain ⟨o,es,ep,h1,h2,_⟩:=p
    exact PySem.W.kia_one PySem.W.kitx_dict I.kIn ⟨o,h1,h2.1⟩ e (fun z=>nomatch z) h
  | @dT a kvs ea =>
    cases (show u=Value.ref a from rx)
    obtain ⟨_,_,xs,_,o,es,ep,h1,h2,_⟩:=(show ObjOk X.prog X.w H s.heap a (.dT kvs) from I.hok a _ ea)
    exact PySem.W.kia_one PySem.W.kitx_dict I.kIn ⟨o,h1,h2.1⟩ e (fun z=>nomatch z) h
  | @ins a C dx fs ea cl ha hn htk hm =>
    cases (show u=Value.ref a from rx)
    obtain ⟨mA,O,_⟩:=ins_get I.hok ea
    obtain ⟨od,J,_⟩:=O.look
    exact PySem.W.kia_one (PySem.W.kitx_own (cl.get _) cl.hd ha hn htk hm) I.kIn J e (fun z=>nomatch z) h
end
end L2
namespace L2
open PySem PySem.Spec PyProof.Rows
structure Room (k:Nat) (A:Around):Prop where
  hd:A.handled=none
  dp:A.depth+1 * k+5 < recursionLimit
  un:A.units+16 * k+200 < cLine
  gd:A.guards=some []
theorem Room.mono {j k:Nat} {A:Around} (r:Room k A) (h:j≤k):Room j A:=⟨r.hd,by have:=r.dp;omega,by have:=r.un;omega,r.gd⟩
theorem Room.deeper {k:Nat} {A:Around} (r:Room (k+1) A) (env:Env):Room k (A.deeper env) :=
  ⟨r.hd,by have:=r.dp;show A.depth+1+1 * k+5 < _;omega,by have:=r.un;show A.units+3+16 * k+200 < _;omega,by first | exact r.gd | (have z:=r.gd;simpa [Around.deeper,pushGuards] using z)⟩
theorem make_depth {A:Around} {C:Addr} {us:List Value} {kw:List (Str × Value)}:(A.under (.builtin "type.__call__" ⟨.ref C :: us,kw⟩)).depth=A.depth+1:=by
  first | rfl | simp [Around.under,Code.weight,Code.isCreation,Code.isGuard,Code.isCaller,Code.frames,Code.isFrame,guardIds]
theorem make_units {A:Around} {C:Addr} {us:List Value} {kw:List (Str × Value)}:(A.under (.builtin "type.__call__" ⟨.ref C :: us,kw⟩)).units=A.units+1:=by
  first | rfl | simp [Around.under,Code.cUnits,Code.frames,Code.isFrame]
theorem Room.make {k:Nat} {A:Around} (r:Room (k+1) A) (C:Addr) (us:List Value) (kw:List (Str × Value)):Room k (A.under (.builtin "type.__call__" ⟨.ref C :: us,kw⟩)) :=
  ⟨r.hd,by have:=r.dp;rw [make_depth];omega,by have:=r.un;rw [make_units];omega,by first | exact r.gd | (have z:=r.gd;simpa [Around.under,Code.guards,Code.isGuard,pushGuards,guardIds] using z)⟩
theorem Room.depth {k:Nat} {A:Around} (r:Room k A):A.depth < recursionLimit:=by have:=r.dp;omega
theorem Room.units {k:Nat} {A:Around} (r:Room k A):A.units+64 < cLine:=by have:=r.un;omega
theorem Room.units0 {k:Nat} {A:Around} (r:Room k A):A.units < cLine:=by have:=r.un;omega
def tNil:TA:=fun _ H Q=>Q [] H
def tCons (ta:TE) (tr:TA):TA:=fun σ H Q=>ta σ H fun x H1=>tr σ H1 fun xs H2=>Q (x :: xs) H2
section
variable {X:Cx} {e:Expr} {es:List Expr} {te:TE} {t:TA} {pos:Pos}
theorem pa_nil:PA X [] tNil:=fun _ _ _ _ H Q I h=>Calls.spliced_nil ⟨[],H,I,.nil,h⟩
theorem pa_cons (ha:PE X e te) (hr:PA X es t) (hs:starEach (e :: es) X.env=(false,eval e X.env) :: starEach es X.env:=by rfl):PA X (e :: es) (tCons te t):=by
  intro pos pins s σ H Q I h
  rw [hs]
  show wpAny _ _ (spliced ((false,eval e X.env) :: backTo pos (starEach es X.env))) _ _ s
  refine Calls.spliced_cons (thn (ha pins s σ H _ I h) fun u s1 ⟨x,H1,I1,r1,q1⟩=>?_)
  exact thn (hr pos pins s1 σ H1 _ I1 q1) fun us s2 ⟨xs,H2,I2,r2,q2⟩=>⟨x :: xs,H2,I2,.cons r1 r2,q2⟩
def tTup (t:TA):TE:=fun σ H Q=>t σ H fun xs H1=>xs.length≤sizeLine∧∀ p,H1 p=none→Q (.ref p) (upd H1 p (.tup xs))
def tLst (t:TA):TE:=fun σ H Q=>t σ H fun xs H1=>xs.length≤sizeLine∧∀ p,H1 p=none→Q (.ref p) (upd H1 p (.lst xs))
theorem pe_tup {x1} (h:PA X es t):PE X (.Tuple es x1 pos) (tTup t):=by
  intro pins s σ H Q I hq
  refine wpAny_Tuple_spliced (thn (h pos pins s σ H _ I hq) fun us s1 ⟨xs,H1,I1,r,z,q⟩=>⟨by rw [← r.length];exact z,?_⟩)
  have hf:H1 s1.heap.objs.size=none:=I1.hok.fresh (Nat.le_refl _)
  refine ⟨.ref s1.heap.objs.size,upd H1 s1.heap.objs.size (.tup xs),I1.laid (t':=s1.toks) (fun b u e=>Heap.get?_push_of_some _ e) (Nat.le_refl _) ?_,rfl,q _ hf⟩
  exact ⟨z,us,r,⟨_,Heap.get?_push_size _ rfl,rfl,_,rfl⟩⟩
theorem pe_lst (h:PA X es t):PE X (.List es pos) (tLst t):=by
  intro pins s σ H Q I hq
  refine wpAny_List_spliced (thn (h pos pins s σ H _ I hq) fun us s1 ⟨xs,H1,I1,r,z,q⟩=>⟨by rw [← r.length];exact z,?_⟩)
  have hf:H1 s1.heap.objs.size=none:=I1.hok.fresh (Nat.le_refl _)
  refine ⟨.ref s1.heap.objs.size,upd H1 s1.heap.objs.size (.lst xs),I1.laid (t':=s1.toks) (fun b u e=>Heap.get?_push_of_some _ e) (Nat.le_refl _) ?_,rfl,q _ hf⟩
  exact ⟨z,us,0,r,Heap.get?_push_size _ rfl⟩
end
abbrev Sp:=List V→Hp→VK→XK→Prop
abbrev CXT:=List Env→Hp→Shared→XK→Value→Shared→Prop
structure Env0 (P:Program) (w:World) (K:PySem.W.Frag) (mg:Str→Option Value) (base:Heap) (A:Around) (outer:List Env) (s:Shared) (H:Hp):Prop where
  frames:A.frames=some outer
  mod:Mod K mg base
  bs:∀ b o,base.get? b=some o→s.heap.get? b=some o∧H b=none
  bsz:base.objs.size≤s.heap.objs.size
  funs:s.heap.FunFrames base outer
  frf:∀ b ∈ frs outer,H b=none
  hok:HOk P w H s.heap
  bare:AllBare s.gens
def CE (outer:List Env) (P:Program) (w:World) (H:Hp) (s:Shared) (Q:VK) (u:Value) (s':Shared):Prop :=
  ∃ v H',s'.os=s.os∧AllBare s'.gens∧Un (frs outer) [] H H' s.heap s'.heap∧HOk P w H' s'.heap∧RelV v u∧Q v H'
def CR (CX:CXT) (outer:List Env) (P:Program) (w:World) (H:Hp) (s:Shared) (Q:VK) (E:XK) (r:Result) (s':Shared):Prop :=
  match r with
  | .ok (.ret u)=>CE outer P w H s Q u s'
  | .ok _=>False
  | .error e=>CX outer H s E e s'
structure FnOk (P:Program) (w:World) (K:PySem.W.Frag) (mg:Str→Option Value) (base:Heap) (CX:CXT) (k:Nat) (f:Addr) (fd:FuncData) (ps:List Str) (sp:Sp):Prop where
  len:∀ vs H Q E,sp vs H Q E→vs.length=ps.length
  run:∀ (A:Around) (outer:List Env) (s:Shared) (H:Hp) (args:Args) (us:List Value) (vs:List V) (Q:VK) (E:XK),Room k A→Env0 P w K mg base A outer s H→BindsTo s fd args (ps.zip us)→Vals vs us→sp vs H Q E →
    codeAny (model P w) A (.call (.ref f) args) (CR CX outer P w H s Q E) s
theorem FnOk.mono {P:Program} {w:World} {K:PySem.W.Frag} {mg:Str→Option Value} {base:Heap} {CX:CXT} {j k:Nat} {f:Addr} {fd:FuncData} {ps:List Str} {sp:Sp} (F:FnOk P w K mg base CX j f fd ps sp) (h:j≤k) :
    FnOk P w K mg base CX k f fd ps sp:=⟨F.len,fun A outer s H args us vs Q E hr=>F.run A outer s H args us vs Q E (hr.mono h)⟩
theorem FnOk.imp {P:Program} {w:World} {K:PySem.W.Frag} {mg:Str→Option Value} {base:Heap} {CX:CXT} {k:Nat} {f:Addr} {fd:FuncData} {ps:List Str} {sp sp':Sp} (F:FnOk P w K mg base CX k f fd ps sp)
    (h:∀ vs H Q E,sp' vs H Q E→sp vs H Q E):FnOk P w K mg base CX k f fd ps sp' :=
  ⟨fun vs H Q E q=>F.len vs H Q E (h _ _ _ _ q),fun A outer s H args us vs Q E hr he hb hv hs=>F.run A outer s H args us vs Q E hr he hb hv (h _ _ _ _ hs)⟩
theorem Env0.make {P:Program} {w:World} {K:PySem.W.Frag} {mg:Str→Option Value} {base:Heap} {A:Around} {outer:List Env} {s:Shared} {H:Hp} (e:Env0 P w K mg base A outer s H) (C:Addr) (us:List Value) (kw:List (Str × Value)) :
    Env0 P w K mg base (A.under (.builtin "type.__call__" ⟨.ref C :: us,kw⟩)) outer s H:=⟨by first | exact e.frames | (simpa [Around.under,Code.envs,Code.isFrame,pushEnvs] using e.frames),e.mod,e.bs,e.bsz,e.funs,e.frf,e.hok,e.bare⟩
section
variable {X:Cx} {pins:List (Addr × Obj)} {σ:St} {H:Hp} {s s':Shared}
theorem Inv.env0 (I:Inv X pins σ H s):Env0 X.prog X.w X.K X.mg X.base X.A X.stack s H :=
  ⟨I.ok.frames,I.ok.mod,I.bs,Nat.le_trans I.ok.bsz I.sz,I.stack,I.stkFree,I.hok,I.bare⟩
theorem Inv.after {Q:VK} {u:Value} (I:Inv X pins σ H s) (h:CE X.stack X.prog X.w H s Q u s'):EP X pins σ Q u s':=by
  obtain ⟨v,H',os,bare,un,hok,r,q⟩:=h
  obtain ⟨hh,g,d,t,os'⟩:=s'
  obtain rfl:os'=s.os:=os
  exact ⟨v,H',I.call (h':=hh) (g':=g) (d':=d) (t':=t) (ch:=[]) un hok bare (fun b z=>absurd z (by simp)),r,q⟩
end
def tCall (sp:Sp) (dvs:List V) (E:XK) (t:TA):TE:=fun σ H Q=>t σ H fun vs H1=>sp (vs++dvs) H1 Q E
def tMeth (C:Addr) (m:Str) (sp:Sp) (dvs:List V) (E:XK) (ta:TE) (t:TA):TE:=fun σ H Q=>ta σ H fun x H1=>∃ a dx fs,x=.ref a∧H1 a=some (.ins C dx fs)∧fs.lookup m=none ∧
  t σ H1 fun vs H2=>sp (x :: (vs++dvs)) H2 Q E
def tMake (C:Addr) (sp:Sp) (dvs:List V) (E:XK) (t:TA):TE:=fun σ H Q=>t σ H fun vs H1=>∀ x dx,H1 x=none→H1 dx=none→dx≠x →
  sp (.ref x :: (vs++dvs)) (upd (upd H1 dx (.own x)) x (.ins C dx [])) (fun v H2=>v=.non∧Q (.ref x) H2) E
def Binds (K:PySem.W.Frag) (fd:FuncData) (ps:List Str) (ds:List Value):Prop :=
  ∀ (s:Shared) (us:List Value),K.In s.heap→(us++ds).length=ps.length→BindsTo s fd ⟨us,[]⟩ (ps.zip (us++ds))
theorem Binds.all {K:PySem.W.Frag} {fd:FuncData} {ps:List Str} (h:∀ us:List Value,us.length=ps.length→bindArgs fd ⟨us,[]⟩=pure (ps.zip us)):Binds K fd ps []:=fun s us _ hl=>by
  rw [List.append_nil] at hl ⊢
  exact .of_eq (h us hl)
def Passes (CX:CXT) (X:Cx) (E:XK):Prop:=∀ (pins:List (Addr × Obj)) (σ:St) (H:Hp) (s:Shared) (e:Value) (s':Shared),Inv X pins σ H s→CX X.stack H s E e s'→X.xe e s'
section
variable {X:Cx} {CX:CXT} {k:Nat} {f C:Addr} {fd:FuncData} {ps:List Str} {sp:Sp} {dvs:List V} {ds:List Value} {E:XK} {x m:Str} {p pos apos:Pos} {e o:Expr} {es:List Expr} {ta:TE} {t:TA}
theorem run_fn {pins:List (Addr × Obj)} {σ:St} {H:Hp} {s:Shared} {Q:VK} {us:List Value} {vs:List V} (F:FnOk X.prog X.w X.K X.mg X.base CX k f fd ps sp) (hr:Room k X.A) (hb:Binds X.K fd ps ds) (hd:Vals dvs ds) (hx:Passes CX X E)
    (I:Inv X pins σ H s) (r:Vals vs us) (h:sp (vs++dvs) H Q E):wpAny (model X.prog X.w) X.A (call (.ref f) us) (EP X pins σ Q) X.xe s:=by
  have r2:Vals (vs++dvs) (us++ds):=r.append hd
  have hl:(us++ds).length=ps.length:=by rw [← r2.length];exact F.len _ _ _ _ h
  refine wpAny_call (codeAny_mono (F.run X.A X.stack s H ⟨us,[]⟩ (us++ds) (vs++dvs) Q E hr I.env0 (hb s us I.kIn hl) r2 h) fun r s' hq=>?_)
  cases r with
  | error e=>exact hx pins σ H s e s' I hq
  | ok fl =>
    cases fl with
    | ret u=>exact I.after hq
    | next=>exact False.elim hq
    | brk=>exact False.elim hq
    | cont=>exact False.elim hq
theorem pe_call (F:FnOk X.prog X.w X.K X.mg X.base CX k f fd ps sp) (hr:Room k X.A) (hg:Gl X x) (hm:X.mg x=some (.ref f)) (hk:PySem.W.keepIn X.K (.ref f)=true) (hb:Binds X.K fd ps ds) (hd:Vals dvs ds) (hx:Passes CX X E)
    (ha:PA X (e :: es) t) (hdb:(x == ("__debug__":Str))=false:=by decide) (he:starEach (e :: es) X.env=(false,eval e X.env) :: starEach es X.env:=by rfl) (hpl:(backTo pos (starEach es X.env)).any (·.1)=false:=by rfl) :
    PE X (.Call (.Name x p) (e :: es) [] pos) (tCall sp dvs E t):=by
  intro pins s σ H Q I h
  refine wpAny_Call_Name_kw (ld_glob I hg hm ?_ hdb)
  refine PySem.W.callWith_K (h₀:=X.base) I.ok.mod.kin hk (thn (ha pos pins s σ H _ I h) fun us s1 ⟨vs,H1,I1,r,q⟩=>⟨I1.kIn,?_⟩) he hpl
  exact run_fn F hr hb hd hx I1 r q
theorem pe_meth {pl:Sem Bool} (he:PE X o ta) (c:Cls X.K C) (hm:Meth X.K C m f) (F:FnOk X.prog X.w X.K X.mg X.base CX k f fd ps sp) (hr:Room k X.A) (hb:Binds X.K fd ps ds) (hd:Vals dvs ds) (hx:Passes CX X E) (ha:PA X (e :: es) t)
    (hst:starEach (e :: es) X.env=(false,eval e X.env) :: starEach es X.env:=by rfl) (hpl:(backTo pos (starEach es X.env)).any (·.1)=false:=by rfl)
    (ht:eval (.Call (.Attribute o m apos) (e :: es) [] pos) X.env=(do
      let ov ← eval o X.env
      standAt apos.atName
      let (f,first) ← holding [ov] (getMethod ov m pl)
      callWith pos f first (backTo pos (starEach (e :: es) X.env)) (backToKw pos (keywordEach [] X.env))):=by rfl) :
    PE X (.Call (.Attribute o m apos) (e :: es) [] pos) (tMeth C m sp dvs E ta t):=by
  intro pins s σ H Q I h
  refine PySem.W.methodCall_KW (pl:=pl) (thn (he pins s σ H _ I h) fun u s1 ⟨x,H1,I1,rx,a,dx,fs,ex,ea,l,q⟩=>?_) ht
  subst ex
  obtain rfl:u=Value.ref a:=rx
  refine getmeth_ok I1 ea c hm l ?_
  refine PySem.W.callWith_K (first:=[.ref a]) (h₀:=X.base) I.ok.mod.kin hm.kp (thn (ha pos pins s1 σ H1 _ I1 q) fun us s2 ⟨vs,H2,I2,r,q2⟩=>⟨I2.kIn,?_⟩) hst hpl
  exact run_fn (us:=.ref a :: us) (vs:=.ref a :: vs) F hr hb hd hx I2 (.cons rfl r) q2
theorem pe_meth0 {pl:Sem Bool} (he:PE X o ta) (c:Cls X.K C) (hm:Meth X.K C m f) (F:FnOk X.prog X.w X.K X.mg X.base CX k f fd ps sp) (hr:Room k X.A) (hb:Binds X.K fd ps ds) (hd:Vals dvs ds) (hx:Passes CX X E)
    (ht:eval (.Call (.Attribute o m apos) [] [] pos) X.env=(do
      let ov ← eval o X.env
      standAt apos.atName
      let (f,first) ← holding [ov] (getMethod ov m pl)
      callWith pos f first (backTo pos (starEach [] X.env)) (backToKw pos (keywordEach [] X.env))):=by rfl) :
    PE X (.Call (.Attribute o m apos) [] [] pos) (tMeth C m sp dvs E ta tNil):=by
  intro pins s σ H Q I h
  refine PySem.W.methodCall_KW (pl:=pl) (thn (he pins s σ H _ I h) fun u s1 ⟨x,H1,I1,rx,a,dx,fs,ex,ea,l,q⟩=>?_) ht
  subst ex
  obtain rfl:u=Value.ref a:=rx
  refine getmeth_ok I1 ea c hm l ?_
  exact PySem.W.callWith_K0 (first:=[.ref a]) I1.kIn hm.kp (run_fn (us:=[.ref a]) (vs:=[.ref a]) F hr hb hd hx I1 (.cons rfl .nil) q)
structure Mk (K:PySem.W.Frag) (C f:Addr):Prop where
  makes:PySem.W.makesIn K C=true
  init:PySem.W.findIn K (.ref C) "__init__"=some (some (.ref f))
  fn:PySem.W.isFn K (.ref f)=true
  kp:PySem.W.keepIn K (.ref C)=true
theorem run_make {pins:List (Addr × Obj)} {σ:St} {H:Hp} {s:Shared} {Q:VK} {us:List Value} {vs:List V} (M:Mk X.K C f) (F:FnOk X.prog X.w X.K X.mg X.base CX k f fd ps sp) (hr:Room (k+1) X.A) (hb:Binds X.K fd ps ds) (hd:Vals dvs ds)
    (hx:Passes CX X E) (I:Inv X pins σ H s) (r:Vals vs us)
    (h:∀ x dx,H x=none→H dx=none→dx≠x→sp (.ref x :: (vs++dvs)) (upd (upd H dx (.own x)) x (.ins C dx [])) (fun v H2=>v=.non∧Q (.ref x) H2) E) :
    wpAny (model X.prog X.w) X.A (call (.ref C) us) (EP X pins σ Q) X.xe s:=by
  have hq:=h (s.heap.objs.size+1) s.heap.objs.size (I.hok.fresh (Nat.le_succ _)) (I.hok.fresh (Nat.le_refl _)) (Nat.ne_of_lt (Nat.lt_succ_self _))
  have I2:=Inv.made (C:=C) I
  have r2:Vals (V.ref (s.heap.objs.size+1) :: (vs++dvs)) (Value.ref (s.heap.objs.size+1) :: (us++ds)):=.cons rfl (r.append hd)
  have hl:(Value.ref (s.heap.objs.size+1) :: us++ds).length=ps.length:=by
    have e:=r2.length
    rw [F.len _ _ _ _ hq] at e
    exact e.symm
  refine wpAny_call (make_map (f:=f) I.kIn M.makes M.init (beq_iff_eq.mp M.fn) (codeAny_mono (F.run _ X.stack _ _ ⟨Value.ref (s.heap.objs.size+1) :: us,[]⟩ (Value.ref (s.heap.objs.size+1) :: (us++ds)) _ _ E (hr.make C us [])
    (I2.env0.make C us []) (hb _ (Value.ref (s.heap.objs.size+1) :: us) I2.kIn hl) r2 hq) fun r s' hq'=>?_))
  cases r with
  | error e=>exact hx pins σ _ _ e s' I2 hq'
  | ok fl =>
    cases fl with
    | ret u =>
      obtain ⟨v,H',I3,rv,ev,q3⟩:=I2.after hq'
      subst ev
      exact ⟨rv,⟨V.ref (s.heap.objs.size+1),H',I3,rfl,q3⟩⟩
    | next=>exact False.elim hq'
    | brk=>exact False.elim hq'
    | cont=>exact False.elim hq'
theorem pe_make (M:Mk X.K C f) (F:FnOk X.prog X.w X.K X.mg X.base CX k f fd ps sp) (hr:Room (k+1) X.A) (hg:Gl X x) (hm:X.mg x=some (.ref C)) (hb:Binds X.K fd ps ds) (hd:Vals dvs ds) (hx:Passes CX X E)
    (ha:PA X (e :: es) t) (hdb:(x == ("__debug__":Str))=false:=by decide) (he:starEach (e :: es) X.env=(false,eval e X.env) :: starEach es X.env:=by rfl) (hpl:(backTo pos (starEach es X.env)).any (·.1)=false:=by rfl) :
    PE X (.Call (.Name x p) (e :: es) [] pos) (tMake C sp dvs E t):=by
  intro pins s σ H Q I h
  refine wpAny_Call_Name_kw (ld_glob I hg hm ?_ hdb)
  refine PySem.W.callWith_K (h₀:=X.base) I.ok.mod.kin M.kp (thn (ha pos pins s σ H _ I h) fun us s1 ⟨vs,H1,I1,r,q⟩=>⟨I1.kIn,?_⟩) he hpl
  exact run_make M F hr hb hd hx I1 r q
end
structure FnScope (N P:List Str) (sc:Scope):Prop where
  kind:sc.kind=.function
  co:sc.isCoroutine=false
  gen:sc.isGenerator=false
  nd:N.Nodup
  pre:N.take P.length=P
  par:∀ x ∈ P,sc.names.lookup x=some .local∨sc.names.lookup x=some .cell
  nofree:∀ y ∈ sc.names,y.2≠.free
theorem bindL_out {kindOf:Str→Option NameKind} {x:Str}:∀ {binds:List (Str × Value)} {m:Str→Option Value},(∀ v,(x,v) ∉ binds)→bindL kindOf binds m x=m x
  | [],_,_=>rfl
  | (n,v) :: r,m,h=>by
    unfold bindL
    rw [bindL_out fun w hw=>h w (List.mem_cons_of_mem _ hw)]
    split
    · have:x≠n:=by rintro rfl;exact h v List.mem_cons_self
      simp [this]
    · rfl
theorem bindC_out {kindOf:Str→Option NameKind} {x:Str}:∀ {binds:List (Str × Value)} {m:Str→Option Value},(∀ v,(x,v) ∉ binds)→bindC kindOf binds m x=m x
  | [],_,_=>rfl
  | (n,v) :: r,m,h=>by
    unfold bindC
    rw [bindC_out fun w hw=>h w (List.mem_cons_of_mem _ hw)]
    split
    · rfl
    · have:x≠n:=by rintro rfl;exact h v List.mem_cons_self
      simp [this]
theorem bindL_get {kindOf:Str→Option NameKind} {x:Str} {v:Value}:∀ {P:List Str} {vs:List Value} {i:Nat} {m:Str→Option Value},P.Nodup→P[i]?=some x→vs[i]?=some v→kindOf x=some .local →
    bindL kindOf (P.zip vs) m x=some v
  | [],_,_,_,_,h,_,_=>by simp at h
  | _ :: _,[],_,_,_,_,h,_=>by simp at h
  | p :: P,w :: vs,0,m,nd,h1,h2,hk=>by
    simp at h1 h2;subst h1;subst h2
    show bindL kindOf ((p,w) :: P.zip vs) m p=_
    unfold bindL
    rw [bindL_out fun v hv=>(List.nodup_cons.mp nd).1 (List.of_mem_zip hv).1,if_pos hk]
    simp
  | p :: P,w :: vs,i+1,m,nd,h1,h2,hk=>by
    show bindL kindOf ((p,w) :: P.zip vs) m x=_
    unfold bindL
    exact bindL_get (i:=i) (List.nodup_cons.mp nd).2 (by simpa using h1) (by simpa using h2) hk
theorem bindC_get {kindOf:Str→Option NameKind} {x:Str} {v:Value}:∀ {P:List Str} {vs:List Value} {i:Nat} {m:Str→Option Value},P.Nodup→P[i]?=some x→vs[i]?=some v→kindOf x≠some .local →
    bindC kindOf (P.zip vs) m x=some v
  | [],_,_,_,_,h,_,_=>by simp at h
  | _ :: _,[],_,_,_,_,h,_=>by simp at h
  | p :: P,w :: vs,0,m,nd,h1,h2,hk=>by
    simp at h1 h2;subst h1;subst h2
    show bindC kindOf ((p,w) :: P.zip vs) m p=_
    unfold bindC
    rw [bindC_out fun v hv=>(List.nodup_cons.mp nd).1 (List.of_mem_zip hv).1,if_neg hk]
    simp
  | p :: P,w :: vs,i+1,m,nd,h1,h2,hk=>by
    show bindC kindOf ((p,w) :: P.zip vs) m x=_
    unfold bindC
    exact bindC_get (i:=i) (List.nodup_cons.mp nd).2 (by simpa using h1) (by simpa using h2) hk
def start (N:List Str) (vs:List V):St:=vs.map some++List.replicate (N.length - vs.length) none
def cxOf (CX:CXT) (P:Program) (w:World) (K:PySem.W.Frag) (mg:Str→Option Value) (base:Heap) (N:List Str) (qual:Str) (scope:Scope) (f:Addr) (cd:Value) (A:Around) (outer:List Env) (s:Shared) (H:Hp) (E:XK):Cx where
  prog:=P
  w:=w
  K:=K
  mg:=mg
  base:=base
  A:=A.deeper (envOfC qual scope s.heap.objs.size f cd)
  N:=N
  s₀:=s
  H₀:=H
  env:=envOfC qual scope s.heap.objs.size f cd
  outer:=outer
  stack:=envOfC qual scope s.heap.objs.size f cd :: outer
  ex:=[]
  calm:=true
  fn:=fun _=>true
  pn:=[]
  xe:=fun e s'=>wpAny (model P w) (A.deeper (envOfC qual scope s.heap.objs.size f cd)) (leaving (envOfC qual scope s.heap.objs.size f cd) e) (fun _ s''=>CX outer H s E e s'') (fun e' s''=>CX outer H s E e' s'') s'
theorem cell_has {sc:Scope} {n:Nat} {x:Str} (h:sc.names.lookup x=some .cell):∃ c,(cellsFrom n sc.names []).lookup x=some c:=by
  have q:=PySem.W.cellsFrom_some sc.names n [] (.inl h)
  exact Option.isSome_iff_exists.mp q
theorem inv_start {CX:CXT} {P:Program} {w:World} {K:PySem.W.Frag} {mg:Str→Option Value} {base:Heap} {N ps:List Str} {qual:Str} {scope:Scope} {f:Addr} {cd:Value} {A:Around} {outer:List Env} {s s1:Shared} {H:Hp} {E:XK} {us:List Value} {vs:List V}
    (S:FnScope N ps scope) (hd:A.handled=none) (e0:Env0 P w K mg base A outer s H) (hl:vs.length=ps.length) (r:Vals vs us)
    (x:InCallC s s.heap.objs.size (bindL (envOfC qual scope s.heap.objs.size f cd).kindOf (ps.zip us) fun _=>none) (cellsFrom (s.heap.objs.size+1) scope.names []) (bindC (envOfC qual scope s.heap.objs.size f cd).kindOf (ps.zip us) fun _=>none) s1) :
    Inv (cxOf CX P w K mg base N qual scope f cd A outer s H E) [] (start N vs) H s1:=by
  have hpl:ps.length≤N.length:=by have:=congrArg List.length S.pre;rw [List.length_take] at this;omega
  obtain ⟨h1,tk,rfl,hk⟩:=x.done
  have noA:∀ b:Addr,b ∉ (cxOf CX P w K mg base N qual scope f cd A outer s H E).ex:=fun b z=>absurd (show b ∈ ([]:List Addr) from z) (by simp)
  refine ⟨⟨e0.mod,S.kind,rfl,rfl,Nat.le_refl _,fun y z c h1 h2=>?_,fun y hy=>?_,fun y c _ h=>?_,fun _=>hd,Around.frames_deeper e0.frames,.inr ⟨rfl,rfl⟩,fun b z=>absurd z (noA b),e0.bs,e0.bsz,fun b _ _=>noA b,fun b z=>absurd z (noA b),e0.funs,e0.frf⟩,
    rfl,e0.bare,Un.kept hk,⟨_,x.toInCall.ns,fun i y v h1 h2 h3=>?_⟩,fun y c h=>⟨_,x.cell y c h⟩,e0.hok.fresh (Nat.le_refl _),fun y c h=>?_,fun p hp=>absurd (show p ∈ ([]:List (Addr × Obj)) from hp) (by simp),e0.hok.kept hk,?_⟩
  · exact name_of_addr x.apart (PySem.mem_of_lookup h1) (PySem.mem_of_lookup h2)
  · have hy:scope.names.lookup y=some .cell∨scope.names.lookup y=some .free:=hy
    rcases hy with hy | hy
    · exact cell_has hy
    · exact absurd rfl (S.nofree _ (PySem.mem_of_lookup hy))
  · exact Nat.le_of_lt (x.above y c (PySem.mem_of_lookup h))
  · have hi:i < vs.length:=by
      unfold start at h2
      by_cases hi:i < vs.length
      · exact hi
      · rw [List.getElem?_append_right (by simpa using hi)] at h2
        rw [List.getElem?_replicate] at h2
        split at h2 <;> cases h2
    have ha:vs[i]?=some v:=by
      unfold start at h2
      rw [List.getElem?_append_left (by simpa using hi),List.getElem?_map] at h2
      cases e:vs[i]? with
      | none=>rw [e] at h2;cases h2
      | some a=>rw [e] at h2;cases h2;rfl
    obtain ⟨u,hu,rv⟩:=r.get ha
    have hp:ps[i]?=some y:=by
      rw [← S.pre,List.getElem?_take_of_lt (by omega)];exact h1
    have ndP:ps.Nodup:=by rw [← S.pre];exact S.nd.sublist (List.take_sublist _ _)
    refine ⟨u,rv,?_⟩
    rcases S.par y (List.mem_of_getElem? hp) with k | k
    · exact .inl ⟨k,bindL_get ndP hp hu k⟩
    · obtain ⟨c,e⟩:=cell_has (n:=s.heap.objs.size+1) k
      refine .inr ⟨.inl k,c,e,?_⟩
      have q:=x.cell y c e
      rw [bindC_get ndP hp hu (by show scope.names.lookup y≠_;rw [k];decide)] at q
      exact q
  · exact e0.hok.fresh (Nat.le_of_lt (x.above y c (PySem.mem_of_lookup h)))
  · unfold start
    show _=N.length
    rw [List.length_append,List.length_map,List.length_replicate]
    omega
theorem fn_of {CX:CXT} {P:Program} {w:World} {K:PySem.W.Frag} {mg:Str→Option Value} {base:Heap} {k:Nat} {f:Addr} {name qual:Str} {params:Arguments} {body:List Stmt} {scope:Scope} {dV kV doc pm cdv ct oc:Value} {an od:Option Addr}
    {osl:Array (Option Value)} {N ps:List Str} {sp:Sp} (lk:K.lookup f=some ⟨oc,od,.func (PySem.W.fnOf name qual params body scope dV kV doc pm an cdv ct),osl⟩) (hcd:PySem.W.codeIn K cdv qual=true) (S:FnScope N ps scope)
    (len:∀ vs H Q E,sp vs H Q E→vs.length=ps.length)
    (hbody:∀ (A:Around) (outer:List Env) (s:Shared) (H:Hp) (vs:List V) (Q:VK) (E:XK),Room k (A.deeper (envOfC qual scope s.heap.objs.size f cdv))→sp vs H Q E →
      ∃ t,PSs (cxOf CX P w K mg base N qual scope f cdv A outer s H E) body t∧t { nx:=fun _ H'=>Q .non H',rt:=Q } (start N vs) H) :
    FnOk P w K mg base CX (k+1) f (PySem.W.fnOf name qual params body scope dV kV doc pm an cdv ct) ps sp:=by
  refine ⟨len,fun A outer s H args us vs Q E hr e0 hb r hsp=>?_⟩
  have hl:=len _ _ _ _ hsp
  have KX:K.In s.heap:=e0.mod.kin.keeps fun b o e=>(e0.bs b o e).1
  have lim:s.heap.NoLimit:=e0.mod.nolimit.keeps fun b o e=>(e0.bs b o e).1
  have hkind:∀ y ∈ ps.zip us,scope.names.lookup y.1=some .local∨(scope.names.lookup y.1=some .cell∧((cellsFrom (s.heap.objs.size+1) scope.names []).lookup y.1).isSome=true):=fun ⟨n,v⟩ hy=>by
    rcases S.par n (List.of_mem_zip hy).1 with q | q
    · exact .inl q
    · exact .inr ⟨q,PySem.W.cellsFrom_some _ _ _ (.inl q)⟩
  refine codeAny_call_function hr.depth (KX _ _ lk) rfl S.co S.gen rfl (PySem.W.codeRec_of KX hcd) (hb _ _ _ _ ?_)
  refine wpAny_newFunctionEnv_cells S.kind hkind fun env he s1 x=>?_
  subst he
  refine ⟨lim.keeps x.toInCall.keep,codeAny_func ?_⟩
  obtain ⟨t,ht,hq⟩:=hbody A outer s H vs Q E (hr.deeper _) hsp
  have I:Inv (cxOf CX P w K mg base N qual scope f cdv A outer s H E) [] (start N vs) H s1:=inv_start S hr.hd e0 hl r x
  refine wpAny_mono (ht [] s1 (start N vs) H _ I hq) (fun fl s' hs=>?_) fun e s' hs=>hs
  have fin:∀ {σ':St} {H':Hp} {v:V} {u:Value},Inv (cxOf CX P w K mg base N qual scope f cdv A outer s H E) [] σ' H' s'→RelV v u→Q v H'→CE outer P w H s Q u s' :=
    fun {σ' H' v u} J rv q=>⟨v,H',J.os,J.bare,J.base,J.hok,rv,q⟩
  cases fl with
  | ret u =>
    obtain ⟨v,σ',H',J,rv,q⟩:=hs
    exact fin J rv q
  | next =>
    obtain ⟨σ',H',J,q⟩:=hs
    exact fin (v:=V.non) (u:=Value.none) J rfl q
  | brk =>
    obtain ⟨_,_,_,q⟩:=hs
    exact False.elim q
  | cont =>
    obtain ⟨_,_,_,q⟩:=hs
    exact False.elim q
end L2
namespace L2
open PySem PySem.Spec PyProof.Rows
section
variable {X:Cx} {x:Str} {p pos:Pos} {e:Expr} {es:List Expr} {t:TA} {id T:String} {r:List V→Hp→VK→Prop}
def tCB (r:List V→Hp→VK→Prop) (t:TA):TE:=fun σ H Q=>t σ H fun vs H1=>r vs H1 Q
theorem pe_callB (hc:CallR X (.builtin id) r) (hg:Gl X x) (hm:X.mg x=none) (hv:bootBuiltins x=some (.builtin id)) (ha:PA X (e :: es) t) (hn:x≠"__name__":=by decide) (hdb:(x == ("__debug__":Str))=false:=by decide)
    (he:starEach (e :: es) X.env=(false,eval e X.env) :: starEach es X.env:=by rfl) (hpl:(backTo pos (starEach es X.env)).any (·.1)=false:=by rfl):PE X (.Call (.Name x p) (e :: es) [] pos) (tCB r t):=by
  intro pins s σ H Q I h
  refine wpAny_Call_Name_kw (ld_blt I hg hm hv ?_ hn hdb)
  exact PyProof.Rows.callWith_builtin1 (thn (ha pos pins s σ H _ I h) fun us s1 ⟨vs,H1,I1,r1,q1⟩=>hc pins s1 σ H1 vs us Q I1 r1 q1) he hpl
theorem pe_callTy (hc:CallR X (.type T) r) (hg:Gl X x) (hm:X.mg x=none) (hv:bootBuiltins x=some (.type T)) (ha:PA X (e :: es) t) (hn:x≠"__name__":=by decide) (hdb:(x == ("__debug__":Str))=false:=by decide)
    (he:starEach (e :: es) X.env=(false,eval e X.env) :: starEach es X.env:=by rfl) (hpl:(backTo pos (starEach es X.env)).any (·.1)=false:=by rfl):PE X (.Call (.Name x p) (e :: es) [] pos) (tCB r t):=by
  intro pins s σ H Q I h
  refine wpAny_Call_Name_kw (ld_blt I hg hm hv ?_ hn hdb)
  exact PyProof.Rows.callWith_type1 (thn (ha pos pins s σ H _ I h) fun us s1 ⟨vs,H1,I1,r1,q1⟩=>hc pins s1 σ H1 vs us Q I1 r1 q1) he hpl
end
end L2
namespace HT
open PySem PyProof.Rows
section
open PySem.SeqAt
open PySem.AutoSeq1 (wpAny_loadPart')
open PySem.MeetsSeq PySem.MeetsSeq2 PySem.MeetsSeq3
end
section
variable {prog:Program} {w:World} {A:Around} {E:Value→Shared→Prop} {s:Shared}
def sIx (n d:Nat):Option Int→Nat
  | none=>d
  | some v=>if v < 0 then (v+(n:Int)).toNat else min v.toNat n
theorem sIx_le (n d:Nat) (hd:d≤n) (o:Option Int):sIx n d o≤n:=by
  cases o with
  | none=>exact hd
  | some v =>
    show (if v < 0 then (v+(n:Int)).toNat else min v.toNat n)≤n
    by_cases hv:v < 0
    · rw [if_pos hv];omega
    · rw [if_neg hv];exact Nat.min_le_right _ _
theorem clip_eq (v:Int) (n d:Nat):(if v < 0 then max (v+(n:Int)) 0 else min v (n:Int))=((sIx n d (some v):Nat):Int):=by
  show (if v < 0 then max (v+(n:Int)) 0 else min v (n:Int))=(((if v < 0 then (v+(n:Int)).toNat else min v.toNat n):Nat):Int)
  by_cases hv:v < 0
  · simp only [if_pos hv];omega
  · simp only [if_neg hv];omega
theorem adjust_gen (lo hi:Option Int) (n:Nat):Builtin.Slice.sliceAdjust lo hi 1 (n:Int)=(((sIx n 0 lo:Nat):Int),((sIx n n hi:Nat):Int)):=by
  have h1:¬ ((1:Int) < 0):=by omega
  unfold Builtin.Slice.sliceAdjust
  simp only [h1,if_false]
  refine Prod.ext ?_ ?_
  · cases lo with
    | none=>rfl
    | some v=>exact clip_eq v n 0
  · cases hi with
    | none=>rfl
    | some v=>exact clip_eq v n n
theorem places_gen (i j:Nat):Builtin.Slice.slicePlaces (i:Int) (j:Int) 1=j - i:=by
  unfold Builtin.Slice.slicePlaces
  have h1:(1:Int) > 0:=by omega
  simp only [h1,if_true,Int.ediv_one]
  split <;> omega
theorem slicePart_ {v:Value} {o:Option Int} {Q:Option Int→Shared→Prop} (p:IsPart v o) (h:Q o s):wpAny (model prog w) A (Builtin.Slice.slicePartIndex v) Q E s:=by
  cases p with
  | none=>exact slicePart_none h
  | int i t=>exact slicePart_int h
theorem sliceApplied_gen {sl:Addr} {vl vu:Value} {lo hi:Option Int} {n:Nat} {Q:Int × Int × Nat→Shared→Prop} (hs:s.heap.IsSliceOf sl vl vu .none) (pl:IsPart vl lo) (pu:IsPart vu hi)
    (h:Q (((sIx n 0 lo:Nat):Int),1,sIx n n hi - sIx n 0 lo) s):wpAny (model prog w) A (Builtin.Slice.sliceApplied (.ref sl) (pure (n:Int))) Q E s:=by
  obtain ⟨os,hos,hcs,hds⟩:=id hs
  unfold Builtin.Slice.sliceApplied Builtin.Slice.sliceFields
  refine wpAny_bind (wpAny_bind (wpAny_field hos hds (x:=vl) rfl (wpAny_bind (wpAny_field hos hds (x:=vu) rfl (wpAny_bind (wpAny_field hos hds (x:=.none) rfl (wpAny_pure ?_)))))))
  refine wpAny_bind (slicePart_none ?_)
  show wpAny _ _ (if ((1:Int) == 0)=true then _ else _) _ _ s
  rw [if_neg (by decide)]
  refine wpAny_bind (slicePart_ pl (wpAny_bind (slicePart_ pu (wpAny_bind (wpAny_pure ?_)))))
  show wpAny _ _ (match Builtin.Slice.sliceAdjust lo hi 1 (n:Int) with | (lo,hi)=>pure (lo,(1:Int),Builtin.Slice.slicePlaces lo hi 1)) _ _ s
  rw [adjust_gen lo hi n]
  show wpAny _ _ (pure (((sIx n 0 lo:Nat):Int),(1:Int),Builtin.Slice.slicePlaces ((sIx n 0 lo:Nat):Int) ((sIx n n hi:Nat):Int) 1)) _ _ s
  rw [places_gen]
  exact wpAny_pure h
theorem pick_gen (xs:Array Value) (i k:Nat):((List.range k).filterMap fun (m:Nat)=>xs[((i:Int)+(m:Int) * 1).toNat]?).toArray=((xs.toList.drop i).take k).toArray:=by
  have e:(fun (m:Nat)=>xs[((i:Int)+(m:Int) * 1).toNat]?)=fun m=>xs[i+m]?:=by
    funext m
    have:((i:Int)+(m:Int) * 1).toNat=i+m:=by omega
    rw [this]
  rw [e]
  have:=pick_run xs i k
  rw [List.filterMap_map] at this
  have e2:((fun x=>xs[x]?) ∘ fun x=>i+x)=fun m=>xs[i+m]?:=rfl
  rw [e2] at this
  rw [this]
theorem getItem_tuple_cut {t sl:Addr} {items:Array Value} {vl vu:Value} {lo hi:Option Int} {Q:Value→Shared→Prop} (ht:IsTup s.heap t items) (hs:s.heap.IsSliceOf sl vl vu .none) (pl:IsPart vl lo) (pu:IsPart vu hi)
    (hw:¬ (sIx items.size 0 lo=0∧sIx items.size items.size hi=items.size))
    (h:Q (.ref s.heap.objs.size) { s with heap:=s.heap.push { cls:=.type "tuple",data:=.seq ((items.toList.drop (sIx items.size 0 lo)).take (sIx items.size items.size hi - sIx items.size 0 lo)).toArray } })
    (hsz:items.size≤sizeLine):wpAny (model prog w) A (getItem (.ref t) (.ref sl)) Q E s:=by
  have htake:sizeOk (.seq ((items.toList.drop (sIx items.size 0 lo)).take (sIx items.size items.size hi - sIx items.size 0 lo)).toArray):=by
    show ((items.toList.drop (sIx items.size 0 lo)).take (sIx items.size items.size hi - sIx items.size 0 lo)).toArray.size≤sizeLine
    rw [List.size_toArray,List.length_take,List.length_drop,Array.length_toList]
    omega
  have hj:sIx items.size items.size hi≤items.size:=sIx_le _ _ (Nat.le_refl _) hi
  obtain ⟨os,hos,hcs,hds⟩:=id hs
  have hTs:s.TypeIs (.ref sl) "slice":=⟨os,hos,hcs⟩
  unfold getItem
  try with_reducible refine wpAny_holding ?_
  first | refine wpAny_bind (wpAny_pure ?_) | skip
  refine wpAny_bind (wpAny_sequenceKey ht.typeIs (by decide) ?_)
  refine wpAny_bind (wpAny_callSpecial?_slot (name:=Str.ofString "__getitem__") ht.typeIs PyProof.Rows.slot_tuple_getitem
    (wpAny_call_entry PyProof.Rows.slot_tuple_getitem ht.typeIs entry_tuple_getitem ?_ (args_tuple_getitem _ _)))
  show wpAny _ _ (Builtin.Tuple.tupleItemsOf (.ref t) >>= _) _ _ s
  refine wpAny_bind (tupleItemsOf_ ht ?_)
  refine wpAny_bind (wpAny_typeOf hTs ?_)
  rw [if_pos (by decide)]
  refine wpAny_bind (sliceApplied_gen hs pl pu ?_)
  have hno:¬ ((((sIx items.size 0 lo:Nat):Int) == 0&&(1:Int) == 1&&(sIx items.size items.size hi - sIx items.size 0 lo) == items.size)=true):=by
    intro q
    rw [Bool.and_eq_true,Bool.and_eq_true] at q
    have q1:((sIx items.size 0 lo:Nat):Int)=0:=eq_of_beq q.1.1
    have q2:sIx items.size items.size hi - sIx items.size 0 lo=items.size:=eq_of_beq q.2
    exact hw ⟨by omega,by omega⟩
  show wpAny _ _ (if (((sIx items.size 0 lo:Nat):Int) == 0&&(1:Int) == 1&&(sIx items.size items.size hi - sIx items.size 0 lo) == items.size)=true then _ else _) _ _ s
  rw [if_neg hno,pick_gen]
  first
    | exact wpAny_bind (m:=Builtin.Tuple.tupleExact _) (wpAny_newObj_type (wpAny_pure ⟨_,rfl,wpAny_pure h⟩) htake)
    | exact wpAny_bind (m:=Builtin.Tuple.tupleExact _) (wpAny_newObj_type (wpAny_bind (wpAny_pure (wpAny_pure ⟨_,rfl,wpAny_pure h⟩))) htake)
    | exact wpAny_bind (wpAny_bind (m:=Builtin.Tuple.tupleExact _) (wpAny_newObj_type (wpAny_pure (wpAny_pure ⟨_,rfl,wpAny_pure h⟩)) htake))
    | exact wpAny_bind (wpAny_bind (m:=Builtin.Tuple.tupleExact _) (wpAny_newObj_type (wpAny_pure ⟨_,rfl,wpAny_pure h⟩) htake))
end
end HT
namespace L2
open PySem PySem.Spec PyProof.Rows
abbrev TO:=St→Hp→(Option Int→Hp→Prop)→Prop
def PO (X:Cx) (e:Option Expr) (t:TO):Prop :=
  ∀ (pins:List (Addr × Obj)) (s:Shared) (σ:St) (H:Hp) (Q:Option Int→Hp→Prop),Inv X pins σ H s→t σ H Q →
    wpAny (model X.prog X.w) X.A (evalPart e X.env) (fun u s'=>∃ o H',Inv X pins σ H' s'∧IsPart u o∧Q o H') X.xe s
def tNoPart:TO:=fun _ H Q=>Q none H
def tPart (t:TE):TO:=fun σ H Q=>t σ H fun x H1=>∃ i,x=.int i∧Q (some i) H1
section
variable {X:Cx} {e:Expr} {te:TE} {lo hi:Option Expr} {tl th:TO} {pos p2:Pos}
theorem po_none:PO X none tNoPart:=by
  intro pins s σ H Q I h
  rw [evalPart_none]
  exact wpAny_pure ⟨none,H,I,.none,h⟩
theorem po_some (h:PE X e te):PO X (some e) (tPart te):=by
  intro pins s σ H Q I hw
  rw [evalPart_some]
  refine thn (h pins s σ H _ I hw) fun u s1 ⟨x,H1,I1,r1,q1⟩=>?_
  obtain ⟨i,rfl,q⟩:=q1
  obtain ⟨t,rfl⟩:=r1
  exact ⟨some i,H1,I1,.int i t,q⟩
def SlR (X:Cx) (r:V→Option Int→Option Int→Hp→VK→Prop):Prop :=
  ∀ (pins:List (Addr × Obj)) (s:Shared) (σ:St) (H:Hp) (x:V) (v vl vu:Value) (lo hi:Option Int) (sl:Addr) (Q:VK),Inv X pins σ H s→RelV x v→s.heap.IsSliceOf sl vl vu .none→IsPart vl lo→IsPart vu hi→r x lo hi H Q →
    ∃ T id,typeLookup (.type T) "__getitem__"=pure (some (.builtin id))∧s.TypeIs v T∧wpAny (model X.prog X.w) X.A (getItem v (.ref sl)) (EP X pins σ Q) X.xe s
def tSl (r:V→Option Int→Option Int→Hp→VK→Prop) (te:TE) (tl th:TO):TE:=fun σ H Q=>te σ H fun x H1=>tl σ H1 fun l H2=>th σ H2 fun u H3=>r x l u H3 Q
theorem pe_slice {r:V→Option Int→Option Int→Hp→VK→Prop} (hr:SlR X r) (he:PE X e te) (hl:PO X lo tl) (hu:PO X hi th):PE X (.Subscript e (.Slice lo hi none p2) pos) (tSl r te tl th):=by
  intro pins s σ H Q I h
  refine Subscript_ (thn (he pins s σ H _ I h) fun v s1 ⟨x,H1,I1,r1,q1⟩=>?_)
  refine wpAny_Slice (thn (hl pins s1 σ H1 _ I1 q1) fun vl s2 ⟨l,H2,I2,pl,q2⟩=>thn (hu pins s2 σ H2 _ I2 q2) fun vu s3 ⟨u,H3,I3,pu,q3⟩=>?_)
  rw [evalPart_none]
  refine wpAny_pure ?_
  have I4:Inv X pins σ H3 { s3 with heap:=s3.heap.push { cls:=.type "slice",data:=.fields #[vl,vu,.none] } }:=I3.kept (t':=s3.toks) fun b ob q=>Heap.get?_push_of_some _ q
  obtain ⟨T,id,hT,ht,hg⟩:=hr pins { s3 with heap:=s3.heap.push { cls:=.type "slice",data:=.fields #[vl,vu,.none] } } σ H3 x v vl vu l u s3.heap.objs.size Q I4 r1 (Heap.IsSliceOf.new ..) pl pu q3
  show wpAny (model X.prog X.w) X.A (subscriptTail e (.Slice lo hi none p2) v (.ref s3.heap.objs.size)) (EP X pins σ Q) X.xe { s3 with heap:=s3.heap.push { cls:=.type "slice",data:=.fields #[vl,vu,.none] } }
  exact tail_any (ops:=[.ref s3.heap.objs.size,v]) ht hT hg (by with_unfolding_all rfl)
def cutV (xs:List V) (lo hi:Option Int):List V:=(xs.drop (HT.sIx xs.length 0 lo)).take (HT.sIx xs.length xs.length hi - HT.sIx xs.length 0 lo)
theorem cutV_length (xs:List V) (lo hi:Option Int):(cutV xs lo hi).length≤xs.length:=by
  unfold cutV
  rw [List.length_take,List.length_drop]
  omega
def rSlT (K:PySem.W.Frag):V→Option Int→Option Int→Hp→VK→Prop:=fun x lo hi H Q=>∃ a xs,x=.ref a∧SqT K H a xs ∧
  ¬ (HT.sIx xs.length 0 lo=0∧HT.sIx xs.length xs.length hi=xs.length)∧∀ p,H p=none→Q (.ref p) (upd H p (.tup (cutV xs lo hi)))
theorem sl_tup:SlR X (rSlT X.K):=by
  intro pins s σ H x v vl vu lo hi sl Q I rx hs pl pu h
  obtain ⟨a,xs,rfl,hx,hw,q⟩:=h
  cases rx
  obtain ⟨its,r,ht,hz⟩:=I.tuple hx
  have hlen:its.toArray.size=xs.length:=by rw [List.size_toArray];exact r.length.symm
  refine ⟨"tuple",_,PyProof.Rows.slot_tuple_getitem.lookup,ht.typeIs,?_⟩
  refine HT.getItem_tuple_cut ht hs pl pu (by rw [hlen];exact hw) ?_ (by rw [hlen];exact hz)
  rw [hlen]
  refine ⟨.ref s.heap.objs.size,_,I.laid (t':=s.toks) (o:=.tup (cutV xs lo hi)) (fun b ob q=>Heap.get?_push_of_some _ q) (Nat.le_refl _) ?_,rfl,q _ (I.hok.fresh (Nat.le_refl _))⟩
  exact ⟨Nat.le_trans (cutV_length xs lo hi) hz,_,(r.drop (HT.sIx xs.length 0 lo)).take (HT.sIx xs.length xs.length hi - HT.sIx xs.length 0 lo),IsTup.new _ _⟩
end
end L2
namespace L2
open PySem PySem.Spec PyProof.Rows
def ixN (n:Nat) (i:Int):Option Nat:=if 0≤i then (if i < n then some i.toNat else none) else if -(n:Int)≤i then some (i+n).toNat else none
def atI {α:Type} (xs:List α) (i:Int):Option α:=(ixN xs.length i).bind fun j=>xs[j]?
theorem ixN_seq {n:Nat} {i:Int} {j:Nat} (h:ixN n i=some j):seqIndex? i n=some j∧j < n∧-(n:Int)≤i∧i < n:=by
  unfold ixN at h
  by_cases h0:0≤i
  · rw [if_pos h0] at h
    by_cases h1:i < n
    · rw [if_pos h1] at h
      have e:i.toNat=j:=Option.some.inj h
      exact ⟨by rw [seqIndex_of h0 h1,e],by omega,by omega,h1⟩
    · rw [if_neg h1] at h;cases h
  · rw [if_neg h0] at h
    by_cases h1:-(n:Int)≤i
    · rw [if_pos h1] at h
      have e:(i+n).toNat=j:=Option.some.inj h
      exact ⟨by rw [seqIndex_neg (by omega) h1,e],by omega,h1,by omega⟩
    · rw [if_neg h1] at h;cases h
theorem atI_get {α:Type} {xs:List α} {i:Int} {v:α} (h:atI xs i=some v):∃ j,seqIndex? i xs.length=some j∧xs[j]?=some v∧j < xs.length∧-(xs.length:Int)≤i∧i < xs.length:=by
  unfold atI at h
  cases e:ixN xs.length i with
  | none=>rw [e] at h;cases h
  | some j =>
    rw [e] at h
    obtain ⟨h1,h2,h3,h4⟩:=ixN_seq e
    exact ⟨j,h1,h,h2,h3,h4⟩
theorem atI_nat {α:Type} {xs:List α} {j:Nat} {v:α} (h:xs[j]?=some v):atI xs (j:Int)=some v:=by
  have hj:j < xs.length:=(List.getElem?_eq_some_iff.mp h).1
  have e:ixN xs.length (j:Int)=some j:=by
    unfold ixN
    rw [if_pos (by omega),if_pos (by omega)];simp
  unfold atI;rw [e];exact h
def PlainIx (b:Expr):Prop:=∀ o i,subscripted b false o i=operate [o,i] (getItem o i)
def IxR (X:Cx) (r:R2):Prop :=
  ∀ (value slice:Expr) (pins:List (Addr × Obj)) (s:Shared) (σ:St) (H:Hp) (x y:V) (v u:Value) (Q:VK),Inv X pins σ H s→RelV x v→RelV y u→r x y H Q →
    subscripted slice false v u=operate [v,u] (getItem v u)→wpAny (model X.prog X.w) X.A (subscriptTail value slice v u) (EP X pins σ Q) X.xe s
def MtR (X:Cx) (id:String) (r:V→List V→Hp→VK→Prop):Prop :=
  ∀ (pins:List (Addr × Obj)) (s:Shared) (σ:St) (H:Hp) (x:V) (xs:List V) (v:Value) (us:List Value) (Q:VK),Inv X pins σ H s→RelV x v→Vals xs us→r x xs H Q →
    wpAny (model X.prog X.w) X.A (call (.builtin id) (v :: us)) (EP X pins σ Q) X.xe s
section
variable {X:Cx} {a b:Expr} {ta tb:TE} {pos:Pos}
theorem IxR.or {r r':R2} (h:IxR X r) (h':IxR X r'):IxR X (fun x y H Q=>r x y H Q∨r' x y H Q):=by
  intro value slice pins s σ H x y v u Q I rx ry q hs
  rcases q with q | q
  · exact h value slice pins s σ H x y v u Q I rx ry q hs
  · exact h' value slice pins s σ H x y v u Q I rx ry q hs
theorem pe_ix {r:R2} (hr:IxR X r) (ha:PE X a ta) (hb:PE X b tb) (hs:PlainIx b):PE X (.Subscript a b pos) (tOp r ta tb):=by
  intro pins s σ H Q I h
  exact Subscript_ (binT ha hb I h fun v u s2 x y H2 I2 rx ry q=>hr a b pins s2 σ H2 x y v u Q I2 rx ry q (hs _ _))
def rIxL (K:PySem.W.Frag):R2:=fun x y H Q=>∃ p xs i v,x=.ref p∧y=.int i∧SqL K H p xs∧atI xs i=some v∧Q v H
def rIxT (K:PySem.W.Frag):R2:=fun x y H Q=>∃ p xs i v,x=.ref p∧y=.int i∧SqT K H p xs∧atI xs i=some v∧Q v H
def rIxS:R2:=fun x y H Q=>∃ z i c,x=.str z∧y=.int i∧z.length≤sizeLine∧atI z.cps.toList i=some c∧Q (.str ⟨#[c]⟩) H
theorem ix_list:IxR X (rIxL X.K):=by
  intro value slice pins s σ H x y v u Q I rx ry h hs
  obtain ⟨p,xs,i,z,rfl,rfl,hq,he,q⟩:=h
  cases rx
  obtain ⟨t,rfl⟩:=ry
  obtain ⟨its,r,pl,hz⟩:=I.list hq
  obtain ⟨j,h1,h2,h3,h4,h5⟩:=atI_get he
  obtain ⟨w,ew,rw'⟩:=r.get h2
  have hl:=r.length
  have hn:=line63
  have fin:EP X pins σ Q w s:=⟨z,H,I,rw',q⟩
  by_cases h0:0≤i
  · have hj:i.toNat=j:=by
      rw [seqIndex_of h0 h5] at h1
      exact Option.some.inj h1
    exact item_listR pl.isList h0 (by omega) (by rw [hj];simpa using ew) fin hs
  · have hj:(i+(its.toArray.size:Int)).toNat=j:=by
      rw [seqIndex_neg (by omega) h4] at h1
      rw [List.size_toArray,← hl]
      exact Option.some.inj h1
    exact subscriptTail_builtinR (x:=w) pl.isList.typeIs slot_list_getitem.lookup
      (wpAny_getItem_list_neg (Q:=fun r s'=>r=w∧EP X pins σ Q r s') pl.isList (by omega) (by rw [List.size_toArray] <;> omega) (by omega) (by rw [hj];simpa using ew) ⟨rfl,fin⟩) hs
theorem ix_tup:IxR X (rIxT X.K):=by
  intro value slice pins s σ H x y v u Q I rx ry h hs
  obtain ⟨p,xs,i,z,rfl,rfl,hq,he,q⟩:=h
  cases rx
  obtain ⟨t,rfl⟩:=ry
  obtain ⟨its,r,pl,hz⟩:=I.tuple hq
  obtain ⟨j,h1,h2,h3,h4,h5⟩:=atI_get he
  obtain ⟨w,ew,rw'⟩:=r.get h2
  have hl:=r.length
  have hn:=line63
  have fin:EP X pins σ Q w s:=⟨z,H,I,rw',q⟩
  exact subscriptTail_builtinR (x:=w) pl.typeIs slot_tuple_getitem.lookup
    (getItem_tuple (j:=j) (Q:=fun r s'=>r=w∧EP X pins σ Q r s') pl (by omega) (by omega) (by rw [List.size_toArray,← hl];exact h1) (by simpa using ew) ⟨rfl,fin⟩) hs
theorem ix_str:IxR X rIxS:=by
  intro value slice pins s σ H x y v u Q I rx ry h hs
  obtain ⟨z,i,c,rfl,rfl,hz,he,q⟩:=h
  obtain ⟨t,rfl⟩:=rx
  obtain ⟨t',rfl⟩:=ry
  obtain ⟨j,h1,h2,h3,h4,h5⟩:=atI_get he
  have hl:z.cps.toList.length=z.length:=by simp [Str.length]
  rw [hl] at h1 h4 h5
  have hn:=line63
  exact tail_any (typeIs_str s z t) slot_str_getitem.lookup (getItem_str (c:=c) (by
    have e1:decide (i < -(2 ^ 63:Int))=false:=decide_eq_false (by omega)
    have e2:decide (i ≥ 2 ^ 63)=false:=decide_eq_false (by omega)
    rw [e1,e2,Bool.or_false]) (by rw [h1];simpa using h2) ⟨.str ⟨#[c]⟩,H,I.tok _,⟨_,rfl⟩,q⟩) hs
def rIx (K:PySem.W.Frag):R2:=fun x y H Q=>rIxL K x y H Q∨rIxT K x y H Q∨rIxS x y H Q
theorem ix_seq:IxR X (rIx X.K):=ix_list.or (ix_tup.or ix_str)
theorem mapSeq_set (its:List Value) (n j:Nat) (u:Value):Obj.mapSeq (·.setIfInBounds j u) { cls:=.type "list",data:=.seq its.toArray n }={ cls:=.type "list",data:=.seq (its.set j u).toArray n }:=by
  simp [Obj.mapSeq]
theorem Inv.lst {pins:List (Addr × Obj)} {σ:St} {H:Hp} {s:Shared} {p:Addr} {xs:List V} (I:Inv X pins σ H s) (h:H p=some (.lst xs)) :
    ∃ (its:List Value) (n:Nat),Vals xs its∧s.heap.get? p=some { cls:=.type "list",data:=.seq its.toArray n }∧xs.length≤sizeLine:=by
  obtain ⟨z,its,n,r,e⟩:=I.hok p _ h
  exact ⟨its,n,r,e,z⟩
theorem Inv.lstUpd {pins:List (Addr × Obj)} {σ:St} {H:Hp} {s:Shared} {p:Addr} {xs ys:List V} {its its':List Value} {n n':Nat} {f:Obj→Obj} (I:Inv X pins σ H s) (h:H p=some (.lst xs))
    (ho:s.heap.get? p=some { cls:=.type "list",data:=.seq its.toArray n }) (hf:f { cls:=.type "list",data:=.seq its.toArray n }={ cls:=.type "list",data:=.seq its'.toArray n' }) (r:Vals ys its') (hz:ys.length≤sizeLine) (t:Nat) :
    Inv X pins σ (upd H p (.lst ys)) { s with heap:=s.heap.update p f,toks:=t }:=by
  have e:(s.heap.update p f).get? p=some { cls:=.type "list",data:=.seq its'.toArray n' }:=by
    rw [Heap.get?_update_self f ho (by rw [hf] <;> rfl),hf]
  refine I.write (x:=p) (e:=p) (by rw [h];trivial) (.inl rfl) (fun b u hb q=>(Heap.get?_update_other _ _ (Ne.symm hb)).trans q) ⟨_,e⟩ ?_
  exact ⟨hz,its',n',r,e⟩
def rSetL:V→V→V→Hp→(Hp→Prop)→Prop:=fun o i v H Q=>∃ p xs k j,o=.ref p∧i=.int k∧H p=some (.lst xs)∧ixN xs.length k=some j∧Q (upd H p (.lst (xs.set j v)))
theorem set_list:PSet X rSetL:=by
  intro pins s σ H o i v ov iv u Q I ro ri rv h
  obtain ⟨p,xs,k,j,rfl,rfl,hp,hj,q⟩:=h
  cases ro
  obtain ⟨t,rfl⟩:=ri
  obtain ⟨its,n,r,ho,hz⟩:=I.lst hp
  obtain ⟨h1,h2,h3,h4⟩:=ixN_seq hj
  have hl:=r.length
  have hn:=line63
  have I':Inv X pins σ (upd H p (.lst (xs.set j v))) { s with heap:=s.heap.update p (Obj.mapSeq (·.setIfInBounds j u)) } :=
    I.lstUpd hp ho (mapSeq_set its n j u) (r.set rv j) (by rw [List.length_set];exact hz) s.toks
  by_cases h0:0≤k
  · have hk:k.toNat=j:=by
      rw [seqIndex_of h0 h4] at h1
      exact Option.some.inj h1
    exact PySem.W.ki_setAt ho h0 (by omega) (by rw [List.size_toArray,← hl];exact h4) (by rw [hk];exact ⟨_,I',q⟩)
  · have hk:(k+(its.toArray.size:Int)).toNat=j:=by
      rw [seqIndex_neg (by omega) h3] at h1
      rw [List.size_toArray,← hl]
      exact Option.some.inj h1
    exact PySem.W.ki_setBack ho (by omega) (by rw [List.size_toArray,← hl];exact h3) (by omega) (by rw [hk];exact ⟨_,I',q⟩)
theorem slice_bounds (lo hi:Option Int) (n:Nat):(sliceBounds lo hi none n).1=((HT.sIx n 0 lo:Nat):Int)∧(sliceBounds lo hi none n).2.1=((HT.sIx n n hi:Nat):Int)∧(sliceBounds lo hi none n).2.2=1:=by
  refine ⟨?_,?_,rfl⟩
  · cases lo with
    | none=>simp [sliceBounds,HT.sIx]
    | some i =>
      simp only [sliceBounds,HT.sIx,Option.getD_none,show (1:Int) > 0 by decide,if_true]
      by_cases h:i < 0
      · simp only [h,if_true] <;> omega
      · simp only [h,if_false] <;> omega
  · cases hi with
    | none=>simp [sliceBounds,HT.sIx]
    | some i =>
      simp only [sliceBounds,HT.sIx,Option.getD_none,show (1:Int) > 0 by decide,if_true]
      by_cases h:i < 0
      · simp only [h,if_true] <;> omega
      · simp only [h,if_false] <;> omega
theorem slicePick_cut (its:List Value) (lo hi:Option Int):slicePick its.toArray lo hi none=((its.drop (HT.sIx its.length 0 lo)).take (HT.sIx its.length its.length hi - HT.sIx its.length 0 lo)).toArray:=by
  obtain ⟨h1,h2,h3⟩:=slice_bounds lo hi its.toArray.size
  unfold slicePick
  rw [h1,h2,h3]
  simp only [sliceRange_one,pick_run,List.size_toArray] <;> rfl
def rSlL (K:PySem.W.Frag):V→Option Int→Option Int→Hp→VK→Prop:=fun x lo hi H Q=>∃ a xs,x=.ref a∧SqL K H a xs∧∀ p,H p=none→Q (.ref p) (upd H p (.lst (cutV xs lo hi)))
theorem sl_list:SlR X (rSlL X.K):=by
  intro pins s σ H x v vl vu lo hi sl Q I rx hs pl pu h
  obtain ⟨a,xs,rfl,hx,q⟩:=h
  cases rx
  obtain ⟨its,r,ht,hz⟩:=I.list hx
  have hlen:=r.length
  refine ⟨"list",_,slot_list_getitem.lookup,ht.isList.typeIs,?_⟩
  refine wpAny_getItem_list_slice ht.isList hs pl pu .none (by simp) ?_ (by rw [List.size_toArray] <;> omega)
  rw [slicePick_cut,← hlen]
  refine ⟨.ref s.heap.objs.size,_,I.laid (t':=s.toks) (o:=.lst (cutV xs lo hi)) (fun b ob q=>Heap.get?_push_of_some _ q) (Nat.le_refl _) ?_,rfl,q _ (I.hok.fresh (Nat.le_refl _))⟩
  exact ⟨Nat.le_trans (cutV_length xs lo hi) hz,_,0,(r.drop (HT.sIx xs.length 0 lo)).take (HT.sIx xs.length xs.length hi - HT.sIx xs.length 0 lo),Heap.get?_push_size _ rfl⟩
def flatV:V→Bool
  | .non=>true
  | .bl _=>true
  | .int _=>true
  | .str _=>true
  | _=>false
def eqV:V→V→Bool
  | .non,.non=>true
  | .bl a,.bl b=>a == b
  | .bl a,.int b=>(if a then 1 else 0) == b
  | .int a,.bl b=>a == (if b then 1 else 0)
  | .int a,.int b=>a == b
  | .str a,.str b=>a == b
  | _,_=>false
theorem eqAt_V {A:Around} {s:Shared} {y x:V} {u v:Value} (ry:RelV y u) (rx:RelV x v) (fy:flatV y=true) (fx:flatV x=true):SeqAt.EqAt A s u v (eqV y x):=by
  cases y with
  | non =>
    cases ry
    cases x with
    | non=>cases rx;exact SeqAt.EqAt.same _
    | bl b=>cases rx;exact SeqAt.EqAt.none_bool b
    | int b=>obtain ⟨t,rfl⟩:=rx;exact SeqAt.EqAt.none_int b t
    | str b=>obtain ⟨t,rfl⟩:=rx;exact SeqAt.EqAt.none_str b t
    | _=>exact absurd (show false=true from fx) Bool.false_ne_true
  | bl a =>
    cases ry
    cases x with
    | non=>cases rx;exact SeqAt.EqAt.bool_none a
    | bl b=>cases rx;exact SeqAt.EqAt.bool_bool a b
    | int b=>obtain ⟨t,rfl⟩:=rx;exact SeqAt.EqAt.bool_int a b t
    | str b=>obtain ⟨t,rfl⟩:=rx;exact SeqAt.EqAt.bool_str a b t
    | _=>exact absurd (show false=true from fx) Bool.false_ne_true
  | int a =>
    obtain ⟨t',rfl⟩:=ry
    cases x with
    | non=>cases rx;exact SeqAt.EqAt.int_none a t'
    | bl b=>cases rx;exact SeqAt.EqAt.int_bool a t' b
    | int b=>obtain ⟨t,rfl⟩:=rx;exact SeqAt.EqAt.int_int a t' b t
    | str b=>obtain ⟨t,rfl⟩:=rx;exact SeqAt.EqAt.int_str a t' b t
    | _=>exact absurd (show false=true from fx) Bool.false_ne_true
  | str a =>
    obtain ⟨t',rfl⟩:=ry
    cases x with
    | non=>cases rx;exact SeqAt.EqAt.str_none a t'
    | bl b=>cases rx;exact SeqAt.EqAt.str_bool a t' b
    | int b=>obtain ⟨t,rfl⟩:=rx;exact SeqAt.EqAt.str_int a t' b t
    | str b=>obtain ⟨t,rfl⟩:=rx;exact SeqAt.EqAt.str_str a t' b t
    | _=>exact absurd (show false=true from fx) Bool.false_ne_true
  | _=>exact absurd (show false=true from fy) Bool.false_ne_true
def eqU (x:V) (u:Value):Bool:=match u with
  | .none=>eqV .non x
  | .bool b=>eqV (.bl b) x
  | .int i _=>eqV (.int i) x
  | .str z _=>eqV (.str z) x
  | _=>false
theorem eqU_of {x y:V} {u:Value} (r:RelV y u) (f:flatV y=true):eqU x u=eqV y x:=by
  cases y with
  | non=>cases r;rfl
  | bl b=>cases r;rfl
  | int i=>obtain ⟨t,rfl⟩:=r;rfl
  | str z=>obtain ⟨t,rfl⟩:=r;rfl
  | _=>exact absurd (show false=true from f) Bool.false_ne_true
theorem any_eqU {x:V}:∀ {xs:List V} {us:List Value},Vals xs us→xs.all flatV=true→us.any (eqU x)=xs.any fun y=>eqV y x
  | _,_,.nil,_=>rfl
  | y :: xs,u :: us,.cons r t,f=>by
    rw [List.all_cons,Bool.and_eq_true] at f
    rw [List.any_cons,List.any_cons,eqU_of r f.1,any_eqU t f.2]
theorem mem_eqAt {A:Around} {s:Shared} {x:V} {v:Value} (rx:RelV x v) (fx:flatV x=true):∀ {xs:List V} {us:List Value},Vals xs us→xs.all flatV=true→∀ u ∈ us,SeqAt.EqAt A s u v (eqU x u)
  | _,_,.nil,_=>fun u hu=>by cases hu
  | y :: xs,u :: us,.cons r t,f=>fun u' hu=>by
    rw [List.all_cons,Bool.and_eq_true] at f
    rcases List.mem_cons.mp hu with rfl | hu
    · rw [eqU_of r f.1];exact eqAt_V r rx f.1 fx
    · exact mem_eqAt rx fx t f.2 u' hu
def inV (x:V) (xs:List V):Bool:=xs.any fun y=>eqV y x
def rIn (K:PySem.W.Frag) (neg:Bool):R2:=fun x y H Q=>∃ p xs,y=.ref p∧(SqL K H p xs∨SqT K H p xs)∧flatV x=true∧xs.all flatV=true∧Q (.bl (if neg then !inV x xs else inV x xs)) H
theorem op_in_seq:OpR X (compareOp .In) (rIn X.K false):=by
  intro pins s σ H x y v u Q I rx ry h
  obtain ⟨p,xs,rfl,hq,fx,fs,q⟩:=h
  cases ry
  rcases hq with hq | hq
  · obtain ⟨its,r,pl,hz⟩:=I.list hq
    refine SeqAt.in_listAt (eqU x) pl.isList (fun w hw=>mem_eqAt rx fx r fs w (by simpa using hw)) ⟨.bl _,H,I,rfl,?_⟩
    rw [show its.toArray.any (eqU x)=its.any (eqU x) by simp,any_eqU r fs]
    exact q
  · obtain ⟨its,r,pl,hz⟩:=I.tuple hq
    refine SeqAt.in_tupleAt (eqU x) pl (fun w hw=>mem_eqAt rx fx r fs w (by simpa using hw)) ⟨.bl _,H,I,rfl,?_⟩
    rw [show its.toArray.any (eqU x)=its.any (eqU x) by simp,any_eqU r fs]
    exact q
theorem call_len_seq:CallR X (.builtin "len") (fun xs H Q=>∃ p ys,xs=[.ref p]∧(SqL X.K H p ys∨SqT X.K H p ys)∧Q (.int ys.length) H):=by
  intro pins s σ H xs us Q I r h
  obtain ⟨p,ys,rfl,hq,q⟩:=h
  obtain ⟨u,rfl,rx⟩:=vals1 r
  cases rx
  have hn:=line63
  rcases hq with hq | hq
  · obtain ⟨its,r',pl,hz⟩:=I.list hq
    have hlen:=r'.length
    exact Calls.call_len_list pl.isList (by simp only [List.size_toArray] <;> omega) ⟨.int ys.length,H,I.tok _,⟨s.toks+1,by rw [List.size_toArray,hlen]⟩,q⟩
  · obtain ⟨its,r',pl,hz⟩:=I.tuple hq
    have hlen:=r'.length
    exact len_tuple pl (by simp only [List.size_toArray] <;> omega) ⟨.int ys.length,H,I.tok _,⟨s.toks+1,by rw [List.size_toArray,hlen]⟩,q⟩
theorem call_len_str:CallR X (.builtin "len") (fun xs H Q=>∃ z,xs=[.str z]∧z.length≤sizeLine∧Q (.int z.length) H):=by
  intro pins s σ H xs us Q I r h
  obtain ⟨z,rfl,hz,q⟩:=h
  obtain ⟨u,rfl,t,rfl⟩:=vals1 r
  have hn:=line63
  exact len_str (by omega) ⟨.int z.length,H,I.tok _,⟨_,rfl⟩,q⟩
theorem call_list_of:CallR X (.type "list") (fun xs H Q=>∃ p ys,xs=[.ref p]∧(SqL X.K H p ys∨SqT X.K H p ys)∧∀ l,H l=none→Q (.ref l) (upd H l (.lst ys))):=by
  intro pins s σ H xs us Q I r h
  obtain ⟨p,ys,rfl,hq,q⟩:=h
  obtain ⟨u,rfl,rx⟩:=vals1 r
  cases rx
  have fin:∀ (its:List Value),Vals ys its→ys.length≤sizeLine→∀ (h':Heap) (c':Nat),(∀ b o',s.heap.get? b=some o'→h'.get? b=some o') →
      h'.get? s.heap.objs.size=some { cls:=.type "list",dict:=none,data:=.seq its.toArray c',slots:=#[] }→EP X pins σ Q (.ref s.heap.objs.size) { s with heap:=h' }:=fun its r' hz h' c' kp e =>
    ⟨.ref s.heap.objs.size,_,I.laid (t':=s.toks) kp (Nat.le_refl _) (show ObjOk X.prog X.w _ h' _ (.lst ys) from ⟨hz,its,c',r',e⟩),rfl,q _ (I.hok.fresh (Nat.le_refl _))⟩
  rcases hq with hq | hq
  · obtain ⟨its,r',pl,hz⟩:=I.list hq
    have hlen:=r'.length
    obtain ⟨o,ho,hc,n,hd⟩:=pl.isList
    exact call_list_seq p (.inl rfl) ho hc hd (fun h' c' kp e=>fin its r' hz h' c' kp e) (by simp only [List.size_toArray] <;> omega)
  · obtain ⟨its,r',pl,hz⟩:=I.tuple hq
    have hlen:=r'.length
    obtain ⟨o,ho,hc,n,hd⟩:=pl
    exact call_list_seq p (.inr rfl) ho hc hd (fun h' c' kp e=>fin its r' hz h' c' kp e) (by simp only [List.size_toArray] <;> omega)
def tyV (K:PySem.W.Frag) (T:String) (x:V) (H:Hp):Prop:=match x with
  | .str _=>T="str"
  | .int _=>T="int"
  | .ref p=>(T="list"∧∃ xs,SqL K H p xs)∨(T="tuple"∧∃ o,K.lookup p=some o∧o.cls=.type "tuple"∧o.dict=none) ∨
      (T="dict"∧((∃ kvs,H p=some (.dK kvs))∨∃ kvs,H p=some (.dT kvs)))∨(T="set"∧∃ S n,H p=some (.set S n))
  | _=>False
theorem tyV_is {pins:List (Addr × Obj)} {σ:St} {H:Hp} {s:Shared} {T:String} {x:V} {v:Value} (I:Inv X pins σ H s) (r:RelV x v) (ty:tyV X.K T x H) :
    s.TypeIs v T∧∀ a,v=.ref a→∃ ob,s.heap.get? a=some ob∧ob.dict=none:=by
  cases x with
  | str z =>
    obtain ⟨t,rfl⟩:=r
    cases (show T="str" from ty)
    exact ⟨typeIs_str s z t,fun _ e=>nomatch e⟩
  | int i =>
    obtain ⟨t,rfl⟩:=r
    cases (show T="int" from ty)
    exact ⟨typeIs_int s i t,fun _ e=>nomatch e⟩
  | ref p =>
    cases r
    rcases ty with ⟨rfl,xs,hq⟩ | ⟨rfl,o,hk,hc,hd⟩ | ⟨rfl,hk⟩ | ⟨rfl,S,n,hk⟩
    · obtain ⟨its,_,pl,_⟩:=I.list hq
      refine ⟨pl.isList.typeIs,fun a e=>?_⟩
      cases e
      obtain ⟨o,n,e,c,hd,_⟩:=pl
      exact ⟨o,e,hd⟩
    · refine ⟨⟨o,I.kIn p o hk,hc⟩,fun a e=>?_⟩
      cases e
      exact ⟨o,I.kIn _ o hk,hd⟩
    · have z:∃ o,s.heap.get? p=some o∧o.ExactDict:=by
        rcases hk with ⟨kvs,hk⟩ | ⟨kvs,hk⟩
        · obtain ⟨_,_,_,_,o,_,_,e,ex,_⟩:=I.hok p _ hk
          exact ⟨o,e,ex⟩
        · obtain ⟨_,_,_,_,o,_,_,e,ex,_⟩:=I.hok p _ hk
          exact ⟨o,e,ex⟩
      obtain ⟨o,e,ex⟩:=z
      refine ⟨⟨o,e,ex.1⟩,fun a e2=>?_⟩
      cases e2
      exact ⟨o,e,ex.2.1⟩
    · obtain ⟨o,_,_,_,e,ex,_⟩:=I.hok p _ hk
      refine ⟨⟨o,e,ex.1⟩,fun a e2=>?_⟩
      cases e2
      exact ⟨o,e,ex.2.1⟩
  | _=>exact False.elim ty
def tBM (K:PySem.W.Frag) (T:String) (r:V→List V→Hp→VK→Prop) (to:TE) (t:TA):TE:=fun σ H Q=>to σ H fun x H1=>tyV K T x H1∧t σ H1 fun xs H2=>r x xs H2 Q
variable {o e:Expr} {es:List Expr} {to:TE} {t:TA} {name:Str} {apos cpos:Pos} {T id:String} {r:V→List V→Hp→VK→Prop}
theorem pe_bm (pa:PlainAttrs T) (slot:Slot T name id) (hty:typeOf (.builtin id)=pure (.type "method_descriptor")) (hm:MtR X id r) (ho:PE X o to) (ha:PA X (e :: es) t)
    (hbase:attributeBase o name X.env (eval o X.env)=eval o X.env:=by rfl)
    (hfew:((backTo cpos (starEach (e :: es) X.env)).all (fun x=>!x.1)&&(backToKw cpos (keywordEach [] X.env)).all (fun x=>x.1.isSome)
      && decide ((e :: es).length+([]:List Keyword).length+(if ([]:List Keyword).isEmpty then 0 else 1) < 30))=true:=by rfl)
    (hline:(apos.endLine == cpos.line)=true:=by rfl) (hs:starEach (e :: es) X.env=(false,eval e X.env) :: starEach es X.env:=by rfl) (hplain:(backTo cpos (starEach es X.env)).any (·.1)=false:=by rfl) :
    PE X (.Call (.Attribute o name apos) (e :: es) [] cpos) (tBM X.K T r to t):=by
  intro pins s σ H Q I h
  refine wpAny_Call_method_late hbase hfew hline rfl (thn (ho pins s σ H _ I h) fun v s1 ⟨x,H1,I1,r1,ty,q1⟩=>?_)
  obtain ⟨h1,h2⟩:=tyV_is I1 r1 ty
  refine ⟨T,id,pa,slot,hty,h1,h2,?_⟩
  have hA:=ha cpos pins s1 σ H1 _ I1 q1
  rw [hs] at hA ⊢
  refine Calls.callWith_builtin (by show (false || (backTo cpos (starEach es X.env)).any (·.1))=false;rw [hplain] <;> rfl) (Calls.evalArgs_plain ?_)
  exact thn hA fun us s2 ⟨vs,H2,I2,r2,q2⟩=>hm pins s2 σ H2 x vs v us Q I2 r1 r2 q2
/- xs.append(e),list.index on a module's tuple .. are MtR facts of 06m -/
end
end L2
namespace L2
open PySem PySem.Spec PyProof.Rows
def MtM (X:Cx) (id:String) (r:V→List V→Hp→VK→Prop):Prop :=
  ∀ (pins:List (Addr × Obj)) (s:Shared) (σ:St) (H:Hp) (x:V) (xs:List V) (v:Value) (us:List Value) (Q:VK),Inv X pins σ H s→RelV x v→Vals xs us→r x xs H Q →
    wpAny (model X.prog X.w) X.A (call (.builtin id) (v :: us)) (EP X pins σ Q) X.xe s
theorem Vals.one:∀ {x:V} {us:List Value},Vals [x] us→∃ u,us=[u]∧RelV x u
  | _,_,.cons r .nil=>⟨_,rfl,r⟩
section
variable {X:Cx} {pins:List (Addr × Obj)} {σ:St} {H:Hp} {s:Shared} {l b:Addr} {xs ys zs:List V}
theorem Inv.lset {its its':List Value} {n:Nat} {f:Array Value→Array Value} {t':Nat} (I:Inv X pins σ H s) (hH:H l=some (.lst xs))
    (e:s.heap.get? l=some { cls:=.type "list",data:=.seq its.toArray n }) (hf:f its.toArray=its'.toArray) (hv:Vals ys its') (hz:ys.length≤sizeLine) :
    Inv X pins σ (upd H l (.lst ys)) { s with heap:=s.heap.update l (Obj.mapSeq f),toks:=t' }:=by
  have q:=PySem.IsL.update e f
  rw [hf] at q
  refine I.write (x:=l) (e:=l) (by rw [hH];exact trivial) (.inl rfl) (fun b' u hb hu=>(Heap.get?_update_other s.heap (Obj.mapSeq f) (Ne.symm hb)).trans hu) ⟨_,q⟩ ?_
  exact ⟨hz,its',_,hv,q⟩
theorem Inv.lnew {its:List Value} {t':Nat} (I:Inv X pins σ H s) (hv:Vals ys its) (hz:ys.length≤sizeLine) :
    Inv X pins σ (upd H s.heap.objs.size (.lst ys)) { s with heap:=s.heap.push { cls:=.type "list",data:=.seq its.toArray },toks:=t' } :=
  I.laid (fun _ _ q=>Heap.get?_push_of_some _ q) (Nat.le_refl _) ⟨hz,its,0,hv,Heap.get?_push_size _ rfl⟩
theorem Inv.fresh (I:Inv X pins σ H s):H s.heap.objs.size=none:=I.hok.fresh (Nat.le_refl _)
theorem Inv.lstM (I:Inv X pins σ H s) (hH:H l=some (.lst xs)):xs.length≤sizeLine∧∃ (its:List Value) (n:Nat),Vals xs its∧xs.length=its.length∧s.heap.get? l=some { cls:=.type "list",data:=.seq its.toArray n }:=by
  obtain ⟨z,its,n,r,e⟩:=I.hok l _ hH
  exact ⟨z,its,n,r,r.length,e⟩
end
section
variable {X:Cx}
def rAppend:V→List V→Hp→VK→Prop:=fun x vs H Q=>∃ l xs y,x=.ref l∧vs=[y]∧H l=some (.lst xs)∧xs.length < sizeLine∧Q .non (upd H l (.lst (xs++[y])))
theorem mt_append:MtM X "list.append" rAppend:=by
  intro pins s σ H x vs v us Q I rx rv h
  obtain ⟨l,xs,y,rfl,rfl,hH,hz,q⟩:=h
  cases rx
  obtain ⟨u,rfl,ru⟩:=rv.one
  obtain ⟨z,its,n,r,hl,e⟩:=I.lstM hH
  refine call_meets F.slot_list_append ⟨_,e,rfl⟩ F.entry_list_append (F.args_list_append_2 _ _) (PySem.list_append l its.toArray n u (by rw [List.size_toArray];omega)) ⟨e,?_⟩
  refine ⟨.non,_,I.lset (its':=its++[u]) hH e (by simp) (r.append (.cons ru .nil)) ?_,rfl,q⟩
  rw [List.length_append,List.length_singleton]
  omega
def rCat:R2:=fun x y H Q=>∃ l b xs zs,x=.ref l∧y=.ref b∧H l=some (.lst xs)∧H b=some (.lst zs)∧xs.length+zs.length≤sizeLine∧∀ p,H p=none→Q (.ref p) (upd H p (.lst (xs++zs)))
theorem op_cat:OpR X (binaryOp .Add) rCat:=by
  intro pins s σ H x y v u Q I rx ry h
  obtain ⟨l,b,xs,zs,rfl,rfl,hH,hB,hz,q⟩:=h
  cases rx
  cases ry
  obtain ⟨z,its,n,r,hl,e⟩:=I.lstM hH
  obtain ⟨z2,its2,n2,r2,hl2,e2⟩:=I.lstM hB
  refine PySem.P.add_list e e2 ?_ (by rw [List.size_toArray,List.size_toArray];omega)
  have ea:its.toArray++its2.toArray=(its++its2).toArray:=by simp
  rw [ea]
  exact ⟨.ref _,_,I.lnew (t':=s.toks) (r.append r2) (by rw [List.length_append];omega),rfl,q _ I.fresh⟩
end
end L2
namespace Att
open PySem PySem.W PySem.Calls PyProof.Rows
theorem ints_of_wellAll {P:Params} {h:Heap}:∀ (ns:List Int) (vs:List Value),WellAll P h vs (ns.map WData.int)→IntsAre vs ns:=by
  intro ns
  induction ns with
  | nil =>
    intro vs w
    rw [List.map_nil] at w
    cases w
    exact .nil
  | cons n ns ih =>
    intro vs w
    rw [List.map_cons] at w
    cases w with
    | cons a b =>
      cases a
      exact .cons _ _ (ih _ b)
theorem script_of {l:OpenLaw} {n:Nat} (hn:l.most=some n) {P:Params} {h:Heap} {args:List WData} {vals:List Value}
    (hpre:l.row.toRowW.claim.pre args=true) (hwl:WellAll P h vals args) :
    ∃ a vs ns,vals=[Value.ref a]∧args=[WData.list (ns.map WData.int)]∧h.get? a=some { cls:=.type "list",data:=.seq vs.toArray }∧IntsAre vs ns∧ns.length≤n:=by
  have hsh:WShape.hasAll [] args [.list .int]=true:=(pre_splitW hpre).1
  have hc:l.pre.holds [] { args:=args }=true:=(pre_splitW hpre).2
  obtain ⟨d,r,rfl,h1,h2⟩:=hasAllW_cons hsh
  obtain rfl:=hasAllW_nil h2
  obtain ⟨xs,rfl,h3⟩:=hasW_list h1
  obtain ⟨ns,rfl⟩:=items_int h3
  have hlen:ns.length≤n:=by
    unfold OpenLaw.pre at hc
    have h4:(WTm.not (.lt (.lit (.int (n:Int))) (.len (.arg 0)))).holds [] { args:=[.list (ns.map .int)] }=true:=by
      have h4:=(holds_andW hc).1
      rw [hn] at h4
      exact h4
    have h5:=condW_of h4 (w_not (w_lt w_lit (w_len_list (w_arg rfl))))
    rw [List.length_map] at h5
    refine Nat.le_of_not_lt fun q=>?_
    have q':(n:Int) < ((ns.length:Nat):Int):=by omega
    first
      | (rw [decide_eq_true q'] at h5;exact absurd h5 (by decide))
      | (simp at h5;omega)
  cases hwl with
  | cons w1 w2 =>
    cases w2
    cases w1 with
    | list ho hall=>exact ⟨_,_,ns,rfl,rfl,ho,ints_of_wellAll ns _ hall,hlen⟩
theorem post_true (l:OpenLaw) (args:List WData):l.row.toRowW.claim.post args (.bool true) args=true :=
  postW_of (r:=l.row.toRowW) (X:=(true == true))
    (show WShape.has [] (.bool true) .bool=true by first | rfl | decide | simp [WShape.has,WShape.arms,WShape.armsAll])
    (show (WTm.eq .res (.lit (.bool true))).value [] { args:=args,res:=some (.bool true),after:=args }=some (.bool (true == true)) from w_eq_bool (w_res rfl) w_lit) rfl
theorem attach_call {l:OpenLaw} {n:Nat} {q:Program} {loose:List Str} {XP:(Str→Option Value)→Heap→Prop} {YP:World→Heap→Prop} {d:DefRec}
    (hn:l.most=some n) (hdf:d.params.defaults=[])
    (call:∀ (w:World) (s₀ s₁:Shared) (mg mb:Str→Option Value) (fa:Addr) (o:Obj) (pm cd doc:Value) (a:Addr) (vs:List Value) (ns:List Int),
      Ground q loose [] XP w s₀ mg mb s₁.heap→YP w s₁.heap →
      s₁.heap.get? fa=some o→o.data=.func (docDef d.name d.params d.body d.scope pm cd doc)→s₁.heap.CodeRec cd d.name→mg d.name=some (.ref fa) →
      s₁.heap.get? a=some { cls:=.type "list",data:=.seq vs.toArray }→IntsAre vs ns→ns.length≤n→s₁.gens=#[] →
      codeAny (model l.prog w) callerA (.call (.ref fa) ⟨[.ref a],[]⟩) (fun r s'=>r=.ok (.ret (.bool true))∧OldK s₁.heap s'.heap∧s'.os=s₁.os∧AllBare s'.gens) s₁) :
    WalkO q loose XP YP l.row.toRowW d [] (fun f vs=>PySem.call f vs):=by
  intro w s₀ s₁ mg mb G Y fa o pm cd doc dV kV ho hd hcd hD hmg hg args vals as hpre hlay hrd hwl hlo
  obtain rfl:dV=.none:=Dflts.none hD hdf
  obtain rfl:kV=.none:=Dflts.noKw hD
  obtain ⟨a,vs,ns,rfl,rfl,hobj,hints,hlen⟩:=script_of hn hpre hwl
  refine enter_call (codeAny_mono (call w s₀ s₁ mg mb fa o pm cd doc a vs ns G Y ho (fd_plain hd) hcd hmg hobj hints hlen hg) fun r s' hq=>?_)
  obtain ⟨rfl,h2,h3,h4⟩:=hq
  exact ⟨.inl ⟨.bool true,.bool true,[],rfl,fun _=>rfl,.bool true,post_true l _,fun _=>⟨List.Pairwise.nil,fun _ hm=>(nomatch hm)⟩⟩,h2,h3,h4⟩
end Att
namespace L2
open PySem PySem.Spec PyProof.Rows
theorem vals_ints:∀ {vs:List Value} {ns:List Int},IntsAre vs ns→Vals (ns.map V.int) vs
  | _,_,.nil=>.nil
  | _,_,.cons n t h=>.cons ⟨t,rfl⟩ (vals_ints h)
def Only (H:Hp):Prop:=∀ b,H b=none∨∃ o xs,H b=some (.frz o (.lst xs))
theorem law_call {P:Program} {w:World} {K:PySem.W.Frag} {mg mb:Str→Option Value} {CX:CXT} {k:Nat} {fa a:Addr} {fd:FuncData} {x:Str} {sp:Sp} {s₁:Shared} {vs:List Value} {ns:List Int}
    (KX:K.In s₁.heap) (hns:s₁.heap.Ns mainGlobals mg) (hb:s₁.heap.Ns builtinsNs mb) (hbb:∀ x:Str,x≠"__name__"→mb x=bootBuiltins x) (hlim:s₁.heap.NoLimit) (hg:s₁.gens=#[])
    (ha:s₁.heap.get? a=some { cls:=.type "list",data:=.seq vs.toArray }) (hi:IntsAre vs ns) (hl:ns.length≤sizeLine) (hr:Room k callerA)
    (F:∀ base:Heap,K.In base→base.Ns mainGlobals mg→FnOk P w K mg base CX k fa fd [x] sp) (hbind:∀ (s:Shared) (u:Value),BindsTo s fd ⟨[u],[]⟩ [(x,u)])
    (hsp:∀ H:Hp,Only H→SqL K H a (ns.map V.int)→sp [.ref a] H (fun v _=>v=.bl true) fun _ _ _=>False)
    (hCX:∀ H e s',CX [] H s₁ (fun _ _ _=>False) e s'→False) :
    codeAny (model P w) callerA (.call (.ref fa) ⟨[.ref a],[]⟩) (fun r s'=>r=.ok (.ret (.bool true))∧OldK s₁.heap s'.heap∧s'.os=s₁.os∧AllBare s'.gens) s₁:=by
  have rv:=vals_ints hi
  have lenV:=hi.length
  have core : ∀ H:Hp,Only H→SqL K H a (ns.map V.int)→HOk P w H s₁.heap→(∀ b,H b≠none→b=a)→(H a≠none→K.lookup a=none) →
      codeAny (model P w) callerA (.call (.ref fa) ⟨[.ref a],[]⟩) (fun r s'=>r=.ok (.ret (.bool true))∧OldK s₁.heap s'.heap∧s'.os=s₁.os∧AllBare s'.gens) s₁:=by
    intro H hO hS hok hA hK
    have base_of:∀ {b:Addr} {o:Obj},s₁.heap.get? b=some o→H b=none→(hidT s₁.heap H).get? b=some o:=fun e n=>hidT_get e n
    have noA:∀ {b:Addr} {o:Obj} {es:Array DictEntry} {ep:Nat},s₁.heap.get? b=some o→o.data=.dict es ep→H b=none:=fun {b o es ep} e d=>by
      cases q:H b with
      | none=>rfl
      | some u =>
        have e':b=a:=hA b (by rw [q];simp)
        subst e'
        rw [ha] at e;cases e
        have d':Data.seq vs.toArray _=Data.dict es ep:=d
        cases d'
    have nsK:∀ {b:Addr} {m:Str→Option Value},s₁.heap.Ns b m→(hidT s₁.heap H).Ns b m:=fun {b m} ⟨o,es,ep,e,d,r⟩=>⟨o,es,ep,base_of e (noA e d),d,r⟩
    have hKb:K.In (hidT s₁.heap H):=fun b o e=>base_of (KX b o e) (by
      cases q:H b with
      | none=>rfl
      | some u =>
        have e':b=a:=hA b (by rw [q];simp)
        subst e'
        rw [hK (by rw [q];simp)] at e;cases e)
    have hM:Mod K mg (hidT s₁.heap H):=⟨hKb,nsK hns,⟨mb,nsK hb,hbb⟩,let ⟨mc,h1,h2⟩:=hlim;⟨mc,nsK h1,h2⟩⟩
    have e0:Env0 P w K mg (hidT s₁.heap H) callerA [] s₁ H:=⟨rfl,hM,fun b o e=>of_hidT e,Nat.le_of_eq (hidT_size _ _),trivial,fun b hb=>absurd (show b ∈ ([]:List Addr) from hb) (by simp),hok,.of_eq hg⟩
    refine codeAny_mono ((F _ hKb (nsK hns)).run callerA [] s₁ H ⟨[.ref a],[]⟩ [.ref a] [.ref a] _ _ hr e0 (hbind s₁ (.ref a)) (.cons rfl .nil) (hsp H hO hS)) fun r s' h=>?_
    cases r with
    | error e=>exact (hCX H e s' h).elim
    | ok fl =>
      cases fl with
      | next=>exact False.elim h
      | brk=>exact False.elim h
      | cont=>exact False.elim h
      | ret u =>
        obtain ⟨v,H',os,bare,un,hok',r',q⟩:=h
        have q':v=.bl true:=q
        subst q'
        obtain rfl:u=Value.bool true:=r'
        refine ⟨rfl,OldK.of_keep fun b o e=>?_,os,bare⟩
        cases q:H b with
        | none=>exact un.keep b o e q (by intro z;exact absurd (show b ∈ ([]:List Addr) from z) (by simp)) (by simp)
        | some u =>
          rcases hO b with z | ⟨ob,xs,z⟩
          · rw [q] at z;cases z
          · have z2:=un.frzs b ob _ z
            obtain ⟨e1,_⟩:=hok b _ z
            obtain ⟨e2,_⟩:=hok' b _ z2
            rw [e] at e1;cases e1
            exact e2
  cases hk:K.lookup a with
  | some o =>
    have e:=KX a o hk
    rw [ha] at e
    cases e
    refine core (fun _=>none) (fun _=>.inl rfl) (.inr ⟨_,vs.toArray,_,hk,rfl,rfl,rfl,by rw [List.size_toArray,lenV];exact hl,by simpa using rv⟩) (fun b u z=>by have z':(none:Option HO)=some u:=z;cases z') (fun b z=>absurd rfl z) fun z=>absurd rfl z
  | none =>
    refine core (fun b=>if b=a then some (.frz { cls:=.type "list",data:=.seq vs.toArray } (.lst (ns.map V.int))) else none) (fun b=>?_) (.inl (.inr ⟨{ cls:=.type "list",data:=.seq vs.toArray },if_pos rfl⟩)) (fun b u z=>?_) (fun b z=>?_) fun _=>hk
    · by_cases hb:b=a
      · exact .inr ⟨_,_,if_pos hb⟩
      · exact .inl (if_neg hb)
    · by_cases hb:b=a
      · have z':=(if_pos hb).symm.trans z
        cases z'
        subst hb
        exact ⟨ha,by rw [List.length_map];exact hl,vs,_,rv,ha⟩
      · have z':=(if_neg hb).symm.trans z
        cases z'
    · by_cases hb:b=a
      · exact hb
      · exact absurd (if_neg hb) z
end L2
namespace L2
open PySem PySem.Spec PyProof.Rows
abbrev KOf {K:PySem.W.Frag} {h:Heap} (_:K.In h):PySem.W.Frag:=K
theorem walk_of {l:PySem.W.OpenLaw} {n k:Nat} {q:Program} {loose:List Str} {XP:(Str→Option Value)→Heap→Prop} {YP:World→Heap→Prop} {d:DefRec} {K:Params→PySem.W.Frag} {CX:World→CXT} {sp:World→Sp} {x:Str}
    (hn:l.most=some n) (hn2:n≤sizeLine) (hdf:d.params.defaults=[]) (hr:Room k callerA)
    (hY:∀ (w:World) (h:Heap),YP w h→(K w.params).In h)
    (F : ∀ (w:World) (mg:Str→Option Value) (fa:Addr) (h:Heap),(K w.params).In h→h.Ns mainGlobals mg→mg d.name=some (.ref fa) →
      ∃ fd:FuncData,(∀ (s:Shared) (u:Value),BindsTo s fd ⟨[u],[]⟩ [(x,u)]) ∧
        ∀ base:Heap,(K w.params).In base→base.Ns mainGlobals mg→FnOk l.prog w (K w.params) mg base (CX w) k fa fd [x] (sp w))
    (hsp:∀ (w:World) (H:Hp) (a:Addr) (ns:List Int),ns.length≤n→Only H→SqL (K w.params) H a (ns.map V.int)→sp w [.ref a] H (fun v _=>v=.bl true) fun _ _ _=>False)
    (hCX:∀ (w:World) (H:Hp) (s:Shared) (e:Value) (s':Shared),CX w [] H s (fun _ _ _=>False) e s'→False) :
    PySem.W.WalkO q loose XP YP l.row.toRowW d [] (fun f vs=>PySem.call f vs):=by
  refine Att.attach_call hn hdf fun w s₀ s₁ mg mb fa o pm cd doc a vs ns G Y ho hd hcd hmg hobj hints hlen hg=>?_
  have KX:=hY w _ Y
  obtain ⟨fd,hb,hF⟩:=F w mg fa _ KX G.T.g hmg
  exact law_call KX G.T.g G.T.b G.T.builtins G.T.nolimit hg hobj hints (Nat.le_trans hlen hn2) hr hF hb (fun H hO hS=>hsp w H a ns hlen hO hS) fun H e s'=>hCX w H s₁ e s'
end L2
/- THE LAST THEOREM (shape;LID,My.* are yours):
   My.Adr: a structure of the addresses that your layer names (classes,functions);My.Txt K t: a structure (Prop) of the equations over K;
   My.txt_mk:{K} {implicit addresses ..} (e1:nsIn K mainGlobals "law"=some (some (.ref f))) (e2:K.lookup f=some ⟨oc,od,.func (fnOf "law" "law" params body scope dV kV doc pm an cdv ct),sl⟩) (e3:codeIn K cdv "law"=true) ..:∃ t,My.Txt K t
set_option maxRecDepth 100000 in
set_option maxHeartbeats 0 in
theorem PySem.Challenge.cw_LID_holds : PySem.Challenge.rw_LID.Holds := by
  w_on;o_law;k_head;(case hw=>w_witness2)
  k_fill
  refine L2.walk_of (l:=PySem.Challenge.rw_LID) (n:=63) (k:=40) (x:="script") (CX:=fun w=>..) (sp:=fun _=>My.sp_law) rfl (by decide) rfl ⟨rfl,by decide,by decide⟩ (fun w h Y=>PySem.W.kIn_of Y) ?F ?S ?C
  case F =>
    intro w mg fa h KX G hmg
    have T:∃ t,My.Txt (L2.KOf KX) t:=by
      dsimp only [L2.KOf]                          -- K must stand as «<heap const> w.params» for k_is
      refine' My.txt_mk ?e1 ?e2 ?e3 ..
      (case e1=>PySem.W.k_is)                    -- in the order: a name -> its address -> its object -> its parts
      (case e2=>PySem.W.k_is)
      ..
    obtain ⟨t,T⟩:=T
    have e0:=hmg.symm.trans (PySem.W.mg_of KX G T.law)
    cases e0                                       -- fa is the law's own address
    exact ⟨_,fun s u=>.of_eq rfl,fun base kb nb=>My.law_fn T kb nb⟩     -- if «.of_eq rfl» comes too early: refine' ⟨_,?b,fun base kb nb=>My.law_fn T kb nb⟩;exact fun s u=>.of_eq rfl
  case S=>exact fun w H a ns hl hO hS=>..
  case C=>exact ..
(the tactic k_is has no namespace: write k_is) -/
namespace L2
open PySem PySem.Spec PyProof.Rows
def inClass (s:Stmt) (j:Nat):Stmt:=match s with
  | .ClassDef _ _ _ body _ _ _ _ _ _ _=>body.getD j (.Pass ⟨0,0,0,0⟩)
  | _=>.Pass ⟨0,0,0,0⟩
def defArgs (s:Stmt):Arguments:=match s with
  | .FunctionDef _ a _ _ _ _ _ _ _ _=>a
  | _=>{ posonlyargs:=[],args:=[],vararg:=none,kwonlyargs:=[],kw_defaults:=[],kwarg:=none,defaults:=[] }
def defBody (s:Stmt):List Stmt:=match s with
  | .FunctionDef _ _ b _ _ _ _ _ _ _=>b
  | _=>[]
def defScope (s:Stmt):Scope:=match s with
  | .FunctionDef _ _ _ _ _ _ sc _ _ _=>sc
  | _=>{ kind:=.function,names:=[],isGenerator:=false,isCoroutine:=false }
abbrev CX0:CXT:=fun _ _ _ _ _ _=>False
abbrev E0:XK:=fun _ _ _=>False
theorem pass0 {X:Cx}:Passes CX0 X E0:=fun _ _ _ _ _ _ _ h=>h.elim
structure Fun (K:PySem.W.Frag) (x qual:Str) (st:Stmt) (f:Addr) (fd:FuncData):Prop where
  ex:∃ (oc:Value) (od:Option Addr) (kV doc pm:Value) (an:Option Addr) (cdv ct:Value) (osl:Array (Option Value)),
    fd=PySem.W.fnOf x qual (defArgs st) (defBody st) (defScope st) .none kV doc pm an cdv ct∧K.lookup f=some ⟨oc,od,.func fd,osl⟩∧PySem.W.codeIn K cdv qual=true
  kp:PySem.W.keepIn K (.ref f)=true
section
variable {P:Program} {w:World} {K:PySem.W.Frag} {mg:Str→Option Value} {base:Heap}
theorem Fun.ok {x qual:Str} {st:Stmt} {f:Addr} {fd:FuncData} {N ps:List Str} {k:Nat} {sp:Sp} (F:Fun K x qual st f fd) (S:FnScope N ps (defScope st)) (len:∀ vs H Q E,sp vs H Q E→vs.length=ps.length)
    (hbody:∀ (cdv:Value) (A:Around) (outer:List Env) (s:Shared) (H:Hp) (vs:List V) (Q:VK) (E:XK),Room k (A.deeper (envOfC qual (defScope st) s.heap.objs.size f cdv))→sp vs H Q E →
      ∃ t,PSs (cxOf CX0 P w K mg base N qual (defScope st) f cdv A outer s H E).nox (defBody st) t∧t { nx:=fun _ H'=>Q .non H',rt:=Q } (start N vs) H):FnOk P w K mg base CX0 (k+1) f fd ps sp:=by
  obtain ⟨oc,od,kV,doc,pm,an,cdv,ct,osl,rfl,lk,hcd⟩:=F.ex
  refine fn_of lk hcd S len fun A outer s H vs Q E hr hsp=>?_
  obtain ⟨t,h,q⟩:=hbody cdv A outer s H vs Q E hr hsp
  exact ⟨t,h.nox,q⟩
theorem Fun.binds {x qual:Str} {st:Stmt} {f:Addr} {fd:FuncData} {ps:List Str} (F:Fun K x qual st f fd)
    (h:∀ (kV doc pm:Value) (an:Option Addr) (cdv ct:Value) (us:List Value),us.length=ps.length→bindArgs (PySem.W.fnOf x qual (defArgs st) (defBody st) (defScope st) .none kV doc pm an cdv ct) ⟨us,[]⟩=pure (ps.zip us)):Binds K fd ps []:=by
  obtain ⟨oc,od,kV,doc,pm,an,cdv,ct,osl,rfl,lk,hcd⟩:=F.ex
  exact .all (h kV doc pm an cdv ct)
theorem fun_mk {x qual:Str} {st:Stmt} {f:Addr} {oc:Value} {od an:Option Addr} {osl:Array (Option Value)} {kV doc pm cdv ct:Value} (l:K.lookup f=some ⟨oc,od,.func (PySem.W.fnOf x qual (defArgs st) (defBody st) (defScope st) .none kV doc pm an cdv ct),osl⟩)
    (c:PySem.W.codeIn K cdv qual=true) (k:PySem.W.keepIn K (.ref f)=true):Fun K x qual st f (PySem.W.fnOf x qual (defArgs st) (defBody st) (defScope st) .none kV doc pm an cdv ct):=⟨⟨oc,od,kV,doc,pm,an,cdv,ct,osl,rfl,l,c⟩,k⟩
end
theorem hu_of {A:Around} {k:Nat} (hr:Room k A):A.units+1 < cLine:=Nat.lt_of_le_of_lt (Nat.add_le_add_left (by decide:1≤64) _) hr.units
theorem small1000 {n:Nat} (h:n≤1000):n < sizeLine:=Nat.lt_of_le_of_lt h (by decide)
section
variable {X:Cx}
theorem pv (i:Nat) {x:Str} {pos:Pos} (hN:X.N[i]?=some x:=by rfl) (hv:Vis X.env.scope x:=by first | exact Or.inl rfl | exact Or.inr (Or.inl rfl) | exact Or.inr (Or.inr rfl)) (hd:(x == ("__debug__":Str))=false:=by decide)
    (hcd:(x == ("__classdict__":Str))=false:=by decide):PE X (.Name x pos) (tVar i):=pe_var hN hv hd hcd
end
theorem iteF {A B:Prop} (h:B):if false=true then A else B:=by
  rw [if_neg Bool.false_ne_true]
  exact h
theorem iteT {A B:Prop} (h:A):if true=true then A else B:=by
  rw [if_pos rfl]
  exact h
theorem ite2 {c A B:Prop} [Decidable c] (h1:c→A) (h2:¬ c→B):if c then A else B:=by
  by_cases h:c
  · rw [if_pos h]
    exact h1 h
  · rw [if_neg h]
    exact h2 h
def Same (H H':Hp):Prop:=∀ b o,H b=some o→H' b=some o
theorem Same.refl (H:Hp):Same H H:=fun _ _ h=>h
theorem Same.trans {H H1 H2:Hp} (a:Same H H1) (b:Same H1 H2):Same H H2:=fun c o h=>b c o (a c o h)
theorem Same.free {H H':Hp} (e:Same H H') {l:Addr} (h:H' l=Option.none):H l=Option.none:=by
  cases q:H l with
  | none=>rfl
  | some o =>
    rw [e l o q] at h
    cases h
theorem Same.seq {K:PySem.W.Frag} {H H':Hp} {a:Addr} {xs:List V} (e:Same H H') (h:SqL K H a xs):SqL K H' a xs:=by
  rcases h with (h | ⟨o,h⟩) | h
  · exact .inl (.inl (e _ _ h))
  · exact .inl (.inr ⟨o,e _ _ h⟩)
  · exact .inr h
end L2
set_option maxHeartbeats 4000000
namespace L2
open PySem PySem.Spec PyProof.Rows
theorem compLoop_go {prog:Program} {w:World} {A:Around} {R:Result→Shared→Prop} {s:Shared} {elt target iter:Expr} {ifs:List Expr} {scope:Scope} {pos:Pos} {it acc:Value} {env:Env} (I:Nat→Shared→Prop)
    (turn : ∀ n s,I n s→wpAny (model prog w) A (pyNext it) (fun r s1=>match r with
      | none=>R (.ok .next) s1
      | some v=>wpAny (model prog w) A (letOwnedTupleGo target it v) (fun _ s2=>wpAny (model prog w) A (assign target env v) (fun _ s3 =>
          wpAny (model prog w) A (forIn ifs true fun c r=>if r=true then do let ok ← isTrue c env (eval c env);pure (ForInStep.yield ok) else pure (ForInStep.yield r)) (fun ok s4 =>
            if ok=true then wpAny (model prog w) A (eval elt env) (fun x s5 =>
              wpAny (model prog w) A (call (.builtin "list.append") [acc,x]) (fun _ s6=>∃ m,m < n∧I m s6) (fun _ _=>False) s5) (fun _ _=>False) s4
            else ∃ m,m < n∧I m s4) (fun _ _=>False) s3) (fun _ _=>False) s2) (fun _ _=>False) s1) (fun _ _=>False) s)
    (n:Nat) (h:I n s):codeAny (model prog w) A (.compLoop (.ListComp elt [⟨target,iter,ifs,0⟩] scope pos) 0 it acc env) R s:=by
  refine codeAny_loop rfl I (fun n s hI=>?_) n h
  show wpAny _ A ((compTurn (.ListComp elt [⟨target,iter,ifs,0⟩] scope pos) 0 it acc env).onRaise (fun x=>do noteFrame x env;theTreesLotGoes x)) _ _ s
  refine wpAny_noted ?_
  rw [compTurn_list]
  refine wpAny_bind (wpAny_standAt (wpAny_bind (wpAny_mono (turn n s hI) (fun r s1 h1=>?_) fun _ _ z=>z.elim)))
  cases r with
  | none=>exact wpAny_pure h1
  | some v =>
    refine wpAny_bind (wpAny_mono h1 (fun _ s2 h2=>?_) fun _ _ z=>z.elim)
    refine wpAny_bind (wpAny_mono h2 (fun _ s3 h3=>wpAny_bind (wpAny_mono h3 (fun ok s4 h4=>?_) fun _ _ z=>z.elim)) fun _ _ z=>z.elim)
    cases ok with
    | false=>exact wpAny_pure ⟨rfl,h4⟩
    | true =>
      exact wpAny_bind (wpAny_bind (wpAny_mono h4 (fun x s5 h5=>wpAny_bind (wpAny_mono h5 (fun _ s6 h6=>wpAny_pure (wpAny_pure ⟨rfl,h6⟩)) fun _ _ z=>z.elim)) fun _ _ z=>z.elim))
def PTs (X:Cx) (ifs:List Expr) (t:TT):Prop :=
  ∀ (pins:List (Addr × Obj)) (s:Shared) (σ:St) (H:Hp) (Q:Bool→Hp→Prop),Inv X pins σ H s→t σ H Q →
    wpAny (model X.prog X.w) X.A (forIn ifs true fun c r=>if r=true then do let ok ← isTrue c X.env (eval c X.env);pure (ForInStep.yield ok) else pure (ForInStep.yield r)) (TP X pins σ Q) X.xe s
def tNoIf:TT:=fun _ H Q=>Q true H
theorem pts_nil {X:Cx}:PTs X [] tNoIf:=fun _ _ _ H _ I h=>wpAny_tests_nil ⟨H,I,h⟩
theorem pts_one {X:Cx} {c:Expr} {t:TT} (hc:PT X c t):PTs X [c] t:=fun pins s σ H Q I h=>wpAny_tests_one (hc pins s σ H Q I h)
theorem cells_for (env:Env) (g:(Str × NameKind)→List (Str × Addr)→Sem (ForInStep (List (Str × Addr)))) (hg:∀ x cs,g x cs=if (x.2 == NameKind.free)=true then cellOf env x.1 >>= fun c=>pure (ForInStep.yield ((x.1,c) :: cs)) else pure (ForInStep.yield cs)) :
    ∀ (names:List (Str × NameKind)) (cs:List (Str × Addr)),(∀ y ∈ names,y.2=.free→∃ c,env.cells.lookup y.1=some c)→(∀ x c,cs.lookup x=some c→env.cells.lookup x=some c) →
    ∃ cl,forIn names cs g=pure cl∧(∀ x c,cl.lookup x=some c→env.cells.lookup x=some c)∧(∀ x,(x,NameKind.free) ∈ names∨(∃ c,cs.lookup x=some c)→∃ c,cl.lookup x=some c):=by
  intro names
  induction names with
  | nil =>
    intro cs _ hcs
    exact ⟨cs,rfl,hcs,fun x h=>h.elim (fun z=>nomatch z) id⟩
  | cons y r ih =>
    intro cs hfr hcs
    obtain ⟨n,k⟩:=y
    by_cases hk:k=.free
    · subst hk
      obtain ⟨c,hc⟩:=hfr (n,.free) List.mem_cons_self rfl
      obtain ⟨cl,e,h1,h2⟩:=ih ((n,c) :: cs) (fun z hz=>hfr z (List.mem_cons_of_mem _ hz)) (fun x c' hx=>by
        by_cases hxn:x=n
        · subst hxn;simp [List.lookup_cons] at hx;rw [hc,hx]
        · have:(x == n)=false:=by simpa using hxn
          simp [List.lookup_cons,this] at hx;exact hcs x c' hx)
      refine ⟨cl,?_,h1,fun x hx=>h2 x ?_⟩
      · rw [List.forIn_cons,hg]
        simp only [beq_self_eq_true,if_true]
        have ec:cellOf env n=pure c:=by unfold cellOf;rw [hc]
        rw [ec]
        simpa using e
      · rcases hx with hx | ⟨c',hx⟩
        · rcases List.mem_cons.mp hx with z | z
          · cases z;exact .inr ⟨c,by simp [List.lookup_cons]⟩
          · exact .inl z
        · refine .inr ?_
          by_cases hxn:x=n
          · subst hxn;exact ⟨c,by simp [List.lookup_cons]⟩
          · have:(x == n)=false:=by simpa using hxn
            exact ⟨c',by simpa [List.lookup_cons,this] using hx⟩
    · obtain ⟨cl,e,h1,h2⟩:=ih cs (fun z hz=>hfr z (List.mem_cons_of_mem _ hz)) hcs
      refine ⟨cl,?_,h1,fun x hx=>h2 x ?_⟩
      · rw [List.forIn_cons,hg]
        have:(k == NameKind.free)=false:=by simpa using hk
        simp only [this,Bool.false_eq_true,if_false]
        simpa using e
      · rcases hx with hx | hx
        · rcases List.mem_cons.mp hx with z | z
          · cases z;exact absurd rfl hk
          · exact .inl z
        · exact .inr hx
theorem closure_of {scope:Scope} {env:Env} (hfr:∀ y ∈ scope.names,y.2=.free→∃ c,env.cells.lookup y.1=some c) :
    ∃ cl,closureFor scope env=pure cl∧(∀ x c,cl.lookup x=some c→env.cells.lookup x=some c)∧∀ x,(x,NameKind.free) ∈ scope.names→∃ c,cl.lookup x=some c:=by
  obtain ⟨cl,e,h1,h2⟩:=cells_for env _ (fun x cs=>rfl) scope.names [] hfr (fun x c h=>by simp at h)
  refine ⟨cl,?_,h1,fun x hx=>h2 x (.inl hx)⟩
  unfold closureFor
  simp only [bind_pure]
  refine Eq.trans ?_ e
  congr 1
def Cx.comp (X:Cx) (N:List Str) (scope:Scope) (cl:List (Str × Addr)) (s:Shared) (H:Hp) (fp:List Addr) (C:Addr):Cx :=
  { X with N:=N,s₀:=s,H₀:=H,env:=compEnvC scope cl C X.env,outer:=X.stack,stack:=X.stack,ex:=fp,fn:=fun _=>false,pn:=[],xe:=fun _ _=>False }
def inner (im:List (Option Nat)) (σ:St):St:=im.map fun o=>match o with
  | none=>none
  | some i=>(σ[i]?).getD none
def CompAt (im:List (Option Nat)) (g:TG) (tc:TT) (te:TE) (σ:St) (Q:VK) (J:It) (H1:Hp):Prop:=∃ W:Nat→Nat→List V→Hp→Prop,(∃ m,W 0 m [] H1)∧∀ i m ys H,W i m ys H →
  ys.length≤sizeLine∧((J.stop i H∧∀ D,H D=none→Q (.ref D) (upd H D (.lst ys))) ∨
    (J.go i H∧∀ x H',J.yld i H x H'→g x (inner im σ) H' fun σ2 H2=>tc σ2 H2 fun b H3 =>
      if b=true then te σ2 H3 fun y H4=>∃ m',m' < m∧W (i+1) m' (ys++[y]) H4 else ∃ m',m' < m∧W (i+1) m' ys H3))
def tComp (im:List (Option Nat)) (wi:TI) (g:TG) (tc:TT) (te:TE):TE:=fun σ H Q=>wi σ H (CompAt im g tc te σ Q)
theorem lookup_relabel_free {env:Env}:∀ {names:List (Str × NameKind)} {x:Str},names.lookup x=some .free →
    (names.map fun (n,k)=>if (k == NameKind.free&&env.scope.kind == .function&&env.kindOf n == some .cell) then (n,NameKind.cell) else (n,k)).lookup x=some .cell ∨
    (names.map fun (n,k)=>if (k == NameKind.free&&env.scope.kind == .function&&env.kindOf n == some .cell) then (n,NameKind.cell) else (n,k)).lookup x=some .free
  | [],_,h=>by simp at h
  | (n,k) :: r,x,h=>by
    have ih:=@lookup_relabel_free env r x
    cases hx:x == n with
    | true =>
      simp only [List.lookup_cons,hx] at h
      cases h
      by_cases hc:(NameKind.free == NameKind.free&&env.scope.kind == .function&&env.kindOf n == some .cell)=true
      · left;rw [List.map_cons];simp only [if_pos hc,List.lookup_cons,hx]
      · right;rw [List.map_cons];simp only [if_neg hc,List.lookup_cons,hx]
    | false =>
      simp only [List.lookup_cons,hx] at h
      rw [List.map_cons]
      by_cases hc:(k == NameKind.free&&env.scope.kind == .function&&env.kindOf n == some .cell)=true
      · simp only [if_pos hc,List.lookup_cons,hx];exact ih h
      · simp only [if_neg hc,List.lookup_cons,hx];exact ih h
theorem relabel_inv {env:Env}:∀ {names:List (Str × NameKind)} {x:Str} {k:NameKind},
    (names.map fun (n,k)=>if (k == NameKind.free&&env.scope.kind == .function&&env.kindOf n == some .cell) then (n,NameKind.cell) else (n,k)).lookup x=some k→(k=.cell∨k=.free)→(∀ y ∈ names,y.2≠NameKind.cell)→(x,NameKind.free) ∈ names
  | [],_,_,h,_,_=>by simp at h
  | (n, k0) :: r,x,k,h,hk,hc=>by
    rw [List.map_cons] at h
    have ih:=@relabel_inv env r x k
    by_cases hcc:(k0 == NameKind.free&&env.scope.kind == .function&&env.kindOf n == some .cell)=true
    · simp only [if_pos hcc,List.lookup_cons] at h
      have hk0:k0=.free:=by simp at hcc;exact hcc.1.1
      cases hx:x == n with
      | true => have e:x=n:=by simpa using hx
                subst e;subst hk0;exact List.mem_cons_self
      | false=>simp only [hx] at h;exact List.mem_cons_of_mem _ (ih h hk fun y hy=>hc y (List.mem_cons_of_mem _ hy))
    · simp only [if_neg hcc,List.lookup_cons] at h
      cases hx:x == n with
      | true =>
        simp only [hx] at h
        cases h
        have e:x=n:=by simpa using hx
        subst e
        rcases hk with z | z
        · exact absurd z (hc (x,k0) List.mem_cons_self)
        · subst z;exact List.mem_cons_self
      | false=>simp only [hx] at h;exact List.mem_cons_of_mem _ (ih h hk fun y hy=>hc y (List.mem_cons_of_mem _ hy))
section
variable {X:Cx} {N:List Str} {scope:Scope} {cl:List (Str × Addr)} {fp:List Addr} {C:Addr}
theorem Cx.comp_ok {pins:List (Addr × Obj)} {σ:St} {H:Hp} {s:Shared} (I:Inv X pins σ H s) (hkind:scope.kind=.function) (hcell:∀ y ∈ scope.names,y.2≠.cell)
    (h1:∀ x c,cl.lookup x=some c→X.env.cells.lookup x=some c) (h2:∀ x,(x,NameKind.free) ∈ scope.names→∃ c,cl.lookup x=some c)
    (hf:∀ b ∈ fp,FpOk X pins H b) (hC:s.heap.objs.size≤C) (hfs:∀ b ∈ fp,b < C):(X.comp N scope cl s H fp C).Ok where
  mod:=I.ok.mod
  kind:=hkind
  glob:=I.ok.glob
  blt:=I.ok.blt
  above:=hC
  inj:=fun x y c a b=>I.ok.inj x y c (h1 x c a) (h1 y c b)
  has:=fun x hx=>by
    refine h2 x ?_
    rcases hx with hx | hx
    · exact relabel_inv hx (.inl rfl) hcell
    · exact relabel_inv hx (.inr rfl) hcell
  cab:=fun x c z=>nomatch z
  hd:=I.ok.hd
  frames:=I.ok.frames
  stk:=.inl rfl
  exf:=fun b hb=>⟨Nat.ne_of_lt (hfs b hb),fun x c e=>(hf b hb).2.2.2.2.1 x c (h1 x c e)⟩
  bs:=I.bs
  bsz:=Nat.le_trans I.ok.bsz (Nat.le_trans I.ok.above (Nat.le_of_lt I.lt))
  noex:=fun b o e hb=>by
    obtain ⟨_,_,_,z,_⟩:=hf b hb
    rcases z with z | z
    · exact I.ok.noex b o e z
    · exact absurd (Nat.lt_of_lt_of_le (Heap.lt_size (I.ok.bs b o e).1) z) (Nat.lt_irrefl _)
  exfs:=fun b hb hs=>by
    obtain ⟨_,z1,z2,_⟩:=hf b hb
    rcases List.mem_cons.mp (I.stkSub b hs) with z | z
    · exact z1 z
    · exact z2 z
  funs:=I.stack
  frf:=I.stkFree
theorem Inv.cellK {pins:List (Addr × Obj)} {σ:St} {H H0:Hp} {s s0:Shared} (I:Inv (X.comp N scope cl s0 H0 fp C) pins σ H s) {pins0:List (Addr × Obj)} {σ0:St} (I0:Inv X pins0 σ0 H0 s0)
    (h1:∀ x c,cl.lookup x=some c→X.env.cells.lookup x=some c) (hf:∀ b ∈ fp,FpOk X pins0 H0 b) {x:Str} {c:Addr} (hc:cl.lookup x=some c) {v:Option Value} (q:s0.heap.IsCell c v):s.heap.IsCell c v:=by
  obtain ⟨o,e,d⟩:=q
  have hx:=h1 x c hc
  have nf:c ∉ fp:=fun z=>(hf c z).2.2.2.2.1 x c hx rfl
  obtain ⟨sl,e'⟩:=I.base.any (show s0.heap.get? c=some o from e) (I0.freeC x c hx) nf
  exact ⟨_,e',d⟩
theorem Inv.reset {pins:List (Addr × Obj)} {σ:St} {H H0:Hp} {s s0:Shared} {im:List (Option Nat)} (I:Inv (X.comp N scope cl s0 H0 fp C) pins σ H s) {pins0:List (Addr × Obj)} {σ0:St} (I0:Inv X pins0 σ0 H0 s0)
    (h1:∀ x c,cl.lookup x=some c→X.env.cells.lookup x=some c) (h2:∀ x,(x,NameKind.free) ∈ scope.names→∃ c,cl.lookup x=some c) (hf:∀ b ∈ fp,FpOk X pins0 H0 b) (hl:N.length=im.length)
    (him:∀ (i:Nat) (x:Str) (j:Nat),N[i]?=some x→im[i]?=some (some j)→X.N[j]?=some x∧scope.names.lookup x=some .free∧(x,NameKind.free) ∈ scope.names∧(X.env.kindOf x=some .cell∨X.env.kindOf x=some .free)) :
    Inv (X.comp N scope cl s0 H0 fp C) pins (inner im σ0) H s:=by
  refine ⟨I.ok,I.os,I.bare,I.base,?_,I.cell,I.free,I.freeC,I.pin,I.hok,?_⟩
  · obtain ⟨m,hn,_⟩:=I.loc
    refine ⟨m,hn,fun i x v e1 e2 _=>?_⟩
    unfold inner at e2
    rw [List.getElem?_map] at e2
    cases q:im[i]? with
    | none=>rw [q] at e2;cases e2
    | some o =>
      rw [q] at e2
      cases o with
      | none=>cases e2
      | some j =>
        have e2':(σ0[j]?).getD none=some v:=by simpa using e2
        obtain ⟨a1,a2,a3,a4⟩:=him i x j e1 q
        have e3:σ0[j]?=some (some v):=by
          cases z:σ0[j]? with
          | none=>rw [z] at e2';cases e2'
          | some w=>rw [z] at e2';simp at e2';rw [e2']
        have vis:Vis X.env.scope x:=.inr a4
        obtain ⟨m0,hn0,hl0⟩:=I0.loc
        obtain ⟨u,ru,lk⟩:=hl0 j x v a1 e3 vis
        refine ⟨u,ru,?_⟩
        rcases lk with ⟨k,_⟩ | ⟨_,c,hc,q⟩
        · rcases a4 with a4 | a4 <;> (rw [a4] at k;cases k)
        · obtain ⟨c',hc'⟩:=h2 x a3
          have:c'=c:=by have:=h1 x c' hc';rw [hc] at this;exact (Option.some.inj this).symm
          subst this
          refine .inr ⟨lookup_relabel_free a2,c',hc',I.cellK I0 h1 hf hc' q⟩
  · show (im.map _).length=N.length
    rw [List.length_map,hl]
end
section
variable {X:Cx}
theorem comp_core {elt tg iter:Expr} {ifs:List Expr} {scope:Scope} {pos:Pos} {wi:TI} {g:TG} {tc:TT} {te:TE} (N:List Str) (im:List (Option Nat))
    (hi:PI X tg iter wi)
    (hg:∀ cl s H fp C,PG (X.comp N scope cl s H fp C) tg g)
    (ht:∀ cl s H fp C,PTs (X.comp N scope cl s H fp C) ifs tc)
    (he:∀ cl s H fp C,PE (X.comp N scope cl s H fp C) elt te)
    (hc:X.calm=true:=by rfl) (hkind:scope.kind=.function:=by rfl) (hcell:∀ y ∈ scope.names,y.2≠.cell:=by decide +kernel)
    (hnames:∀ y ∈ scope.names,y.2=.local→scope.names.lookup y.1=some .local:=by decide +kernel)
    (hfree:(scope.names.all fun y=>y.2 != .free || (X.env.kindOf y.1 == some .cell || X.env.kindOf y.1 == some .free))=true:=by rfl)
    (hl:N.length=im.length:=by rfl)
    (him:((N.zip im).all fun p=>match p.2 with
      | none=>true
      | some j=>X.N[j]? == some p.1&&scope.names.lookup p.1 == some .free)=true:=by rfl)
    (hs:∀ x,foldedSetIterable iter X.env x=pure x:=by intro _;rfl)
    {use:Option (Value→Sem Unit)} {QQ:Value→Shared→Prop} {pins:List (Addr × Obj)} {s:Shared} {σ:St} {H:Hp} {Q:VK} {pos2:Pos} (I:Inv X pins σ H s) (h:tComp im wi g tc te σ H Q)
    (fin:∀ (s4:Shared) (m:Str→Option Value) (C D:Addr) (H4:Hp),s4.heap.Ns C m→(∀ h',Heap.SameBut C s4.heap h'→Inv X pins σ H4 { s4 with heap:=h' })→H4 C=none→C≠X.env.locals→C ∉ X.fs→(∀ x c,X.env.cells.lookup x=some c→c≠C)→(∀ p ∈ X.pn++pins,C≠p.1)→X.s₀.heap.objs.size≤C→Q (.ref D) H4 →
      compPost (model X.prog X.w) X.A X.xe use QQ (.ref D) C (.ok .next) s4) :
    wpAny (model X.prog X.w) X.A (comprehension (.ListComp elt [⟨tg,iter,ifs,0⟩] scope pos) scope X.env pos2 (newList []) false (eval iter X.env) use) QQ X.xe s:=by
  have hfree':∀ y ∈ scope.names,y.2=.free→(X.env.kindOf y.1=some .cell∨X.env.kindOf y.1=some .free):=fun y hy hyf=>by
    have:=List.all_eq_true.mp hfree y hy
    simpa [hyf] using this
  obtain ⟨cl,hclos,h1,h2⟩:=closure_of (scope:=scope) (env:=X.env) fun y hy hyf=>I.ok.has y.1 (hfree' y hy hyf)
  have him' : ∀ (i:Nat) (x:Str) (j:Nat),N[i]?=some x→im[i]?=some (some j)→X.N[j]?=some x∧scope.names.lookup x=some .free∧(x,NameKind.free) ∈ scope.names∧(X.env.kindOf x=some .cell∨X.env.kindOf x=some .free):=fun i x j e1 e2=>by
    have hm:(x,some j) ∈ N.zip im:=by
      refine List.mem_iff_getElem?.mpr ⟨i,?_⟩
      rw [List.getElem?_zip_eq_some];exact ⟨e1,e2⟩
    have z:=List.all_eq_true.mp him _ hm
    simp at z
    have m : (x, NameKind.free) ∈ scope.names:=by
      have lk:=z.2
      clear z hm
      revert lk
      generalize scope.names=ns
      induction ns with
      | nil=>intro lk;simp at lk
      | cons y r ih =>
        intro lk
        obtain ⟨n,k⟩:=y
        cases hx:x == n with
        | true => simp only [List.lookup_cons,hx] at lk;cases lk;have e:x=n:=by simpa using hx
                  subst e;exact List.mem_cons_self
        | false=>simp only [List.lookup_cons,hx] at lk;exact List.mem_cons_of_mem _ (ih lk)
    exact ⟨z.1,z.2,m,hfree' _ m rfl⟩
  refine wpAny_comprehension_free (use:=use) rfl hs hclos hkind hnames (thn (hi pins s σ H _ I h) fun v s1 hh1=>thn hh1 fun itv s2 hh2=>?_)
  obtain ⟨it,fp,tn,J,H2,e,I2,T,st2,f2,W,⟨m0,w0⟩,turn⟩:=hh2
  subst e
  refine wpAny_newObj_type (wpAny_newFunctionEnv hcell (by intro y hy;simp at hy) (fun h₁ hns₁ hsb₁=>?_) hkind)
  dsimp only at hns₁ hsb₁ ⊢
  have hD:s2.heap.objs.size=s2.heap.objs.size:=rfl
  generalize hP:s2.heap.push { cls:=.type "list",dict:=none,data:=.seq ([]:List Value).toArray }=P2 at hns₁ hsb₁ ⊢
  have hCs:P2.objs.size=s2.heap.objs.size+1:=by rw [← hP,Heap.size_push]
  generalize hC:P2.objs.size=C at hns₁ hsb₁ ⊢
  have hC':C=s2.heap.objs.size+1:=by rw [← hC,hCs]
  generalize hDD:s2.heap.objs.size=D at hC' ⊢
  have hCle:s2.heap.objs.size≤C:=by rw [hDD,hC'];exact Nat.le_succ _
  have hDC:D≠C:=by rw [hC'];exact Nat.ne_of_lt (Nat.lt_succ_self _)
  have old:∀ b o,s2.heap.get? b=some o→h₁.get? b=some o:=fun b o e =>
    hsb₁.extBut b o (Nat.ne_of_lt (Nat.lt_of_lt_of_le (Heap.lt_size e) hCle)) (Heap.get?_push_of_some _ (hP ▸ Heap.get?_push_of_some _ e))
  have hacc:h₁.get? D=some { cls:=.type "list",data:=.seq ([]:List Value).toArray 0 }:=by
    refine hsb₁.extBut _ _ hDC (Heap.get?_push_of_some _ ?_)
    rw [← hP,← hDD]
    exact Heap.get?_push_size _ rfl
  have fpl:∀ b ∈ fp,b < s2.heap.objs.size:=fun b hb=>by obtain ⟨o,e,_⟩:=T.obj _ _ st2 b hb;exact Heap.lt_size e
  have fpC:∀ b ∈ fp,b < C:=fun b hb=>Nat.lt_of_lt_of_le (fpl b hb) hCle
  have fpD:∀ b ∈ fp,b≠D:=fun b hb=>by have:=fpl b hb;rw [hDD] at this;exact Nat.ne_of_lt this
  have Yok:(X.comp N scope cl s2 H2 fp C).Ok:=Cx.comp_ok I2 hkind hcell h1 h2 f2 hCle fpC
  have IY0:Inv (X.comp N scope cl s2 H2 fp C) [] (inner im σ) H2 { s2 with heap:=h₁,toks:=s2.toks+([]:List (Str × Value)).length }:=by
    have I3:Inv (X.comp N scope cl s2 H2 fp C) [] (N.map fun _=>none) H2 { s2 with heap:=h₁,toks:=s2.toks+([]:List (Str × Value)).length }:=by
      refine ⟨Yok,rfl,I2.bare,Un.kept old,⟨_,hns₁,fun i x v e1 e2 _=>?_⟩,fun x c e=>?_,?_,fun x c e=>I2.freeC x c (h1 x c e),(fun p hp=>nomatch hp),I2.hok.kept old,by rw [List.length_map];rfl⟩
      · rw [List.getElem?_map] at e2
        cases q:N[i]? with
        | none=>rw [q] at e2;cases e2
        | some o=>rw [q] at e2;cases e2
      · obtain ⟨v,o,q,d⟩:=I2.cell x c (h1 x c e)
        exact ⟨v,o,old _ _ q,d⟩
      · show H2 C=none
        exact I2.hok.fresh hCle
    exact I3.reset I2 h1 h2 f2 hl him'
  have fpok:∀ {H3:Hp} {pp:List (Addr × Obj)},(∀ b ∈ fp,H3 b=none)→(∀ p ∈ pp,p.1=D)→∀ b ∈ fp,FpOk (X.comp N scope cl s2 H2 fp C) pp H3 b:=fun {H3 pp} hn hp b hb =>
    ⟨hn b hb,Nat.ne_of_lt (fpC b hb),fun z=>Yok.exfs b hb z,.inl hb,fun x c e=>(f2 b hb).2.2.2.2.1 x c (h1 x c e),fun p hpp=>by
      rcases List.mem_append.mp hpp with z | z
      · exact nomatch z
      · rw [hp p z];exact Ne.symm (fpD b hb)⟩
  have hH2D:H2 D=none:=I2.hok.fresh (by rw [hDD];exact Nat.le_refl _)
  have loop : ∀ s3:Shared,s3={ s2 with heap:=h₁,toks:=s2.toks+([]:List (Str × Value)).length } →
      codeAny (model X.prog X.w) X.A (.compLoop (.ListComp elt [⟨tg,iter,ifs,0⟩] scope pos) 0 (.ref it) (.ref D) (compEnvC scope cl C X.env))
        (compPost (model X.prog X.w) X.A X.xe use QQ (.ref D) C) s3:=by
    rintro s3 rfl
    refine compLoop_go (fun k s'=>∃ i ys its n σ' H',Inv (X.comp N scope cl s2 H2 fp C) [] σ' H' s'∧tn i s'.heap∧(∀ b ∈ fp,H' b=none)∧H' D=none∧s'.heap.get? D=some { cls:=.type "list",data:=.seq its n }∧Vals ys its.toList∧W i k ys H') ?_ m0
      ⟨0,[],_,0,_,H2,IY0,T.keep _ _ _ st2 (fun b hb o e=>old b o e),fun b hb=>(f2 b hb).1,hH2D,hacc,.nil,w0⟩
    rintro k s' ⟨i,ys,its,n,σ',H3,I3,st3,fr3,hD3,e3,v3,w3⟩
    have I3':=I3.reset I2 h1 h2 f2 hl him'
    obtain ⟨hsz,alt⟩:=turn i k ys H3 w3
    have hDs:s2.heap.objs.size≤D:=by rw [hDD];exact Nat.le_refl _
    have hDfs:D ∉ (X.comp N scope cl s2 H2 fp C).fs:=fun z=>by
      obtain ⟨_,o,ho,_⟩:=Yok.funs.mem z
      exact absurd (Nat.lt_of_lt_of_le (Heap.lt_size ho) hDs) (Nat.lt_irrefl _)
    have hDc:∀ x c,cl.lookup x=some c→c≠D:=fun x c e z=>by
      obtain ⟨v,q⟩:=I2.cell x c (h1 x c e)
      exact absurd (Nat.lt_of_lt_of_le q.lt (by rw [z];exact hDs)) (Nat.lt_irrefl _)
    have I3p:Inv (X.comp N scope cl s2 H2 fp C) [(D,{ cls:=.type "list",data:=.seq its n })] (inner im σ) H3 s':=I3'.pins_of fun p hp=>by
      have:p=(D,{ cls:=.type "list",data:=.seq its n }):=by simpa using hp
      subst this
      exact ⟨e3,hD3,hDC,hDfs,fun v z=>by cases z⟩
    have onlyD:∀ p ∈ [((D,{ cls:=.type "list",data:=.seq its n }):Addr × Obj)],p.1=D:=fun p hp=>by
      have:p=(D,{ cls:=.type "list",data:=.seq its n }):=by simpa using hp
      rw [this]
    rcases alt with ⟨stop,q⟩ | ⟨go,step⟩
    · refine thn (T.done (X.comp N scope cl s2 H2 fp C) rfl rfl rfl hc i _ s' _ H3 _ I3p (fpok fr3 onlyD) st3 stop) fun r s4 hh4=>?_
      obtain ⟨hr,I4⟩:=hh4
      subst hr
      have e4:s4.heap.get? D=some { cls:=.type "list",data:=.seq its n }:=(I4.pin (D,_) (List.mem_append_right _ (by simp))).1
      obtain ⟨m,hn,_⟩:=I4.loc
      have KK:∀ h',Heap.SameBut C s4.heap h'→Inv X pins σ (upd H3 D (.lst ys)) { s4 with heap:=h' }:=fun h' hs'=>by
        have keep':∀ b o,b≠C→s4.heap.get? b=some o→h'.get? b=some o:=fun b o hb e=>hs'.extBut b o hb e
        have nC:∀ b o,s2.heap.get? b=some o→b≠C:=fun b o e=>Nat.ne_of_lt (Nat.lt_of_lt_of_le (Heap.lt_size e) hCle)
        have nD:∀ b o,s2.heap.get? b=some o→b≠D:=fun b o e=>Nat.ne_of_lt (Nat.lt_of_lt_of_le (Heap.lt_size e) hDs)
        have u4:=I4.base
        have un:Un (frs X.stack) fp H2 (upd H3 D (.lst ys)) s2.heap h':=by
          refine ⟨fun b o e nn hb hx=>keep' b o (nC b o e) (u4.keep b o e nn hb hx),fun b o e nn hb hx=>?_,fun b o e nn hx=>?_,fun b o e hx=>?_,fun b xs e=>?_,fun b o xs e=>?_,fun b ps e=>?_⟩
          · obtain ⟨sl,z⟩:=u4.slot b o e nn hb hx
            exact ⟨sl,keep' b _ (nC b o e) z⟩
          · rw [upd_ne (nD b o e)];exact u4.free b o e nn hx
          · obtain ⟨o',z⟩:=u4.there b o e hx
            exact ⟨o',keep' b _ (nC b o e) z⟩
          · rw [upd_ne (ne_of_none (u4.tups b xs e) hD3)];exact u4.tups b xs e
          · rw [upd_ne (ne_of_none (u4.frzs b o xs e) hD3)];exact u4.frzs b o xs e
          · obtain ⟨more,z⟩:=u4.tbls b ps e
            exact ⟨more,by rw [upd_ne (ne_of_none z hD3)];exact z⟩
        have hH3C:H3 C=none:=I4.free
        have hok:HOk X.prog X.w (upd H3 D (.lst ys)) h':=fun b o e=>by
          by_cases hb:b=D
          · subst hb
            rw [upd_same] at e
            cases e
            refine ⟨hsz,its.toList,n,v3,?_⟩
            have z:=keep' _ _ hDC e4
            simpa using z
          · rw [upd_ne hb] at e
            refine (I4.hok b o e).stay (fun c v hcc z=>keep' c v ?_ z) (fun c z=>by rw [upd_ne (ne_of_none z hD3)];exact z) fun c xs z=>by rw [upd_ne (ne_of_none z hD3)];exact z
            rintro rfl
            rcases hcc with z | z
            · rw [← z] at e;rw [hH3C] at e;cases e
            · rw [hH3C] at z;cases z
        refine I2.call' (s':={ s4 with heap:=h' }) I4.os un hok I4.bare (fun b hb=>?_)
        obtain ⟨_,g1,_,g2,g3,g4⟩:=f2 b hb
        exact ⟨g2,g1,g3,g4⟩
      have hH3C:H3 C=none:=I4.free
      refine fin s4 m C D _ hn KK ?_ ?_ ?_ ?_ ?_ ?_ (q D hD3)
      · rw [upd_ne (Ne.symm hDC)];exact hH3C
      · exact Ne.symm (Nat.ne_of_lt (Nat.lt_of_lt_of_le I2.lt hCle))
      · exact I2.nofs hCle
      · intro x c e z
        obtain ⟨v,qq⟩:=I2.cell x c e
        exact absurd (Nat.lt_of_lt_of_le qq.lt (by rw [z];exact hCle)) (Nat.lt_irrefl _)
      · intro p hp z
        have:=(I2.pin p hp).1
        exact absurd (Nat.lt_of_lt_of_le (Heap.lt_size this) (by rw [← z];exact hCle)) (Nat.lt_irrefl _)
      · exact Nat.le_trans I2.sz hCle
    · refine thn (T.item (X.comp N scope cl s2 H2 fp C) rfl rfl rfl hc i _ s' _ H3 _ I3p (fpok fr3 onlyD) st3 go) fun r s4 hh4=>?_
      obtain ⟨u,hr,hh4⟩:=hh4
      subst hr
      refine thn hh4 fun _ s5 ⟨x,H5,I5,r5,y5,st5,fr5⟩=>?_
      have I5':=I5.pinned (fpok fr5 onlyD) (T.obj _ _ st5)
      refine thn (hg cl s2 H2 fp C _ s5 _ H5 x u _ I5' r5 (step x H5 y5)) fun _ s6 ⟨σ6,H6,I6,q6⟩=>?_
      refine thn (ht cl s2 H2 fp C _ s6 σ6 H6 _ I6 q6) fun b s7 ⟨H7,I7,q7⟩=>?_
      have after:∀ {s8:Shared} {σ8:St} {H8:Hp},Inv (X.comp N scope cl s2 H2 fp C) ([(D,{ cls:=.type "list",data:=.seq its n })]++pinsAt fp s5.heap) σ8 H8 s8→tn (i+1) s8.heap∧(∀ b ∈ fp,H8 b=none)∧H8 D=none∧s8.heap.get? D=some { cls:=.type "list",data:=.seq its n }:=fun {s8 σ8 H8} I8=>by
        refine ⟨T.keep _ _ _ st5 fun b hb o e=>(I8.pin (b,o) (List.mem_append_right _ (List.mem_append_right _ (mem_pinsAt hb e)))).1,fun b hb=>?_,?_⟩
        · obtain ⟨o,e,d⟩:=T.obj _ _ st5 b hb
          exact (I8.pin (b,o) (List.mem_append_right _ (List.mem_append_right _ (mem_pinsAt hb e)))).2.1
        · have z:=I8.pin (D,{ cls:=.type "list",data:=.seq its n }) (List.mem_append_right _ (List.mem_append_left _ (by simp)))
          exact ⟨z.2.1,z.1⟩
      cases b with
      | false =>
        rw [if_neg Bool.false_ne_true] at q7 ⊢
        obtain ⟨m',hm,w7⟩:=q7
        obtain ⟨a1,a2,a3,a4⟩:=after I7
        exact ⟨m',hm,i+1,ys,its,n,σ6,H7,I7.pins_of (fun p hp=>nomatch hp),a1,a2,a3,a4,v3,w7⟩
      | true =>
        rw [if_pos rfl] at q7 ⊢
        refine thn (he cl s2 H2 fp C _ s7 σ6 H7 _ I7 q7) fun u8 s8 ⟨y8,H8,I8,r8,m',hm,w8⟩=>?_
        obtain ⟨a1,a2,a3,a4⟩:=after I8
        have hlen:its.size≤sizeLine:=by
          have z:=v3.length
          have el:its.toList.length=its.size:=by simp
          omega
        refine append_at (hsz:=hlen) a4 fun h9 hs9 e9=>?_
        have I9:Inv (X.comp N scope cl s2 H2 fp C) [] σ6 H8 { s8 with heap:=h9,toks:=s8.toks } :=
          Inv.turned (I8.pins_of (pins':=[]) (fun p hp=>nomatch hp)) (fun b o hb e=>hs9.extBut b o hb e) a3 hDC (.inr hDs) hDc (fun p hp=>by
            rcases List.mem_append.mp hp with z | z <;> exact nomatch z)
        refine ⟨m',hm,i+1,ys++[y8],its.push u8,n+1,σ6,H8,I9,T.keep _ _ _ a1 (fun b hb o e=>hs9.extBut b o (fpD b hb) e),a2,a3,e9,?_,w8⟩
        rw [Array.toList_push]
        exact Vals.append v3 (.cons r8 .nil)
  exact codeAny_compStart_list (loop _ rfl) (T.self _ 0 _ _ _ (T.keep _ _ _ st2 (fun b hb o e=>old b o e)) (loop _ rfl))
theorem pe_comp {elt tg iter:Expr} {ifs:List Expr} {scope:Scope} {pos:Pos} {wi:TI} {g:TG} {tc:TT} {te:TE} (N:List Str) (im:List (Option Nat))
    (hi:PI X tg iter wi)
    (hg:∀ cl s H fp C,PG (X.comp N scope cl s H fp C) tg g)
    (ht:∀ cl s H fp C,PTs (X.comp N scope cl s H fp C) ifs tc)
    (he:∀ cl s H fp C,PE (X.comp N scope cl s H fp C) elt te)
    (hc:X.calm=true:=by rfl) (hkind:scope.kind=.function:=by rfl) (hcell:∀ y ∈ scope.names,y.2≠.cell:=by decide +kernel)
    (hnames:∀ y ∈ scope.names,y.2=.local→scope.names.lookup y.1=some .local:=by decide +kernel)
    (hfree:(scope.names.all fun y=>y.2 != .free || (X.env.kindOf y.1 == some .cell || X.env.kindOf y.1 == some .free))=true:=by rfl)
    (hl:N.length=im.length:=by rfl)
    (him:((N.zip im).all fun p=>match p.2 with
      | none=>true
      | some j=>X.N[j]? == some p.1&&scope.names.lookup p.1 == some .free)=true:=by rfl)
    (hs:∀ x,foldedSetIterable iter X.env x=pure x:=by intro _;rfl) :
    PE X (.ListComp elt [⟨tg,iter,ifs,0⟩] scope pos) (tComp im wi g tc te):=by
  intro pins s σ H Q I h
  rw [eval_ListComp]
  exact comp_core N im hi hg ht he hc hkind hcell hnames hfree hl him hs I h fun s4 m C D H4 hn KK _ _ _ _ _ _ q=>⟨m,hn,fun h' hs'=>⟨.ref D,H4,KK h' hs',rfl,q⟩⟩
theorem ps_setC {i:Nat} {y:Str} {elt tg iter:Expr} {ifs:List Expr} {scope:Scope} {pos pos' spos:Pos} {wi:TI} {g:TG} {tc:TT} {te:TE} (hN:X.N.Nodup) (hy:X.N[i]?=some y) (hx:Loc X.env.scope y) (N:List Str) (im:List (Option Nat))
    (hi:PI X tg iter wi)
    (hg:∀ cl s H fp C,PG (X.comp N scope cl s H fp C) tg g)
    (ht:∀ cl s H fp C,PTs (X.comp N scope cl s H fp C) ifs tc)
    (he:∀ cl s H fp C,PE (X.comp N scope cl s H fp C) elt te)
    (hc:X.calm=true:=by rfl) (hkind:scope.kind=.function:=by rfl) (hcell:∀ y ∈ scope.names,y.2≠.cell:=by decide +kernel)
    (hnames:∀ y ∈ scope.names,y.2=.local→scope.names.lookup y.1=some .local:=by decide +kernel)
    (hfree:(scope.names.all fun y=>y.2 != .free || (X.env.kindOf y.1 == some .cell || X.env.kindOf y.1 == some .free))=true:=by rfl)
    (hl:N.length=im.length:=by rfl)
    (him:((N.zip im).all fun p=>match p.2 with
      | none=>true
      | some j=>X.N[j]? == some p.1&&scope.names.lookup p.1 == some .free)=true:=by rfl)
    (hs:∀ x,foldedSetIterable iter X.env x=pure x:=by intro _;rfl)
    (hsw:swapsWith (.ListComp elt [⟨tg,iter,ifs,0⟩] scope pos) (some (.Name y pos')) spos.line X.env=pure true:=by rfl) (hf:X.fn y=true∨X.env.scope.names.lookup y=some .local:=by first | exact .inl rfl | exact .inr rfl | assumption) :
    PS X (.Assign [.Name y pos'] (.ListComp elt [⟨tg,iter,ifs,0⟩] scope pos) spos) (tAsg (tComp im wi g tc te) (gName i)):=by
  intro pins s σ H D0 I h
  rw [exec_Assign_Name_used _ _ _ _ hsw]
  refine wpAny_bind (wpAny_standAt (wpAny_bind ?_))
  show wpAny _ X.A (do let _ ← comprehension (.ListComp elt [⟨tg,iter,ifs,0⟩] scope pos) scope X.env _ (newList []) false (eval iter X.env) (some (assign (.Name y pos') X.env))) _ _ s
  refine wpAny_bind (wpAny_mono (comp_core (use:=some (assign (.Name y pos') X.env)) (QQ:=fun _ s'=>SP X pins D0 .next s') N im hi hg ht he hc hkind hcell hnames hfree hl him hs I h ?_) (fun _ s' hq=>wpAny_pure (wpAny_pure hq)) fun _ _ e=>e)
  intro s4 m C D H4 hn KK hC1 hC2 hC3 hC4 hC5 hC6 q
  have I4:Inv X pins σ H4 s4:=KK s4.heap (Heap.SameBut.refl _ _)
  obtain ⟨o,es,ep,ho,ro⟩:=id hn
  have I5:Inv X ((C,o) :: pins) σ H4 s4:=I4.pins_of fun p hp=>by
    rcases List.mem_cons.mp hp with z | z
    · subst z
      exact ⟨ho,hC1,hC2,hC3,fun v z=>by rw [ro.1] at z;cases z⟩
    · exact I4.pin p (List.mem_append_right _ z)
  show wpAny _ X.A (assign (.Name y pos') X.env (.ref D)) _ _ _
  refine wpAny_assign_Name (store_ok I5 hN hy hx (show RelV (.ref D) (.ref D) from rfl) (fun s6 I6=>?_) hf)
  have p6:=(I6.pin (C,o) (List.mem_append_right _ List.mem_cons_self)).1
  refine ⟨m,hn.at' fun o' e'=>?_,fun h' hs'=>?_⟩
  · rw [ho] at e';cases e';exact p6
  · have I7:Inv X pins _ H4 s6:=I6.pins_of fun p hp=>I6.pin p (List.mem_append_right _ (List.mem_cons_of_mem _ hp))
    exact ⟨_,H4,I7.turned (t':=s6.toks) (it:=C) (fun b o hb e=>hs'.extBut b o hb e) hC1 hC2 (.inr hC6) hC4 (fun p hp=>Ne.symm (hC5 p hp)),q⟩
end
end L2
namespace L2
open PySem PySem.Spec PyProof.Rows
section
variable {X:Cx}
def rSlS:V→Option Int→Option Int→Hp→VK→Prop:=fun x lo hi H Q=>∃ z,x=.str z∧z.length≤sizeLine∧Q (.str (Txt.slice z lo hi)) H
theorem sl_str:SlR X rSlS:=by
  intro pins s σ H x v vl vu lo hi sl Q I rx hs pl pu h
  obtain ⟨z,rfl,hz,q⟩:=h
  obtain ⟨t,rfl⟩:=rx
  refine ⟨"str",_,F.slot_str_getitem.lookup,typeIs_str _ _ _,?_⟩
  have go:∀ (l u:Option (Int × Tok)),vl=partValue l→vu=partValue u→l.map (·.1)=lo→u.map (·.1)=hi→wpAny (model X.prog X.w) X.A (getItem (.str z t) (.ref sl)) (EP X pins σ Q) X.xe s:=by
    intro l u e1 e2 e3 e4
    subst e1 e2 e3 e4
    refine wpAny_getItem_str_slice (l:=l) (u:=u) (st:=none) hs rfl ?_
    unfold sliceMade
    have q':Q (.str (Txt.slice z (l.map (·.1)) (u.map (·.1)))) H:=q
    unfold Txt.slice at q'
    have hlen:((PySem.slicePicked z l u none).filterMap (z.cps[·]?)).toArray.size≤z.length:=by
      rw [List.size_toArray]
      refine Nat.le_trans (List.length_filterMap_le _ _) ?_
      exact sliceIndices_le _ _ _
    show Made.post (if ((1:Int) == 1&&(PySem.slicePicked z l u none).length == z.length)=true then _ else _) _ s
    unfold PySem.slicePicked at hlen ⊢
    simp only [Option.map_none,Option.getD_none] at hlen ⊢
    split
    · rename_i hc
      rw [if_pos hc] at q'
      exact ⟨.str _,H,I,⟨_,rfl⟩,q'⟩
    · rename_i hc
      rw [if_neg hc] at q'
      exact ⟨Nat.le_trans hlen hz,.str _,H,I.tok _,⟨_,rfl⟩,q'⟩
  cases pl with
  | none=>cases pu with
    | none=>exact go none none rfl rfl rfl rfl
    | int j t'=>exact go none (some (j,t')) rfl rfl rfl rfl
  | int i t0=>cases pu with
    | none=>exact go (some (i,t0)) none rfl rfl rfl rfl
    | int j t'=>exact go (some (i,t0)) (some (j,t')) rfl rfl rfl rfl
theorem call_isinst:CallR X (.builtin "isinstance") (fun xs H Q=>∃ x t c b,xs=[x,.ty c]∧TyOf X.K H x t∧PySem.W.kitOne X.K t (.type c)=some b∧Q (.bl b) H):=by
  intro pins s σ H xs us Q I r h
  obtain ⟨x,t,c,b,rfl,ty,e,q⟩:=h
  obtain ⟨u,w',rfl,ru,rw'⟩:=vals2 r
  cases rw'
  exact isinst_ok I ru ty e fun tk=>⟨.bl b,H,I.tok _,rfl,q⟩
theorem isinst_tup {pins:List (Addr × Obj)} {σ:St} {H:Hp} {s:Shared} {A:Around} {E:Value→Shared→Prop} {Q:Value→Shared→Prop} {b:Bool} {x:V} {u t:Value} {tp:Addr} {its:List Value} {dd:Option Addr} {n:Nat} {sl:Array (Option Value)} (I:Inv X pins σ H s) (rx:RelV x u) (ty:TyOf X.K H x t)
    (htp:s.heap.get? tp=some ⟨.type "tuple",dd,.seq its.toArray n,sl⟩) (e:PySem.W.kitAny X.K t its=some b) (h:∀ tk,Q (.bool b) { s with toks:=tk }) :
    wpAny (model X.prog X.w) A (call (.builtin "isinstance") [u,.ref tp]) Q E s:=by
  cases ty with
  | non=>cases (show u=Value.none from rx);exact PySem.W.kia_tup PySem.W.kitx_none I.kIn True.intro htp e (fun z=>nomatch z) h
  | bl y=>cases (show u=Value.bool y from rx);exact PySem.W.kia_tup PySem.W.kitx_bool I.kIn True.intro htp e (fun z=>nomatch z) h
  | int i=>obtain ⟨t,q⟩:=(show ∃ t,u=Value.int i t from rx);cases q;exact PySem.W.kia_tup PySem.W.kitx_int I.kIn True.intro htp e (fun z=>nomatch z) h
  | str y=>obtain ⟨t,q⟩:=(show ∃ t,u=Value.str y t from rx);cases q;exact PySem.W.kia_tup PySem.W.kitx_str I.kIn True.intro htp e (fun z=>nomatch z) h
  | flt y=>obtain ⟨t,q⟩:=(show ∃ t,u=Value.float y t from rx);cases q;exact PySem.W.kia_tup PySem.W.kitx_float I.kIn True.intro htp e (fun z=>nomatch z) h
  | @lst a xs ea =>
    cases (show u=Value.ref a from rx)
    obtain ⟨_,_,n,_,h1⟩:=(show ObjOk X.prog X.w H s.heap a (.lst xs) from I.hok a _ ea)
    exact PySem.W.kia_tup PySem.W.kitx_list I.kIn ⟨_,h1,rfl⟩ htp e (fun z=>nomatch z) h
  | @frz a ob xs ea =>
    cases (show u=Value.ref a from rx)
    obtain ⟨_,_,_,n,_,h1⟩:=(show ObjOk X.prog X.w H s.heap a (.frz ob (.lst xs)) from I.hok a _ ea)
    exact PySem.W.kia_tup PySem.W.kitx_list I.kIn ⟨_,h1,rfl⟩ htp e (fun z=>nomatch z) h
  | @tup a xs ea =>
    cases (show u=Value.ref a from rx)
    obtain ⟨_,_,_,p⟩:=(show ObjOk X.prog X.w H s.heap a (.tup xs) from I.hok a _ ea)
    obtain ⟨o,h1,h2,_⟩:=p
    exact PySem.W.kia_tup PySem.W.kitx_tuple I.kIn ⟨o,h1,h2⟩ htp e (fun z=>nomatch z) h
  | @dK a kvs ea =>
    cases (show u=Value.ref a from rx)
    obtain ⟨_,_,vs,_,p⟩:=(show ObjOk X.prog X.w H s.heap a (.dK kvs) from I.hok a _ ea)
    obtain ⟨o,es,ep,h1,h2,_⟩:=p
    exact PySem.W.kia_tup PySem.W.kitx_dict I.kIn ⟨o,h1,h2.1⟩ htp e (fun z=>nomatch z) h
  | @dT a kvs ea =>
    cases (show u=Value.ref a from rx)
    obtain ⟨_,_,xs,_,o,es,ep,h1,h2,_⟩:=(show ObjOk X.prog X.w H s.heap a (.dT kvs) from I.hok a _ ea)
    exact PySem.W.kia_tup PySem.W.kitx_dict I.kIn ⟨o,h1,h2.1⟩ htp e (fun z=>nomatch z) h
  | @ins a C dx fs ea cl ha hn htk hm =>
    cases (show u=Value.ref a from rx)
    obtain ⟨mA,O,_⟩:=ins_get I.hok ea
    obtain ⟨od,J,_⟩:=O.look
    exact PySem.W.kia_tup (PySem.W.kitx_own (cl.get _) cl.hd ha hn htk hm) I.kIn J htp e (fun z=>nomatch z) h
theorem tys_of:∀ {cs:List String} {us:List Value},Vals (cs.map V.ty) us→us=cs.map Value.type
  | [],_,r=>by cases r;rfl
  | c :: cs,_,r=>by
    cases r with
    | cons r1 r2=>cases r1;rw [tys_of r2];rfl
theorem call_isinstT:CallR X (.builtin "isinstance") (fun xs H Q=>∃ (x:V) (t:Value) (tp:Addr) (cs:List String) (b:Bool),xs=[x,.ref tp]∧H tp=some (.tup (cs.map V.ty))∧TyOf X.K H x t∧PySem.W.kitAny X.K t (cs.map Value.type)=some b∧Q (.bl b) H):=by
  intro pins s σ H xs us Q I r h
  obtain ⟨x,t,tp,cs,b,rfl,htp,ty,e,q⟩:=h
  obtain ⟨u,w',rfl,ru,rw'⟩:=vals2 r
  cases rw'
  obtain ⟨_,its,rv,p⟩:=(show ObjOk X.prog X.w H s.heap tp (.tup (cs.map V.ty)) from I.hok tp _ htp)
  have ei:=tys_of rv
  subst ei
  obtain ⟨o,h1,h2,n,h3⟩:=p
  obtain ⟨oc,od,dt,sl⟩:=o
  have h2':oc=.type "tuple":=h2
  have h3':dt=.seq (cs.map Value.type).toArray n:=h3
  subst h2' h3'
  exact isinst_tup I ru ty h1 e fun tk=>⟨.bl b,H,I.tok _,rfl,q⟩
def CDivB (i j:Int):Prop:=0 < j∧j < 2 ^ 200
theorem op_fdivB:OpR X (binaryOp .FloorDiv) (rI CDivB fun i j=>.int (i / j)):=opI fun i j _ _ _ _ _ hc q=>by
  obtain ⟨h1,h2⟩:=hc
  rw [← Int.fdiv_eq_ediv_of_nonneg i (by omega)] at q
  refine floordiv_int (by omega) q (.inl (PyProof.noPylong_of_log2 ?_))
  have hj:j.natAbs≠0:=by omega
  rw [Nat.log2_lt hj]
  have h3:(j.natAbs:Int) < 2 ^ 200:=by omega
  have h4:j.natAbs < 2 ^ 200:=by exact_mod_cast h3
  exact Nat.lt_of_lt_of_le h4 (Nat.pow_le_pow_right (by decide) (by decide))
theorem strs_are:∀ {ys:List Str} {us:List Value},Vals (ys.map V.str) us→StrsAre us ys
  | [],_,r=>by cases r;exact .nil
  | y :: ys,_,r=>by
    cases r with
    | cons r1 r2=>obtain ⟨t,e⟩:=r1;subst e;exact .cons y t (strs_are r2)
def rJoin (K:PySem.W.Frag):V→List V→Hp→VK→Prop:=fun x vs H Q=>∃ z p ys,x=.str z∧vs=[.ref p]∧SqL K H p (ys.map V.str)∧(ys.map (·.length)).sum+ys.length * z.length≤16777216∧Q (.str (Txt.join z ys)) H
theorem mt_join:MtR X "str.join" (rJoin X.K):=by
  intro pins s σ H x xs v us Q I rx rs h
  obtain ⟨z,p,ys,rfl,rfl,hl,hz,q⟩:=h
  obtain ⟨t,rfl⟩:=rx
  obtain ⟨u,rfl,ru⟩:=vals1 rs
  cases ru
  obtain ⟨its,rv,pl,_⟩:=I.list hl
  exact join_list pl.isList (by simpa using strs_are rv) hz fun t' k=>⟨.str _,H,I.tok _,⟨_,rfl⟩,q⟩
theorem vals_strs:∀ (l:List (Str × Tok)),Vals ((l.map (·.1)).map V.str) (strValues l)
  | []=>.nil
  | (x,t) :: r=>.cons ⟨t,rfl⟩ (vals_strs r)
def rSplit:V→List V→Hp→VK→Prop:=fun x vs H Q=>∃ z y,x=.str z∧vs=[.str y]∧(y.length == 0)=false∧z.length≤sizeLine∧(Builtin.Str.partsBetween z (Builtin.Str.occurrences z y 0 z.length (z.length+1)) y.length).length≤sizeLine∧(Txt.split z y).length≤sizeLine ∧
  ∀ p,H p=none→Q (.ref p) (upd H p (.lst ((Txt.split z y).map V.str)))
theorem mt_split:MtR X "str.split" rSplit:=by
  intro pins s σ H x xs v us Q I rx rs h
  obtain ⟨z,y,rfl,rfl,h0,hz,hz2,hz3,q⟩:=h
  obtain ⟨t,rfl⟩:=rx
  obtain ⟨u,rfl,⟨t',rfl⟩⟩:=vals1 rs
  have fin:∀ (l:List (Str × Tok)) (tk:Nat) (n:Nat),l.map (·.1)=Txt.split z y→EP X pins σ Q (.ref s.heap.objs.size) { s with toks:=tk,heap:=s.heap.push { cls:=.type "list",data:=.seq (strValues l).toArray n } }:=fun l tk n e=>by
    refine ⟨.ref s.heap.objs.size,_,I.laid (t':=tk) (o:=.lst ((Txt.split z y).map V.str)) (fun b ob q=>Heap.get?_push_of_some _ q) (Nat.le_refl _) ?_,rfl,q _ (I.hok.fresh (Nat.le_refl _))⟩
    refine ⟨by rw [List.length_map];exact hz3,strValues l,n,?_,Heap.get?_push_size _ rfl⟩
    rw [← e];exact vals_strs l
  cases h1:(decide (z.length < y.length) || decide (Builtin.Str.strKind z < Builtin.Str.strKind y))
  · cases hf:(Builtin.Str.occurrences z y 0 z.length (z.length+1)).isEmpty
    · refine call_meets F.slot_str_split (typeIs_str _ _ _) F.entry_str_split (F.args_str_split_2 _ _) (meets_str_split_sep z y t t' h1 h0 hf hz hz2) ?_
      show wants _ X.xe _ { s with toks:=_,heap:=s.heap.push { cls:=.type "list",data:=.seq (strsFrom s.toks (Builtin.Str.partsBetween z (Builtin.Str.occurrences z y 0 z.length (z.length+1)) y.length)).toArray } }
      rw [strsFrom_eq]
      exact fin (numbered s.toks _) _ _ ((numbered_texts _ _).trans ((if_neg (ne_true_of_eq_false h1)).trans (if_neg (ne_true_of_eq_false hf))).symm)
    · exact call_meets F.slot_str_split (typeIs_str _ _ _) F.entry_str_split (F.args_str_split_2 _ _) (meets_str_split_not_found z y t t' h1 h0 hf)
        (fin [(z,t)] s.toks _ ((if_neg (ne_true_of_eq_false h1)).trans (if_pos hf)).symm)
  · exact call_meets F.slot_str_split (typeIs_str _ _ _) F.entry_str_split (F.args_str_split_2 _ _) (meets_str_split_cannot_occur z y t t' h1)
      (fin [(z,t)] s.toks _ (if_pos h1).symm)
theorem bools_of:∀ {bs:List Bool} {us:List Value},Vals (bs.map V.bl) us→us=bs.map Value.bool
  | [],_,r=>by cases r;rfl
  | b :: bs,_,r=>by
    cases r with
    | cons r1 r2=>cases r1;rw [bools_of r2];rfl
theorem range_all (bs:List Bool):((List.range bs.length).all fun i=>bs.getD i true)=bs.all id:=by
  rw [Bool.eq_iff_iff,List.all_eq_true,List.all_eq_true]
  constructor
  · intro h b hb
    obtain ⟨i,hi⟩:=List.mem_iff_getElem?.mp hb
    have hlt:i < bs.length:=(List.getElem?_eq_some_iff.mp hi).1
    have z:=h i (List.mem_range.mpr hlt)
    simp [List.getD_eq_getElem?_getD,hi] at z
    simpa using z
  · intro h i hi
    have hlt:=List.mem_range.mp hi
    have z:=h bs[i] (List.getElem_mem hlt)
    simp only [id] at z
    simp [List.getD_eq_getElem?_getD,List.getElem?_eq_getElem hlt,z]
theorem call_all (hc:X.calm=true):CallR X (.builtin "all") (fun xs H Q=>∃ (p:Addr) (bs:List Bool),xs=[.ref p]∧SqL X.K H p (bs.map V.bl)∧Q (.bl (bs.all id)) H):=by
  intro pins s σ H xs us Q I r h
  obtain ⟨p,bs,rfl,hl,q⟩:=h
  obtain ⟨u,rfl,ru⟩:=vals1 r
  cases ru
  obtain ⟨its,rv,pl,hz⟩:=I.list hl
  have ei:=bools_of rv
  subst ei
  refine call_all_walk (wpAny_pyIter_list pl.isList ?_)
  have hlt:p < s.heap.objs.size:=by obtain ⟨_,e,_⟩:=pl.isList;exact Heap.lt_size e
  have hh:X.A.in1.handled=none:=I.ok.hd hc
  refine ⟨_,_,_,_,_,_,fun i=>bs.getD i true,rfl,Walks.list hh s.heap.objs.size p (Nat.ne_of_lt hlt) (bs.map Value.bool).toArray,⟨⟨_,Heap.get?_push_size _ rfl,rfl,rfl⟩,pl.isList.push _⟩,?_,fun h' tk k=>?_⟩
  · intro i v s' Q' E' hv hq
    have hv':(bs.map Value.bool)[i]?=some v:=by rw [← List.getElem?_toArray];exact hv
    rw [List.getElem?_map] at hv'
    cases hb:bs[i]? with
    | none=>rw [hb] at hv';cases hv'
    | some b =>
    rw [hb] at hv'
    cases hv'
    refine wpAny_truthy_bool ?_
    have e:bs.getD i true=b:=by simp [List.getD_eq_getElem?_getD,hb]
    have hq':Q' (bs.getD i true) s':=hq
    rw [e] at hq'
    exact hq'
  · have e:(List.range (bs.map Value.bool).toArray.size).all (fun i=>bs.getD i true)=bs.all id:=by
      rw [List.size_toArray,List.length_map];exact range_all bs
    rw [e]
    refine ⟨.bl _,H,I.kept (fun b o eo=>k b o ?_ (Heap.get?_push_of_some _ eo)),rfl,q⟩
    intro hb
    have:b=s.heap.objs.size:=by simpa using hb
    exact absurd (Heap.lt_size eo) (by rw [this];exact Nat.lt_irrefl _)
end
section
variable {X:Cx} {tg:Expr}
def Its (z:Str):It:=⟨fun i _=>i < z.cps.size,fun i H x H'=>H'=H∧∃ c,z.cps[i]?=some c∧x=.str ⟨#[c]⟩,fun i _=>z.cps.size=i⟩
theorem turn_strA {P:Program} {w:World} {K:PySem.W.Frag} (it:Addr) (z:Str) (t:Tok):Turn P w K tg (Its z) [it] it (fun i h=>h.IsStrIter it "str_ascii_iterator" z t i) where
  mem:=by simp
  obj:=fun i h st b hb=>by
    have e:b=it:=by simpa using hb
    subst e
    obtain ⟨o,e,c,d⟩:=st
    exact ⟨o,e,fun v z=>by rw [d] at z;cases z⟩
  keep:=fun i h h' st k=>by
    obtain ⟨o,e,r⟩:=st
    exact ⟨o,k it (by simp) o e,r⟩
  item:=by
    intro X hP hw hK hc i pins s σ H E I hf st hg
    subst hP hw hK
    have hg':i < z.cps.size:=hg
    obtain ⟨f0,f1,f2,f3,f4,f5⟩:=hf it (by simp)
    refine wpAny_pyNext_ascii_item st (c:=z.cps[i]) (by simp [hg']) fun h' st' sb=>?_
    have I1:Inv X pins σ H { s with heap:=h',toks:=s.toks+1 }:=I.turned (fun b o hb e=>(sb.2 b hb).trans e) f0 f1 f3 f4 f5
    obtain ⟨o,e,c,d⟩:=id st'
    exact ⟨_,rfl,go_of (s:={ s with heap:=h',toks:=s.toks+1 }) e c d (by decide) ⟨.str ⟨#[z.cps[i]]⟩,H,I1,⟨_,rfl⟩,⟨rfl,z.cps[i],by simp [hg'],rfl⟩,st',fun b hb=>(hf b hb).1⟩⟩
  done:=by
    intro X hP hw hK hc i pins s σ H E I hf st hg
    subst hP hw hK
    have hg':z.cps.size=i:=hg
    obtain ⟨f0,f1,f2,f3,f4,f5⟩:=hf it (by simp)
    exact wpAny_pyNext_ascii_end (I.ok.hd hc) st (by simp;omega) fun h' eb=>⟨rfl,I.turned (t':=s.toks) (fun b o hb e=>eb b o hb e) f0 f1 f3 f4 f5⟩
  self:=fun _ _ _ _ _ st h=>wpAny_pyIter_striter_ascii st h
theorem turn_strW {P:Program} {w:World} {K:PySem.W.Frag} (it:Addr) (z:Str) (t:Tok):Turn P w K tg (Its z) [it] it (fun i h=>h.IsStrIter it "str_iterator" z t i) where
  mem:=by simp
  obj:=fun i h st b hb=>by
    have e:b=it:=by simpa using hb
    subst e
    obtain ⟨o,e,c,d⟩:=st
    exact ⟨o,e,fun v z=>by rw [d] at z;cases z⟩
  keep:=fun i h h' st k=>by
    obtain ⟨o,e,r⟩:=st
    exact ⟨o,k it (by simp) o e,r⟩
  item:=by
    intro X hP hw hK hc i pins s σ H E I hf st hg
    subst hP hw hK
    have hg':i < z.cps.size:=hg
    obtain ⟨f0,f1,f2,f3,f4,f5⟩:=hf it (by simp)
    refine wpAny_pyNext_wide_item st (c:=z.cps[i]) (by simp [hg']) fun h' st' sb=>?_
    have I1:Inv X pins σ H { s with heap:=h',toks:=s.toks+1 }:=I.turned (fun b o hb e=>(sb.2 b hb).trans e) f0 f1 f3 f4 f5
    obtain ⟨o,e,c,d⟩:=id st'
    exact ⟨_,rfl,go_of (s:={ s with heap:=h',toks:=s.toks+1 }) e c d (by decide) ⟨.str ⟨#[z.cps[i]]⟩,H,I1,⟨_,rfl⟩,⟨rfl,z.cps[i],by simp [hg'],rfl⟩,st',fun b hb=>(hf b hb).1⟩⟩
  done:=by
    intro X hP hw hK hc i pins s σ H E I hf st hg
    subst hP hw hK
    have hg':z.cps.size=i:=hg
    obtain ⟨f0,f1,f2,f3,f4,f5⟩:=hf it (by simp)
    exact wpAny_pyNext_wide_end (I.ok.hd hc) st (by simp;omega) fun h' eb=>⟨rfl,I.turned (t':=s.toks) (fun b o hb e=>eb b o hb e) f0 f1 f3 f4 f5⟩
  self:=fun _ _ _ _ _ st h=>wpAny_pyIter_striter_wide st h
def iStr (tl:TE):TI:=fun σ H R=>tl σ H fun x H1=>∃ z,x=.str z∧R (Its z) H1
theorem pi_str {l:Expr} {tl:TE} (hl:PE X l tl):PI X tg l (iStr tl):=by
  intro pins s σ H R I h
  refine thn (hl pins s σ H _ I h) fun v s1 ⟨x,H1,I1,r1,q1⟩=>?_
  obtain ⟨z,e,q⟩:=q1
  subst e
  obtain ⟨t,rfl⟩:=r1
  have fp:∀ b ∈ [s1.heap.objs.size],FpOk X pins H1 b:=fun b hb=>by
    have e:b=s1.heap.objs.size:=by simpa using hb
    subst e
    exact I1.fpOk (Nat.le_refl _) (I1.hok.fresh (Nat.le_refl _))
  cases ha:z.cps.all (· < 128)
  · exact wpAny_pyIter_wide ha ⟨s1.heap.objs.size,[s1.heap.objs.size],_,Its z,H1,rfl,I1.kept (t':=s1.toks) fun b o e=>Heap.get?_push_of_some _ e,turn_strW _ z t,⟨_,Heap.get?_push_size _ rfl,rfl,rfl⟩,fp,q⟩
  · exact wpAny_pyIter_ascii ha ⟨s1.heap.objs.size,[s1.heap.objs.size],_,Its z,H1,rfl,I1.kept (t':=s1.toks) fun b o e=>Heap.get?_push_of_some _ e,turn_strA _ z t,⟨_,Heap.get?_push_size _ rfl,rfl,rfl⟩,fp,q⟩
def Itz (K:PySem.W.Frag) (a b:Addr):It :=
  ⟨fun i H=>∃ xs ys x y,SqL K H a xs∧SqL K H b ys∧xs[i]?=some x∧ys[i]?=some y,
   fun i H u H'=>∃ T,u=.ref T∧H T=none∧(∀ xs ys,SqL K H a xs→SqL K H b ys→∃ x y,xs[i]?=some x∧ys[i]?=some y∧H'=upd H T (.tup [x,y])),
   fun i H=>∃ xs ys,SqL K H a xs∧SqL K H b ys∧min xs.length ys.length=i⟩
theorem turn_zip {P : Program} {w:World} {K:PySem.W.Frag} {es:List Expr} {k:Nat} {tp:Pos} (z TI TO i1 i2 a b:Addr) (D:ZipApart z TI TO i1 i2 a b) :
    Turn P w K (.Tuple es k tp) (Itz K a b) [z,TI,TO,i1,i2] z (fun i h=>IsZip h z TI TO .none∧IsPair h TI (.ref i1) (.ref i2)∧(∃ x y,IsPair h TO x y)∧h.IsListIter i1 a i∧h.IsListIter i2 b i) where
  mem:=by simp
  obj:=fun i h st c hc=>by
    obtain ⟨s1,s2,⟨x,y,s3⟩,⟨o4,e4,c4,d4⟩,⟨o5,e5,c5,d5⟩⟩:=st
    simp at hc
    rcases hc with rfl | rfl | rfl | rfl | rfl
    · exact ⟨_,s1,fun v q=>by cases q⟩
    · exact ⟨_,s2,fun v q=>by cases q⟩
    · exact ⟨_,s3,fun v q=>by cases q⟩
    · exact ⟨_,e4,fun v q=>by rw [d4] at q;cases q⟩
    · exact ⟨_,e5,fun v q=>by rw [d5] at q;cases q⟩
  keep:=fun i h h' st kk=>by
    obtain ⟨s1,s2,⟨x,y,s3⟩,s4,s5⟩:=st
    exact ⟨kk z (by simp) _ s1,kk TI (by simp) _ s2,⟨x,y,kk TO (by simp) _ s3⟩,s4.at fun o e=>kk i1 (by simp) o e,s5.at fun o e=>kk i2 (by simp) o e⟩
  item := by
    intro X hP hw hK hc i pins s σ H E I hf st hg
    subst hP hw hK
    obtain ⟨xs,ys,x,y,h1,h2,hx,hy⟩:=hg
    obtain ⟨its1,rv1,p1,_⟩:=I.list h1
    obtain ⟨its2,rv2,p2,_⟩:=I.list h2
    have W:=WalksT.zip2 (prog:=X.prog) (w:=X.w) (I.ok.hd hc) z TI TO i1 i2 a b D its1.toArray its2.toArray
    have l1:i < its1.length:=by rw [← rv1.length];exact (List.getElem?_eq_some_iff.mp hx).1
    have l2:i < its2.length:=by rw [← rv2.length];exact (List.getElem?_eq_some_iff.mp hy).1
    obtain ⟨s1,s2,s3,s4,s5⟩:=st
    refine W.item i s _ _ (by simp;omega) ⟨s1,s2,s3,s4,s5,p1.isList,p2.isList⟩ fun T vals h' tk hP hT hTup hMid kk=>?_
    refine ⟨_,rfl,W.go es k tp i T _ _ _ hMid fun h'' st'' kk2=>?_⟩
    obtain ⟨u1,u2,hu1,hu2,rfl⟩:=hP
    obtain ⟨w1,hw1,r1⟩:=rv1.get hx
    obtain ⟨w2,hw2,r2⟩:=rv2.get hy
    have e1 : u1 = w1 := by have:its1[i]?=some u1:=by simpa using hu1
                            rw [hw1] at this;exact (Option.some.inj this).symm
    have e2 : u2 = w2 := by have:its2[i]?=some u2:=by simpa using hu2
                            rw [hw2] at this;exact (Option.some.inj this).symm
    subst e1 e2
    have hTn:H T=none:=I.hok.fresh hT
    have Twr:T ∉ [z,TO,i1,i2]:=W.apart i T _ hMid
    have keep2:∀ c o,c ∉ [z,TO,i1,i2]→s.heap.get? c=some o→h''.get? c=some o:=fun c o hc e=>kk2 c o hc (kk c o hc e)
    have frOf:∀ c ∈ [z,TO,i1,i2],c ∈ [z,TI,TO,i1,i2]:=fun c hc=>by simp at hc ⊢;rcases hc with rfl | rfl | rfl | rfl <;> simp
    have nwr:∀ c u,H c=some u→c ∉ [z,TO,i1,i2]:=fun c u e hc=>by rw [(hf c (frOf c hc)).1] at e;cases e
    have hTup2:IsTup h'' T #[u1,u2]:=by
      obtain ⟨o,e,r⟩:=hTup
      exact ⟨o,kk2 T o Twr e,r⟩
    have I2:Inv X pins σ (upd H T (.tup [x,y])) { s with heap:=h'',toks:=tk }:=by
      refine I.step (g':=s.gens) (d':=s.drawn) (ch:=[z,TO,i1,i2]) (fun c hc=>?_) (fun c o _ _ hc e _=>keep2 c o hc e) (fun c o _ _ hc e _=>⟨o.slots,keep2 c o hc e⟩) (fun c o hc e n=>?_) (fun c o hc e=>⟨o,keep2 c o hc e⟩)
        (fun c xs e=>?_) (fun c o xs e=>?_) (fun c ps e=>⟨#[],?_⟩) (fun m hm=>?_) ?_ I.bare
      · obtain ⟨g0,g1,g2,g3,g4,g5⟩:=hf c (frOf c hc)
        exact ⟨g3,g1,g4,g5⟩
      · rw [upd_ne (Nat.ne_of_lt (Nat.lt_of_lt_of_le (Heap.lt_size e) hT))];exact n
      · rw [upd_ne (ne_of_none e hTn)];exact e
      · rw [upd_ne (ne_of_none e hTn)];exact e
      · rw [upd_ne (ne_of_none e hTn),e];simp
      · obtain ⟨o,es,ep,ho,r⟩:=hm
        refine ⟨o,es,ep,keep2 _ o (fun hc=>?_) ho,r⟩
        exact (hf _ (frOf _ hc)).2.1 rfl
      · intro c u e
        by_cases hcT:c=T
        · subst hcT
          rw [upd_same] at e
          cases e
          exact ⟨by show 2≤sizeLine;rw [sizeLine_eq];decide,[u1,u2],.cons r1 (.cons r2 .nil),hTup2⟩
        · rw [upd_ne hcT] at e
          refine (I.hok c u e).stay (fun d v hd q=>keep2 d v ?_ q) (fun d q=>by rw [upd_ne (ne_of_none q hTn)];exact q) fun d xs q=>by rw [upd_ne (ne_of_none q hTn)];exact q
          rcases hd with rfl | hd
          · exact nwr d u e
          · exact nwr d _ hd
    obtain ⟨t1,t2,t3,t4,t5,_⟩:=st''
    refine ⟨.ref T,_,I2,rfl,⟨T,rfl,hTn,fun xs' ys' h1' h2'=>⟨x,y,?_,?_,rfl⟩⟩,⟨t1,t2,t3,t4,t5⟩,fun c hc=>?_⟩
    · rw [I.list_inj h1' h1];exact hx
    · rw [I.list_inj h2' h2];exact hy
    · obtain ⟨o,eo,_⟩:∃ o,s.heap.get? c=some o∧True:=by
        simp at hc
        obtain ⟨x',y',s3⟩:=s3
        rcases hc with rfl | rfl | rfl | rfl | rfl
        · exact ⟨_,s1,trivial⟩
        · exact ⟨_,s2,trivial⟩
        · exact ⟨_,s3,trivial⟩
        · obtain ⟨o,e,_⟩:=s4;exact ⟨o,e,trivial⟩
        · obtain ⟨o,e,_⟩:=s5;exact ⟨o,e,trivial⟩
      rw [upd_ne (Nat.ne_of_lt (Nat.lt_of_lt_of_le (Heap.lt_size eo) hT))]
      exact (hf c hc).1
  done := by
    intro X hP hw hK hc i pins s σ H E I hf st hg
    subst hP hw hK
    obtain ⟨xs,ys,h1,h2,hi⟩:=hg
    obtain ⟨its1,rv1,p1,_⟩:=I.list h1
    obtain ⟨its2,rv2,p2,_⟩:=I.list h2
    have W:=WalksT.zip2 (prog:=X.prog) (w:=X.w) (I.ok.hd hc) z TI TO i1 i2 a b D its1.toArray its2.toArray
    obtain ⟨s1,s2,s3,s4,s5⟩:=st
    have en:min its1.toArray.size its2.toArray.size=i:=by
      have:=rv1.length
      have:=rv2.length
      simp;omega
    refine W.done s _ _ (by rw [en];exact ⟨s1,s2,s3,s4,s5,p1.isList,p2.isList⟩) fun h' tk kk=>⟨rfl,?_⟩
    have frOf:∀ c ∈ [z,TO,i1,i2],c ∈ [z,TI,TO,i1,i2]:=fun c hc=>by simp at hc ⊢;rcases hc with rfl | rfl | rfl | rfl <;> simp
    have nwr:∀ c u,H c=some u→c ∉ [z,TO,i1,i2]:=fun c u e hc=>by rw [(hf c (frOf c hc)).1] at e;cases e
    refine I.step (g':=s.gens) (d':=s.drawn) (ch:=[z,TO,i1,i2]) (fun c hc=>?_) (fun c o _ _ hc e _=>kk c o hc e) (fun c o _ _ hc e _=>⟨o.slots,kk c o hc e⟩) (fun c o hc e n=>n) (fun c o hc e=>⟨o,kk c o hc e⟩)
        (fun c xs e=>e) (fun c o xs e=>e) (fun c ps e=>⟨#[],by rw [e];simp⟩) (fun m hm=>?_) ?_ I.bare
    · obtain ⟨g0,g1,g2,g3,g4,g5⟩:=hf c (frOf c hc)
      exact ⟨g3,g1,g4,g5⟩
    · obtain ⟨o,es,ep,ho,r⟩:=hm
      refine ⟨o,es,ep,kk _ o (fun hc=>?_) ho,r⟩
      exact (hf _ (frOf _ hc)).2.1 rfl
    · intro c u e
      refine (I.hok c u e).stay (fun d v hd q=>kk d v ?_ q) (fun d q=>q) fun d xs q=>q
      rcases hd with rfl | hd
      · exact nwr d u e
      · exact nwr d _ hd
  self:=fun A i s Q E st h=>by
    exact wpAny_pyIter_zip st.1 h
def iZip (K:PySem.W.Frag) (ta:TA):TI:=fun σ H R=>ta σ H fun vs H1=>∃ a b,vs=[.ref a,.ref b]∧(∃ xs,SqL K H1 a xs)∧(∃ ys,SqL K H1 b ys)∧R (Itz K a b) H1
theorem pi_zip {a b:Expr} {ta:TA} {p pos tp:Pos} {es:List Expr} {k:Nat} (hg:Gl X "zip") (hm:X.mg "zip"=none) (ha:PA X [a,b] ta) (hs:starEach [a,b] X.env=[(false,eval a X.env),(false,eval b X.env)]:=by rfl) (hs2:starEach [b] X.env=[(false,eval b X.env)]:=by rfl) :
    PI X (.Tuple es k tp) (.Call (.Name "zip" p) [a,b] [] pos) (iZip X.K ta):=by
  intro pins s σ H R I h
  refine Call_ (ld_blt I hg hm boot_zip (PyProof.Rows.callWith_type1 (thn (ha pos pins s σ H _ I h) fun us s1 ⟨vs,H1,I1,r1,q1⟩=>?_) (by rw [hs,hs2]) (by rw [hs2];rfl)))
  obtain ⟨a',b',e,⟨xs,h1⟩,⟨ys,h2⟩,q⟩:=q1
  subst e
  obtain ⟨u,w',rfl,ru,rw'⟩:=vals2 r1
  cases ru
  cases rw'
  obtain ⟨its1,rv1,p1,_⟩:=I1.list h1
  obtain ⟨its2,rv2,p2,_⟩:=I1.list h2
  have a1:a' < s1.heap.objs.size:=by obtain ⟨_,e,_⟩:=p1.isList;exact Heap.lt_size e
  have a2:b' < s1.heap.objs.size:=by obtain ⟨_,e,_⟩:=p2.isList;exact Heap.lt_size e
  refine call_zip_2 p1.isList p2.isList fun h' hz hTI hTO hi1 hi2 _ hk=>?_
  refine wpAny_pyIter_zip hz ?_
  refine ⟨_,_,_,_,H1,rfl,I1.kept (t':=s1.toks) hk,turn_zip _ _ _ _ _ a' b' (zipApart_new a1 a2),⟨hz,hTI,⟨_,_,hTO⟩,hi1,hi2⟩,fun c hc=>?_,q⟩
  have hle:s1.heap.objs.size≤c:=by
    simp at hc
    rcases hc with rfl | rfl | rfl | rfl | rfl
    · exact Nat.le_add_right _ _
    · exact Nat.le_add_right _ _
    · exact Nat.le_add_right _ _
    · exact Nat.le_refl _
    · exact Nat.le_add_right _ _
  exact I1.fpOk hle (I1.hok.fresh hle)
end
end L2
namespace L2
open PySem PySem.Spec PyProof.Rows
section
variable {X:Cx}
def eqLs (xs ys:List V):Bool:=(xs.length == ys.length)&&(List.zipWith eqV xs ys).all id
theorem zip_all:∀ (xs ys:List V),xs.length=ys.length→((List.range xs.length).all fun j=>eqV (xs.getD j .non) (ys.getD j .non))=(List.zipWith eqV xs ys).all id:=by
  intro xs ys h
  rw [Bool.eq_iff_iff,List.all_eq_true,List.all_eq_true]
  constructor
  · intro q b hb
    obtain ⟨i,hi⟩:=List.mem_iff_getElem?.mp hb
    rw [List.getElem?_zipWith] at hi
    cases e1:xs[i]? with
    | none=>rw [e1] at hi;cases hi
    | some x =>
      cases e2:ys[i]? with
      | none=>rw [e1,e2] at hi;cases hi
      | some y =>
        rw [e1,e2] at hi
        have lt:=(List.getElem?_eq_some_iff.mp e1).1
        have z:=q i (List.mem_range.mpr lt)
        simp only [List.getD_eq_getElem?_getD,e1,e2,Option.getD_some] at z
        have hi':eqV x y=b:=by simpa using hi
        rw [← hi',id,z]
  · intro q i hi
    have lt:=List.mem_range.mp hi
    have lt2:i < ys.length:=by omega
    have e1:=List.getElem?_eq_getElem lt
    have e2:=List.getElem?_eq_getElem lt2
    have m:eqV xs[i] ys[i] ∈ List.zipWith eqV xs ys:=by
      refine List.mem_iff_getElem?.mpr ⟨i,?_⟩
      rw [List.getElem?_zipWith,e1,e2]
    have z:=q _ m
    simp only [List.getD_eq_getElem?_getD,e1,e2,Option.getD_some]
    simpa using z
def rEqL (K:PySem.W.Frag) (neg:Bool):R2:=fun x y H Q=>∃ p q xs ys,x=.ref p∧y=.ref q∧SqL K H p xs∧SqL K H q ys∧xs.all flatV=true∧ys.all flatV=true∧Q (.bl (if neg then !eqLs xs ys else eqLs xs ys)) H
theorem op_eqL (hu:X.A.units < cLine):OpR X (compareOp .Eq) (rEqL X.K false):=by
  intro pins s σ H x y v u Q I rx ry h
  obtain ⟨p,q,xs,ys,rfl,rfl,h1,h2,f1,f2,k⟩:=h
  cases rx
  cases ry
  obtain ⟨its1,r1,p1,_⟩:=I.list h1
  obtain ⟨its2,r2,p2,_⟩:=I.list h2
  by_cases hl:xs.length=ys.length
  · refine SeqAt.eq_listAt (e:=fun j=>eqV (xs.getD j .non) (ys.getD j .non)) p1.isList p2.isList (by simp only [List.size_toArray];rw [← r1.length,← r2.length];exact hl) hu (fun j j1 j2=>?_) ⟨.bl _,H,I,rfl,?_⟩
    · have l1:j < xs.length:=by rw [r1.length];simpa using j1
      have l2:j < ys.length:=by rw [r2.length];simpa using j2
      obtain ⟨u1,e1,ru1⟩:=r1.get (List.getElem?_eq_getElem l1)
      obtain ⟨u2,e2,ru2⟩:=r2.get (List.getElem?_eq_getElem l2)
      have a1:its1.toArray[j]=u1:=by
        have:its1[j]?=some its1.toArray[j]:=by simp
        rw [e1] at this;exact (Option.some.inj this).symm
      have a2:its2.toArray[j]=u2:=by
        have:its2[j]?=some its2.toArray[j]:=by simp
        rw [e2] at this;exact (Option.some.inj this).symm
      rw [a1,a2]
      have g1:xs.getD j .non=xs[j]:=by simp [List.getD_eq_getElem?_getD,List.getElem?_eq_getElem l1]
      have g2:ys.getD j .non=ys[j]:=by simp [List.getD_eq_getElem?_getD,List.getElem?_eq_getElem l2]
      show SeqAt.EqAt X.A.in1 s u1 u2 (eqV (xs.getD j .non) (ys.getD j .non))
      rw [g1,g2]
      exact eqAt_V ru1 ru2 (List.all_eq_true.mp f1 _ (List.getElem_mem l1)) (List.all_eq_true.mp f2 _ (List.getElem_mem l2))
    · have es:its1.toArray.size=xs.length:=by rw [List.size_toArray];exact r1.length.symm
      rw [es,zip_all xs ys hl]
      have k':Q (.bl (eqLs xs ys)) H:=k
      unfold eqLs at k'
      rw [hl] at k'
      simpa using k'
  · refine SeqAt.eq_list_lengthsAt p1.isList p2.isList ?_ hu ⟨.bl false,H,I,rfl,?_⟩
    · simp only [List.size_toArray];rw [← r1.length,← r2.length];simpa using hl
    · have k':Q (.bl (eqLs xs ys)) H:=k
      unfold eqLs at k'
      have:(xs.length == ys.length)=false:=by simpa using hl
      rw [this,Bool.false_and] at k'
      exact k'
end
end L2
namespace L2
open PySem PySem.Spec PyProof.Rows
def ExAt (B:Heap) (e:Addr) (c:Value) (dc:Option Addr) (a0:Value) (st:Option Value) (h:Heap):Prop :=
  ∃ vs:Array Value,h.get? e=some ⟨c,dc,.fields vs,#[]⟩∧vs.size=6∧vs[0]?=some a0 ∧
    match st with
    | none=>vs[1]?=some .none
    | some fl=>∃ (T:Addr) (oT:Obj) (ts:Array Value),vs[1]?=some (.ref T)∧B.get? T=none∧T≠e∧h.get? T=some oT∧oT.data=.fields ts∧3 < ts.size∧ts[3]?=some fl
structure Fl (B:Heap) (l:List Env) (e:Addr) (c:Value) (dc:Option Addr) (a0:Value) (st:Option Value) (h:Heap):Prop where
  stays:B.StaysIn h
  ne:B.get? e=none
  frs:h.FunFrames B l
  ex:ExAt B e c dc a0 st h
section
variable {M:Model} {A:Around} {E:Value→Shared→Prop} {s:Shared} {B:Heap} {l:List Env} {env:Env} {outer:List Env} {e L:Addr} {c a0:Value} {dc:Option Addr} {st:Option Value} {Q:Unit→Shared→Prop}
theorem fl_set {fl:Value} (F:Fl B l e c dc a0 (some fl) s.heap) (h:∀ h',Fl B l e c dc a0 (some .none) h'→s.heap.UpToSlots h'→Q () { s with heap:=h' }):wpAny M A (setFlight (.ref e) none) Q E s:=by
  obtain ⟨f1,f2,f3,vs,he,hz,h0,T,oT,ts,h1,hBT,hTe,hT,hd,h3,hfl⟩:=F
  unfold setFlight
  refine wpAny_bind (wpAny_field he rfl h1 ?_)
  rw [if_pos (show (Value.ref T != Value.none)=true by simp)]
  have oth:∀ b,b≠T→∀ f,(s.heap.update T f).get? b=s.heap.get? b:=fun b hb f=>Heap.get?_update_other _ _ (Ne.symm hb)
  have hup:∀ b o,s.heap.get? b=some o→(∀ vs,o.data≠.fields vs)→b≠T:=fun b o hb hn z=>by
    rw [z,hT] at hb;cases hb;exact hn ts hd
  refine wpAny_setField hT hd h3 (h _ ⟨fun b o q=>?_,f2,f3.of_keeps fun b o q hn=>⟨o,by rw [oth b (hup b o q hn)];exact q,rfl⟩,vs,?_,hz,h0,T,_,_,h1,hBT,hTe,Heap.get?_update_self _ hT (Obj.isFreed_of_fields (Obj.data_mapFields hd _)),Obj.data_mapFields hd _,by simpa using h3,by simp [h3]⟩ fun b o q hn=>⟨o.slots,by rw [oth b (hup b o q hn)];exact q⟩)
  · rw [oth b fun z=>by rw [z,hBT] at q;cases q];exact f1 b o q
  · rw [oth e (Ne.symm hTe)];exact he
theorem fl_entry {head:Value} {hadNext:Bool} (hfr:A.frames=some (env :: outer)) (hf:env.frame=some L) (f1:B.StaysIn s.heap) (f2:B.get? e=none) (f3:s.heap.FunFrames B (env :: outer)) {vs:Array Value}
    (he:s.heap.get? e=some ⟨c,dc,.fields vs,#[]⟩) (hz:vs.size=6) (h0:vs[0]?=some a0)
    (h:∀ h',Fl B (env :: outer) e c dc a0 (some (rawInt L)) h'→s.heap.UpToSlots h'→Q () { s with heap:=h' }) :
    wpAny M A (do let a ← frameOf env;let pl ← entryPlaceOf L hadNext;let b ← EntryCells.newEntry head a .none (rawInt L) .none pl;setField (.ref e) 1 b) Q E s:=by
  refine wpAny_bind (wpAny_frameOf_fun hfr f3 hf fun h1 hs1=>?_)
  refine wpAny_bind (wpAny_entryPlaceOf fun pl hpl=>?_)
  unfold EntryCells.newEntry newFields
  refine wpAny_bind (wpAny_newObj_type ?_ (hpl.sizeOk5 _ _ _ _ _))
  have nfr:∀ b o ws,s.heap.get? b=some o→o.data=.fields ws→h1.get? b=some o:=fun b o ws q hd=>by
    refine (hs1.2.1 b fun hm=>?_).trans q
    obtain ⟨_,o',ho',hn⟩:=f3.mem hm
    rw [q] at ho';cases ho';exact hn ws hd
  have he1:=nfr e _ vs he rfl
  have kb:B.StaysIn h1:=fun b o q=>(hs1.2.1 b fun hm=>by rw [(f3.mem hm).1] at q;cases q).trans (f1 b o q)
  generalize hN:({ cls:=.type "traceback",dict:=none,data:=.fields ([head,.ref L,.none,rawInt L,.none]++(if pl.isEmpty then List.replicate 6 Value.none else pl)).toArray }:Obj)=nT
  have hTe:h1.objs.size≠e:=Nat.ne_of_gt (Heap.lt_size he1)
  have he2:(h1.push nT).get? e=some ⟨c,dc,.fields vs,#[]⟩:=Heap.get?_push_of_some _ he1
  have oth:∀ b o,b≠e→h1.get? b=some o→∀ f,((h1.push nT).update e f).get? b=some o:=fun b o hb q f=>by
    rw [Heap.get?_update_other _ _ (Ne.symm hb)];exact Heap.get?_push_of_some _ q
  refine wpAny_setField he2 rfl (by omega) (h _ ⟨fun b o q=>oth b o (fun z=>by rw [z,f2] at q;cases q) (kb b o q) _,f2,f3.of_keeps fun b o q hn=>?_,vs.setIfInBounds 1 (.ref h1.objs.size),?_,by simpa using hz,?_,h1.objs.size,nT,_,?_,?_,hTe,?_,by rw [← hN],?_,?_⟩ fun b o q hn=>?_)
  · obtain ⟨sl,z⟩:=hs1.2.2 b o q
    exact ⟨_,oth b _ (fun y=>by rw [y,he] at q;cases q;exact hn vs rfl) z _,rfl⟩
  · rw [Heap.get?_update_self _ he2 rfl];rfl
  · rw [Array.getElem?_setIfInBounds_ne (by decide)];exact h0
  · simp [hz]
  · cases q:B.get? h1.objs.size with
    | none=>rfl
    | some o=>exact absurd (Heap.lt_size (kb _ o q)) (Nat.lt_irrefl _)
  · rw [Heap.get?_update_other _ _ (Ne.symm hTe)]
    exact Heap.get?_push_size _ (by rw [← hN];rfl)
  · simp
  · simp
  · obtain ⟨sl,z⟩:=hs1.2.2 b o q
    exact ⟨sl,oth b _ (fun y=>by rw [y,he] at q;cases q;exact hn vs rfl) z _⟩
theorem fl_note (hfr:A.frames=some (env :: outer)) (hf:env.frame=some L) (F:Fl B (env :: outer) e c dc a0 st s.heap) (hst:st=none∨st=some .none)
    (h:∀ h',Fl B (env :: outer) e c dc a0 (some (rawInt L)) h'→s.heap.UpToSlots h'→Q () { s with heap:=h' }):wpAny M A (noteFrame (.ref e) env) Q E s:=by
  obtain ⟨f1,f2,f3,vs,he,hz,h0,r⟩:=F
  unfold noteFrame
  simp only [hf]
  rcases hst with rfl | rfl
  · have r':vs[1]?=some .none:=r
    refine wpAny_bind (wpAny_field he rfl r' ?_)
    rw [if_neg (by decide)]
    exact fl_entry hfr hf f1 f2 f3 he hz h0 h
  · obtain ⟨T,oT,ts,h1,hBT,hTe,hT,hd,h3,hfl⟩:=r
    refine wpAny_bind (wpAny_field he rfl h1 ?_)
    rw [if_pos (show (Value.ref T != Value.none)=true by simp)]
    refine wpAny_bind (wpAny_field hT hd hfl ?_)
    rw [if_neg (show ¬ ((Value.none == rawInt L)=true) by simp [rawInt])]
    refine wpAny_bind (wpAny_setField hT hd h3 ?_)
    have oth:∀ b,b≠T→∀ f,(s.heap.update T f).get? b=s.heap.get? b:=fun b hb f=>Heap.get?_update_other _ _ (Ne.symm hb)
    have hup:∀ b o,s.heap.get? b=some o→(∀ vs,o.data≠.fields vs)→b≠T:=fun b o hb hn z=>by
      rw [z,hT] at hb;cases hb;exact hn ts hd
    refine fl_entry (s:={ s with heap:=s.heap.update T _ }) hfr hf (fun b o q=>?_) f2 (f3.of_keeps fun b o q hn=>⟨o,by rw [oth b (hup b o q hn)];exact q,rfl⟩) (by rw [oth e (Ne.symm hTe)];exact he) hz h0 fun h' F' u=>h h' F' fun b o q hn=>u b o (by rw [oth b (hup b o q hn)];exact q) hn
    rw [oth b fun z=>by rw [z,hBT] at q;cases q];exact f1 b o q
theorem fl_leave (hfr:A.frames=some (env :: outer)) (hf:env.frame=some L) (F:Fl B (env :: outer) e c dc a0 st s.heap) (hst:st=none∨st=some .none)
    (h:∀ h',Fl B outer e c dc a0 (some .none) h'→s.heap.UpToSlots h'→Q () { s with heap:=h' }):wpAny M A (leaving env (.ref e)) Q E s:=by
  unfold leaving
  refine wpAny_bind (fl_note hfr hf F hst fun h1 F1 u1=>fl_set (s:={ s with heap:=h1 }) F1 fun h2 F2 u2=>?_)
  obtain ⟨k1,k2,⟨_,_,k3⟩,k4⟩:=F2
  exact h h2 ⟨k1,k2,k3,k4⟩ (u1.trans u2)
end
structure XUn (l:List Env) (H H':Hp) (h0 B h:Heap):Prop where
  keep:∀ b o,h0.get? b=some o→H b=none→b ∉ frs l→B.get? b=some o
  slot:∀ b o,h0.get? b=some o→H b=none→b ∈ frs l→∃ sl,h.get? b=some { o with slots:=sl }
  free:∀ b o,h0.get? b=some o→H b=none→H' b=none
  there:∀ b o,h0.get? b=some o→b ∉ frs l→∃ o',B.get? b=some o'
  fthere:∀ b o,h0.get? b=some o→b ∈ frs l→∃ o',h.get? b=some o'
  tups:∀ b xs,H b=some (.tup xs)→H' b=some (.tup xs)
  frzs:∀ b o u,H b=some (.frz o u)→H' b=some (.frz o u)
  tbls:∀ b ps,H b=some (.tbl ps)→∃ more,H' b=some (.tbl (ps++more))
theorem XUn.un {l:List Env} {H H':Hp} {h0 B h:Heap} (x:XUn l H H' h0 B h) (st:B.StaysIn h):Un (frs l) [] H H' h0 h :=
  ⟨fun b o q n hb _=>st b o (x.keep b o q n hb),fun b o q n hb _=>x.slot b o q n hb,fun b o q n _=>x.free b o q n,fun b o q _=>by
    by_cases hb:b ∈ frs l
    · exact x.fthere b o q hb
    · obtain ⟨o',z⟩:=x.there b o q hb
      exact ⟨o',st b o' z⟩,x.tups,x.frzs,x.tbls⟩
def CX1 (P:Program) (w:World):CXT:=fun outer H s E e s' =>
  ∃ (ea t C:Addr) (dx:Option Addr) (H':Hp) (B:Heap),e=.ref ea∧s'.os=s.os∧AllBare s'.gens∧Fl B outer ea (.ref C) dx (.ref t) (some .none) s'.heap∧HOk P w H' B∧XUn outer H H' s.heap B s'.heap∧H' ea=none∧s.heap.objs.size≤ea∧E (.ref C) dx H'
section
variable {P:Program} {w:World} {K:PySem.W.Frag} {mg:Str→Option Value} {base:Heap} {N:List Str} {qual:Str} {scope:Scope} {f:Addr} {cd:Value} {A:Around} {outer:List Env} {s0:Shared} {H0:Hp} {E:XK}
theorem pass1:Passes (CX1 P w) (cxOf (CX1 P w) P w K mg base N qual scope f cd A outer s0 H0 E) E:=by
  intro pins σ H s e s' I h
  obtain ⟨ea,t,C,dx,H',B,rfl,ho,hg,F,hok,x,hn,hea,q⟩:=h
  have hfr:(A.deeper (envOfC qual scope s0.heap.objs.size f cd)).frames=some (envOfC qual scope s0.heap.objs.size f cd :: outer):=I.ok.frames
  show wpAny (model P w) (A.deeper (envOfC qual scope s0.heap.objs.size f cd)) (leaving (envOfC qual scope s0.heap.objs.size f cd) (.ref ea)) _ _ s'
  refine fl_leave hfr rfl F (.inr rfl) fun h' F' u'=>?_
  have ab:∀ b o,s0.heap.get? b=some o→b≠s0.heap.objs.size:=fun b o q=>Nat.ne_of_lt (Heap.lt_size q)
  have I0:Un (frs outer) [] H0 H s0.heap s.heap:=I.base
  have nst:∀ b o,s0.heap.get? b=some o→b ∉ frs outer→b ∉ frs (envOfC qual scope s0.heap.objs.size f cd :: outer):=fun b o q hb hm=>by
    unfold frs at hm
    rw [List.filterMap_cons] at hm
    rcases List.mem_cons.mp hm with z | z
    · exact ab b o q z
    · exact hb z
  have sub:∀ b,b ∈ frs outer→b ∈ frs (envOfC qual scope s0.heap.objs.size f cd :: outer):=fun b hb=>by
    unfold frs
    rw [List.filterMap_cons]
    exact List.mem_cons_of_mem _ hb
  have fro:∀ b,b ∈ frs outer→∀ o,s'.heap.get? b=some o→∀ vs,o.data≠.fields vs:=fun b hb o q vs hd=>by
    obtain ⟨_,o',ho',hn'⟩:=F.frs.mem (sub b hb)
    rw [q] at ho';cases ho';exact hn' vs hd
  refine ⟨ea,t,C,dx,H',B,rfl,ho.trans I.os,hg,F',hok,⟨fun b o q n hb=>?_,fun b o q n hb=>?_,fun b o q n=>?_,fun b o q hb=>?_,fun b o q hb=>?_,fun b xs q=>x.tups b xs (I0.tups b xs q),fun b o u q=>x.frzs b o u (I0.frzs b o u q),fun b ps q=>?_⟩,hn,Nat.le_trans (Nat.le_trans I.sz (Nat.le_refl _)) hea,q⟩
  · exact x.keep b o (I0.keep b o q n hb (by simp)) (I0.free b o q n (by simp)) (nst b o q hb)
  · obtain ⟨sl,z⟩:=I0.slot b o q n hb (by simp)
    obtain ⟨sl2,z2⟩:=x.slot b _ z (I0.free b o q n (by simp)) (sub b hb)
    obtain ⟨sl3,z3⟩:=u' b _ z2 (fro b hb _ z2)
    exact ⟨sl3,z3⟩
  · obtain ⟨o',z⟩:=I0.there b o q (by simp)
    exact x.free b o' z (I0.free b o q n (by simp))
  · obtain ⟨o',z⟩:=I0.there b o q (by simp)
    exact x.there b o' z (nst b o q hb)
  · obtain ⟨o',z⟩:=I0.there b o q (by simp)
    obtain ⟨o2,z2⟩:=x.fthere b o' z (sub b hb)
    obtain ⟨sl,z3⟩:=u' b _ z2 (fro b hb _ z2)
    exact ⟨_,z3⟩
  · obtain ⟨m1,e1⟩:=I0.tbls b ps q
    obtain ⟨m2,e2⟩:=x.tbls b _ e1
    exact ⟨m1++m2,by rw [e2,Array.append_assoc]⟩
def XO (C t:Addr) (dx:Option Addr) (e:Addr):HO:=.ext fun h=>h.get? e=some ⟨.ref C,dx,.fields #[.ref t,.none,.none,.none,.bool false,.none],#[]⟩
def rm (H:Hp) (e:Addr):Hp:=fun b=>if b=e then none else H b
theorem rm_self {H:Hp} {e:Addr}:rm H e e=none:=by unfold rm;rw [if_pos rfl]
theorem rm_ne {H:Hp} {e b:Addr} (h:b≠e):rm H e b=H b:=by unfold rm;rw [if_neg h]
theorem xe_raise {pins:List (Addr × Obj)} {σ:St} {H:Hp} {s:Shared} {e C t:Addr} {dx:Option Addr} (I:Inv (cxOf (CX1 P w) P w K mg base N qual scope f cd A outer s0 H0 E) pins σ H s) (he:H e=some (XO C t dx e)) (hnew:s0.heap.objs.size≤e)
    (q:E (.ref C) dx (rm H e)):(cxOf (CX1 P w) P w K mg base N qual scope f cd A outer s0 H0 E).xe (.ref e) s:=by
  have hfr:(A.deeper (envOfC qual scope s0.heap.objs.size f cd)).frames=some (envOfC qual scope s0.heap.objs.size f cd :: outer):=I.ok.frames
  show wpAny (model P w) (A.deeper (envOfC qual scope s0.heap.objs.size f cd)) (leaving (envOfC qual scope s0.heap.objs.size f cd) (.ref e)) _ _ s
  obtain ⟨hφ,_,_⟩:(s.heap.get? e=some ⟨.ref C,dx,.fields #[.ref t,.none,.none,.none,.bool false,.none],#[]⟩)∧_∧_:=I.hok e _ he
  let hid:List Addr:=e :: frs (envOfC qual scope s0.heap.objs.size f cd :: outer)
  have st:(PySem.W.hideAll s.heap hid).StaysIn s.heap:=fun b o q=>PySem.W.of_hideAll _ q
  have hB:∀ b o,s.heap.get? b=some o→b ∉ hid→(PySem.W.hideAll s.heap hid).get? b=some o:=fun b o q hb=>PySem.W.hideAll_get _ q hb
  have hBn:∀ b,b ∈ hid→(PySem.W.hideAll s.heap hid).get? b=none:=fun b hb=>PySem.W.hideAll_none _ hb
  have stk:s.heap.FunFrames base (envOfC qual scope s0.heap.objs.size f cd :: outer):=I.stack
  have hfun:s.heap.FunFrames (PySem.W.hideAll s.heap hid) (envOfC qual scope s0.heap.objs.size f cd :: outer) :=
    PySem.W.funFrames_hide stk fun env he' b hb=>List.mem_cons_of_mem _ (List.mem_filterMap.mpr ⟨env,he',hb⟩)
  have hfree:∀ b ∈ frs (envOfC qual scope s0.heap.objs.size f cd :: outer),H b=none:=I.stkFree
  refine fl_leave hfr rfl (st:=none) ⟨st,hBn e (List.mem_cons_self ..),hfun,_,hφ,rfl,rfl,rfl⟩ (.inl rfl) fun h' F' u'=>?_
  have ab:∀ b o,s0.heap.get? b=some o→b≠s0.heap.objs.size:=fun b o q=>Nat.ne_of_lt (Heap.lt_size q)
  have I0:Un (frs outer) [] H0 H s0.heap s.heap:=I.base
  have ne:∀ b o,s0.heap.get? b=some o→b≠e:=fun b o q=>Nat.ne_of_lt (Nat.lt_of_lt_of_le (Heap.lt_size q) hnew)
  have nh:∀ b o,s0.heap.get? b=some o→b ∉ frs outer→b ∉ hid:=fun b o q hb hm=>by
    rcases List.mem_cons.mp hm with z | z
    · exact ne b o q z
    · unfold frs at z
      rw [List.filterMap_cons] at z
      rcases List.mem_cons.mp z with z | z
      · exact ab b o q z
      · exact hb z
  have fro:∀ b,b ∈ frs outer→∀ o,s.heap.get? b=some o→∀ vs,o.data≠.fields vs:=fun b hb o q vs hd=>by
    obtain ⟨_,o',ho',hn'⟩:=stk.mem (b:=b) (by rw [List.filterMap_cons];exact List.mem_cons_of_mem _ hb)
    rw [q] at ho';cases ho';exact hn' vs hd
  refine ⟨e,t,C,dx,rm H e,PySem.W.hideAll s.heap hid,rfl,I.os,I.bare,F',fun b o q=>?_,⟨fun b o q n hb=>?_,fun b o q n hb=>?_,fun b o q n=>?_,fun b o q hb=>?_,fun b o q hb=>?_,fun b xs q=>?_,fun b o u q=>?_,fun b ps q=>?_⟩,rm_self,hnew,q⟩
  · have hbe:b≠e:=fun z=>by rw [z,rm_self] at q;cases q
    rw [rm_ne hbe] at q
    refine (I.hok b o q).stay (fun c v hc z=>hB c v z fun hm=>?_) (fun c z=>?_) fun c xs z=>?_
    · rcases List.mem_cons.mp hm with y | y
      · subst y
        rcases hc with y | y
        · exact hbe y.symm
        · rw [he] at y;cases y
      · have:=hfree c y
        rcases hc with y' | y'
        · rw [y',q] at this;cases this
        · rw [y'] at this;cases this
    · rw [rm_ne fun y=>by rw [y,he] at z;cases z];exact z
    · rw [rm_ne fun y=>by rw [y,he] at z;cases z];exact z
  · exact hB b o (I0.keep b o q n hb (by simp)) (nh b o q hb)
  · obtain ⟨sl,z⟩:=I0.slot b o q n hb (by simp)
    obtain ⟨sl2,z2⟩:=u' b _ z (fro b hb _ z)
    exact ⟨sl2,z2⟩
  · rw [rm_ne (ne b o q)];exact I0.free b o q n (by simp)
  · obtain ⟨o',z⟩:=I0.there b o q (by simp)
    exact ⟨o',hB b o' z (nh b o q hb)⟩
  · obtain ⟨o',z⟩:=I0.there b o q (by simp)
    obtain ⟨sl2,z2⟩:=u' b _ z (fro b hb _ z)
    exact ⟨_,z2⟩
  · have z:=I0.tups b xs q
    rw [rm_ne fun y=>by rw [y,he] at z;cases z];exact z
  · have z:=I0.frzs b o u q
    rw [rm_ne fun y=>by rw [y,he] at z;cases z];exact z
  · obtain ⟨m,z⟩:=I0.tbls b ps q
    exact ⟨m,by rw [rm_ne fun y=>by rw [y,he] at z;cases z];exact z⟩
end
end L2
namespace L2
open PySem PySem.Spec PyProof.Rows PySem.W PySem.Builtin PySem.Builtin.ObjectAttr
structure XCls (K:PySem.W.Frag) (C:Addr) (cd:ClassData) (f:Addr):Prop where
  cls:PySem.W.clsIn K C=some cd
  dct:cd.hasDict=true
  own:∃ pre,cd.mro=pre++[.type "ValueError",.type "Exception",.type "BaseException",.type "object"]∧∀ v ∈ pre,∃ c,v=Value.ref c
  setA:PySem.W.findIn K (.ref C) "__setattr__"=some (some (.builtin "object.__setattr__"))
section
variable {prog:Program} {w:World} {K:PySem.W.Frag} {A:Around} {E:Value→Shared→Prop} {s:Shared} {e C f:Addr} {cd:ClassData} {name:Str} {v:Value} {vs:Array Value}
theorem refuse_exc (self:Value):∀ (pre:List Value),(∀ v ∈ pre,∃ c,v=Value.ref c)→refuseLoop self "__setattr__" (pre++[.type "ValueError",.type "Exception",.type "BaseException",.type "object"])=pure ()
  | [],_=>by kernel_rfl
  | v :: r,h=>by
    obtain ⟨c,rfl⟩:=h v (List.mem_cons_self ..)
    rw [List.cons_append,refuseLoop_ref]
    exact refuse_exc self r fun v hv=>h v (List.mem_cons_of_mem _ hv)
theorem sub_object (XC:XCls K C cd f):cd.mro.contains (.type "object")=true∧cd.mro.isEmpty=false:=by
  obtain ⟨pre,e,_⟩:=XC.own
  rw [e]
  refine ⟨?_,by cases pre <;> rfl⟩
  rw [List.contains_iff_mem]
  exact List.mem_append_right _ (by simp)
theorem set_exc {Q:Unit→Shared→Prop} (KI:K.In s.heap) (XC:XCls K C cd f) (he:s.heap.get? e=some ⟨.ref C,none,.fields vs,#[]⟩) (ht:PySem.W.takerIn K C name=some none)
    (h:∀ (h':Heap),h'.get? e=some ⟨.ref C,some s.heap.objs.size,.fields vs,#[]⟩→h'.Ns1 s.heap.objs.size (fun x=>if x=name then some v else none)→(∀ b o,b≠e→s.heap.get? b=some o→h'.get? b=some o)→Q () { s with heap:=h',toks:=s.toks+2 }) :
    wpAny (model prog w) A (setAttr (.ref e) name v) Q E s:=by
  have II:InstAt s.heap e ⟨.ref C,none,.fields vs,#[]⟩ C none:=⟨he,rfl,rfl,trivial⟩
  refine set_plain KI II XC.setA ?_
  have SF:=PySem.F.store_object
  obtain ⟨hobj,hne⟩:=sub_object XC
  have mr:Looks (model prog w) s.heap (mroOf (.ref C)) cd.mro:=(looks_clsIn KI XC.cls).andThen .now
  have isO:Looks (model prog w) s.heap (isInstance (.ref e) (.type "object")) true :=
    II.type.andThen (looks_mroIn KI (by unfold mroIn;rw [XC.cls,Option.bind_some,if_neg (by rw [hne];decide),hobj]))
  refine codeAny_call_builtin (s:={ s with toks:=s.toks+1 }) SF.slot.plain SF.entry
    (@check_slot (model prog w) _ _ { s with toks:=s.toks+1 } "object.__setattr__" "object" "__setattr__" (.ref e) [.str name s.toks,v] [] _ SF.kind SF.split isO (SF.args (.ref e) (.str name s.toks) v) ?_)
  obtain ⟨attr,ha,hr⟩:=Option.bind_eq_some_iff.mp ht
  have tk3:Looks (model prog w) s.heap (storeTaker? attr) none:=by
    cases attr with
    | none=>cases hr;exact .now
    | some a =>
      obtain ⟨b,hb,hbe⟩:=Option.map_eq_some_iff.mp hr
      cases b with
      | true=>cases hbe
      | false=>exact (looks_takesIn KI hb).andThen .now
  rw [osa_eq,refuse_eq]
  refine wpAny_bind (wpAny_bind (Looks.here (s:={ s with toks:=s.toks+1 }) II.type (wpAny_bind (Looks.here (s:={ s with toks:=s.toks+1 }) mr ?_))))
  obtain ⟨pre,hpre,hown⟩:=XC.own
  rw [hpre,refuse_exc _ pre hown]
  refine wpAny_pure (wpAny_bind (Looks.here (s:={ s with toks:=s.toks+1 }) II.type (wpAny_bind (Looks.here (s:={ s with toks:=s.toks+1 }) (looks_findIn KI ha) (wpAny_bind (Looks.here (s:={ s with toks:=s.toks+1 }) tk3 ?_))))))
  show wpAny (model prog w) A.in1 (storeInOwnDict (.ref e) (.ref C) (.str name s.toks) name v attr.isSome) _ _ { s with toks:=s.toks+1 }
  refine wpAny_bind (wpAny_pure (wpAny_bind (wpAny_bind (wpAny_loadPart he (wpAny_bind (Looks.here (s:={ s with toks:=s.toks+1 }) (looks_clsIn KI XC.cls) ?_))))))
  rw [XC.dct]
  refine wpAny_bind (wpAny_alloc (wpAny_bind (wpAny_update (o:=⟨.ref C,none,.fields vs,#[]⟩) (Heap.get?_push_of_some _ he) (wpAny_pure ?_))))
  dsimp only
  show wpAny (model prog w) A.in1 (storeInDict s.heap.objs.size (.str name s.toks) name v) _ _ _
  have hde:e≠s.heap.objs.size:=Nat.ne_of_lt (Heap.lt_size he)
  generalize hU:((s.heap.push { cls:=.type "dict",data:=.dict #[] }).update e fun o=>{ cls:=o.cls,dict:=some s.heap.objs.size,data:=o.data,slots:=o.slots })=h1
  have he1:h1.get? e=some ⟨.ref C,some s.heap.objs.size,.fields vs,#[]⟩:=by
    rw [← hU,Heap.get?_update_self _ (Heap.get?_push_of_some _ he) rfl]
  have hd1:h1.get? s.heap.objs.size=some { cls:=.type "dict",data:=.dict #[] }:=by
    rw [← hU,Heap.get?_update_other _ _ hde];exact Heap.get?_push_size _ rfl
  have hk1:∀ b o,b≠e→s.heap.get? b=some o→h1.get? b=some o:=fun b o hb q=>by
    rw [← hU,Heap.get?_update_other _ _ (Ne.symm hb)];exact Heap.get?_push_of_some _ q
  have hn1:h1.Ns1 s.heap.objs.size (fun _=>none):=⟨_,#[],0,hd1,rfl,by intro x hx;simp at hx,by simp [UniqKeys],fun _=>rfl⟩
  unfold storeInDict newKeyGuard
  refine wpAny_bind (wpAny_pure (wpAny_bind (wpAny_nsSet1 (m:=fun _=>none) hn1 fun h2 hn2 hs2=>?_)))
  obtain ⟨od,es,ep,ho,hdd,r⟩:=hn2.count (PySem.Within.cons name v PySem.Within.nil)
  refine wpAny_bind (wpAny_lookBehind ho ?_ (wpAny_pure ?_))
  · rw [hdd]
    exact pastItsLine_dict (Nat.le_trans r (by show 1≤_;decide))
  · exact h h2 ((hs2.2 e hde).trans he1) hn2 fun b o hb q=>(hs2.2 b (Nat.ne_of_lt (Heap.lt_size q))).trans (hk1 b o hb q)
theorem make_exc {Q:Value→Shared→Prop} {nm q:Str} {N:Addr} {bs bm:List Value} {hdct:Bool} {sn:List Str} {sub:List Value} {ab:Bool} {col:Option Bool} {dd:Option Addr} {k0 k1 k2 k3 k5:Option Value} {rest:List Value}
    (KI:K.In s.heap) (hC:K.lookup C=some (excClassObj nm q C N bs bm hdct sn sub ab col dd k0 k1 k2 k3 k5 "ValueError.__new__"))
    (tl:tailIn K [.type "ValueError",.type "Exception",.type "BaseException",.type "object"] bm=true) (hi:findIn K (.ref C) "__init__"=some (some (.ref f))) (hf:typeIn K (.ref f)=some (.type "function")) (hrest:rest.length≤sizeLine)
    (h:codeAny (model prog w) (A.under (.builtin "type.__call__" ⟨.ref C :: rest,[]⟩)) (.call (.ref f) ⟨.ref (s.heap.objs.size+1) :: rest,[]⟩)
      (fun r s'=>match r with | .ok (.ret u)=>u=.none∧Q (.ref (s.heap.objs.size+1)) s' | .ok _=>False | .error x=>E x s')
      { s with heap:=(s.heap.push { cls:=.type "tuple",data:=.seq rest.toArray }).push { cls:=.ref C,data:=.fields #[.ref s.heap.objs.size,.none,.none,.none,.bool false,.none] } }) :
    wpAny (model prog w) A (call (.ref C) rest) Q E s:=by
  obtain ⟨hp,g,d,t,os⟩:=s
  have hC0:hp.get? C=some (excClassObj nm q C N bs bm hdct sn sub ab col dd k0 k1 k2 k3 k5 "ValueError.__new__"):=KI _ _ hC
  have TL:OwnTail hp [.type "ValueError",.type "Exception",.type "BaseException",.type "object"] bm:=tail_of_in KI tl
  have FV:=PySem.F.excBase_ValueError
  have f1:=tc_lookup
  have f2:=tc_bind (.ref C)
  have hT:(⟨hp,g,d,t,os⟩:Shared).TypeIs (.ref C) "type":=⟨_,hC0,rfl⟩
  refine wpAny_call (codeAny_of_tree ?_);show wpAny _ _ (callAny (.ref C) _) _ _ _
  repeat (any_goals (first | assumption | with_reducible refine wpAny_loadPart_at hC0 ?_ | wp_step))
  refine ⟨rfl,codeAny_call_builtin_at (Code.quiet_builtin _ (by decide +kernel)) entry_typeCall (wpAny_check_type_call_sub hC0 ?_)⟩
  repeat (first | with_reducible refine wpAny_loadPart_at hC0 ?_ | with_reducible refine wpAny_madeBy_exc hC0 ?_ | wp_step)
  refine codeAny_call_builtin_code (Code.quiet_builtin _ FV.quiet) (wpAny_check_new_subU FV (by decide +kernel) TL hC0 ?_)
  refine codeAny_exc_new_subU FV (by decide +kernel) FV TL hC0 ?_ hrest
  dsimp only at h
  show wpAny (model prog w) _ _ _ _ ⟨(hp.push { cls:=.type "tuple",data:=.seq rest.toArray }).push { cls:=.ref C,data:=.fields #[.ref hp.objs.size,.none,.none,.none,.bool false,.none] },g,d,t,os⟩
  generalize hH1:(hp.push { cls:=.type "tuple",data:=.seq rest.toArray }).push { cls:=.ref C,data:=.fields #[.ref hp.objs.size,.none,.none,.none,.bool false,.none] }=h1 at h ⊢
  have up:∀ b o,hp.get? b=some o→h1.get? b=some o:=fun b o z=>by rw [← hH1];exact Heap.get?_push_of_some _ (Heap.get?_push_of_some _ z)
  have hC1:=up _ _ hC0
  have K1:K.In h1:=KI.keeps up
  have hget:h1.get? (hp.objs.size+1)=some { cls:=.ref C,data:=.fields #[.ref hp.objs.size,.none,.none,.none,.bool false,.none] }:=by rw [← hH1];heap_get
  have hself:(Value.ref C :: bm).contains (.ref C)=true:=by simp
  unfold isInstance
  repeat (first | with_reducible refine wpAny_loadPart_at hget ?_ | (with_reducible refine wpAny_isSubtype_exc hC1 ?_;rw [hself]) | wp_step)
  refine Looks.here (s:=⟨h1,g,d,t,os⟩) (looks_findIn K1 hi) ?_
  refine wpAny_holding (wpAny_bind (Looks.here (s:=⟨h1,g,d,t,os⟩) (bind_fn K1 _ hf) ?_))
  refine wpAny_bind (wpAny_call (codeAny_mono h fun r s' z=>?_))
  cases r with
  | error x=>exact z
  | ok fl =>
    cases fl with
    | ret u =>
      obtain ⟨rfl,z⟩:=z
      exact wpAny_pure (wpAny_pure z)
    | next=>exact z.elim
    | brk=>exact z.elim
    | cont=>exact z.elim
end
end L2
namespace L2
open PySem PySem.Spec PyProof.Rows PySem.W
section
variable {X:Cx} {pins:List (Addr × Obj)} {σ:St} {H:Hp} {s:Shared} {C f:Addr} {cd:ClassData}
theorem XO_ok {P:Program} {w:World} {H:Hp} {h:Heap} {C t e:Addr} {dx:Option Addr} (he:h.get? e=some ⟨.ref C,dx,.fields #[.ref t,.none,.none,.none,.bool false,.none],#[]⟩):ObjOk P w H h e (XO C t dx e) :=
  ⟨he,⟨_,he⟩,fun h1 h2 q k=>k _ q⟩
theorem Inv.xmade {xs:List V} {us:List Value} (I:Inv X pins σ H s) (r:Vals xs us) (hz:xs.length≤sizeLine) :
    Inv X pins σ (upd (upd H s.heap.objs.size (.tup xs)) (s.heap.objs.size+1) (XO C s.heap.objs.size none (s.heap.objs.size+1)))
      { s with heap:=(s.heap.push { cls:=.type "tuple",data:=.seq us.toArray }).push { cls:=.ref C,data:=.fields #[.ref s.heap.objs.size,.none,.none,.none,.bool false,.none] } }:=by
  have I1:=I.laid (a:=s.heap.objs.size) (o:=.tup xs) (h':=s.heap.push { cls:=.type "tuple",data:=.seq us.toArray }) (t':=s.toks) (fun b u q=>Heap.get?_push_of_some _ q) (Nat.le_refl _) ⟨hz,us,r,IsTup.new _ _⟩
  refine I1.laid (a:=s.heap.objs.size+1) (t':=s.toks) (fun b u q=>Heap.get?_push_of_some _ q) (Nat.le_of_eq (Heap.size_push _ _)) (XO_ok ?_)
  have z:=Heap.get?_push_size (s.heap.push { cls:=.type "tuple",data:=.seq us.toArray }) (o:={ cls:=.ref C,data:=.fields #[.ref s.heap.objs.size,.none,.none,.none,.bool false,.none] }) rfl
  rwa [Heap.size_push] at z
theorem setattr_exc {A:Around} {E:Value→Shared→Prop} {a t:Addr} {n:Str} {y:V} {u:Value} {Q:Unit→Shared→Prop} (I:Inv X pins σ H s) (e:H a=some (XO C t none a)) (XC:XCls X.K C cd f) (ht:takerIn X.K C n=some none) (ry:RelV y u)
    (h:∀ s' dx,H dx=none→dx≠a→Inv X pins σ (upd (upd H dx (.xd [(n,y)])) a (XO C t (some dx) a)) s'→Q () s'):wpAny (model X.prog X.w) A (setAttr (.ref a) n u) Q E s:=by
  obtain ⟨he,_,_⟩:(s.heap.get? a=some ⟨.ref C,none,.fields #[.ref t,.none,.none,.none,.bool false,.none],#[]⟩)∧_∧_:=I.hok a _ e
  have hdn:H s.heap.objs.size=none:=I.hok.fresh (Nat.le_refl _)
  have hda:s.heap.objs.size≠a:=Nat.ne_of_gt (Heap.lt_size he)
  refine set_exc I.kIn XC he ht fun h' he' hn' hk=>h _ s.heap.objs.size hdn hda ?_
  have nodx:∀ b o,s.heap.get? b=some o→b≠s.heap.objs.size:=fun b o q=>Nat.ne_of_lt (Heap.lt_size q)
  have nota:∀ b,H b=none→b≠a:=fun b q z=>by rw [z,e] at q;cases q
  refine I.un (h':=h') ⟨fun b o q n _ _=>hk b o (nota b n) q,fun b o q n _ _=>⟨o.slots,hk b o (nota b n) q⟩,fun b o q n _=>?_,fun b o q _=>?_,fun b xs q=>?_,fun b o u q=>?_,fun b ps q=>⟨#[],?_⟩⟩ fun b o q=>?_
  · rw [upd_ne (nota b n),upd_ne (nodx b o q)];exact n
  · by_cases hb:b=a
    · exact ⟨_,by rw [hb];exact he'⟩
    · exact ⟨o,hk b o hb q⟩
  · rw [upd_ne (fun z=>by rw [z,e] at q;cases q),upd_ne (ne_of_none q hdn)];exact q
  · rw [upd_ne (fun z=>by rw [z,e] at q;cases q),upd_ne (ne_of_none q hdn)];exact q
  · rw [upd_ne (fun z=>by rw [z,e] at q;cases q),upd_ne (ne_of_none q hdn),q];simp
  · by_cases hb:b=a
    · subst hb
      rw [upd_same] at q
      cases q
      exact XO_ok he'
    · rw [upd_ne hb] at q
      by_cases hd:b=s.heap.objs.size
      · subst hd
        rw [upd_same] at q
        cases q
        refine ⟨_,hn',fun g=>?_⟩
        show RelO (List.lookup g [(n,y)]) (if g=n then some u else none)
        by_cases z:g=n
        · subst z;simp [List.lookup_cons,RelO];exact ry
        · have z':(g == n)=false:=by simpa using z
          simp [List.lookup_cons,z',z,RelO]
      · rw [upd_ne hd] at q
        have st:∀ c u,H c=some u→¬ (∃ φ,u=HO.ext φ)→c≠a:=fun c u z hn y=>by rw [y,e] at z;cases z;exact hn ⟨_,rfl⟩
        refine (I.hok b o q).stay (fun c v hc z=>hk c v ?_ z) (fun c z=>?_) fun c xs z=>?_
        · rcases hc with y | y
          · rw [y];exact hb
          · exact st c _ y fun ⟨_,z⟩=>by cases z
        · rw [upd_ne (st c _ z fun ⟨_,z⟩=>by cases z),upd_ne (ne_of_none z hdn)];exact z
        · rw [upd_ne (st c _ z fun ⟨_,z⟩=>by cases z),upd_ne (ne_of_none z hdn)];exact z
end
def sXf (K:PySem.W.Frag) (ta tv:TE) (n:Str):TS:=fun D σ H=>tv σ H fun y H1=>ta σ H1 fun x H2=>∃ a C t cd f,x=.ref a∧H2 a=some (XO C t none a)∧XCls K C cd f∧takerIn K C n=some none ∧
  ∀ dx,H2 dx=none→dx≠a→D.nx σ (upd (upd H2 dx (.xd [(n,y)])) a (XO C t (some dx) a))
section
variable {X:Cx} {o value:Expr} {n:Str} {pos pos':Pos} {ta tv:TE}
theorem ps_xf (ha:PE X o ta) (hv:PE X value tv) (hs:swapsWith value (some (.Attribute o n pos')) pos.line X.env=pure false:=by rfl):PS X (.Assign [.Attribute o n pos'] value pos) (sXf X.K ta tv n):=by
  intro pins s σ H D I h
  refine plainObj_wpAny_Assign_Attribute (thn (hv pins s σ H _ I h) fun u s1 ⟨y,H1,I1,ry,q⟩=>thn (ha pins s1 σ H1 _ I1 q) fun ov s2 ⟨x,H2,I2,rx,a,C,t,cd,f,ex,ea,c,n,q2⟩=>?_) hs
  subst ex
  obtain rfl:ov=Value.ref a:=rx
  exact setattr_exc I2 ea c n ry fun s3 dx h1 h2 I3=>⟨σ,_,I3,q2 dx h1 h2⟩
end
end L2
namespace L2
open PySem PySem.Spec PyProof.Rows PySem.W
abbrev vErr:List Value:=[.type "ValueError",.type "Exception",.type "BaseException",.type "object"]
structure XMk (K:PySem.W.Frag) (C f:Addr) (cd:ClassData):Prop where
  cls:XCls K C cd f
  obj:∃ (nm q:Str) (N:Addr) (bs bm:List Value) (hdct:Bool) (sn:List Str) (sub:List Value) (ab:Bool) (col:Option Bool) (dd:Option Addr) (k0 k1 k2 k3 k5:Option Value),
    K.lookup C=some (excClassObj nm q C N bs bm hdct sn sub ab col dd k0 k1 k2 k3 k5 "ValueError.__new__")∧tailIn K vErr bm=true∧bm.contains (.type "BaseException")=true
  init:findIn K (.ref C) "__init__"=some (some (.ref f))
  fn:typeIn K (.ref f)=some (.type "function")
  kp:keepIn K (.ref C)=true
def spInit (K:PySem.W.Frag) (n:Str):Sp:=fun vs H Q _=>∃ (a C t f:Addr) (cd:ClassData) (y:V),vs=[.ref a,y]∧H a=some (XO C t none a)∧XCls K C cd f∧takerIn K C n=some none ∧
  ∀ dx,H dx=none→dx≠a→Q .non (upd (upd H dx (.xd [(n,y)])) a (XO C t (some dx) a))
section
variable {X:Cx} {C f:Addr} {fd:FuncData} {cd:ClassData} {k:Nat} {n:Str} {ps:List Str}
theorem run_xmake {pins:List (Addr × Obj)} {σ:St} {H:Hp} {s:Shared} {Q:VK} {u:Value} {y:V} (M:XMk X.K C f cd) (F:FnOk X.prog X.w X.K X.mg X.base CX0 k f fd ps (spInit X.K n)) (ht:takerIn X.K C n=some none)
    (hr:Room (k+1) X.A) (hb:Binds X.K fd ps []) (hps:ps.length=2) (I:Inv X pins σ H s) (r:RelV y u)
    (h:∀ e t dx,H e=none→H t=none→H dx=none→X.s₀.heap.objs.size≤e→e≠t→dx≠t→dx≠e→Q (.ref e) (upd (upd (upd (upd H t (.tup [y])) e (XO C t none e)) dx (.xd [(n,y)])) e (XO C t (some dx) e))) :
    wpAny (model X.prog X.w) X.A (call (.ref C) [u]) (fun v s'=>∃ e H',v=.ref e∧Inv X pins σ H' s'∧Q (.ref e) H') X.xe s:=by
  obtain ⟨nm,q,N,bs,bm,hdct,sn,sub,ab,col,dd,k0,k1,k2,k3,k5,hC,tl,_⟩:=M.obj
  have I2:=I.xmade (C:=C) (xs:=[y]) (us:=[u]) (.cons r .nil) (by show 1≤sizeLine;rw [sizeLine_eq];decide)
  have hsp:spInit X.K n [.ref (s.heap.objs.size+1),y] (upd (upd H s.heap.objs.size (.tup [y])) (s.heap.objs.size+1) (XO C s.heap.objs.size none (s.heap.objs.size+1))) (fun v H'=>v=.non∧Q (.ref (s.heap.objs.size+1)) H') E0:=by
    refine ⟨_,C,s.heap.objs.size,f,cd,y,rfl,upd_same,M.cls,ht,fun dx h1 h2=>⟨rfl,?_⟩⟩
    have hdt:dx≠s.heap.objs.size:=fun z=>by rw [upd_ne h2,z,upd_same] at h1;cases h1
    rw [upd_ne h2,upd_ne hdt] at h1
    exact h _ _ dx (I.hok.fresh (Nat.le_succ _)) (I.hok.fresh (Nat.le_refl _)) h1 (Nat.le_trans I.sz (Nat.le_succ _)) (Nat.ne_of_gt (Nat.lt_succ_self _)) hdt h2
  refine make_exc I.kIn hC tl M.init M.fn (by show 1≤sizeLine;rw [sizeLine_eq];decide) ?_
  refine codeAny_mono (F.run _ X.stack _ _ ⟨[.ref (s.heap.objs.size+1),u],[]⟩ [.ref (s.heap.objs.size+1),u] [.ref (s.heap.objs.size+1),y] _ E0 (hr.make C [u] []) (I2.env0.make C [u] []) (by simpa using hb _ [.ref (s.heap.objs.size+1),u] I2.kIn (by rw [hps];rfl)) (.cons rfl (.cons r .nil)) hsp) fun r s' hq=>?_
  cases r with
  | error e=>exact hq.elim
  | ok fl =>
    cases fl with
    | ret u' =>
      obtain ⟨v,H',I3,rv,ev,q3⟩:=I2.after hq
      subst ev
      exact ⟨rv,_,_,rfl,I3,q3⟩
    | next=>exact False.elim hq
    | brk=>exact False.elim hq
    | cont=>exact False.elim hq
end
theorem raise_x {M:Model} {A:Around} {E:Value→Shared→Prop} {s:Shared} {env:Env} {K:PySem.W.Frag} {C:Addr} {nm q:Str} {N:Addr} {bs bm:List Value} {hdct:Bool} {sn:List Str} {sub:List Value} {ab:Bool} {col:Option Bool} {dd:Option Addr} {k0 k1 k2 k3 k5:Option Value} {newId:String} {x:Sem Value} {Q:Flow→Shared→Prop}
    (hbase:bm.contains (.type "BaseException")=true) (hh:A.handled=none)
    (h:wpAny M A x (fun v s1=>∃ e t dc,v=.ref e∧s1.heap.get? C=some (excClassObj nm q C N bs bm hdct sn sub ab col dd k0 k1 k2 k3 k5 newId)∧s1.heap.get? e=some ⟨.ref C,dc,.fields #[.ref t,.none,.none,.none,.bool false,.none],#[]⟩∧E (.ref e) s1) E s) :
    wpAny M A (raiseStmt env (some x) none) Q E s:=by
  have hcB:(Value.ref C :: bm).contains (.type "BaseException")=true:=by rw [List.contains_cons,hbase,Bool.or_true]
  unfold raiseStmt
  refine wpAny_bind (wpAny_mono h (fun v s1 h1=>?_) fun _ _ z=>z)
  obtain ⟨e,t,dc,rfl,hC,he,hE⟩:=h1
  obtain ⟨hp,g,d,tk,os⟩:=s1
  repeat (first | with_reducible refine wpAny_loadPart_at he ?_ | with_reducible refine wpAny_loadPart_at hC ?_ | (with_reducible refine wpAny_isSubtype_exc hC ?_;rw [hcB]) | wp_step)
  exact wpAny_raiseNew_none hh hE
def tRaise (C:Addr) (n:Str) (E:XK) (te:TE):TS:=fun _ σ H=>tCons te tNil σ H fun vs H1=>∃ y,vs=[y]∧∀ t dx,H1 t=none→H1 dx=none→dx≠t→E (.ref C) (some dx) (upd (upd H1 t (.tup [y])) dx (.xd [(n,y)]))
section
variable {P:Program} {w:World} {K:PySem.W.Frag} {mg:Str→Option Value} {base:Heap} {N:List Str} {qual:Str} {scope:Scope} {fa:Addr} {cd0:Value} {A:Around} {outer:List Env} {s0:Shared} {H0:Hp} {E:XK}
  {C f:Addr} {fd:FuncData} {cd:ClassData} {k:Nat} {n x:Str} {ps:List Str} {a:Expr} {te:TE} {p cpos pos:Pos}
theorem ps_raise (M:XMk K C f cd) (F:FnOk P w K mg base CX0 k f fd ps (spInit K n)) (ht:takerIn K C n=some none)
    (hr:Room (k+1) (A.deeper (envOfC qual scope s0.heap.objs.size fa cd0))) (hb:Binds K fd ps []) (hps:ps.length=2)
    (hg:Gl (cxOf (CX1 P w) P w K mg base N qual scope fa cd0 A outer s0 H0 E) x) (hm:mg x=some (.ref C))
    (he:PE (cxOf (CX1 P w) P w K mg base N qual scope fa cd0 A outer s0 H0 E) a te) (hdb:(x == ("__debug__":Str))=false:=by decide) (hs:starEach [a] (cxOf (CX1 P w) P w K mg base N qual scope fa cd0 A outer s0 H0 E).env=[(false,eval a (cxOf (CX1 P w) P w K mg base N qual scope fa cd0 A outer s0 H0 E).env)]:=by rfl) :
    PS (cxOf (CX1 P w) P w K mg base N qual scope fa cd0 A outer s0 H0 E) (.Raise (some (.Call (.Name x p) [a] [] cpos)) none pos) (tRaise C n E te):=by
  intro pins s σ H D I h
  obtain ⟨nm,q,N',bs,bm,hdct,sn,sub,ab,col,dd,k0,k1,k2,k3,k5,hC,tl,hB⟩:=M.obj
  rw [arm_exec_Raise]
  refine wpAny_bind (wpAny_standAt (raise_x (K:=K) (C:=C) (nm:=nm) (q:=q) (N:=N') (bs:=bs) (bm:=bm) (hdct:=hdct) (sn:=sn) (sub:=sub) (ab:=ab) (col:=col) (dd:=dd) (k0:=k0) (k1:=k1) (k2:=k2) (k3:=k3) (k5:=k5) (newId:="ValueError.__new__") hB hr.hd ?_))
  refine wpAny_bind (thn (Q:=fun v s1=>∃ e H',v=.ref e∧Inv (cxOf (CX1 P w) P w K mg base N qual scope fa cd0 A outer s0 H0 E) pins σ H' s1∧∃ t dx,H' e=some (XO C t (some dx) e)∧s0.heap.objs.size≤e∧E (.ref C) (some dx) (rm H' e)) ?_ fun v s1 h1=>?_)
  · refine wpAny_Call_Name_kw (ld_glob I hg hm ?_ hdb)
    refine callWith_K (h₀:=base) I.ok.mod.kin M.kp (thn (pa_cons he pa_nil hs cpos pins s σ H _ I h) fun us s1 hh=>?_) hs rfl
    obtain ⟨vs,H1,I1,r,q1⟩:=hh
    refine ⟨I1.kIn,?_⟩
    obtain ⟨y,rfl,q1⟩:=q1
    obtain ⟨u,rfl,ru⟩:=vals1 r
    refine thn (run_xmake (Q:=fun v H'=>∃ e t dx,v=.ref e∧H' e=some (XO C t (some dx) e)∧s0.heap.objs.size≤e∧E (.ref C) (some dx) (rm H' e)) M F ht hr hb hps I1 ru fun e t dx e1 e2 e3 e4 e5 e6 e7=>⟨e,t,dx,rfl,upd_same,e4,?_⟩) fun v s2 hq=>?_
    · have z:=q1 t dx e2 e3 e6
      have eq:rm (upd (upd (upd (upd H1 t (.tup [y])) e (XO C t none e)) dx (.xd [(n,y)])) e (XO C t (some dx) e)) e=upd (upd H1 t (.tup [y])) dx (.xd [(n,y)]):=by
        funext b
        by_cases hb:b=e
        · subst hb
          rw [rm_self,upd_ne (Ne.symm e7),upd_ne e5,e1]
        · rw [rm_ne hb,upd_ne hb]
          by_cases hd:b=dx
          · subst hd;rw [upd_same,upd_same]
          · rw [upd_ne hd,upd_ne hb,upd_ne hd]
      rw [eq];exact z
    · obtain ⟨e,H',rfl,I2,e',t,dx,ee,h1,h2,h3⟩:=hq
      cases ee
      exact ⟨e,H',rfl,I2,t,dx,h1,h2,h3⟩
  · obtain ⟨e,H',rfl,I1,t,dx,he',hn,q1⟩:=h1
    obtain ⟨hφ,_,_⟩:(s1.heap.get? e=some ⟨.ref C,some dx,.fields #[.ref t,.none,.none,.none,.bool false,.none],#[]⟩)∧_∧_:=I1.hok e _ he'
    exact wpAny_bind (wpAny_standAt (wpAny_pure ⟨e,t,some dx,rfl,I1.kIn _ _ hC,hφ,xe_raise I1 he' hn q1⟩))
end
end L2
namespace L2
open PySem PySem.Spec PyProof.Rows PySem.W
def XC (C dx:Addr) (e:Addr):HO:=.ext fun h=>∃ vs,h.get? e=some ⟨.ref C,some dx,.fields vs,#[]⟩
def blank (N:List Str):St:=N.map fun _=>none
theorem XC_ok {P:Program} {w:World} {H:Hp} {h:Heap} {C dx e:Addr} {vs:Array Value} (he:h.get? e=some ⟨.ref C,some dx,.fields vs,#[]⟩):ObjOk P w H h e (XC C dx e) :=
  ⟨⟨vs,he⟩,⟨_,he⟩,fun h1 h2 q k=>let ⟨vs,q⟩:=q;⟨vs,k _ q⟩⟩
section
variable {X:Cx} {pins:List (Addr × Obj)} {σ:St} {H H':Hp} {s s1:Shared} {B h':Heap} {ea C dx t:Addr} {fl:Value}
theorem Inv.forget {m':Str→Option Value} {tk:Nat} (I:Inv X pins σ H s) (hn:h'.Ns X.env.locals m') (hs:Heap.SameBut X.env.locals s.heap h'):Inv X pins (blank X.N) H { s with heap:=h',toks:=tk }:=by
  have ab:∀ b o,X.s₀.heap.get? b=some o→b≠X.env.locals:=fun b o e=>Nat.ne_of_lt (Nat.lt_of_lt_of_le (Heap.lt_size e) I.ok.above)
  refine ⟨I.ok,I.os,I.bare,⟨fun b o e n hb hx=>(hs.2 b (ab b o e)).trans (I.base.keep b o e n hb hx),fun b o e n hb hx=>?_,I.base.free,fun b o e hx=>?_,I.base.tups,I.base.frzs,I.base.tbls⟩,⟨m',hn,fun i x v e1 e2 _=>?_⟩,fun x c e=>?_,I.free,I.freeC,fun p hp=>?_,fun b o e=>?_,by unfold blank;rw [List.length_map]⟩
  · obtain ⟨sl,z⟩:=I.base.slot b o e n hb hx
    exact ⟨sl,(hs.2 b (ab b o e)).trans z⟩
  · obtain ⟨o',z⟩:=I.base.there b o e hx
    exact ⟨o',(hs.2 b (ab b o e)).trans z⟩
  · unfold blank at e2
    rw [List.getElem?_map] at e2
    cases q:X.N[i]? with
    | none=>rw [q] at e2;cases e2
    | some y=>rw [q] at e2;cases e2
  · obtain ⟨v,z⟩:=I.cell x c e
    exact ⟨v,z.sameBut hs (I.cne x c e)⟩
  · obtain ⟨e,n,ne,nf,d⟩:=I.pin p hp
    exact ⟨(hs.2 p.1 ne).trans e,n,ne,nf,d⟩
  · refine (I.hok b o e).stay (fun c v hc z=>(hs.2 c ?_).trans z) (fun _ z=>z) fun _ _ z=>z
    intro y
    rcases hc with y' | y'
    · rw [← y',y] at e;rw [I.free] at e;cases e
    · rw [y,I.free] at y';cases y'
theorem inv_catch (I:Inv X pins σ H s) (x:XUn X.stack H H' s.heap B s1.heap) (ho:s1.os=s.os) (hg:AllBare s1.gens) (F:Fl B X.stack ea (.ref C) (some dx) (.ref t) (some fl) h') (F1:s1.heap.FunFrames B X.stack) (u:s1.heap.UpToSlots h') (hok:HOk X.prog X.w H' B) (hea:s.heap.objs.size≤ea) (hn:H' ea=none) :
    Inv X pins σ H' { s1 with heap:=h' }∧Inv X pins σ (upd H' ea (XC C dx ea)) { s1 with heap:=h' }:=by
  have fro:∀ b,b ∈ frs X.stack→∀ o,s1.heap.get? b=some o→∀ vs,o.data≠.fields vs:=fun b hb o q vs hd=>by
    obtain ⟨_,o',ho',hn'⟩:=F1.mem hb
    rw [q] at ho';cases ho';exact hn' vs hd
  have x':XUn X.stack H H' s.heap B h':=by
    refine ⟨x.keep,fun b o q n hb=>?_,x.free,x.there,fun b o q hb=>?_,x.tups,x.frzs,x.tbls⟩
    · obtain ⟨sl,z⟩:=x.slot b o q n hb
      obtain ⟨sl2,z2⟩:=u b _ z (fro b hb _ z)
      exact ⟨sl2,z2⟩
    · obtain ⟨o',z⟩:=x.fthere b o q hb
      obtain ⟨sl2,z2⟩:=u b _ z (fro b hb _ z)
      exact ⟨_,z2⟩
  have un:=x'.un F.stays
  have ne:∀ b o,s.heap.get? b=some o→b≠ea:=fun b o q=>Nat.ne_of_lt (Nat.lt_of_lt_of_le (Heap.lt_size q) hea)
  have I1:Inv X pins σ H' { s1 with heap:=h' }:=I.call' (s':={ s1 with heap:=h' }) (ch:=[]) ho un (hok.kept F.stays) hg (fun _ z=>nomatch z)
  refine ⟨I1,I.call' (s':={ s1 with heap:=h' }) (ch:=[]) ho ⟨un.keep,un.slot,fun b o q n hx=>?_,un.there,fun b xs q=>?_,fun b o u q=>?_,fun b ps q=>?_⟩ (fun b o q=>?_) hg (fun _ z=>nomatch z)⟩
  · rw [upd_ne (ne b o q)];exact un.free b o q n hx
  · rw [upd_ne (ne_of_none (un.tups b xs q) hn)];exact un.tups b xs q
  · rw [upd_ne (ne_of_none (un.frzs b o u q) hn)];exact un.frzs b o u q
  · obtain ⟨m,z⟩:=un.tbls b ps q
    exact ⟨m,by rw [upd_ne (ne_of_none z hn)];exact z⟩
  · by_cases hb:b=ea
    · subst hb
      rw [upd_same] at q
      cases q
      obtain ⟨vs,z,_⟩:=F.ex
      exact XC_ok z
    · rw [upd_ne hb] at q
      exact (I1.hok b o q).stay (fun c v _ z=>z) (fun c z=>by rw [upd_ne (ne_of_none z hn)];exact z) fun c xs z=>by rw [upd_ne (ne_of_none z hn)];exact z
end
def Cx.tryc (X:Cx) (pn:List (Addr × Obj)) (XE:Value→Shared→Prop):Cx:={ X with pn:=pn,xe:=XE }
def Cx.hand (X:Cx) (e:Addr):Cx:={ X with A:=X.A.mark (some (.ref e)),calm:=false,xe:=fun _ _=>False }
section
variable {X:Cx} {pins pn:List (Addr × Obj)} {σ:St} {H:Hp} {s:Shared} {XE:Value→Shared→Prop} {e:Addr}
theorem tryc_ok (ok:X.Ok):(X.tryc pn XE).Ok :=
  ⟨ok.mod,ok.kind,ok.glob,ok.blt,ok.above,ok.inj,ok.has,ok.cab,ok.hd,ok.frames,ok.stk,ok.exf,ok.bs,ok.bsz,ok.noex,ok.exfs,ok.funs,ok.frf⟩
theorem of_tryc_ok (ok:(X.tryc pn XE).Ok):X.Ok :=
  ⟨ok.mod,ok.kind,ok.glob,ok.blt,ok.above,ok.inj,ok.has,ok.cab,ok.hd,ok.frames,ok.stk,ok.exf,ok.bs,ok.bsz,ok.noex,ok.exfs,ok.funs,ok.frf⟩
theorem hand_ok (ok:X.Ok):(X.hand e).Ok :=
  ⟨ok.mod,ok.kind,ok.glob,ok.blt,ok.above,ok.inj,ok.has,ok.cab,(fun z=>nomatch z),ok.frames,ok.stk,ok.exf,ok.bs,ok.bsz,ok.noex,ok.exfs,ok.funs,ok.frf⟩
theorem of_hand_ok (ok:(X.hand e).Ok) (hd:X.calm=true→X.A.handled=none):X.Ok :=
  ⟨ok.mod,ok.kind,ok.glob,ok.blt,ok.above,ok.inj,ok.has,ok.cab,hd,ok.frames,ok.stk,ok.exf,ok.bs,ok.bsz,ok.noex,ok.exfs,ok.funs,ok.frf⟩
theorem Inv.tryc (I:Inv X pins σ H s):Inv (X.tryc (X.pn++pins) XE) [] σ H s :=
  ⟨tryc_ok I.ok,I.os,I.bare,I.base,I.loc,I.cell,I.free,I.freeC,fun p hp=>I.pin p (by simpa [Cx.tryc] using hp),I.hok,I.len⟩
theorem Inv.of_tryc {pins':List (Addr × Obj)} (I:Inv (X.tryc (X.pn++pins) XE) pins' σ H s):Inv X pins σ H s :=
  ⟨of_tryc_ok I.ok,I.os,I.bare,I.base,I.loc,I.cell,I.free,I.freeC,fun p hp=>I.pin p (List.mem_append_left _ hp),I.hok,I.len⟩
theorem Inv.hand (I:Inv X pins σ H s):Inv (X.hand e) pins σ H s:=⟨hand_ok I.ok,I.os,I.bare,I.base,I.loc,I.cell,I.free,I.freeC,I.pin,I.hok,I.len⟩
theorem Inv.of_hand (I:Inv (X.hand e) pins σ H s) (hd:X.calm=true→X.A.handled=none):Inv X pins σ H s:=⟨of_hand_ok I.ok hd,I.os,I.bare,I.base,I.loc,I.cell,I.free,I.freeC,I.pin,I.hok,I.len⟩
end
end L2
namespace L2
open PySem PySem.Spec PyProof.Rows PySem.W
def XL (K:PySem.W.Frag) (L:Addr):Prop:=∃ (nm q:Str) (N:Addr) (bs bm:List Value) (hdct:Bool) (sn:List Str) (sub:List Value) (ab:Bool) (col:Option Bool) (dd:Option Addr) (k0 k1 k2 k3 k5:Option Value) (nid:String),
  K.lookup L=some (excClassObj nm q L N bs bm hdct sn sub ab col dd k0 k1 k2 k3 k5 nid)∧bm.contains (.type "BaseException")=true
theorem match_exc {M:Model} {A:Around} {E:Value→Shared→Prop} {K:PySem.W.Frag} {s:Shared} {e L C:Addr} {oe:Obj} {b:Bool} {Q:Bool→Shared→Prop} (KI:K.In s.heap) (hL:XL K L) (he:s.heap.get? e=some oe) (hcls:oe.cls=.ref C)
    (hs:mroIn K C (.ref L)=some b) (hq:Q b s):wpAny M A (excMatches (.ref e) (.ref L)) Q E s:=by
  obtain ⟨nm,q,N,bs,bm,hdct,sn,sub,ab,col,dd,k0,k1,k2,k3,k5,nid,hl,hbase⟩:=hL
  have hC:=KI _ _ hl
  have hcB:(Value.ref L :: bm).contains (.type "BaseException")=true:=by rw [List.contains_cons,hbase,Bool.or_true]
  have hsub:Looks M s.heap (isSubtype (.ref C) (.ref L)) b:=looks_mroIn KI hs
  have f:=tc_notTuple
  obtain ⟨h,g,d,t,os⟩:=s
  unfold excMatches
  repeat (first | (with_reducible refine wpAny_loadPart_at he ?_;rw [hcls]) | with_reducible refine wpAny_loadPart_at hC ?_ | (with_reducible refine wpAny_isSubtype_exc hC ?_;rw [hcB]) | with_reducible refine Looks.here (s:=⟨h,g,d,t,os⟩) hsub ?_ | wp_step)
  cases b <;> (wp_walk;exact hq)
def tTry (N:List Str) (K:PySem.W.Frag) (L:Addr) (j:Nat) (tb:XK→TS) (ts:Addr→TS):TS:=fun D σ H =>
  tb (fun c dx H'=>∃ C d,c=.ref C∧dx=some d∧mroIn K C (.ref L)=some true∧∀ ea,H' ea=none →
    ts ea { nx:=fun _ H2=>D.nx (blank N) H2,rt:=D.rt,bk:=fun _ H2=>D.bk (blank N) H2,ct:=fun _ H2=>D.ct (blank N) H2 } ((blank N).set j (some (.ref ea))) (upd H' ea (XC C d ea))) D σ H
section
variable {X:Cx} {x n:Str} {L:Addr} {j:Nat} {body suite:List Stmt} {b0:Stmt} {p1 p2 p3:Pos} {tb:XK→TS} {ts:Addr→TS}
theorem blank_inv {pins:List (Addr × Obj)} {σ:St} {H:Hp} {s:Shared} (I:Inv X pins σ H s):Inv X pins (blank X.N) H s:=by
  obtain ⟨m,hm,_⟩:=I.loc
  exact I.forget (h':=s.heap) (tk:=s.toks) hm (.refl _ _)
theorem ps_try (hst:X.stack=X.env :: X.outer) (hfr:X.env.frame=some X.env.locals) (hg:Gl X x) (hm:X.mg x=some (.ref L)) (hL:XL X.K L) (hnd:X.N.Nodup) (hj:X.N[j]?=some n) (hk:X.env.kindOf n=some .local)
    (hb:∀ pn XE E,Passes (CX1 X.prog X.w) (X.tryc pn XE) E→PSs (X.tryc pn XE) body (tb E)) (hs:∀ e,PSs (X.hand e) (b0 :: suite) (ts e)) (hdb:(x == ("__debug__":Str))=false:=by decide) :
    PS X (.Try body [.ExceptHandler (some (.Name x p1)) (some n) (b0 :: suite) p2] [] [] p3) (tTry X.N X.K L j tb ts):=by
  intro pins s σ H D I h
  refine wpAny_Try_except ?_
  have ps:Passes (CX1 X.prog X.w) (X.tryc (X.pn++pins) fun e s₁=>wpAny (model X.prog X.w) X.A (noteFrame e X.env) (fun _ s₂=>wpAny (model X.prog X.w) X.A (setFlight e none) (fun _ s₃=>wpAny (model X.prog X.w) X.A (handleBy e X.env [.ExceptHandler (some (.Name x p1)) (some n) (b0 :: suite) p2]) (SP X pins D) X.xe s₃) X.xe s₂) X.xe s₁) (fun c dx H'=>∃ C d,c=.ref C∧dx=some d∧mroIn X.K C (.ref L)=some true∧∀ ea,H' ea=none →
    ts ea { nx:=fun _ H2=>D.nx (blank X.N) H2,rt:=D.rt,bk:=fun _ H2=>D.bk (blank X.N) H2,ct:=fun _ H2=>D.ct (blank X.N) H2 } ((blank X.N).set j (some (.ref ea))) (upd H' ea (XC C d ea))):=by
    intro pins' σ1 H1 s1 e s2 I1 hx
    have I1':Inv X pins σ1 H1 s1:=I1.of_tryc
    obtain ⟨ea,t,C,dx0,H',B,rfl,ho,hgn,F,hok,xu,hn,hea,C',dx,hC',hd',hsub,q⟩:=hx
    cases hC';cases hd'
    have F0:Fl B X.stack ea (.ref C) (some dx) (.ref t) (some .none) s2.heap:=F
    have xu0:XUn X.stack H1 H' s1.heap B s2.heap:=xu
    have F':Fl B (X.env :: X.outer) ea (.ref C) (some dx) (.ref t) (some .none) s2.heap:=by rw [← hst];exact F0
    have hA:X.A.frames=some (X.env :: X.outer):=by rw [← hst];exact I1'.ok.frames
    refine fl_note hA hfr F' (.inr rfl) fun h3 F3 u3=>?_
    refine fl_set (s:={ s2 with heap:=h3 }) F3 fun h4 F4 u4=>?_
    have F4':Fl B X.stack ea (.ref C) (some dx) (.ref t) (some .none) h4:=by rw [hst];exact F4
    have J:=(inv_catch (ea:=ea) (t:=t) I1' xu0 ho hgn F4' F0.frs (u3.trans u4) hok hea hn).1
    refine wpAny_handleBy_cons (codeAny_handlers_test (ld_glob (X:=X.hand ea) J.hand hg hm ?_ hdb)) (by intro q;cases q)
    obtain ⟨vs,hvs,_⟩:=F4'.ex
    refine match_exc (K:=X.K) J.kIn hL hvs rfl hsub ?_
    refine codeAny_handlers_suite_as ?_
    refine fl_set (s:={ s2 with heap:=h4 }) F4' fun h5 F5 u5=>?_
    have J2:=(inv_catch (ea:=ea) (t:=t) I1' xu0 ho hgn F5 F0.frs ((u3.trans u4).trans u5) hok hea hn).2
    refine store_ok (X:=X.hand ea) (i:=j) (v:=.ref ea) (blank_inv J2).hand hnd hj (.inl hk) rfl (fun s6 J6=>?_) (.inr hk)
    refine wpAny_mono (hs ea pins s6 _ _ _ J6 (q ea hn)) (fun f s7 hf=>?_) fun _ _ z=>z.elim
    have hd:X.calm=true→X.A.handled=none:=I1'.ok.hd
    have fin:∀ {σ' H''} {Q:Unit→Shared→Prop},Inv (X.hand ea) pins σ' H'' s7→(∀ s8,Inv X pins (blank X.N) H'' s8→Q () s8)→wpAny (model X.prog X.w) X.A (do bindName X.env n .none;unbindBehindTheSuite X.env n p2) Q X.xe s7:=by
      intro σ' H'' Q J7 z
      have J8:=J7.of_hand hd
      obtain ⟨m,hmn,_⟩:=J8.loc
      refine wpAny_nameGoes hk hmn ?_ fun h' m' hn' hs'=>z _ (J8.forget hn' hs')
      rw [J8.ok.kind];rfl
    cases f with
    | ret u =>
      obtain ⟨v,σ',H'',J7,rv,qq⟩:=hf
      exact fin J7 fun s8 J8=>⟨v,_,H'',J8,rv,qq⟩
    | next =>
      obtain ⟨σ',H'',J7,qq⟩:=hf
      exact fin J7 fun s8 J8=>⟨_,H'',J8,qq⟩
    | brk =>
      obtain ⟨σ',H'',J7,qq⟩:=hf
      exact fin J7 fun s8 J8=>⟨_,H'',J8,qq⟩
    | cont =>
      obtain ⟨σ',H'',J7,qq⟩:=hf
      exact fin J7 fun s8 J8=>⟨_,H'',J8,qq⟩
  refine wpAny_mono (hb _ _ _ ps [] s σ H D I.tryc h) (fun f s1 hf=>?_) fun _ _ z=>z
  cases f with
  | next =>
    obtain ⟨σ',H',J,q⟩:=hf
    exact wpAny_execs_nil ⟨σ',H',J.of_tryc,q⟩
  | ret u =>
    obtain ⟨v,σ',H',J,rv,q⟩:=hf
    exact ⟨v,σ',H',J.of_tryc,rv,q⟩
  | brk =>
    obtain ⟨σ',H',J,q⟩:=hf
    exact ⟨σ',H',J.of_tryc,q⟩
  | cont =>
    obtain ⟨σ',H',J,q⟩:=hf
    exact ⟨σ',H',J.of_tryc,q⟩
end
end L2
namespace L2
open PySem PySem.Spec PyProof.Rows PySem.W PySem.Builtin PySem.Builtin.ObjectAttr
structure XGet (K:PySem.W.Frag) (C:Addr) (n:Str):Prop where
  ga:findIn K (.ref C) "__getattribute__"=some (some (.builtin "BaseException.__getattribute__"))
  gt:findIn K (.ref C) "__getattr__"=some none
  no:findIn K (.ref C) n=some none
  hd:hasDictIn K C=true
  up:mroIn K C (.type "BaseException")=some true
theorem get_exc {prog:Program} {w:World} {A:Around} {E:Value→Shared→Prop} {s:Shared} {K:PySem.W.Frag} {e C:Addr} {oe od:Obj} {name:Str} {expr:Bool} {v:Value} {Q:Value→Shared→Prop}
    (KI:K.In s.heap) (I:InstAt s.heap e oe C (some od)) (G:XGet K C name) (hl:lookIn name od=some (some v)) (hv:handedIn v=true) (h:Q v { s with toks:=s.toks+1 }) :
    wpAny (model prog w) A (getAttr (.ref e) name expr) Q E s:=by
  have FB:=PySem.F.attrBase_ValueError
  have hf:findObj K C (some od) name=some (.value v):=findObj_own G.hd G.no rfl hl
  obtain ⟨hh,g,d,t,os⟩:=s
  have T:=I.type (M:=model prog w)
  have G1:=looks_findIn (M:=model prog w) KI G.ga
  have G2:=looks_findIn (M:=model prog w) KI G.gt
  have G3:=looks_find (M:=model prog w) KI I hf
  have isB:Looks (model prog w) hh (isInstance (.ref e) (.type "BaseException")) true:=T.andThen (looks_mroIn KI G.up)
  unfold getAttr getAttrBy
  refine wpAny_bind (wpAny_mkText (wpAny_holding (wpAny_bind (T.at (wpAny_bind (G1.at ?_))))))
  dsimp only
  have no:(Value.builtin "BaseException.__getattribute__" == Value.builtin "object.__getattribute__")=false:=by decide +kernel
  rw [no,Bool.and_false,if_neg Bool.false_ne_true]
  unfold getAttrByItsOwn hookBefore
  rw [if_pos (by rfl)]
  refine wpAny_bind (G2.at (wpAny_bind (wpAny_attempt (wpAny_holding ?_))))
  unfold callGetattribute
  rw [if_neg (by cases expr <;> decide)]
  unfold boundAndCalled
  rw [FB.ga.bind (.ref e)]
  refine wpAny_bind (wpAny_pure (wpAny_call (codeAny_call_builtin FB.ga.plain F.entry_bexc_ga (@check_slot (model prog w) _ _ ⟨hh,g,d,t+1,os⟩ "BaseException.__getattribute__" "BaseException" "__getattribute__" (.ref e) [.str name t] [] _ (by decide +kernel) (by decide +kernel) isB (F.args_bexc_ga _ _) ?_))))
  unfold Builtin.«object.__getattribute__»
  refine wpAny_bind (m:=slotArgs _ _ _) (wpAny_pure (wpAny_bind (wpAny_pure (wpAny_bind (T.at (wpAny_bind (G3.at (wpAny_pure ?_))))))))
  show wpAny _ _ (handedOut v) _ _ _
  rw [handedOut_of hv];exact wpAny_pure h
def tXat (K:PySem.W.Frag) (ta:TE) (n:Str):TE:=fun σ H Q=>ta σ H fun x H1=>∃ a C d v,x=.ref a∧H1 a=some (XC C d a)∧H1 d=some (.xd [(n,v)])∧XGet K C n∧Q v H1
section
variable {X:Cx} {e:Expr} {n:Str} {pos:Pos} {ta:TE}
theorem pe_xat (ha:PE X e ta) (hb:attributeBase e n X.env (eval e X.env)=eval e X.env:=by rfl):PE X (.Attribute e n pos) (tXat X.K ta n):=by
  intro pins s σ H Q I h
  refine attr_of hb (thn (ha pins s σ H _ I h) fun u s1 hq=>?_)
  obtain ⟨x,H1,I1,rx,a,C,d,v,rfl,h1,h2,G,q⟩:=hq
  obtain rfl:u=Value.ref a:=rx
  obtain ⟨⟨vs,he⟩,_,_⟩:(∃ vs,s1.heap.get? a=some ⟨.ref C,some d,.fields vs,#[]⟩)∧_∧_:=I1.hok a _ h1
  obtain ⟨mA,hn,hr⟩:∃ mA,s1.heap.Ns1 d mA∧∀ f,RelO (List.lookup f [(n,v)]) (mA f):=I1.hok d _ h2
  obtain ⟨od,ho,hlk⟩:=lookIn_ns hn
  obtain ⟨u,hu,ru⟩:=RelO.some_of (v:=v) (o:=mA n) (by have:=hr n;simpa [List.lookup_cons] using this)
  exact get_exc I1.kIn (oe:=⟨.ref C,some d,.fields vs,#[]⟩) ⟨he,rfl,rfl,ho⟩ G (by rw [hlk,hu]) (handed_of ru) ⟨v,H1,I1.tok _,ru,q⟩
theorem kit_yes {K:PySem.W.Frag} {x t c:Value} {H:Heap→Prop} (ty:∀ (M:Model) (h:Heap),K.In h→H h→Looks M h (typeOf x) t) (e:kitOne K t c=some true):Answers (fun s=>K.In s.heap∧H s.heap) x c true:=by
  intro dep tk prog w A R s hs
  obtain ⟨h0,g,d,t0,os⟩:=s
  obtain ⟨⟨KI,p⟩,hq⟩:=hs
  have T:=ty (model prog w) h0 KI p
  unfold kitOne at e
  unfold Builtin.«isinstance.nested»
  refine wpAny_bind (T.at ?_)
  by_cases q:(t == c)=true
  · rw [if_pos q]
    exact wpAny_bind (wpAny_rule (wpAny_pure (hq t0)))
  · rw [if_neg q] at e ⊢
    obtain ⟨h1,h2,h3⟩:=kit_cls (M:=model prog w) KI e
    have J:Looks (model prog w) h0 (isInstance x c) true:=T.andThen h3
    refine wpAny_bind (h1.at ?_)
    rw [if_pos (by decide)]
    k_delta "plainIsInstance"
    refine wpAny_bind (wpAny_bind (h2.at ?_))
    simp only [Bool.not_true,Bool.false_eq_true,if_false]
    refine wpAny_bind (J.at ?_)
    first
      | exact wpAny_pure (wpAny_pure (hq t0))
      | (simp only [if_true];first | exact wpAny_pure (wpAny_pure (hq t0)) | exact wpAny_pure (hq t0) | exact wpAny_bind (wpAny_pure (wpAny_pure (hq t0))))
theorem call_isX:CallR X (.builtin "isinstance") (fun xs H Q=>∃ (a C d:Addr) (c:V) (cv:Value),xs=[.ref a,c]∧H a=some (XC C d a)∧(∀ u,RelV c u→u=cv)∧kitOne X.K (.ref C) cv=some true∧Q (.bl true) H):=by
  intro pins s σ H xs us Q I r h
  obtain ⟨a,C,d,c,cv,rfl,ha,hc,e,q⟩:=h
  obtain ⟨u,w',rfl,ru,rw'⟩:=vals2 r
  obtain rfl:=hc _ rw'
  obtain rfl:u=Value.ref a:=ru
  obtain ⟨⟨vs,he⟩,_,_⟩:(∃ vs,s.heap.get? a=some ⟨.ref C,some d,.fields vs,#[]⟩)∧_∧_:=I.hok a _ ha
  refine call_isinstance (S:=fun _ R s=>(X.K.In s.heap∧(∃ vs,s.heap.get? a=some ⟨.ref C,some d,.fields vs,#[]⟩))∧∀ tk,R (.ok (.ret (.bool true))) { s with toks:=tk })
    (fun prog w A R s hs=>isinstance_outer (kit_yes (K:=X.K) (t:=.ref C) (H:=fun h=>∃ vs,h.get? a=some ⟨.ref C,some d,.fields vs,#[]⟩) (fun M h _ p=>?_) e 0 _ prog w A R s hs) (fun z=>nomatch z)) ⟨⟨I.kIn,vs,he⟩,fun tk=>⟨.bl true,H,I.tok _,rfl,q⟩⟩
  obtain ⟨vs,p⟩:=p
  exact (Looks.ld p).andThen .now
end
end L2
namespace L2
open PySem PySem.Spec PyProof.Rows PySem.W
section
variable {X:Cx}
def rRemP:V→List V→Hp→VK→Prop:=fun x vs H Q=>∃ z y,x=.str z∧vs=[.str y]∧z.length≤sizeLine∧Q (.str (Txt.removeprefix z y)) H
theorem mt_removeprefix:MtR X "str.removeprefix" rRemP:=by
  intro pins s σ H x xs v us Q I rx rs h
  obtain ⟨z,y,rfl,rfl,hz,q⟩:=h
  obtain ⟨t,rfl⟩:=rx
  obtain ⟨u,rfl,⟨t',rfl⟩⟩:=vals1 rs
  exact SC.removeprefix (fun t' k=>⟨.str _,H,I.tok _,⟨_,rfl⟩,q⟩) hz
theorem call_int_text:CallR X (.type "int") (fun xs H Q=>∃ x n,xs=[.str x]∧PySem.intText? x=some n∧x.length≤640∧Q (.int n) H):=by
  intro pins s σ H xs us Q I r h
  obtain ⟨x,n,rfl,hn,hl,q⟩:=h
  obtain ⟨u,rfl,t,rfl⟩:=vals1 r
  exact KIN.call_text hn hl ⟨.int n,H,I.tok _,⟨_,rfl⟩,q⟩
end
structure XTx (K:PySem.W.Frag) (C f:Addr) (fd:FuncData) (n qual:Str) (st:Stmt):Prop where
  made:∃ cd,XMk K C f cd
  tk:takerIn K C n=some none
  get:XGet K C n
  val:kitOne K (.ref C) (.type "ValueError")=some true
  ini:∃ (oc:Value) (od:Option Addr) (dV kV doc pm:Value) (an:Option Addr) (cdv ct:Value) (osl:Array (Option Value)),
    fd=fnOf "__init__" qual (defArgs st) (defBody st) (defScope st) dV kV doc pm an cdv ct∧K.lookup f=some ⟨oc,od,.func fd,osl⟩∧codeIn K cdv qual=true
  bd:Binds K fd ["self",n] []
theorem tail1 {K:PySem.W.Frag} {L N:Addr} {c0 oN:Value} {d0 dN:Option Addr} {cd:ClassData} {sl sN:Array (Option Value)} {eN:Array DictEntry} {nN:Nat} (hL:K.lookup L=some ⟨c0,d0,.cls cd,sl⟩) (hN:cd.ns=N) (nl:K.lookup N=some ⟨oN,dN,.dict eN nN,sN⟩)
    (ke:(eN.toList.all fun e=>match e.key with | .str _ _=>true | _=>false)=true) (ni:nsIn K N "__init__"=some none):tailIn K vErr (.ref L :: vErr)=true:=by
  have h1:nsOkIn K N=true:=by unfold nsOkIn;rw [nl];dsimp only;rw [← Array.all_toList];exact ke
  have h2:tailIn K vErr vErr=true:=by unfold tailIn vErr;simp
  unfold tailIn
  dsimp only
  rw [hL]
  dsimp only
  rw [hN,h1,ni,h2]
  simp
theorem xtx_mk {K:PySem.W.Frag} {C L f N N':Addr} {nm q nm' q' n qual:Str} {bs bs':List Value} {hdct:Bool} {sn sn':List Str} {sub sub':List Value} {ab ab':Bool} {col col':Option Bool} {dd dd':Option Addr} {k0 k1 k2 k3 k5 k0' k1' k2' k3' k5':Option Value} {nid:String}
    {st:Stmt} {od an dN:Option Addr} {osl sN:Array (Option Value)} {oc dV kV doc pm cdv ct oN:Value} {eN:Array DictEntry} {nN:Nat}
    (hC:K.lookup C=some (excClassObj nm q C N bs (.ref L :: vErr) true sn sub ab col dd k0 k1 k2 k3 k5 "ValueError.__new__"))
    (hL:K.lookup L=some (excClassObj nm' q' L N' bs' vErr hdct sn' sub' ab' col' dd' k0' k1' k2' k3' k5' nid))
    (nl:K.lookup N'=some ⟨oN,dN,.dict eN nN,sN⟩) (ke:(eN.toList.all fun e=>match e.key with | .str _ _=>true | _=>false)=true) (ni:nsIn K N' "__init__"=some none)
    (hi:findIn K (.ref C) "__init__"=some (some (.ref f))) (hf:typeIn K (.ref f)=some (.type "function"))
    (l0:K.lookup f=some ⟨oc,od,.func (fnOf "__init__" qual (defArgs st) (defBody st) (defScope st) dV kV doc pm an cdv ct),osl⟩) (c0:codeIn K cdv qual=true)
    (hs:findIn K (.ref C) "__setattr__"=some (some (.builtin "object.__setattr__")))
    (hg:findIn K (.ref C) "__getattribute__"=some (some (.builtin "BaseException.__getattribute__"))) (hg2:findIn K (.ref C) "__getattr__"=some none)
    (hat:findIn K (.ref C) n=some none) (htk:takerIn K C n=some none) (hkp:keepIn K (.ref C)=true) (hhd:hasDictIn K C=true) (hm1:mroIn K C (.type "BaseException")=some true) (hk:subIn K (.ref C) (.type "ValueError")=some true)
    (hb:∀ (s:Shared) (us:List Value),K.In s.heap→us.length=2→BindsTo s (fnOf "__init__" qual (defArgs st) (defBody st) (defScope st) dV kV doc pm an cdv ct) ⟨us,[]⟩ (List.zip (["self",n]:List Str) us)) :
    XTx K C f (fnOf "__init__" qual (defArgs st) (defBody st) (defScope st) dV kV doc pm an cdv ct) n qual st∧XL K L:=by
  have hcls:clsIn K C=some { name:=nm,bases:=bs,mro:=.ref C :: .ref L :: vErr,ns:=N,qualname:=q,hasDict:=true,slotNames:=sn,subclasses:=sub,abstract:=ab,collection:=col,hasDel:=false }:=by
    unfold clsIn;rw [hC]
  refine ⟨⟨⟨_,⟨⟨hcls,rfl,⟨[.ref C,.ref L],rfl,?_⟩,hs⟩,⟨nm,q,N,bs,_,_,sn,sub,ab,col,dd,k0,k1,k2,k3,k5,hC,tail1 hL rfl nl ke ni,by rw [List.contains_cons,Bool.or_eq_true];exact .inr (by decide)⟩,hi,hf,hkp⟩⟩,htk,⟨hg,hg2,hat,hhd,hm1⟩,?_,⟨oc,od,dV,kV,doc,pm,an,cdv,ct,osl,rfl,l0,c0⟩,fun s us kin hl=>by rw [List.append_nil] at hl ⊢;exact hb s us kin hl⟩,
    ⟨nm',q',N',bs',_,hdct,sn',sub',ab',col',dd',k0',k1',k2',k3',k5',nid,hL,by decide⟩⟩
  · intro v hv
    simp at hv
    rcases hv with rfl | rfl
    · exact ⟨_,rfl⟩
    · exact ⟨_,rfl⟩
  · unfold kitOne
    rw [if_neg (by simp)]
    unfold kitCls
    dsimp only
    rw [if_pos (by decide +kernel)]
    exact hk
theorem XTx.init {P:Program} {w:World} {K:PySem.W.Frag} {mg:Str→Option Value} {base:Heap} {C f:Addr} {fd:FuncData} {n qual:Str} {st:Stmt} (T:XTx K C f fd n qual st) (S:FnScope ["self",n] ["self",n] (defScope st))
    (hbody:∀ X:Cx,X.N=(["self",n]:List Str)→X.env.scope=defScope st→X.K=K→PSs X (defBody st) (sXf K (tVar 0) (tVar 1) n)):FnOk P w K mg base CX0 1 f fd ["self",n] (spInit K n):=by
  obtain ⟨oc,od,dV,kV,doc,pm,an,cdv,ct,osl,rfl,lk,hcd⟩:=T.ini
  refine fn_of lk hcd S (fun vs H Q E h=>?_) fun A outer s H vs Q E hr h=>?_
  · obtain ⟨a,C',t,f',cd,y,rfl,_⟩:=h;rfl
  · obtain ⟨a,C',t,f',cd,y,rfl,ha,xc,tk,q⟩:=h
    exact ⟨_,hbody _ rfl rfl rfl,_,rfl,_,rfl,a,C',t,cd,f',rfl,ha,xc,tk,fun dx h1 h2=>q dx h1 h2⟩
theorem Fun.ok1 {P:Program} {w:World} {K:PySem.W.Frag} {mg:Str→Option Value} {base:Heap} {x qual:Str} {st:Stmt} {f:Addr} {fd:FuncData} {N ps:List Str} {k:Nat} {sp:Sp} (F:Fun K x qual st f fd) (S:FnScope N ps (defScope st)) (len:∀ vs H Q E,sp vs H Q E→vs.length=ps.length)
    (hbody:∀ (cdv:Value) (A:Around) (outer:List Env) (s:Shared) (H:Hp) (vs:List V) (Q:VK) (E:XK),Room k (A.deeper (envOfC qual (defScope st) s.heap.objs.size f cdv))→sp vs H Q E →
      ∃ t,PSs (cxOf (CX1 P w) P w K mg base N qual (defScope st) f cdv A outer s H E) (defBody st) t∧t { nx:=fun _ H'=>Q .non H',rt:=Q } (start N vs) H):FnOk P w K mg base (CX1 P w) (k+1) f fd ps sp:=by
  obtain ⟨oc,od,kV,doc,pm,an,cdv,ct,osl,rfl,lk,hcd⟩:=F.ex
  exact fn_of lk hcd S len fun A outer s H vs Q E hr hsp=>hbody cdv A outer s H vs Q E hr hsp
end L2
namespace L2
open PySem PySem.Spec PyProof.Rows PySem.W
def PassesAt (CX:CXT) (X:Cx) (E:XK) (σ0:St):Prop:=∀ (pins:List (Addr × Obj)) (H:Hp) (s:Shared) (e:Value) (s':Shared),Inv X pins σ0 H s→CX X.stack H s E e s'→X.xe e s'
def tAt (σ0:St) (t:TE):TE:=fun σ H Q=>σ=σ0∧t σ H Q
section
variable {X:Cx} {CX:CXT} {k:Nat} {f:Addr} {fd:FuncData} {ps:List Str} {sp:Sp} {dvs:List V} {ds:List Value} {E:XK} {x:Str} {p pos:Pos} {e:Expr} {es:List Expr} {t:TA} {σ0:St}
theorem pe_callA (F:FnOk X.prog X.w X.K X.mg X.base CX k f fd ps sp) (hr:Room k X.A) (hg:Gl X x) (hm:X.mg x=some (.ref f)) (hk:keepIn X.K (.ref f)=true) (hb:Binds X.K fd ps ds) (hd:Vals dvs ds) (hx:PassesAt CX X E σ0)
    (ha:PA X (e :: es) t) (hdb:(x == ("__debug__":Str))=false:=by decide) (he:starEach (e :: es) X.env=(false,eval e X.env) :: starEach es X.env:=by rfl) (hpl:(backTo pos (starEach es X.env)).any (·.1)=false:=by rfl) :
    PE X (.Call (.Name x p) (e :: es) [] pos) (tAt σ0 (tCall sp dvs E t)):=by
  intro pins s σ H Q I hh
  obtain ⟨rfl,h⟩:=hh
  refine wpAny_Call_Name_kw (ld_glob I hg hm ?_ hdb)
  refine callWith_K (h₀:=X.base) I.ok.mod.kin hk (thn (ha pos pins s σ H _ I h) fun us s1 hq=>?_) he hpl
  obtain ⟨vs,H1,I1,r,q⟩:=hq
  refine ⟨I1.kIn,?_⟩
  have r2:Vals (vs++dvs) (us++ds):=r.append hd
  have q':sp (vs++dvs) H1 Q E:=q
  have hl:(us++ds).length=ps.length:=r2.length ▸ F.len _ _ _ _ q'
  refine wpAny_call (codeAny_mono (F.run X.A X.stack s1 H1 ⟨us,[]⟩ (us++ds) (vs++dvs) Q E hr I1.env0 (hb s1 us I1.kIn hl) r2 q') fun r s' z=>?_)
  match r,z with
  | .error e,z=>exact hx pins H1 s1 e s' I1 z
  | .ok (.ret u),z=>exact I1.after z
  | .ok .next,z=>exact z.elim
  | .ok .brk,z=>exact z.elim
  | .ok .cont,z=>exact z.elim
end
section
variable {X:Cx} {pins:List (Addr × Obj)} {σ σ2:St} {H:Hp} {s:Shared} {h':Heap}
theorem Inv.renamed {m':Str→Option Value} {tk:Nat} (I:Inv X pins σ H s) (hn:h'.Ns X.env.locals m') (hs:Heap.SameBut X.env.locals s.heap h') (hl:σ2.length=X.N.length)
    (hσ:∀ (i:Nat) (x:Str) (v:V),X.N[i]?=some x→σ2[i]?=some (some v)→Vis X.env.scope x→∃ u,RelV v u∧Look X.env h' m' x u):Inv X pins σ2 H { s with heap:=h',toks:=tk }:=by
  have J:=I.forget (tk:=tk) hn hs
  exact ⟨J.ok,J.os,J.bare,J.base,⟨m',hn,hσ⟩,J.cell,J.free,J.freeC,J.pin,J.hok,hl⟩
theorem name_goes {M:Model} {A:Around} {E:Value→Shared→Prop} {n:Str} {j:Nat} {pos:Pos} {Q:Unit→Shared→Prop} (I:Inv X pins σ H s) (hnd:X.N.Nodup) (hj:X.N[j]?=some n) (hk:X.env.kindOf n=some .local)
    (h:∀ s',Inv X pins (σ.set j none) H s'→Q () s'):wpAny M A (do bindName X.env n .none;unbindBehindTheSuite X.env n pos) Q E s:=by
  refine wpAny_bind (wpAny_bindName (store_ok (i:=j) (v:=.non) (u:=Value.none) I hnd hj (.inl hk) rfl (fun s1 I1=>?_) (.inr hk)))
  unfold unbindBehindTheSuite
  refine wpAny_onRaise ?_
  obtain ⟨m,hm,hl⟩:=I1.loc
  have hjl:j < σ.length:=by rw [I.len];exact (List.getElem?_eq_some_iff.mp hj).1
  obtain ⟨u,ru,lk⟩:=hl j n .non hj (by rw [List.getElem?_set_self hjl]) (.inl hk)
  have hmn:m n=some u:=by
    rcases lk with ⟨_,z⟩ | ⟨z,_⟩
    · exact z
    · rw [hk] at z;rcases z with z | z <;> cases z
  have kk:(X.env.scope.kind == .class || (X.env.scope.kind == .module&&X.env.locals != X.env.globals))=false:=by rw [I1.ok.kind];rfl
  refine wpAny_unbindName_local hk hm hmn kk fun h' u' hn' hs'=>h _ (I1.renamed hn' hs' (by rw [List.length_set];exact I.len) fun i y v e1 e2 e3=>?_)
  by_cases hij:i=j
  · subst hij
    rw [List.getElem?_set_self hjl] at e2
    cases e2
  · rw [List.getElem?_set_ne (Ne.symm hij)] at e2
    have e2':(σ.set j (some .non))[i]?=some (some v):=by rw [List.getElem?_set_ne (Ne.symm hij)];exact e2
    obtain ⟨u2,r2,l2⟩:=hl i y v e1 e2' e3
    have hyn:y≠n:=fun z=>hij (nodup_ix hnd e1 (z ▸ hj))
    refine ⟨u2,r2,?_⟩
    rcases l2 with ⟨z1,z2⟩ | ⟨z1,c,z2,z3⟩
    · exact .inl ⟨z1,(if_neg hyn).trans z2⟩
    · exact .inr ⟨z1,c,z2,z3.sameBut hs' (I1.cne y c z2)⟩
end
end L2
namespace L2
open PySem PySem.Spec PyProof.Rows
section
variable {κ:Type} [DecidableEq κ]
def valV (kvs:List (κ × V)) (k:κ):Option V:=(kvs.find? fun kv=>decide (kv.1=k)).map (·.2)
def putK (kvs:List (κ × V)) (k:κ) (v:V):List (κ × V) :=
  if (kvs.any fun kv=>decide (kv.1=k))=true then kvs.map (fun kv=>if kv.1=k then (kv.1,v) else kv) else kvs++[(k,v)]
theorem valV_pos {p:κ × V} {r:List (κ × V)} {k:κ} (e:p.1=k):valV (p :: r) k=some p.2:=by simp [valV,List.find?_cons,e]
theorem valV_neg {p:κ × V} {r:List (κ × V)} {k:κ} (e:¬ p.1=k):valV (p :: r) k=valV r k:=by simp [valV,List.find?_cons,e]
theorem length_putK (kvs:List (κ × V)) (k:κ) (v:V):(putK kvs k v).length≤kvs.length+1:=by
  unfold putK
  split
  · rw [List.length_map];omega
  · rw [List.length_append,List.length_cons,List.length_nil];omega
theorem RelO.getD {o:Option V} {u:Option Value} {d:V} {d':Value} (r:RelO o u) (rd:RelV d d'):RelV (o.getD d) (u.getD d'):=by
  cases o with
  | none=>cases u with
    | none=>exact rd
    | some _=>exact (show False from r).elim
  | some _=>cases u with
    | none=>exact (show False from r).elim
    | some _=>exact r
theorem KV.val {kvs:List (κ × V)} {vs:List (κ × Value)} (r:KV kvs vs) (k:κ):RelO (valV kvs k) (valueAt vs k):=by
  unfold KV at r
  induction r with
  | nil=>exact True.intro
  | @cons p q ps qs h t ih =>
    obtain ⟨h1,h2⟩:=h
    by_cases e:p.1=k
    · have e':q.1=k:=h1.symm.trans e
      have b:valueAt (q :: qs) k=some q.2:=by simp [valueAt,List.find?_cons,e']
      rw [valV_pos e,b];exact h2
    · have e':¬ q.1=k:=fun z=>e (h1.trans z)
      have b:valueAt (q :: qs) k=valueAt qs k:=by simp [valueAt,List.find?_cons,e']
      rw [valV_neg e,b];exact ih
theorem KV.any {kvs:List (κ × V)} {vs:List (κ × Value)} (r:KV kvs vs) (k:κ):(kvs.any fun kv=>decide (kv.1=k))=vs.any fun kv=>decide (kv.1=k):=by
  unfold KV at r
  induction r with
  | nil=>rfl
  | cons h t ih=>rw [List.any_cons,List.any_cons,ih,h.1]
theorem KV.repl {kvs:List (κ × V)} {vs:List (κ × Value)} (r:KV kvs vs) (k:κ) {y:V} {u:Value} (ry:RelV y u) :
    KV (kvs.map fun kv=>if kv.1=k then (kv.1,y) else kv) (vs.map fun kv=>if kv.1=k then (kv.1,u) else kv):=by
  unfold KV at r ⊢
  induction r with
  | nil=>exact .nil
  | @cons p q ps qs h t ih =>
    rw [List.map_cons,List.map_cons]
    refine .cons ?_ ih
    obtain ⟨h1,h2⟩:=h
    by_cases e:p.1=k
    · rw [if_pos e,if_pos (h1.symm.trans e)];exact ⟨h1,ry⟩
    · rw [if_neg e,if_neg (fun z=>e (h1.trans z))];exact ⟨h1,h2⟩
theorem KV.put {kvs:List (κ × V)} {vs:List (κ × Value)} (r:KV kvs vs) (k:κ) {y:V} {u:Value} (ry:RelV y u):KV (putK kvs k y) (stored vs k u):=by
  unfold putK stored
  rw [r.any k]
  by_cases e:(vs.any fun kv=>decide (kv.1=k))=true
  · rw [if_pos e,if_pos e];exact r.repl k ry
  · rw [if_neg e,if_neg e];exact Paired.snoc r ⟨rfl,ry⟩
theorem KV.keys {kvs:List (κ × V)} {vs:List (κ × Value)} (r:KV kvs vs):kvs.map (·.1)=vs.map (·.1):=by
  unfold KV at r
  induction r with
  | nil=>rfl
  | cons h t ih=>rw [List.map_cons,List.map_cons,ih,h.1]
theorem KV.length {kvs:List (κ × V)} {vs:List (κ × Value)} (r:KV kvs vs):kvs.length=vs.length:=Paired.length r
end
theorem kV_is {P:Program} {w:World} {k:Key} {u:Value} (r:RelV (kV k) u):(mixKind P w).is k u=true:=by
  cases k with
  | inl i=>obtain ⟨t,e⟩:=(show ∃ t,u=Value.int i t from r);subst e;exact mixKind_int P w i t
  | inr x=>obtain ⟨t,e⟩:=(show ∃ t,u=Value.str x t from r);subst e;exact mixKind_str P w x t
theorem items_are {P:Program} {w:World}:∀ {ks:List Key} {us:List Value},Vals (ks.map kV) us→ItemsAre (mixKind P w) ks us
  | [],_,r=>by rw [List.map_nil] at r;cases r;exact .nil
  | k :: ks,_,r=>by
    rw [List.map_cons] at r
    cases r with
    | cons h t=>exact .cons (kV_is h) (items_are t)
abbrev KT (H:Hp):List (List Key × V)→List (List Key × Addr × Value)→Prop:=Paired fun p q=>p.1=q.1∧H q.2.1=some (.tup (p.1.map kV))∧RelV p.2 q.2.2
theorem KT.val {H:Hp} {kvs:List (List Key × V)} {xs:List (List Key × Addr × Value)} (r:KT H kvs xs) (k:List Key):RelO (valV kvs k) ((atKey xs k).map (·.2)):=by
  induction r with
  | nil=>exact True.intro
  | @cons p q ps qs h t ih =>
    obtain ⟨h1,_,h2⟩:=h
    by_cases e:p.1=k
    · have e':q.1=k:=h1.symm.trans e
      have b:atKey (q :: qs) k=some q.2:=by simp [atKey,List.find?_cons,e']
      rw [valV_pos e,b];exact h2
    · have e':¬ q.1=k:=fun z=>e (h1.trans z)
      have b:atKey (q :: qs) k=atKey qs k:=by simp [atKey,List.find?_cons,e']
      rw [valV_neg e,b];exact ih
section
variable {P:Program} {w:World} {H:Hp} {h:Heap} {a:Addr}
theorem rd_of {u:HO} (ok:HOk P w H h) (e:Rd H a u):ObjOk P w H h a u:=e.ok ok
theorem dk_rd {kvs:List (Key × V)} (ok:HOk P w H h) (e:Rd H a (.dK kvs)):kvs.length≤sizeLine∧(a == sysModules)=false∧∃ vs,KV kvs vs∧h.DictOf (mixKind P w) a vs :=
  show ObjOk P w H h a (.dK kvs) from rd_of ok e
theorem dk_of {kvs:List (Key × V)} (ok:HOk P w H h) (e:H a=some (.dK kvs)):kvs.length≤sizeLine∧(a == sysModules)=false∧∃ vs,KV kvs vs∧h.DictOf (mixKind P w) a vs:=dk_rd ok (.inl e)
theorem key_of {ks:List Key} (ok:HOk P w H h) (e:H a=some (.tup (ks.map kV))):(tupleKind (mixKind P w)).is h ks a:=by
  obtain ⟨_,its,r,o,h1,h2,n,h3⟩:=(show ObjOk P w H h a (.tup (ks.map kV)) from ok a _ e)
  exact ⟨o,its.toArray,n,h1,h2,h3,by simpa using items_are r⟩
theorem dt_rd {kvs:List (List Key × V)} (ok:HOk P w H h) (e:Rd H a (.dT kvs)):kvs.length≤sizeLine∧(a == sysModules)=false ∧
    ∃ xs,KT H kvs xs∧h.DictOfH (tupleKind (mixKind P w)) a xs:=by
  obtain ⟨z,y,xs,r,o,es,ep,h1,h2,h3,h4,h5⟩:=(show ObjOk P w H h a (.dT kvs) from rd_of ok e)
  refine ⟨z,y,xs,r,o,es,ep,h1,h2,h3,h4,fun x hx=>?_,h5⟩
  have all:∀ {l:List (List Key × V)} {m:List (List Key × Addr × Value)},KT H l m→∀ x ∈ m,(tupleKind (mixKind P w)).is h x.1 x.2.1:=by
    intro l m q
    induction q with
    | nil=>intro x hx;exact nomatch hx
    | @cons p q ps qs hq t ih =>
      intro x hx
      rcases List.mem_cons.mp hx with e | hx
      · subst e
        exact key_of ok (by rw [← hq.1];exact hq.2.1)
      · exact ih x hx
  exact all r x hx
end
def DGet (H:Hp) (a:Addr) (y:V) (r:Option V):Prop :=
  (∃ kvs k,Rd H a (.dK kvs)∧y=kV k∧r=valV kvs k)∨∃ kvs k b,Rd H a (.dT kvs)∧y=.ref b∧H b=some (.tup (k.map kV))∧r=valV kvs k
theorem DGet.k {H:Hp} {a:Addr} {kvs:List (Key × V)} {k:Key} (e:H a=some (.dK kvs)):DGet H a (kV k) (valV kvs k):=.inl ⟨kvs,k,.inl e,rfl,rfl⟩
section
variable {X:Cx} {pins:List (Addr × Obj)} {σ:St} {H:Hp} {s:Shared} {a:Addr} {y v:V} {u r:Value} {o:Option V} {A:Around} {E:Value→Shared→Prop}
theorem Inv.big (I:Inv X pins σ H s):sysModules < s.heap.objs.size:=by
  have h:mainGlobals < s.heap.objs.size:=(I.mod.glob.keeps I.bk).lt
  exact Nat.lt_trans (by decide) h
theorem d_getItem {Q:Value→Shared→Prop} (hu:A.units+1 < cLine) (I:Inv X pins σ H s) (g:DGet H a y (some v)) (ry:RelV y u) (h:∀ w' s',Inv X pins σ H s'→RelV v w'→Q w' s') :
    wpAny (model X.prog X.w) A (getItem (.ref a) u) Q E s:=by
  rcases g with ⟨kvs,k,e,ey,l⟩ | ⟨kvs,k,b,e,ey,eb,l⟩
  · subst ey
    obtain ⟨z,hd,vs,rel,dd⟩:=dk_rd I.hok e
    obtain ⟨w',hw,rw'⟩:=RelO.some_of (v:=v) (o:=valueAt vs k) (by rw [l];exact rel.val k)
    exact wpAny_getItem_of (kV_is ry) dd.mapOf hw (h w' _ (I.tok _) rw')
  · subst ey
    cases (show u=Value.ref b from ry)
    obtain ⟨z,hd,xs,rel,dd⟩:=dt_rd I.hok e
    obtain ⟨w',hw,rw'⟩:=RelO.some_of (v:=v) (o:=(atKey xs k).map (·.2)) (by rw [l];exact rel.val k)
    obtain ⟨p,hp,hp2⟩:=Option.map_eq_some_iff.mp hw
    refine wpAny_getItem_heap (tupleKind_room_in1 hu) (key_of I.hok eb) dd hp ?_
    rw [hp2]
    exact h w' _ (I.tok _) rw'
theorem d_write {h':Heap} {t':Nat} {ob:HO} (I:Inv X pins σ H s) (mu:Mut (H a)) (hs:Heap.SameBut a s.heap h') (he:∃ q,h'.get? a=some q) (new:ObjOk X.prog X.w (upd H a ob) h' a ob) :
    Inv X pins σ (upd H a ob) { s with heap:=h',toks:=t' } :=
  I.write (x:=a) (e:=a) mu (.inl rfl) (fun b q hb z=>(hs.2 b hb).trans z) he new
theorem dk_new {P:Program} {w:World} {H':Hp} {h':Heap} {kvs:List (Key × V)} {vs:List (Key × Value)} (z:kvs.length≤sizeLine) (hd:(a == sysModules)=false) (rel:KV kvs vs) (dd:h'.DictOf (mixKind P w) a vs) :
    ObjOk P w H' h' a (.dK kvs):=⟨z,hd,vs,rel,dd⟩
end
def NoSl (i:Expr):Prop:=∀ ov iv,subscripted i false ov iv=operate [ov,iv] (getItem ov iv)
theorem subD_of {prog:Program} {w:World} {A:Around} {E:Value→Shared→Prop} {s:Shared} {env:Env} {value slice:Expr} {pos:Pos} {T id:String} {Q:Value→Shared→Prop}
    (hl:typeLookup (.type T) "__getitem__"=pure (some (.builtin id))) (hs:NoSl slice)
    (h:wpAny (model prog w) A (eval value env) (fun o s₁=>wpAny (model prog w) A (eval slice env) (fun i s₂=>s₂.TypeIs o T∧wpAny (model prog w) A (getItem o i) Q E s₂) E s₁) E s) :
    wpAny (model prog w) A (eval (.Subscript value slice pos) env) Q E s:=by
  refine Subscript_ (wpAny_mono h (fun o s₁ h₁=>wpAny_mono h₁ (fun i s₂ h₂=>?_) fun _ _ x=>x) fun _ _ x=>x)
  obtain ⟨hT,h₂⟩:=h₂
  unfold subscriptTail
  refine wpAny_bind ?_
  rw [getitemInPython_of_ne hT.not_modules]
  refine wpAny_bind (wpAny_specialOf hT hl ?_)
  have fin:wpAny (model prog w) A (subscripted slice false o i) (fun r s₃=>wpAny (model prog w) A (letTemporaryGo value o r >>= fun _=>pure r) Q E s₃) E s₂:=by
    rw [hs o i]
    exact wpAny_operating (wpAny_mono h₂ (fun r s₃ h₃=>wpAny_bind (wpAny_letTemporaryGo (wpAny_pure h₃))) fun _ _ x=>x)
  first
    | exact wpAny_pure (wpAny_bind fin)
    | exact wpAny_bind (wpAny_pure (wpAny_bind fin))
    | exact wpAny_bind fin
theorem dict_typeIs {X:Cx} {pins:List (Addr × Obj)} {σ:St} {H:Hp} {s:Shared} {a:Addr} {y:V} {o:Option V} (I:Inv X pins σ H s) (g:DGet H a y o):s.TypeIs (.ref a) "dict":=by
  rcases g with ⟨kvs,k,e,_,_⟩ | ⟨kvs,k,b,e,_,_,_⟩
  · obtain ⟨_,_,vs,_,dd⟩:=dk_rd I.hok e
    exact dd.typeIs
  · obtain ⟨_,_,xs,_,dd⟩:=dt_rd I.hok e
    exact dd.typeIs
def tDGet (td ty:TE):TE:=fun σ H Q=>td σ H fun x H1=>ty σ H1 fun y H2=>∃ a v,x=.ref a∧DGet H2 a y (some v)∧Q v H2
section
variable {X:Cx} {o i e value:Expr} {pos pos' tpos:Pos} {td ty tv:TE}
theorem pe_dget (hu:X.A.units+1 < cLine) (ho:PE X o td) (hi:PE X i ty) (hs:NoSl i):PE X (.Subscript o i pos) (tDGet td ty):=by
  intro pins s σ H Q I h
  refine subD_of PySem.F.slot_dict_getitem.lookup hs (thn (ho pins s σ H _ I h) fun u s1 ⟨x,H1,I1,rx,q1⟩=>thn (hi pins s1 σ H1 _ I1 q1) fun iv s2 ⟨y,H2,I2,ry,a,v,ex,g,q2⟩=>?_)
  subst ex
  obtain rfl:u=Value.ref a:=rx
  exact ⟨dict_typeIs I2 g,d_getItem hu I2 g ry fun w' s3 I3 rw'=>⟨v,H2,I3,rw',q2⟩⟩
end
theorem dk_empty {P:Program} {w:World} {H:Hp} (h:Heap) (hb:sysModules < h.objs.size):ObjOk P w H (h.push { cls:=.type "dict",data:=.dict #[] }) h.objs.size (.dK []) :=
  ⟨Nat.zero_le _,beq_eq_false_iff_ne.mpr (Ne.symm (Nat.ne_of_lt hb)),[],.nil,Heap.DictOf.new h⟩
def tPairs:List (TE × TE)→St→Hp→(List (V × V)→Hp→Prop)→Prop
  | [],_,H,Q=>Q [] H
  | (tk,tv) :: r,σ,H,Q=>tk σ H fun x H1=>tv σ H1 fun y H2=>tPairs r σ H2 fun ps H3=>Q ((x,y) :: ps) H3
abbrev VV:List (V × V)→List (Value × Value)→Prop:=Paired fun p q=>RelV p.1 q.1∧RelV p.2 q.2
def PPs (X:Cx) (pos:Pos) (keys:List (Option Expr)) (values:List Expr) (trs:List (TE × TE)):Prop :=
  ∀ (pins:List (Addr × Obj)) (s:Shared) (σ:St) (H:Hp) (Q:List (V × V)→Hp→Prop),Inv X pins σ H s→tPairs trs σ H Q →
    wpAny (model X.prog X.w) X.A (evalPairs (pairTrees keys values X.env pos)) (fun vs s'=>∃ ps H',Inv X pins σ H' s'∧VV ps vs∧Q ps H') X.xe s
theorem pps_nil {X:Cx} {pos:Pos}:PPs X pos [] [] []:=fun pins s σ H Q I h=>pairTrees_nil_walk ⟨[],H,I,.nil,h⟩
theorem pps_cons {X:Cx} {pos:Pos} {k v:Expr} {ks:List (Option Expr)} {vs:List Expr} {tk tv:TE} {trs:List (TE × TE)} (hk:PE X k tk) (hv:PE X v tv) (hr:PPs X pos ks vs trs) :
    PPs X pos (some k :: ks) (v :: vs) ((tk,tv) :: trs):=fun pins s σ H Q I h =>
  pairTrees_cons_walk (thn (hk pins s σ H _ I h) fun u s1 ⟨x,H1,I1,rx,q1⟩=>thn (hv pins s1 σ H1 _ I1 q1) fun w2 s2 ⟨y,H2,I2,ry,q2⟩ =>
    thn (hr pins s2 σ H2 _ I2 q2) fun ws s3 ⟨ps,H3,I3,rel,q3⟩=>⟨(x,y) :: ps,H3,I3,.cons ⟨rx,ry⟩ rel,q3⟩)
def mergeK (kvs more:List (Key × V)):List (Key × V):=more.foldl (fun acc kv=>putK acc kv.1 kv.2) kvs
theorem KV.merge:∀ {more:List (Key × V)} {rs:List (Key × Value)} {kvs:List (Key × V)} {vs:List (Key × Value)},KV more rs→KV kvs vs→KV (mergeK kvs more) (merged vs rs):=by
  intro more rs kvs vs r
  unfold KV at r
  induction r generalizing kvs vs with
  | nil=>intro q;exact q
  | @cons p q ps qs h t ih =>
    intro r0
    have e:KV (putK kvs p.1 p.2) (stored vs q.1 q.2):=by
      have:=r0.put p.1 h.2
      rw [← h.1];exact this
    exact ih e
theorem length_mergeK:∀ (more kvs:List (Key × V)),(mergeK kvs more).length≤kvs.length+more.length
  | [],kvs=>by show kvs.length≤kvs.length+0;omega
  | p :: r,kvs=>by
    have h1:=length_mergeK r (putK kvs p.1 p.2)
    have h2:=length_putK kvs p.1 p.2
    show (mergeK (putK kvs p.1 p.2) r).length≤_
    rw [List.length_cons];omega
theorem carries_of {P:Program} {w:World}:∀ {kvs:List (Key × V)} {ws:List (Value × Value)},VV (kvs.map fun kv=>(kV kv.1,kv.2)) ws→∃ rs,Carries (mixKind P w) ws rs∧KV kvs rs
  | [],_,r=>by rw [List.map_nil] at r;cases r;exact ⟨[],True.intro,.nil⟩
  | p :: kvs,_,r=>by
    rw [List.map_cons] at r
    cases r with
    | @cons a b as bs h t =>
      obtain ⟨rs,c,q⟩:=carries_of (P:=P) (w:=w) t
      obtain ⟨b1,b2⟩:=b
      exact ⟨(p.1,b2) :: rs,⟨kV_is h.1,rfl,c⟩,.cons ⟨rfl,h.2⟩ q⟩
def tDisp (trs:List (TE × TE)):TE:=fun σ H Q=>∀ p,H p=none→tPairs trs σ (upd H p (.dK [])) fun ps H2=>H2 p=some (.dK [])∧∃ kvs:List (Key × V),ps=kvs.map (fun kv=>(kV kv.1,kv.2))∧kvs.length≤15∧Q (.ref p) (upd H2 p (.dK (mergeK [] kvs)))
theorem pe_disp {X:Cx} {pos:Pos} {keys:List (Option Expr)} {values:List Expr} {trs:List (TE × TE)} (h:PPs X pos keys values trs) (hall:keys.all (·.isSome)=true) (hl:keys.length=values.length) (h0:keys≠[])
    (h15:keys.length≤15):PE X (.Dict keys values pos) (tDisp trs):=by
  intro pins s σ H Q I q
  have hn:=I.hok.fresh (Nat.le_refl s.heap.objs.size)
  have I1:=I.laid (a:=s.heap.objs.size) (o:=.dK []) (h':=s.heap.push { cls:=.type "dict",data:=.dict #[] }) (t':=s.toks) (fun _ _ q=>Heap.get?_push_of_some _ q) (Nat.le_refl _) (dk_empty s.heap I.big)
  refine wpAny_Dict_walk (knd:=mixKind X.prog X.w) hall hl h0 h15 (thn (h pins _ σ _ _ I1 (q _ hn)) fun ws s2 ⟨ps,H2,I2,rel,e,kvs,ep,lk,q2⟩=>?_)
  subst ep
  obtain ⟨rs,c,rk⟩:=carries_of (P:=X.prog) (w:=X.w) rel
  obtain ⟨z,hd,vs0,r0,dd⟩:=dk_of I2.hok e
  cases r0
  refine ⟨rs,c,dd,fun h' dd' hs=>⟨.ref s.heap.objs.size,_,?_,rfl,q2⟩⟩
  have hz:(mergeK [] kvs).length≤sizeLine:=by
    have h1:=length_mergeK kvs []
    rw [List.length_nil] at h1
    rw [sizeLine_eq];omega
  have he:∃ q,h'.get? s.heap.objs.size=some q:=let ⟨q,_,_,hq,_⟩:=dd';⟨q,hq⟩
  exact d_write I2 (by rw [e];exact True.intro) hs he (dk_new hz hd (rk.merge .nil) dd')
structure M2 (X:Cx) (o:Expr) (m:Str) (apos:Pos) (e f:Expr) (cpos:Pos):Prop where
  base:attributeBase o m X.env (eval o X.env)=eval o X.env
  few:((backTo cpos (starEach [e,f] X.env)).all (fun x=>!x.1)&&(backToKw cpos (keywordEach [] X.env)).all (fun x=>x.1.isSome)
    && decide (([e,f]:List Expr).length+([]:List Keyword).length+(if ([]:List Keyword).isEmpty then 0 else 1) < 30))=true
  line:(apos.endLine == cpos.line)=true
  trees:backTo cpos (starEach [e,f] X.env)=[(false,eval e X.env),(false,eval f X.env)]
def IsD (H:Hp) (a:Addr):Prop:=(∃ kvs,Rd H a (.dK kvs))∨∃ kvs,Rd H a (.dT kvs)
theorem isD_at {X:Cx} {pins:List (Addr × Obj)} {σ:St} {H:Hp} {s:Shared} {a:Addr} (I:Inv X pins σ H s) (d:IsD H a) :
    s.TypeIs (.ref a) "dict"∧(∀ b,Value.ref a=.ref b→∃ ob,s.heap.get? b=some ob∧ob.dict=none)∧(a == sysModules)=false:=by
  rcases d with ⟨kvs,e⟩ | ⟨kvs,e⟩
  · obtain ⟨_,hd,vs,_,dd⟩:=dk_rd I.hok e
    refine ⟨dd.typeIs,fun b q=>?_,hd⟩
    cases q
    obtain ⟨ob,_,_,h1,h2,_⟩:=dd
    exact ⟨ob,h1,h2.2.1⟩
  · obtain ⟨_,hd,xs,_,dd⟩:=dt_rd I.hok e
    refine ⟨dd.typeIs,fun b q=>?_,hd⟩
    cases q
    obtain ⟨ob,_,_,h1,h2,_⟩:=dd
    exact ⟨ob,h1,h2.2.1⟩
section
variable {X:Cx} {pins:List (Addr × Obj)} {σ:St} {H:Hp} {s:Shared} {a:Addr} {y d:V} {u r:Value} {o:Option V} {A:Around} {E:Value→Shared→Prop}
theorem d_get2 {Q:Value→Shared→Prop} (hu:A.units+1 < cLine) (I:Inv X pins σ H s) (g:DGet H a y o) (ry:RelV y u) (rd:RelV d r) (h:∀ w' s',Inv X pins σ H s'→RelV (o.getD d) w'→Q w' s') :
    wpAny (model X.prog X.w) A (call (.builtin "dict.get") [.ref a,u,r]) Q E s:=by
  rcases g with ⟨kvs,k,e,ey,l⟩ | ⟨kvs,k,b,e,ey,eb,l⟩
  · subst ey
    obtain ⟨z,hd,vs,rel,dd⟩:=dk_rd I.hok e
    refine call_meetsIn PySem.F.slot_dict_get dd.typeIs PySem.F.entry_dict_get (PySem.F.args_dict_get_3 _ _ _) (meets_dict_get_default (mixKind X.prog X.w) a (kV_is ry) hd r) ⟨_,dd.mapOf,h _ _ (I.tok _) ?_⟩
    rw [l]
    exact (rel.val k).getD rd
  · subst ey
    cases (show u=Value.ref b from ry)
    obtain ⟨z,hd,xs,rel,dd⟩:=dt_rd I.hok e
    refine call_meetsIn PySem.F.slot_dict_get dd.typeIs PySem.F.entry_dict_get (PySem.F.args_dict_get_3 _ _ _) (meetsH_dict_get_default (tupleKind (mixKind X.prog X.w)) a b hd r) ⟨tupleKind_room_in1 hu,k,xs,key_of I.hok eb,dd,h _ _ (I.tok _) ?_⟩
    rw [l]
    exact (rel.val k).getD rd
end
def tDGet2 (td ty tx:TE):TE:=fun σ H Q=>td σ H fun x H1=>∃ a,x=.ref a∧IsD H1 a∧ty σ H1 fun y H2=>tx σ H2 fun z H3=>∃ o,DGet H3 a y o∧Q (o.getD z) H3
section
variable {X:Cx} {o e f:Expr} {apos cpos:Pos} {td ty tx:TE}
theorem pe_dget2 (hu:X.A.units+1 < cLine) (ho:PE X o td) (he:PE X e ty) (hf:PE X f tx) (m:M2 X o "get" apos e f cpos):PE X (.Call (.Attribute o "get" apos) [e,f] [] cpos) (tDGet2 td ty tx):=by
  intro pins s σ H Q I h
  refine wpAny_Call_method m.base m.few m.line PySem.F.plainAttrs_dict PySem.F.slot_dict_get PySem.F.type_dict_get (thn (ho pins s σ H _ I h) fun u s1 ⟨x,H1,I1,rx,a,ex,d,q1⟩=>?_)
  subst ex
  obtain rfl:u=Value.ref a:=rx
  obtain ⟨t1,t2,_⟩:=isD_at I1 d
  refine ⟨t1,t2,?_⟩
  rw [m.trees]
  refine Calls.callWith_builtin rfl (Calls.evalArgs_plain (Calls.spliced_cons (thn (he pins s1 σ H1 _ I1 q1) fun iv s2 ⟨y,H2,I2,ry,q2⟩ =>
    Calls.spliced_cons (thn (hf pins s2 σ H2 _ I2 q2) fun fv s3 ⟨z,H3,I3,rz,ov,g,q3⟩=>Calls.spliced_nil ?_))))
  exact d_get2 hu I3 g ry rz fun w' s4 I4 rw'=>⟨_,H3,I4,rw',q3⟩
end
end L2
namespace L2
open PySem PySem.Spec PyProof.Rows PySem.W
theorem ent_loop:entryFor table "dict.update.loop"=some Builtin.«dict.update.loop»:=entryFor_of_tree (by kernel_rfl)
theorem pl_loop:plainId "dict.update.loop"=true:=by decide +kernel
theorem list_keys:typeLookup (.type "list") "keys"=pure none:=by rw [typeLookup_type,builtinLookup_eq_fast];kernel_rfl
theorem keys_miss {prog:Program} {w:World} {A:Around} {E:Value→Shared→Prop} {s:Shared} {a:Addr} {xs:Array Value} {k:Nat} {sl:Array (Option Value)} {Q:Option Value→Shared→Prop} (hh:A.handled=none)
    (hx:s.heap.get? a=some { cls:=.type "list",dict:=none,data:=.seq xs k,slots:=sl }) (h:∀ h' tk,(∀ b o,s.heap.get? b=some o→h'.get? b=some o)→Q none { s with heap:=h',toks:=tk }) :
    wpAny (model prog w) A (getAttr? (.ref a) "keys") Q E s:=by
  obtain ⟨hp,g,d,tk,os⟩:=s
  have hT:∀ tk',(⟨hp,g,d,tk',os⟩:Shared).TypeIs (.ref a) "list":=fun _=>⟨_,hx,rfl⟩
  have f1:=sub_AttributeError
  have f3:=F.slot_list_getattribute.lookup
  have f4:=F.slot_list_getattribute.bind (.ref a)
  have f5:=am_list_getattr_none
  unfold getAttr? getAttrBy?
  refine wpAny_bind (wpAny_mkText (wpAny_bind (wpAny_attempt ?_)))
  unfold getAttrBy
  repeat (any_goals (first | assumption | exact hT _ | ((with_reducible show wpAny _ _ (call (Value.builtin "list.__getattribute__") _ _) _ _ _);refine call_meets F.slot_list_getattribute (hT _) am_entry_list_getattribute (F.args_list_getattribute_2 _ _) (meets_getattribute_miss_list a xs k sl "keys" _ list_keys (by decide +kernel) (by decide +kernel)) ⟨hx,hh,fun h' tk' e hx'=>?_⟩) | wp_step))
  obtain ⟨t',u',he⟩:=hx'.there
  show wpAny _ _ (getattributeRaised _ _ _ _ _ _ _) _ _ _
  unfold getattributeRaised
  repeat (any_goals (first | assumption | wp_step))
  exact h _ _ hx'.keeps
section
variable {prog:Program} {w:World} {A:Around} {s:Shared} {it l d:Addr} {items:Array Value}
def foldP (ps:List (Key × Value)):List (Key × Value):=ps.foldl (fun a p=>stored a p.1 p.2) []
theorem foldP_snoc (ps:List (Key × Value)) (p:Key × Value):foldP (ps++[p])=stored (foldP ps) p.1 p.2:=by unfold foldP;rw [List.foldl_append];rfl
theorem stored_len (a:List (Key × Value)) (k:Key) (v:Value):(stored a k v).length≤a.length+1:=by
  unfold stored
  split
  · rw [List.length_map];omega
  · rw [List.length_append];simp
theorem foldP_len (ps:List (Key × Value)):(foldP ps).length≤ps.length:=by
  have g:∀ (ps a:List (Key × Value)),(ps.foldl (fun a p=>stored a p.1 p.2) a).length≤a.length+ps.length:=by
    intro ps
    induction ps with
    | nil=>intro a;exact Nat.le_refl _
    | cons p ps ih =>
      intro a
      have h1:=ih (stored a p.1 p.2)
      have h2:=stored_len a p.1 p.2
      rw [List.foldl_cons,List.length_cons]
      omega
  have:=g ps []
  rw [List.length_nil,Nat.zero_add] at this
  exact this
def PairsAt (h:Heap) (d it:Addr) (items:Array Value) (ps:List (Key × Value)):Prop:=items.size=ps.length∧∀ (j:Nat) (p:Key × Value),ps[j]?=some p→∃ T kv,items[j]?=some (.ref T)∧h.IsTuple T #[kv,p.2]∧keyIs p.1 kv=true∧T≠it∧T≠d
theorem loop_pairs (hh:A.handled=none) (hli:l≠it) (hld:l≠d) (hdi:d≠it) (ps:List (Key × Value)) (hz:ps.length≤sizeLine):∀ (n i:Nat) (s:Shared) (R:Result→Shared→Prop),ps.length - i=n→i≤ps.length→s.heap.IsListIter it l i→s.heap.IsList l items→PairsAt s.heap d it items ps →
    s.heap.DictOf (mixKind prog w) d (foldP (ps.take i)) →
    (∀ h' tk,h'.DictOf (mixKind prog w) d (foldP ps)→(∀ b o,b≠it→b≠d→s.heap.get? b=some o→h'.get? b=some o)→R (.ok (.ret .none)) { s with heap:=h',toks:=tk }) →
    codeAny (model prog w) A (.builtin "dict.update.loop" ⟨[.ref d,.ref it,rawInt i,.none],[]⟩) R s:=by
  intro n
  induction n with
  | zero =>
    intro i s R hn hi hit hl hp hd hR
    refine codeAny_builtin ent_loop ?_
    rw [Around.under_plainId pl_loop _]
    unfold Builtin.«dict.update.loop»
    have e:i=ps.length:=by omega
    refine wpAny_bind (wpAny_pyNext_list_end hh hit hl (by rw [Array.getElem?_eq_none];rw [hp.1];omega) fun h' he=>?_)
    refine wpAny_bind (m:=Builtin.Dict.addKeywords d []) (wpAny_pure (wpAny_pure ?_))
    have e2:ps.take i=ps:=by rw [e,List.take_length]
    rw [e2] at hd
    exact hR h' s.toks (hd.extBut he hdi) fun b o hb _ q=>he b o hb q
  | succ n ih =>
    intro i s R hn hi hit hl hp hd hR
    refine codeAny_builtin ent_loop ?_
    rw [Around.under_plainId pl_loop _]
    unfold Builtin.«dict.update.loop»
    obtain ⟨p,hpi⟩:∃ p,ps[i]?=some p:=⟨_,List.getElem?_eq_getElem (by omega)⟩
    obtain ⟨T,kv,h1,h2,h3,h4,h5⟩:=hp.2 i p hpi
    refine wpAny_bind (wpAny_pyNext_list_item hit hl h1 fun h' hit' sb=>?_)
    have hT:=h2.extBut sb.extBut h4
    have hd1:=hd.extBut sb.extBut hdi
    have hl1:=hl.extBut sb.extBut hli
    refine wpAny_bind (wpAny_holding (wpAny_bind (wpAny_tryCatch ?_)))
    unfold Builtin.Dict.pairItems
    obtain ⟨oT,hoT,hcT,nT,hdT⟩:=id hT
    refine wpAny_bind (wpAny_typeOf (s:={ s with heap:=h' }) (T:="tuple") ⟨oT,hoT,hcT⟩ ?_)
    rw [if_pos (by decide)]
    refine wpAny_bind (wpAny_seqItems hoT hdT (wpAny_pure ?_))
    show wpAny _ _ (holding [kv,p.2] (dictSet d kv p.2)) _ _ _
    have hlen:(foldP (ps.take i)).length≤sizeLine:=by
      have a1:=foldP_len (ps.take i)
      have a2:(ps.take i).length≤ps.length:=by rw [List.length_take];omega
      omega
    refine wpAny_holding (wpAny_dictSet_pairs (s:={ s with heap:=h' }) (hsz:=hlen) (knd:=mixKind prog w) h3 hd1 fun h2' hd2 sb2=>?_)
    refine wpAny_pure ⟨Code.quiet_builtin _ (by decide +kernel),?_⟩
    have et:ps.take (i+1)=ps.take i++[p]:=by rw [List.take_add_one,hpi];rfl
    have ei:((i:Int)+1)=((i+1:Nat):Int):=by omega
    show codeAny (model prog w) A (.builtin "dict.update.loop" ⟨[.ref d,.ref it,rawInt ((i:Int)+1),.none],[]⟩) R _
    rw [ei]
    refine ih (i+1) _ R (by omega) (by have:=(List.getElem?_eq_some_iff.mp hpi).1;omega) (hit'.extBut sb2.extBut (Ne.symm hdi)) (hl1.extBut sb2.extBut hld) ⟨hp.1,fun j q hq=>?_⟩ (by rw [et,foldP_snoc];exact hd2) fun h3' tk hd3 hk=>?_
    · obtain ⟨T',kv',a1,a2,a3,a4,a5⟩:=hp.2 j q hq
      exact ⟨T',kv',a1,(a2.extBut sb.extBut a4).extBut sb2.extBut a5,a3,a4,a5⟩
    · exact hR h3' tk hd3 fun b o hb1 hb2 q=>hk b o hb1 hb2 (sb2.extBut b o hb2 (sb.extBut b o hb1 q))
theorem dict_of_pairs {E:Value→Shared→Prop} {Q:Value→Shared→Prop} {n:Nat} (hh:A.handled=none) (ho:s.heap.get? l=some { cls:=.type "list",dict:=none,data:=.seq items n,slots:=#[] }) (ps:List (Key × Value)) (hz:ps.length≤sizeLine)
    (hp:items.size=ps.length∧∀ (j:Nat) (p:Key × Value),ps[j]?=some p→∃ T kv,items[j]?=some (.ref T)∧s.heap.IsTuple T #[kv,p.2]∧keyIs p.1 kv=true)
    (h:∀ h' tk,h'.DictOf (mixKind prog w) s.heap.objs.size (foldP ps)→(∀ b o,s.heap.get? b=some o→h'.get? b=some o)→Q (.ref s.heap.objs.size) { s with heap:=h',toks:=tk }) :
    wpAny (model prog w) A (call (.type "dict") [.ref l]) Q E s:=by
  refine callType_codes (Q₁:=fun obj s₁=>obj=.ref s.heap.objs.size∧s₁={ s with heap:=s.heap.push { cls:=.type "dict",data:=.dict #[] } }) F.kt_called_dict (F.kt_typeCall_dict_1 _) F.entry_dict_init (kt_code_dict_new _ ⟨rfl,rfl⟩) ?_
  rintro obj s₁ ⟨rfl,rfl⟩
  have hnew:(s.heap.push { cls:=.type "dict",data:=.dict #[] }).DictOf (mixKind prog w) s.heap.objs.size []:=Heap.DictOf.new s.heap
  have up:∀ b o,s.heap.get? b=some o→(s.heap.push { cls:=.type "dict",data:=.dict #[] }).get? b=some o:=fun b o q=>Heap.get?_push_of_some _ q
  have hlt:l < s.heap.objs.size:=Heap.lt_size ho
  refine ⟨hnew.typeIs,F.args_dict_init_2 _ _,?_⟩
  unfold Builtin.«dict.__init__»
  refine wpAny_bind ?_
  unfold Builtin.Dict.selfAndRest
  refine wpAny_bind (wpAny_notOrdered_dict hnew.typeIs ?_)
  show wpAny _ _ (pure (s.heap.objs.size,[Value.ref l])) _ _ _
  refine wpAny_pure ?_
  show wpAny _ _ (Builtin.Dict.updateFrom "dict.__init__" s.heap.objs.size (.ref l) [] .none) _ _ _
  unfold Builtin.Dict.updateFrom
  refine wpAny_bind (wpAny_typeOf (T:="list") ⟨_,up l _ ho,rfl⟩ ?_)
  rw [if_pos (by decide)]
  refine wpAny_bind (keys_miss (A:=A.in1.in1) hh (up l _ ho) fun h1 tk1 k1=>?_)
  rw [if_pos (by rfl)]
  have k01:∀ b o,s.heap.get? b=some o→h1.get? b=some o:=fun b o q=>k1 b o (up b o q)
  have hl1:h1.IsList l items:=⟨_,k01 l _ ho,rfl,n,rfl⟩
  have hd1:h1.DictOf (mixKind prog w) s.heap.objs.size []:=hnew.at fun o q=>k1 _ o q
  refine wpAny_bind (wpAny_rule (wpAny_bind (wpAny_pyIter_list (s:={ s with heap:=h1,toks:=tk1 }) hl1 (wpAny_pure ⟨Code.quiet_builtin _ (by decide +kernel),?_⟩))))
  have hsz:s.heap.objs.size < h1.objs.size:=by
    obtain ⟨_,_,_,e,_⟩:=hd1
    exact Heap.lt_size e
  have tlt:∀ T xs,s.heap.IsTuple T xs→T < s.heap.objs.size:=fun T xs ⟨_,e,_⟩=>Heap.lt_size e
  refine loop_pairs (l:=l) (items:=items) (A:=A.in1) hh (Nat.ne_of_lt (Nat.lt_trans hlt hsz)) (Nat.ne_of_lt hlt) (Nat.ne_of_lt hsz) ps hz _ 0 _ _ rfl (Nat.zero_le _) ⟨_,Heap.get?_push_size _ rfl,rfl,rfl⟩ (hl1.push _) ⟨hp.1,fun j p hj=>?_⟩ (hd1.push _) fun h' tk hd' hk=>?_
  · obtain ⟨T,kv,a1,a2,a3⟩:=hp.2 j p hj
    have:=tlt T _ a2
    exact ⟨T,kv,a1,(a2.at fun o q=>Heap.get?_push_of_some _ (k01 _ o q)),a3,Nat.ne_of_lt (Nat.lt_trans this hsz),Nat.ne_of_lt this⟩
  · refine ⟨rfl,h h' tk hd' fun b o q=>hk b o ?_ ?_ (Heap.get?_push_of_some _ (k01 b o q))⟩
    · exact Nat.ne_of_lt (Nat.lt_trans (Heap.lt_size q) hsz)
    · exact Nat.ne_of_lt (Heap.lt_size q)
end
section
variable {X:Cx}
theorem vals_of_strs:∀ {us:List Value} {ys:List Str},StrsAre us ys→Vals (ys.map V.str) us:=by
  intro us ys h
  induction h with
  | nil=>exact .nil
  | cons y t _ ih=>exact .cons ⟨t,rfl⟩ ih
theorem call_sortedS:CallR X (.builtin "sorted") (fun xs H Q=>∃ p ss,xs=[.ref p]∧SqL X.K H p (ss.map V.str)∧ss.length < 64∧∀ ss' l,ss'.Perm ss→sortedS ss'=true→H l=none→Q (.ref l) (upd H l (.lst (ss'.map V.str)))):=by
  intro pins s σ H xs us Q I r h
  obtain ⟨p,ss,rfl,hq,hz,q⟩:=h
  obtain ⟨u,rfl,ru⟩:=vals1 r
  cases ru
  obtain ⟨its,rv,pl,_⟩:=I.list hq
  have hS:=strs_are rv
  have hl:its.length < 64:=by rw [← rv.length,List.length_map];exact hz
  refine sorted_strs pl.isList (by simpa using hS) hl fun out ss' a1 a2 a3=>?_
  obtain ⟨e,he⟩:=sortedAll_at s.heap its out
  have hf:H (s.heap.objs.size+1)=none:=I.hok.fresh (Nat.le_succ _)
  have hl':ss'.length=ss.length:=a2.length_eq
  exact ⟨.ref (s.heap.objs.size+1),_,I.laid (t':=s.toks) (o:=.lst (ss'.map V.str)) (fun b o z=>sortedAll_old z) (Nat.le_succ _) ⟨by rw [List.length_map,hl',sizeLine_eq];omega,out.toList,e,vals_of_strs a1,he⟩,rfl,q ss' _ a2 a3 hf⟩
theorem rel_key {k:Key} {v:Value} (h:keyIs k v=true):RelV (kV k) v:=by
  rcases keyIs_shape h with ⟨i,t,rfl,rfl⟩ | ⟨x,t,rfl,rfl⟩
  · exact ⟨t,rfl⟩
  · exact ⟨t,rfl⟩
theorem vals_keys:∀ (ks:List Key) (acc:List Value),acc.length=ks.length→(∀ (j:Nat) (v:Value),acc[j]?=some v→∃ k,ks[j]?=some k∧keyIs k v=true)→Vals (ks.map kV) acc
  | [],[],_,_=>.nil
  | k :: ks,v :: acc,hl,h=>by
    obtain ⟨k',e,hk⟩:=h 0 v rfl
    have e':k=k':=by simpa using e
    subst e'
    exact .cons (rel_key hk) (vals_keys ks acc (by simpa using hl) fun j u hu=>by simpa using h (j+1) u (by simpa using hu))
  | [],_ :: _,hl,_=>by simp at hl
  | _ :: _,[],hl,_=>by simp at hl
theorem call_listD (hc:X.calm=true):CallR X (.type "list") (fun xs H Q=>∃ d kvs,xs=[.ref d]∧Rd H d (.dK kvs)∧∀ l,H l=none→Q (.ref l) (upd H l (.lst ((kvs.map (·.1)).map kV)))):=by
  intro pins s σ H xs us Q I r h
  obtain ⟨d,kvs,rfl,hd,q⟩:=h
  obtain ⟨u,rfl,ru⟩:=vals1 r
  cases ru
  obtain ⟨z,lo,vs,rel,dd⟩:=dk_rd I.hok hd
  obtain ⟨ep,hat⟩:=dd.dictAt
  refine kdl_call (kdl_dict (knd:=mixKind X.prog X.w) (kvs:=vs) (ep:=ep) lo) (I.ok.hd hc) hat (by rw [← rel.length];exact z) fun h' tk acc c kp he hit=>?_
  have hl:acc.toList.length=kvs.length:=by rw [Array.length_toList,hit.1,rel.length]
  have hv:Vals ((kvs.map (·.1)).map kV) acc.toList:=vals_keys _ _ (by rw [List.length_map];exact hl) fun j v hj=>by
    obtain ⟨k,x,e,hk⟩:=hit.2 j v (by rw [← Array.getElem?_toList];exact hj)
    refine ⟨k,?_,hk⟩
    rw [rel.keys,List.getElem?_map,e]
    rfl
  refine ⟨.ref s.heap.objs.size,_,I.laid (t':=tk) (o:=.lst ((kvs.map (·.1)).map kV)) kp (Nat.le_refl _) ⟨by rw [List.length_map,List.length_map];exact z,acc.toList,c,hv,?_⟩,rfl,q _ (I.hok.fresh (Nat.le_refl _))⟩
  rw [Array.toArray_toList]
  exact he
def foldK (kvs:List (Key × V)):List (Key × V):=kvs.foldl (fun a p=>putK a p.1 p.2) []
theorem kv_fold {kvs:List (Key × V)} {vs:List (Key × Value)} (r:KV kvs vs):KV (foldK kvs) (foldP vs):=by
  have g:∀ {kvs:List (Key × V)} {vs:List (Key × Value)},KV kvs vs→∀ {a:List (Key × V)} {b:List (Key × Value)},KV a b→KV (kvs.foldl (fun a p=>putK a p.1 p.2) a) (vs.foldl (fun a p=>stored a p.1 p.2) b):=by
    intro kvs vs h
    unfold KV at h
    induction h with
    | nil=>intro a b h;exact h
    | @cons p q _ _ h1 _ ih =>
      intro a b h
      rw [List.foldl_cons,List.foldl_cons]
      have z:=KV.put h p.1 h1.2
      rw [← h1.1]
      exact ih z
  exact g r .nil
theorem pair_vals {P:Program} {w:World} {H:Hp} {h:Heap} (hok:HOk P w H h):∀ (ts:List Addr) (kvs:List (Key × V)) (us:List Value),ts.length=kvs.length→(∀ (j:Nat) (t:Addr) (kv:Key × V),ts[j]?=some t→kvs[j]?=some kv→H t=some (.tup [kV kv.1,kv.2]))→Vals (ts.map V.ref) us →
    ∃ vs:List (Key × Value),KV kvs vs∧us.length=vs.length∧∀ (j:Nat) (p:Key × Value),vs[j]?=some p→∃ T kv,us[j]?=some (.ref T)∧h.IsTuple T #[kv,p.2]∧keyIs p.1 kv=true
  | [],[],us,_,_,r=>by cases r;exact ⟨[],.nil,rfl,fun j p hj=>by simp at hj⟩
  | t :: ts,kv :: kvs,us,hl,hH,r=>by
    cases r with
    | cons r1 r2 =>
      cases r1
      obtain ⟨vs,h1,h2,h3⟩:=pair_vals hok ts kvs _ (by simpa using hl) (fun j t' kv' a b=>hH (j+1) t' kv' (by simpa using a) (by simpa using b)) r2
      obtain ⟨_,its,rv,pl⟩:=(show ObjOk P w H h t (.tup [kV kv.1,kv.2]) from hok t _ (hH 0 t kv rfl rfl))
      obtain ⟨u1,u2,rfl,ru1,ru2⟩:=vals2 rv
      refine ⟨(kv.1,u2) :: vs,.cons ⟨rfl,ru2⟩ h1,by rw [List.length_cons,List.length_cons,h2],fun j p hj=>?_⟩
      cases j with
      | zero =>
        have e:(kv.1,u2)=p:=by simpa using hj
        subst e
        exact ⟨t,u1,rfl,pl,kV_is (P:=P) (w:=w) ru1⟩
      | succ j =>
        obtain ⟨T,k,a1,a2,a3⟩:=h3 j p (by simpa using hj)
        exact ⟨T,k,by simpa using a1,a2,a3⟩
  | [],_ :: _,_,hl,_,_=>by simp at hl
  | _ :: _,[],_,hl,_,_=>by simp at hl
theorem foldK_len (kvs:List (Key × V)):(foldK kvs).length≤kvs.length:=by
  have g:∀ (ps a:List (Key × V)),(ps.foldl (fun a p=>putK a p.1 p.2) a).length≤a.length+ps.length:=by
    intro ps
    induction ps with
    | nil=>intro a;exact Nat.le_refl _
    | cons p ps ih =>
      intro a
      have h1:=ih (putK a p.1 p.2)
      have h2:=length_putK a p.1 p.2
      rw [List.foldl_cons,List.length_cons]
      omega
  have:=g kvs []
  rw [List.length_nil,Nat.zero_add] at this
  exact this
theorem call_dictP (hc:X.calm=true):CallR X (.type "dict") (fun xs H Q=>∃ (p:Addr) (ts:List Addr) (kvs:List (Key × V)),xs=[.ref p]∧H p=some (.lst (ts.map V.ref))∧ts.length=kvs.length ∧
    (∀ (j:Nat) (t:Addr) (kv:Key × V),ts[j]?=some t→kvs[j]?=some kv→H t=some (.tup [kV kv.1,kv.2]))∧∀ d,H d=none→Q (.ref d) (upd H d (.dK (foldK kvs)))):=by
  intro pins s σ H xs us Q I r h
  obtain ⟨p,ts,kvs,rfl,hp,hl,hH,q⟩:=h
  obtain ⟨u,rfl,ru⟩:=vals1 r
  cases ru
  obtain ⟨hz,its,n,rv,hg⟩:=(show ObjOk X.prog X.w H s.heap p (.lst (ts.map V.ref)) from I.hok p _ hp)
  obtain ⟨vs,h1,h2,h3⟩:=pair_vals I.hok ts kvs its hl hH rv
  have hz':kvs.length≤sizeLine:=by rw [← hl];rw [List.length_map] at hz;exact hz
  refine dict_of_pairs (I.ok.hd hc) hg vs (by rw [← h1.length];exact hz') ⟨by rw [List.size_toArray];exact h2,fun j p hj=>?_⟩ fun h' tk hd kp=>?_
  · obtain ⟨T,kv,a1,a2,a3⟩:=h3 j p hj
    exact ⟨T,kv,by simpa using a1,a2,a3⟩
  · refine ⟨.ref s.heap.objs.size,_,I.laid (t':=tk) (o:=.dK (foldK kvs)) kp (Nat.le_refl _) ⟨Nat.le_trans (foldK_len kvs) hz',?_,foldP vs,kv_fold h1,hd⟩,rfl,q _ (I.hok.fresh (Nat.le_refl _))⟩
    exact beq_eq_false_iff_ne.mpr (Nat.ne_of_gt I.big)
end
end L2
namespace L2
open PySem PySem.Spec PyProof.Rows PySem.W
end L2
namespace L2
open PySem PySem.Spec PyProof.Rows PySem.W
section
variable {prog:Program} {w:World} {A:Around} {E:Value→Shared→Prop} {s:Shared}
theorem next_tup {i t:Addr} {k:Nat} {xs:Array Value} {x:Value} {Q:Value→Shared→Prop} (st:s.heap.IsTupleIter i t k) (ht:s.heap.IsTuple t xs) (hx:xs[k]?=some x)
    (q:∀ h',h'.IsTupleIter i t (k+1)→Heap.SameBut i s.heap h'→Q x { s with heap:=h' }):wpAny (model prog w) A (Builtin.SmallTypes.nextOf (.ref i)) Q E s:=by
  obtain ⟨oi,e1,c1,d1⟩:=id st
  obtain ⟨ot,e2,_,n2,d2⟩:=ht
  unfold Builtin.SmallTypes.nextOf
  refine wpAny_bind (wpAny_callSpecial?_slot (name:=Str.ofString "__next__") st.typeIs F.slot_tuple_iterator_next (wpAny_call_entry F.slot_tuple_iterator_next st.typeIs F.entry_tuple_iterator_next ?_ (F.args_tuple_iterator_next_1 _)))
  show wpAny _ _ (field (.ref i) 0 >>= _) _ _ s
  refine wpAny_bind (wpAny_field e1 d1 (x:=.ref t) rfl ?_)
  show wpAny _ _ (if (Value.ref t == Value.none)=true then _ else _) _ _ s
  rw [if_neg (show ¬ ((Value.ref t == Value.none)=true) from nofun)]
  show wpAny _ _ (field (.ref i) 1 >>= _) _ _ s
  refine wpAny_bind (wpAny_field e1 d1 (x:=.int k 0) rfl ?_)
  show wpAny _ _ (seqItems? (.ref t) >>= _) _ _ s
  refine wpAny_bind (wpAny_seqItems e2 d2 ?_)
  simp only [hx,Int.toNat_natCast]
  refine wpAny_bind (wpAny_setField e1 d1 (by simp) (wpAny_pure ⟨x,rfl,wpAny_pure (q _ ⟨_,Heap.get?_update_self _ e1 (Obj.isFreed_of_fields (Obj.data_mapFields d1 _)),(Obj.cls_mapFields ..).trans c1,?_⟩ (Heap.SameBut.update ..))⟩))
  rw [Obj.data_mapFields d1]
  simp [rawInt]
theorem stop_tup {i t:Addr} {k:Nat} {xs:Array Value} {Q:Value→Shared→Prop} (hh:A.handled=none) (st:s.heap.IsTupleIter i t k) (ht:s.heap.IsTuple t xs) (hx:xs[k]?=none)
    (q:∀ h' e,Heap.ExtBut i s.heap h'→(∃ o,h'.get? e=some o∧o.cls=.type "StopIteration")→E (.ref e) { s with heap:=h' }):wpAny (model prog w) A (Builtin.SmallTypes.nextOf (.ref i)) Q E s:=by
  obtain ⟨oi,e1,c1,d1⟩:=id st
  obtain ⟨ot,e2,_,n2,d2⟩:=ht
  unfold Builtin.SmallTypes.nextOf
  refine wpAny_bind (wpAny_callSpecial?_slot (name:=Str.ofString "__next__") st.typeIs F.slot_tuple_iterator_next (wpAny_call_entry F.slot_tuple_iterator_next st.typeIs F.entry_tuple_iterator_next ?_ (F.args_tuple_iterator_next_1 _)))
  show wpAny _ _ (field (.ref i) 0 >>= _) _ _ s
  refine wpAny_bind (wpAny_field e1 d1 (x:=.ref t) rfl ?_)
  show wpAny _ _ (if (Value.ref t == Value.none)=true then _ else _) _ _ s
  rw [if_neg (show ¬ ((Value.ref t == Value.none)=true) from nofun)]
  show wpAny _ _ (field (.ref i) 1 >>= _) _ _ s
  refine wpAny_bind (wpAny_field e1 d1 (x:=.int k 0) rfl ?_)
  show wpAny _ _ (seqItems? (.ref t) >>= _) _ _ s
  refine wpAny_bind (wpAny_seqItems e2 d2 ?_)
  simp only [hx,Int.toNat_natCast]
  refine wpAny_bind (wpAny_rule (wpAny_bind (wpAny_setField e1 d1 (by simp) ?_)))
  show wpAny _ _ (newExc (.type "StopIteration") [] >>= _) _ _ _
  refine wpAny_bind ?_
  simp only [newTuple,newExc]
  refine wpAny_bind (wpAny_newObj_type ?_ (by size_fits))
  refine wpAny_bind (m:=firstArgMember _ _) (wpAny_of_eq (a:=Value.none) (by first | (simp only [firstArgMember];rfl) | rfl) (wpAny_newObj_type ?_ (by size_fits)))
  simp only [raiseNew]
  refine wpAny_bind (wpAny_handled ?_)
  rw [show A.in1.handled=none from hh]
  exact wpAny_bind (wpAny_pure (wpAny_throw (q _ _ (((Heap.SameBut.update ..).extBut.push _).push _) ⟨_,Heap.get?_push_size _ rfl,rfl⟩)))
def ZipT (z TI TO i1 i2 t1 t2:Addr) (k:Nat) (h:Heap):Prop:=IsZip h z TI TO .none∧IsPair h TI (.ref i1) (.ref i2)∧(∃ a b,IsPair h TO a b)∧h.IsTupleIter i1 t1 k∧h.IsTupleIter i2 t2 k
theorem zipT_item {z TI TO i1 i2 t1 t2:Addr} {k:Nat} {xs ys:Array Value} {x y:Value} {Q:Value→Shared→Prop} (D:ZipApart z TI TO i1 i2 t1 t2) (Z:ZipT z TI TO i1 i2 t1 t2 k s.heap) (g1:s.heap.IsTuple t1 xs) (g2:s.heap.IsTuple t2 ys) (hx:xs[k]?=some x) (hy:ys[k]?=some y)
    (q:∀ h',IsZip h' z TI TO (rawInt s.heap.objs.size)→IsPair h' TI (.ref i1) (.ref i2)→IsPair h' TO x y→h'.IsTupleIter i1 t1 (k+1)→h'.IsTupleIter i2 t2 (k+1)→IsPair h' s.heap.objs.size x y →
      (∀ c o,c ∉ [z,TO,i1,i2]→s.heap.get? c=some o→h'.get? c=some o)→Q (.ref s.heap.objs.size) { s with heap:=h' }) :
    wpAny (model prog w) A (Builtin.«zip.__next__» ⟨[.ref z],[]⟩) (fun fin s'=>∃ v,fin=.done (.ret v)∧Q v s') E s:=by
  obtain ⟨z0,zI,⟨a,b,zO⟩,st1,st2⟩:=Z
  show wpAny _ _ (field (.ref z) 2 >>= _) _ _ _
  refine wpAny_bind (wpAny_field z0 rfl (x:=.bool false) rfl ?_)
  show wpAny _ _ (field (.ref z) 3 >>= _) _ _ _
  refine wpAny_bind (wpAny_field z0 rfl (x:=.ref TI) rfl (wpAny_bind (wpAny_seqItems zI rfl ?_)))
  show wpAny _ _ (Builtin.SmallTypes.ownedTupleIsFree (.ref z) >>= _) _ _ _
  refine wpAny_bind ?_
  unfold Builtin.SmallTypes.ownedTupleIsFree
  refine wpAny_bind (wpAny_field z0 rfl (x:=.none) rfl (wpAny_pure ?_))
  simp only [if_true]
  refine wpAny_bind (wpAny_rule (wpAny_bind (wpAny_field z0 rfl (x:=.ref TO) rfl (wpAny_bind (wpAny_setField_rec z0 (by simp) fun ha za sa=>?_)))))
  replace za:IsZip ha z TI TO .ellipsis:=za
  refine wpAny_bind ?_
  simp only [List.zipIdx_nil,List.zipIdx_cons,List.forIn_nil,List.forIn_cons]
  refine wpAny_bind (wpAny_bind (wpAny_onRaise ?_))
  show wpAny _ _ (Builtin.SmallTypes.nextOf (.ref i1) >>= _) _ _ _
  refine wpAny_bind (next_tup (st1.extBut sa.extBut D.i1z) (g1.extBut sa.extBut D.l1z) hx fun hb st1b sb=>wpAny_pure ?_)
  have zOb:IsPair hb TO a b:=sb.extBut _ _ D.TOi1 (sa.extBut _ _ D.TOz zO)
  refine wpAny_bind (wpAny_seqItems zOb rfl (wpAny_bind (wpAny_updateSeq_pair zOb fun hc zOc sc=>?_)))
  replace zOc:IsPair hc TO x b:=zOc
  refine wpAny_bind (wpAny_letGo (wpAny_pure (wpAny_bind (wpAny_bind (wpAny_onRaise ?_)))))
  show wpAny _ _ (Builtin.SmallTypes.nextOf (.ref i2) >>= _) _ _ _
  refine wpAny_bind (next_tup (((st2.extBut sa.extBut D.i2z).extBut sb.extBut D.i12.symm).extBut sc.extBut D.TOi2.symm) (((g2.extBut sa.extBut D.l2z).extBut sb.extBut D.l2i1).extBut sc.extBut D.l2TO) hy fun hd st2d sd=>wpAny_pure ?_)
  have zOd:IsPair hd TO x b:=sd.extBut _ _ D.TOi2 zOc
  refine wpAny_bind (wpAny_seqItems zOd rfl (wpAny_bind (wpAny_updateSeq_pair zOd fun he zOe se=>?_)))
  replace zOe:IsPair he TO x y:=zOe
  refine wpAny_bind (wpAny_letGo (wpAny_pure (wpAny_pure (wpAny_bind (wpAny_seqItems zOe rfl (wpAny_bind (wpAny_newTuple ?_)))))))
  have size:he.objs.size=s.heap.objs.size:=by rw [se.1,sd.1,sc.1,sb.1,sa.1]
  have ze:IsZip he z TI TO .ellipsis:=se.extBut _ _ D.TOz.symm (sd.extBut _ _ D.i2z.symm (sc.extBut _ _ D.TOz.symm (sb.extBut _ _ D.i1z.symm za)))
  have ke:∀ c o,c ∉ [z,TO,i1,i2]→s.heap.get? c=some o→he.get? c=some o:=fun c o hn e=>by
    simp only [List.mem_cons,List.not_mem_nil,or_false,not_or] at hn
    exact se.extBut _ _ hn.2.1 (sd.extBut _ _ hn.2.2.2 (sc.extBut _ _ hn.2.1 (sb.extBut _ _ hn.2.2.1 (sa.extBut _ _ hn.1 e))))
  have s1e:he.IsTupleIter i1 t1 (k+1):=((st1b.extBut sc.extBut D.TOi1.symm).extBut sd.extBut D.i12).extBut se.extBut D.TOi1.symm
  have s2e:he.IsTupleIter i2 t2 (k+1):=st2d.extBut se.extBut D.TOi2.symm
  have lz:z < he.objs.size:=Heap.lt_size ze
  show wpAny _ _ (Builtin.SmallTypes.ownedTupleHandOut (.ref z) (.ref he.objs.size) >>= _) _ _ _
  refine wpAny_bind ?_
  unfold Builtin.SmallTypes.ownedTupleHandOut
  have zf:IsZip (he.push { cls:=.type "tuple",data:=.seq #[x,y] }) z TI TO .ellipsis:=Heap.get?_push_of_some _ ze
  refine wpAny_bind (wpAny_setField_rec zf (by simp) fun hg zg sg=>?_)
  replace zg:IsZip hg z TI TO (rawInt he.objs.size):=zg
  refine wpAny_setField_rec zg (by simp) fun hj zj sj=>?_
  replace zj:IsZip hj z TI TO (rawInt he.objs.size):=zj
  have up:∀ c o,c≠z→he.get? c=some o→hj.get? c=some o:=fun c o hn e=>sj.extBut _ _ hn (sg.extBut _ _ hn (Heap.get?_push_of_some _ e))
  have pj:IsPair hj he.objs.size x y:=sj.extBut _ _ (Nat.ne_of_gt lz) (sg.extBut _ _ (Nat.ne_of_gt lz) (Heap.get?_push_size _ rfl))
  rw [size] at zj pj
  refine wpAny_pure ⟨_,rfl,?_⟩
  show Q (.ref he.objs.size) _
  rw [size]
  refine q hj zj (up _ _ D.TIz (ke TI _ ?_ zI)) (up _ _ D.TOz zOe) (let ⟨o,e,r⟩:=s1e;⟨o,up _ o D.i1z e,r⟩) (let ⟨o,e,r⟩:=s2e;⟨o,up _ o D.i2z e,r⟩) pj fun c o hn e=>up c o (fun y=>hn (by simp [y])) (ke c o hn e)
  simp only [List.mem_cons,List.not_mem_nil,or_false,not_or]
  exact ⟨D.TIz,D.TITO,D.TIi1,D.TIi2⟩
theorem zipT_stop {z TI TO i1 i2 t1 t2:Addr} {k:Nat} {xs ys:Array Value} {Q:Fin→Shared→Prop} (hh:A.handled=none) (D:ZipApart z TI TO i1 i2 t1 t2) (Z:ZipT z TI TO i1 i2 t1 t2 k s.heap) (g1:s.heap.IsTuple t1 xs) (g2:s.heap.IsTuple t2 ys) (hn:xs[k]?=none∨ys[k]?=none)
    (q:∀ h' e,(∀ c o,c ∉ [z,TO,i1,i2]→s.heap.get? c=some o→h'.get? c=some o)→(∃ o,h'.get? e=some o∧o.cls=.type "StopIteration")→E (.ref e) { s with heap:=h' }) :
    wpAny (model prog w) A (Builtin.«zip.__next__» ⟨[.ref z],[]⟩) Q E s:=by
  obtain ⟨z0,zI,⟨a,b,zO⟩,st1,st2⟩:=Z
  show wpAny _ _ (field (.ref z) 2 >>= _) _ _ _
  refine wpAny_bind (wpAny_field z0 rfl (x:=.bool false) rfl ?_)
  show wpAny _ _ (field (.ref z) 3 >>= _) _ _ _
  refine wpAny_bind (wpAny_field z0 rfl (x:=.ref TI) rfl (wpAny_bind (wpAny_seqItems zI rfl ?_)))
  show wpAny _ _ (Builtin.SmallTypes.ownedTupleIsFree (.ref z) >>= _) _ _ _
  refine wpAny_bind ?_
  unfold Builtin.SmallTypes.ownedTupleIsFree
  refine wpAny_bind (wpAny_field z0 rfl (x:=.none) rfl (wpAny_pure ?_))
  simp only [if_true]
  refine wpAny_bind (wpAny_rule (wpAny_bind (wpAny_field z0 rfl (x:=.ref TO) rfl (wpAny_bind (wpAny_setField_rec z0 (by simp) fun ha za sa=>?_)))))
  replace za:IsZip ha z TI TO .ellipsis:=za
  refine wpAny_bind ?_
  simp only [List.zipIdx_nil,List.zipIdx_cons,List.forIn_nil,List.forIn_cons]
  refine wpAny_bind (wpAny_bind (wpAny_onRaise ?_))
  show wpAny _ _ (Builtin.SmallTypes.nextOf (.ref i1) >>= _) _ _ _
  have parts:∀ {c:Addr},c ∉ [z,TO,i1,i2]→c≠z∧c≠TO∧c≠i1∧c≠i2:=fun {c} h=>by simpa only [List.mem_cons,List.not_mem_nil,or_false,not_or] using h
  have fin:∀ {hx:Heap} {e:Addr},IsZip hx z TI TO .ellipsis→(∀ c o,c ∉ [z,TO,i1,i2]→s.heap.get? c=some o→hx.get? c=some o)→(∃ o,hx.get? e=some o∧o.cls=.type "StopIteration") →
      wpAny (model prog w) A (setField (.ref z) 0 .none) (fun _ s'=>E (.ref e) s') E { s with heap:=hx }:=fun {hx e} zx kx ex=>by
    obtain ⟨oe,ee,ce⟩:=ex
    have ne:e≠z:=fun y=>by rw [y,zx] at ee;cases ee;simp at ce
    exact wpAny_setField_rec zx (by simp) fun hy _ sy=>q hy e (fun c o hc e'=>sy.extBut _ _ (parts hc).1 (kx c o hc e')) ⟨oe,sy.extBut _ _ ne ee,ce⟩
  cases hx:xs[k]? with
  | none =>
    refine wpAny_bind (stop_tup hh (st1.extBut sa.extBut D.i1z) (g1.extBut sa.extBut D.l1z) hx fun hb e sb ex=>?_)
    exact fin (sb _ _ D.i1z.symm za) (fun c o hc e'=>sb _ _ (parts hc).2.2.1 (sa.extBut _ _ (parts hc).1 e')) ex
  | some x =>
    have hy:ys[k]?=none:=hn.resolve_left fun y=>by rw [hx] at y;cases y
    refine wpAny_bind (next_tup (st1.extBut sa.extBut D.i1z) (g1.extBut sa.extBut D.l1z) hx fun hb st1b sb=>wpAny_pure ?_)
    have zOb:IsPair hb TO a b:=sb.extBut _ _ D.TOi1 (sa.extBut _ _ D.TOz zO)
    refine wpAny_bind (wpAny_seqItems zOb rfl (wpAny_bind (wpAny_updateSeq_pair zOb fun hc zOc sc=>?_)))
    refine wpAny_bind (wpAny_letGo (wpAny_pure (wpAny_bind (wpAny_bind (wpAny_onRaise ?_)))))
    show wpAny _ _ (Builtin.SmallTypes.nextOf (.ref i2) >>= _) _ _ _
    refine wpAny_bind (stop_tup hh (((st2.extBut sa.extBut D.i2z).extBut sb.extBut D.i12.symm).extBut sc.extBut D.TOi2.symm) (((g2.extBut sa.extBut D.l2z).extBut sb.extBut D.l2i1).extBut sc.extBut D.l2TO) hy fun hd e sd ex=>?_)
    exact fin (sd _ _ D.i2z.symm (sc.extBut _ _ D.TOz.symm (sb.extBut _ _ D.i1z.symm za))) (fun c o hc e'=>sd _ _ (parts hc).2.2.2 (sc.extBut _ _ (parts hc).2.1 (sb.extBut _ _ (parts hc).2.2.1 (sa.extBut _ _ (parts hc).1 e')))) ex
theorem pyNext_zipT {z TI TO i1 i2 t1 t2:Addr} {k:Nat} {xs ys:Array Value} {x y:Value} {Q:Option Value→Shared→Prop} (D:ZipApart z TI TO i1 i2 t1 t2) (Z:ZipT z TI TO i1 i2 t1 t2 k s.heap) (g1:s.heap.IsTuple t1 xs) (g2:s.heap.IsTuple t2 ys) (hx:xs[k]?=some x) (hy:ys[k]?=some y)
    (q:∀ h',IsZip h' z TI TO (rawInt s.heap.objs.size)→IsPair h' TI (.ref i1) (.ref i2)→IsPair h' TO x y→h'.IsTupleIter i1 t1 (k+1)→h'.IsTupleIter i2 t2 (k+1)→IsPair h' s.heap.objs.size x y →
      (∀ c o,c ∉ [z,TO,i1,i2]→s.heap.get? c=some o→h'.get? c=some o)→Q (some (.ref s.heap.objs.size)) { s with heap:=h' }):wpAny (model prog w) A (pyNext (.ref z)) Q E s:=by
  have ty:s.TypeIs (.ref z) "zip":=⟨_,Z.1,rfl⟩
  unfold pyNext
  exact wpAny_bind (wpAny_attempt (wpAny_callSpecial?_slot (name:=Str.ofString "__next__") ty F.slot_zip_next (wpAny_call_entry F.slot_zip_next ty F.entry_zip_next
    (zipT_item D Z g1 g2 hx hy fun h' a1 a2 a3 a4 a5 a6 a7=>wpAny_pure (q h' a1 a2 a3 a4 a5 a6 a7)) (F.args_zip_next_1 _))))
theorem pyStop_zipT {z TI TO i1 i2 t1 t2:Addr} {k:Nat} {xs ys:Array Value} {Q:Option Value→Shared→Prop} (hh:A.handled=none) (D:ZipApart z TI TO i1 i2 t1 t2) (Z:ZipT z TI TO i1 i2 t1 t2 k s.heap) (g1:s.heap.IsTuple t1 xs) (g2:s.heap.IsTuple t2 ys) (hn:xs[k]?=none∨ys[k]?=none)
    (q:∀ h',(∀ c o,c ∉ [z,TO,i1,i2]→s.heap.get? c=some o→h'.get? c=some o)→Q none { s with heap:=h' }):wpAny (model prog w) A (pyNext (.ref z)) Q E s:=by
  have ty:s.TypeIs (.ref z) "zip":=⟨_,Z.1,rfl⟩
  unfold pyNext
  refine wpAny_bind (wpAny_attempt (wpAny_callSpecial?_slot (name:=Str.ofString "__next__") ty F.slot_zip_next (wpAny_call_entry F.slot_zip_next ty F.entry_zip_next
    (zipT_stop hh D Z g1 g2 hn fun h' e kx ex=>?_) (F.args_zip_next_1 _))))
  obtain ⟨o,e1,e2⟩:=ex
  exact wpAny_bind (wpAny_isInstance (T:="StopIteration") (b:=true) ⟨o,e1,e2⟩ isSubtype_stop (wpAny_pure (q _ kx)))
theorem new_zipT (t1 t2:Addr) (xs ys:Array Value):Meets (Builtin.«zip.__new__» ⟨[.type "zip",.ref t1,.ref t2],[]⟩) (fun _ R s=>s.heap.IsTuple t1 xs∧s.heap.IsTuple t2 ys ∧
    R (.ok (.ret (.ref (s.heap.objs.size+4)))) { s with heap:=((((s.heap.push { cls:=.type "tuple_iterator",data:=.fields #[.ref t1,.int 0 0] }).push { cls:=.type "tuple_iterator",data:=.fields #[.ref t2,.int 0 0] }).push { cls:=.type "tuple",data:=.seq #[.ref s.heap.objs.size,.ref (s.heap.objs.size+1)] }).push
      { cls:=.type "tuple",data:=.seq #[.none,.none] }).push { cls:=.type "zip",data:=.fields #[.none,.bool false,.bool false,.ref (s.heap.objs.size+2),.ref (s.heap.objs.size+3)] } }) :=
  .of_wp fun prog w A R s h=>by
    obtain ⟨hp,g,d,tk,os⟩:=s
    obtain ⟨g1,g2,h⟩:=h
    have hsub:=sub_zip
    have p1:Heap.IsTuple (Shared.heap ⟨hp,g,d,tk,os⟩) t1 xs:=g1
    have p2:Heap.IsTuple (Shared.heap ⟨hp.push { cls:=.type "tuple_iterator",data:=.fields #[.ref t1,.int 0 0] },g,d,tk,os⟩) t2 ys:=Heap.IsTuple.push g2 _
    wp_walk using wpAny_pyIter_tuple p1,wpAny_pyIter_tuple p2
    refine ⟨_,rfl,?_⟩
    simp only [Heap.size_push]
    exact h
theorem call_zipT {t1 t2:Addr} {xs ys:Array Value} {Q:Value→Shared→Prop} (g1:s.heap.IsTuple t1 xs) (g2:s.heap.IsTuple t2 ys)
    (q:∀ h',ZipT (s.heap.objs.size+4) (s.heap.objs.size+2) (s.heap.objs.size+3) s.heap.objs.size (s.heap.objs.size+1) t1 t2 0 h'→(∀ c o,s.heap.get? c=some o→h'.get? c=some o)→Q (.ref (s.heap.objs.size+4)) { s with heap:=h' }) :
    wpAny (model prog w) A (call (.type "zip") [.ref t1,.ref t2]) Q E s:=by
  refine callType_new F.called_zip (by decide) (F.typeCall_zip_2 _ _) (F.newCall_zip_2 _ _) (fun obj=>F.args_object_init_3 obj _ _) F.entry_zip_new (new_zipT t1 t2 xs ys) ⟨g1,g2,?_⟩
  generalize ho1:({ cls:=.type "tuple_iterator",data:=.fields #[.ref t1,.int 0 0] }:Obj)=o1
  generalize ho2:({ cls:=.type "tuple_iterator",data:=.fields #[.ref t2,.int 0 0] }:Obj)=o2
  generalize ho3:({ cls:=.type "tuple",data:=.seq #[.ref s.heap.objs.size,.ref (s.heap.objs.size+1)] }:Obj)=o3
  generalize ho4:({ cls:=.type "tuple",data:=.seq #[.none,.none] }:Obj)=o4
  generalize ho5:({ cls:=.type "zip",data:=.fields #[.none,.bool false,.bool false,.ref (s.heap.objs.size+2),.ref (s.heap.objs.size+3)] }:Obj)=o5
  have z1:(s.heap.push o1).objs.size=s.heap.objs.size+1:=Heap.size_push ..
  have z2:((s.heap.push o1).push o2).objs.size=s.heap.objs.size+2:=by rw [Heap.size_push,z1]
  have z3:(((s.heap.push o1).push o2).push o3).objs.size=s.heap.objs.size+3:=by rw [Heap.size_push,z2]
  have z4:((((s.heap.push o1).push o2).push o3).push o4).objs.size=s.heap.objs.size+4:=by rw [Heap.size_push,z3]
  have f1:o1.isFreed=false:=by rw [← ho1];rfl
  have f2:o2.isFreed=false:=by rw [← ho2];rfl
  have f3:o3.isFreed=false:=by rw [← ho3];rfl
  have f4:o4.isFreed=false:=by rw [← ho4];rfl
  have f5:o5.isFreed=false:=by rw [← ho5];rfl
  have e5:=Heap.get?_push_size ((((s.heap.push o1).push o2).push o3).push o4) (o:=o5) f5
  have e4:=Heap.get?_push_of_some o5 (Heap.get?_push_size (((s.heap.push o1).push o2).push o3) (o:=o4) f4)
  have e3:=Heap.get?_push_of_some o5 (Heap.get?_push_of_some o4 (Heap.get?_push_size ((s.heap.push o1).push o2) (o:=o3) f3))
  have e2:=Heap.get?_push_of_some o5 (Heap.get?_push_of_some o4 (Heap.get?_push_of_some o3 (Heap.get?_push_size (s.heap.push o1) (o:=o2) f2)))
  have e1:=Heap.get?_push_of_some o5 (Heap.get?_push_of_some o4 (Heap.get?_push_of_some o3 (Heap.get?_push_of_some o2 (Heap.get?_push_size s.heap (o:=o1) f1))))
  rw [z4] at e5
  rw [z3] at e4
  rw [z2] at e3
  rw [z1] at e2
  refine ⟨⟨_,e5,by rw [← ho5]⟩,q _ ⟨?_,?_,⟨.none,.none,?_⟩,⟨o1,e1,by rw [← ho1],by rw [← ho1];rfl⟩,⟨o2,e2,by rw [← ho2],by rw [← ho2];rfl⟩⟩ fun c o x=>Heap.get?_push_of_some _ (Heap.get?_push_of_some _ (Heap.get?_push_of_some _ (Heap.get?_push_of_some _ (Heap.get?_push_of_some _ x))))⟩
  · show _=some _;rw [e5,← ho5]
  · show _=some _;rw [e3,← ho3]
  · show _=some _;rw [e4,← ho4]
end
end L2
namespace L2
open PySem PySem.Spec PyProof.Rows PySem.W
def ItzT (K:PySem.W.Frag) (a b:Addr):It :=
  ⟨fun i H=>∃ xs ys x y,SqT K H a xs∧SqT K H b ys∧xs[i]?=some x∧ys[i]?=some y,
   fun i H u H'=>∃ T,u=.ref T∧H T=none∧(∀ xs ys,SqT K H a xs→SqT K H b ys→∃ x y,xs[i]?=some x∧ys[i]?=some y∧H'=upd H T (.tup [x,y])),
   fun i H=>∃ xs ys,SqT K H a xs∧SqT K H b ys∧xs.length=ys.length∧xs.length=i⟩
theorem turn_zipT {P:Program} {w:World} {K:PySem.W.Frag} {es:List Expr} {k:Nat} {tp:Pos} (z TI TO i1 i2 a b:Addr) (D:ZipApart z TI TO i1 i2 a b) :
    Turn P w K (.Tuple es k tp) (ItzT K a b) [z,TI,TO,i1,i2] z (fun i h=>ZipT z TI TO i1 i2 a b i h) where
  mem:=by simp
  obj:=fun i h st c hc=>by
    obtain ⟨s1,s2,⟨x,y,s3⟩,⟨o4,e4,c4,d4⟩,⟨o5,e5,c5,d5⟩⟩:=st
    simp at hc
    rcases hc with rfl | rfl | rfl | rfl | rfl
    · exact ⟨_,s1,fun v q=>by cases q⟩
    · exact ⟨_,s2,fun v q=>by cases q⟩
    · exact ⟨_,s3,fun v q=>by cases q⟩
    · exact ⟨_,e4,fun v q=>by rw [d4] at q;cases q⟩
    · exact ⟨_,e5,fun v q=>by rw [d5] at q;cases q⟩
  keep:=fun i h h' st kk=>by
    obtain ⟨s1,s2,⟨x,y,s3⟩,⟨o4,e4,r4⟩,⟨o5,e5,r5⟩⟩:=st
    exact ⟨kk z (by simp) _ s1,kk TI (by simp) _ s2,⟨x,y,kk TO (by simp) _ s3⟩,⟨o4,kk i1 (by simp) o4 e4,r4⟩,⟨o5,kk i2 (by simp) o5 e5,r5⟩⟩
  item := by
    intro X hP hw hK hc i pins s σ H E I hf st hg
    subst hP hw hK
    obtain ⟨xs,ys,x,y,h1,h2,hx,hy⟩:=hg
    obtain ⟨its1,rv1,p1,_⟩:=I.tuple h1
    obtain ⟨its2,rv2,p2,_⟩:=I.tuple h2
    obtain ⟨u1,hw1,r1⟩:=rv1.get hx
    obtain ⟨u2,hw2,r2⟩:=rv2.get hy
    refine pyNext_zipT D st (show s.heap.IsTuple a its1.toArray from p1) (show s.heap.IsTuple b its2.toArray from p2) (x:=u1) (y:=u2) (by simpa using hw1) (by simpa using hw2) fun h' c1 c2 c3 c4 c5 c6 kk=>?_
    refine ⟨_,rfl,wpAny_letOwnedTupleGo_zip c1 fun h'' c1' sb=>?_⟩
    have kk2:∀ c o,c≠z→h'.get? c=some o→h''.get? c=some o:=fun c o hn e=>sb.extBut c o hn e
    have hTn:H s.heap.objs.size=none:=I.hok.fresh (Nat.le_refl _)
    have keep2:∀ c o,c ∉ [z,TO,i1,i2]→s.heap.get? c=some o→h''.get? c=some o:=fun c o hc e=>kk2 c o (fun y=>hc (by simp [y])) (kk c o hc e)
    have frOf:∀ c ∈ [z,TO,i1,i2],c ∈ [z,TI,TO,i1,i2]:=fun c hc=>by simp at hc ⊢;rcases hc with rfl | rfl | rfl | rfl <;> simp
    have nwr:∀ c u,H c=some u→c ∉ [z,TO,i1,i2]:=fun c u e hc=>by rw [(hf c (frOf c hc)).1] at e;cases e
    have zlt:z < s.heap.objs.size:=Heap.lt_size st.1
    have hTup2:IsTup h'' s.heap.objs.size #[u1,u2]:=⟨_,kk2 _ _ (Nat.ne_of_gt zlt) c6,rfl,_,rfl⟩
    have I2:Inv X pins σ (upd H s.heap.objs.size (.tup [x,y])) { s with heap:=h'' }:=by
      refine I.step (t':=s.toks) (g':=s.gens) (d':=s.drawn) (ch:=[z,TO,i1,i2]) (fun c hc=>?_) (fun c o _ _ hc e _=>keep2 c o hc e) (fun c o _ _ hc e _=>⟨o.slots,keep2 c o hc e⟩) (fun c o hc e n=>?_) (fun c o hc e=>⟨o,keep2 c o hc e⟩)
        (fun c xs e=>?_) (fun c o xs e=>?_) (fun c ps e=>⟨#[],?_⟩) (fun m hm=>?_) ?_ I.bare
      · obtain ⟨g0,g1,g2,g3,g4,g5⟩:=hf c (frOf c hc)
        exact ⟨g3,g1,g4,g5⟩
      · rw [upd_ne (Nat.ne_of_lt (Heap.lt_size e))];exact n
      · rw [upd_ne (ne_of_none e hTn)];exact e
      · rw [upd_ne (ne_of_none e hTn)];exact e
      · rw [upd_ne (ne_of_none e hTn),e];simp
      · obtain ⟨o,es,ep,ho,r⟩:=hm
        refine ⟨o,es,ep,keep2 _ o (fun hc=>?_) ho,r⟩
        exact (hf _ (frOf _ hc)).2.1 rfl
      · intro c u e
        by_cases hcT:c=s.heap.objs.size
        · rw [hcT,upd_same] at e
          cases e
          rw [hcT]
          exact ⟨by show 2≤sizeLine;rw [sizeLine_eq];decide,[u1,u2],.cons r1 (.cons r2 .nil),hTup2⟩
        · rw [upd_ne hcT] at e
          refine (I.hok c u e).stay (fun d v hd q=>keep2 d v ?_ q) (fun d q=>by rw [upd_ne (ne_of_none q hTn)];exact q) fun d xs q=>by rw [upd_ne (ne_of_none q hTn)];exact q
          rcases hd with rfl | hd
          · exact nwr d u e
          · exact nwr d _ hd
    refine ⟨.ref s.heap.objs.size,_,I2,rfl,⟨_,rfl,hTn,fun xs' ys' h1' h2'=>⟨x,y,?_,?_,rfl⟩⟩,⟨c1',kk2 _ _ D.TIz c2,⟨_,_,kk2 _ _ D.TOz c3⟩,?_,?_⟩,fun c hc=>?_⟩
    · rw [I.tuple_inj h1' h1];exact hx
    · rw [I.tuple_inj h2' h2];exact hy
    · obtain ⟨o,e,r⟩:=c4;exact ⟨o,kk2 _ _ D.i1z e,r⟩
    · obtain ⟨o,e,r⟩:=c5;exact ⟨o,kk2 _ _ D.i2z e,r⟩
    · obtain ⟨o,eo,_⟩:∃ o,s.heap.get? c=some o∧True:=by
        obtain ⟨s1,s2,⟨x',y',s3⟩,s4,s5⟩:=st
        simp at hc
        rcases hc with rfl | rfl | rfl | rfl | rfl
        · exact ⟨_,s1,trivial⟩
        · exact ⟨_,s2,trivial⟩
        · exact ⟨_,s3,trivial⟩
        · obtain ⟨o,e,_⟩:=s4;exact ⟨o,e,trivial⟩
        · obtain ⟨o,e,_⟩:=s5;exact ⟨o,e,trivial⟩
      rw [upd_ne (Nat.ne_of_lt (Heap.lt_size eo))]
      exact (hf c hc).1
  done := by
    intro X hP hw hK hc i pins s σ H E I hf st hg
    subst hP hw hK
    obtain ⟨xs,ys,h1,h2,hl,hi⟩:=hg
    obtain ⟨its1,rv1,p1,_⟩:=I.tuple h1
    obtain ⟨its2,rv2,p2,_⟩:=I.tuple h2
    refine pyStop_zipT (I.ok.hd hc) D st (show s.heap.IsTuple a its1.toArray from p1) (show s.heap.IsTuple b its2.toArray from p2) (.inl (by have:=rv1.length;simp;omega)) fun h' kk=>⟨rfl,?_⟩
    have frOf:∀ c ∈ [z,TO,i1,i2],c ∈ [z,TI,TO,i1,i2]:=fun c hc=>by simp at hc ⊢;rcases hc with rfl | rfl | rfl | rfl <;> simp
    have nwr:∀ c u,H c=some u→c ∉ [z,TO,i1,i2]:=fun c u e hc=>by rw [(hf c (frOf c hc)).1] at e;cases e
    refine I.step (t':=s.toks) (g':=s.gens) (d':=s.drawn) (ch:=[z,TO,i1,i2]) (fun c hc=>?_) (fun c o _ _ hc e _=>kk c o hc e) (fun c o _ _ hc e _=>⟨o.slots,kk c o hc e⟩) (fun c o hc e n=>n) (fun c o hc e=>⟨o,kk c o hc e⟩)
        (fun c xs e=>e) (fun c o xs e=>e) (fun c ps e=>⟨#[],by rw [e];simp⟩) (fun m hm=>?_) ?_ I.bare
    · obtain ⟨g0,g1,g2,g3,g4,g5⟩:=hf c (frOf c hc)
      exact ⟨g3,g1,g4,g5⟩
    · obtain ⟨o,es,ep,ho,r⟩:=hm
      refine ⟨o,es,ep,kk _ o (fun hc=>?_) ho,r⟩
      exact (hf _ (frOf _ hc)).2.1 rfl
    · intro c u e
      refine (I.hok c u e).stay (fun d v hd q=>kk d v ?_ q) (fun d q=>q) fun d xs q=>q
      rcases hd with rfl | hd
      · exact nwr d u e
      · exact nwr d _ hd
  self:=fun A i s Q E st h=>by
    exact wpAny_pyIter_zip st.1 h
section
variable {X:Cx}
def iZipT (K:PySem.W.Frag) (ta:TA):TI:=fun σ H R=>ta σ H fun vs H1=>∃ a b,vs=[.ref a,.ref b]∧(∃ xs,SqT K H1 a xs)∧(∃ ys,SqT K H1 b ys)∧R (ItzT K a b) H1
theorem pi_zipT {a b:Expr} {ta:TA} {p pos tp:Pos} {es:List Expr} {k:Nat} (hg:Gl X "zip") (hm:X.mg "zip"=none) (ha:PA X [a,b] ta) (hs:starEach [a,b] X.env=[(false,eval a X.env),(false,eval b X.env)]:=by rfl) (hs2:starEach [b] X.env=[(false,eval b X.env)]:=by rfl) :
    PI X (.Tuple es k tp) (.Call (.Name "zip" p) [a,b] [] pos) (iZipT X.K ta):=by
  intro pins s σ H R I h
  refine Call_ (ld_blt I hg hm boot_zip (PyProof.Rows.callWith_type1 (thn (ha pos pins s σ H _ I h) fun us s1 hq=>?_) (by rw [hs,hs2]) (by rw [hs2];rfl)))
  obtain ⟨vs,H1,I1,r1,a',b',rfl,⟨xs,h1⟩,⟨ys,h2⟩,q⟩:=hq
  obtain ⟨u,w',rfl,ru,rw'⟩:=vals2 r1
  cases ru
  cases rw'
  obtain ⟨its1,rv1,p1,_⟩:=I1.tuple h1
  obtain ⟨its2,rv2,p2,_⟩:=I1.tuple h2
  have a1:a' < s1.heap.objs.size:=by obtain ⟨_,e,_⟩:=p1;exact Heap.lt_size e
  have a2:b' < s1.heap.objs.size:=by obtain ⟨_,e,_⟩:=p2;exact Heap.lt_size e
  refine call_zipT (show s1.heap.IsTuple a' its1.toArray from p1) (show s1.heap.IsTuple b' its2.toArray from p2) fun h' Z hk=>wpAny_pyIter_zip Z.1 ?_
  refine ⟨_,_,_,_,H1,rfl,I1.kept (t':=s1.toks) hk,turn_zipT _ _ _ _ _ a' b' (zipApart_new a1 a2),Z,fun c hc=>?_,q⟩
  have hle:s1.heap.objs.size≤c:=by
    simp at hc
    rcases hc with rfl | rfl | rfl | rfl | rfl <;> first | exact Nat.le_add_right _ _ | exact Nat.le_refl _
  exact I1.fpOk hle (I1.hok.fresh hle)
end
end L2
namespace L2
open PySem PySem.Spec PyProof.Rows
section
open AutoSeq1
set_option maxRecDepth 8000
end
end L2
set_option maxRecDepth 100000
namespace L2
open PySem PySem.Spec PyProof.Rows PySem.W PySem.Calls
end L2
namespace L2
open PySem PySem.Spec PyProof.Rows PySem.W
section
open AutoSeq1 (wpAny_loadPart')
end
end L2
namespace L2
open PySem PySem.Spec PyProof.Rows PySem.W
section
variable {X:Cx} {e:Expr} {st:Stmt} {te:TE} {tt:TT} {ts:TS}
def tCut (te:TE):TE:=fun σ H Q=>∃ R:VK,te σ H R∧∀ v H',R v H'→Q v H'
theorem pe_cut (he:PE X e te):PE X e (tCut te):=fun pins s σ H Q I ⟨R,h,q⟩=>thn (he pins s σ H R I h) fun u s1 ⟨v,H1,I1,r,z⟩=>⟨v,H1,I1,r,q v H1 z⟩
def tCutT (tt:TT):TT:=fun σ H Q=>∃ R:Bool→Hp→Prop,tt σ H R∧∀ v H',R v H'→Q v H'
theorem pt_cut (he:PT X e tt):PT X e (tCutT tt):=fun pins s σ H Q I ⟨R,h,q⟩=>thn (he pins s σ H R I h) fun b s1 ⟨H1,I1,z⟩=>⟨H1,I1,q b H1 z⟩
def sCut (ts:TS):TS:=fun D σ H=>∃ N:St→Hp→Prop,ts { D with nx:=N } σ H∧∀ σ' H',N σ' H'→D.nx σ' H'
theorem ps_cut (hs:PS X st ts):PS X st (sCut ts):=fun pins s σ H D I ⟨N,h,q⟩=>thn (hs pins s σ H { D with nx:=N } I h) fun f s1 z=>by
  cases f with
  | next=>obtain ⟨σ',H',I',z⟩:=z;exact ⟨σ',H',I',q σ' H' z⟩
  | brk=>exact z
  | cont=>exact z
  | ret u=>exact z
end
theorem base_dict (ks:List (Option Expr)) (vs:List Expr) (pos:Pos) (m:Str) (env:Env) (x:Sem Value):attributeBase (.Dict ks vs pos) m env x=x:=rfl
end L2
namespace L2
open PySem PySem.Spec PyProof.Rows PySem.W
structure Box (p:Prop):Prop where un:p
section
variable {X:Cx} {st:Stmt} {rest:List Stmt} {t u:TS} {e o f:Expr} {te td ty tx:TE} {pos apos cpos:Pos}
theorem bss_cons (h1:Box (PS X st t)) (h2:Box (PSs X rest u)):Box (PSs X (st :: rest) (tSeq t u)):=⟨pss_cons h1.un h2.un⟩
theorem bss_one (h1:Box (PS X st t)):Box (PSs X [st] t):=⟨pss_one h1.un⟩
theorem bs_ret (he:Box (PE X e te)):Box (PS X (.Return (some e) pos) (tRet te)):=⟨ps_ret he.un⟩
theorem be_dget2 (hu:X.A.units+1 < cLine) (ho:Box (PE X o td)) (he:Box (PE X e ty)) (hf:Box (PE X f tx)) (m:M2 X o "get" apos e f cpos):Box (PE X (.Call (.Attribute o "get" apos) [e,f] [] cpos) (tDGet2 td ty tx)):=⟨pe_dget2 hu ho.un he.un hf.un m⟩
theorem bps_nil:Box (PPs X pos [] [] []):=⟨pps_nil⟩
theorem bps_cons {k v:Expr} {ks:List (Option Expr)} {vs:List Expr} {tk tv:TE} {trs:List (TE × TE)} (hk:Box (PE X k tk)) (hv:Box (PE X v tv)) (hr:Box (PPs X pos ks vs trs)):Box (PPs X pos (some k :: ks) (v :: vs) ((tk,tv) :: trs)):=⟨pps_cons hk.un hv.un hr.un⟩
theorem be_disp {keys:List (Option Expr)} {values:List Expr} {trs:List (TE × TE)} (h:Box (PPs X pos keys values trs)) (hall:keys.all (·.isSome)=true) (hl:keys.length=values.length) (h0:keys≠[]) (h15:keys.length≤15):Box (PE X (.Dict keys values pos) (tDisp trs)):=⟨pe_disp h.un hall hl h0 h15⟩
end
end L2
namespace L2
open PySem PySem.Spec PyProof.Rows PySem.W
end L2
namespace L2
open PySem PySem.Spec PyProof.Rows PySem.W
end L2
namespace L2
open PySem PySem.Spec PyProof.Rows PySem.W
end L2
namespace L2
open PySem PySem.Spec PyProof.Rows PySem.W
section
variable {X:Cx}
def rEqT (K:PySem.W.Frag) (neg:Bool):R2:=fun x y H Q=>∃ p q xs ys,x=.ref p∧y=.ref q∧SqT K H p xs∧SqT K H q ys∧xs.length=ys.length∧xs.all flatV=true∧ys.all flatV=true∧Q (.bl (if neg then !(List.zipWith eqV xs ys).all id else (List.zipWith eqV xs ys).all id)) H
theorem eqT_items {A:Around} {s:Shared} {xs ys:List V} {its1 its2:List Value} (r1:Vals xs its1) (r2:Vals ys its2) (f1:xs.all flatV=true) (f2:ys.all flatV=true) (j:Nat) (j1:j < its1.toArray.size) (j2:j < its2.toArray.size) :
    SeqAt.EqAt A s its1.toArray[j] its2.toArray[j] (eqV (xs.getD j .non) (ys.getD j .non)):=by
  have l1:j < xs.length:=by rw [r1.length];simpa using j1
  have l2:j < ys.length:=by rw [r2.length];simpa using j2
  obtain ⟨u1,e1,ru1⟩:=r1.get (List.getElem?_eq_getElem l1)
  obtain ⟨u2,e2,ru2⟩:=r2.get (List.getElem?_eq_getElem l2)
  have a1:its1.toArray[j]=u1:=by
    have:its1[j]?=some its1.toArray[j]:=by simp
    rw [e1] at this;exact (Option.some.inj this).symm
  have a2:its2.toArray[j]=u2:=by
    have:its2[j]?=some its2.toArray[j]:=by simp
    rw [e2] at this;exact (Option.some.inj this).symm
  have g1:xs.getD j .non=xs[j]:=by simp [List.getD_eq_getElem?_getD,List.getElem?_eq_getElem l1]
  have g2:ys.getD j .non=ys[j]:=by simp [List.getD_eq_getElem?_getD,List.getElem?_eq_getElem l2]
  rw [a1,a2,g1,g2]
  exact eqAt_V ru1 ru2 (List.all_eq_true.mp f1 _ (List.getElem_mem l1)) (List.all_eq_true.mp f2 _ (List.getElem_mem l2))
theorem eqT_all {xs ys:List V} {its1 its2:List Value} (r1:Vals xs its1) (r2:Vals ys its2) (hl:xs.length=ys.length) :
    ((List.range (min its1.toArray.size its2.toArray.size)).all (fun j=>eqV (xs.getD j .non) (ys.getD j .non))&&its1.toArray.size == its2.toArray.size)=(List.zipWith eqV xs ys).all id:=by
  have e1:its1.toArray.size=xs.length:=by rw [List.size_toArray];exact r1.length.symm
  have e2:its2.toArray.size=xs.length:=by rw [List.size_toArray,← r2.length,hl]
  rw [e1,e2,Nat.min_self,zip_all xs ys hl]
  simp
theorem op_eqT (hu:X.A.units < cLine):OpR X (compareOp .Eq) (rEqT X.K false):=by
  intro pins s σ H x y v u Q I rx ry h
  obtain ⟨p,q,xs,ys,rfl,rfl,h1,h2,hl,f1,f2,k⟩:=h
  cases rx
  cases ry
  obtain ⟨its1,r1,p1,_⟩:=I.tuple h1
  obtain ⟨its2,r2,p2,_⟩:=I.tuple h2
  refine SeqAt.eq_tupleAt (e:=fun j=>eqV (xs.getD j .non) (ys.getD j .non)) (show s.heap.IsTuple p its1.toArray from p1) (show s.heap.IsTuple q its2.toArray from p2) hu (eqT_items r1 r2 f1 f2) ⟨.bl _,H,I,rfl,?_⟩
  rw [eqT_all r1 r2 hl]
  exact k
theorem op_neT (hu:X.A.units < cLine):OpR X (compareOp .NotEq) (rEqT X.K true):=by
  intro pins s σ H x y v u Q I rx ry h
  obtain ⟨p,q,xs,ys,rfl,rfl,h1,h2,hl,f1,f2,k⟩:=h
  cases rx
  cases ry
  obtain ⟨its1,r1,p1,_⟩:=I.tuple h1
  obtain ⟨its2,r2,p2,_⟩:=I.tuple h2
  refine SeqAt.RcNeAt.tuples (e:=fun j=>eqV (xs.getD j .non) (ys.getD j .non)) (show s.heap.IsTuple p its1.toArray from p1) (show s.heap.IsTuple q its2.toArray from p2) hu (eqT_items r1 r2 f1 f2) X.prog X.w X.xe _ ⟨.bl _,H,I,rfl,?_⟩
  rw [eqT_all r1 r2 hl]
  exact k
end
end L2
namespace L2
open PySem PySem.Spec PyProof.Rows PySem.W
section
variable {X:Cx} {e o:Expr} {es:List Expr} {te to:TE} {t:TA} {pos apos cpos:Pos} {name:Str} {T id:String} {r:V→List V→Hp→VK→Prop}
theorem bpa_nil:Box (PA X [] tNil):=⟨pa_nil⟩
theorem bpa_cons (ha:Box (PE X e te)) (hr:Box (PA X es t)) (hs:starEach (e :: es) X.env=(false,eval e X.env) :: starEach es X.env):Box (PA X (e :: es) (tCons te t)):=⟨pa_cons ha.un hr.un hs⟩
theorem be_tup {x1} (h:Box (PA X es t)):Box (PE X (.Tuple es x1 pos) (tTup t)):=⟨pe_tup h.un⟩
theorem be_lst (h:Box (PA X es t)):Box (PE X (.List es pos) (tLst t)):=⟨pe_lst h.un⟩
theorem bs_set {i:Nat} {x:Str} {pos':Pos} (hN:X.N.Nodup) (hi:X.N[i]?=some x) (hx:Loc X.env.scope x) (he:Box (PE X e te)) (hs:swapsWith e (some (.Name x pos')) pos.line X.env=pure false) (hf:X.fn x=true∨X.env.scope.names.lookup x=some .local) :
    Box (PS X (.Assign [.Name x pos'] e pos) (tAsg te (gName i))):=⟨ps_set hN hi hx he.un hs hf⟩
end
end L2
namespace L2
open PySem PySem.Spec PyProof.Rows PySem.W
end L2
namespace L2
open PySem PySem.Spec PyProof.Rows PySem.W PySem.Builtin PySem.Builtin.ObjectAttr
section
variable {P:Program} {w:World} {K:PySem.W.Frag} {mg:Str→Option Value} {base:Heap} {N:List Str} {qual:Str} {scope:Scope} {fa:Addr} {cd0:Value} {A:Around} {outer:List Env} {s0:Shared} {H0:Hp} {E:XK}
  {C:Addr} {k:Nat} {x:Str} {p cpos pos:Pos}
end
def XCo (C:Addr) (dx:Option Addr) (e:Addr):HO:=.ext fun h=>∃ vs,h.get? e=some ⟨.ref C,dx,.fields vs,#[]⟩
theorem XCo_ok {P:Program} {w:World} {H:Hp} {h:Heap} {C e:Addr} {dx:Option Addr} {vs:Array Value} (he:h.get? e=some ⟨.ref C,dx,.fields vs,#[]⟩):ObjOk P w H h e (XCo C dx e) :=
  ⟨⟨vs,he⟩,⟨_,he⟩,fun h1 h2 q k=>let ⟨vs,q⟩:=q;⟨vs,k _ q⟩⟩
section
variable {X:Cx} {pins:List (Addr × Obj)} {σ:St} {H H':Hp} {s s1:Shared} {B h':Heap} {ea C t:Addr} {dx:Option Addr} {fl:Value}
theorem inv_catchO (I:Inv X pins σ H s) (x:XUn X.stack H H' s.heap B s1.heap) (ho:s1.os=s.os) (hg:AllBare s1.gens) (F:Fl B X.stack ea (.ref C) dx (.ref t) (some fl) h') (F1:s1.heap.FunFrames B X.stack) (u:s1.heap.UpToSlots h') (hok:HOk X.prog X.w H' B) (hea:s.heap.objs.size≤ea) (hn:H' ea=none) :
    Inv X pins σ H' { s1 with heap:=h' }∧Inv X pins σ (upd H' ea (XCo C dx ea)) { s1 with heap:=h' }:=by
  have fro:∀ b,b ∈ frs X.stack→∀ o,s1.heap.get? b=some o→∀ vs,o.data≠.fields vs:=fun b hb o q vs hd=>by
    obtain ⟨_,o',ho',hn'⟩:=F1.mem hb
    rw [q] at ho';cases ho';exact hn' vs hd
  have x':XUn X.stack H H' s.heap B h':=by
    refine ⟨x.keep,fun b o q n hb=>?_,x.free,x.there,fun b o q hb=>?_,x.tups,x.frzs,x.tbls⟩
    · obtain ⟨sl,z⟩:=x.slot b o q n hb
      obtain ⟨sl2,z2⟩:=u b _ z (fro b hb _ z)
      exact ⟨sl2,z2⟩
    · obtain ⟨o',z⟩:=x.fthere b o q hb
      obtain ⟨sl2,z2⟩:=u b _ z (fro b hb _ z)
      exact ⟨_,z2⟩
  have un:=x'.un F.stays
  have ne:∀ b o,s.heap.get? b=some o→b≠ea:=fun b o q=>Nat.ne_of_lt (Nat.lt_of_lt_of_le (Heap.lt_size q) hea)
  have I1:Inv X pins σ H' { s1 with heap:=h' }:=I.call' (s':={ s1 with heap:=h' }) (ch:=[]) ho un (hok.kept F.stays) hg (fun _ z=>nomatch z)
  refine ⟨I1,I.call' (s':={ s1 with heap:=h' }) (ch:=[]) ho ⟨un.keep,un.slot,fun b o q n hx=>?_,un.there,fun b xs q=>?_,fun b o u q=>?_,fun b ps q=>?_⟩ (fun b o q=>?_) hg (fun _ z=>nomatch z)⟩
  · rw [upd_ne (ne b o q)];exact un.free b o q n hx
  · rw [upd_ne (ne_of_none (un.tups b xs q) hn)];exact un.tups b xs q
  · rw [upd_ne (ne_of_none (un.frzs b o u q) hn)];exact un.frzs b o u q
  · obtain ⟨m,z⟩:=un.tbls b ps q
    exact ⟨m,by rw [upd_ne (ne_of_none z hn)];exact z⟩
  · by_cases hb:b=ea
    · subst hb
      rw [upd_same] at q
      cases q
      obtain ⟨vs,z,_⟩:=F.ex
      exact XCo_ok z
    · rw [upd_ne hb] at q
      exact (I1.hok b o q).stay (fun c v _ z=>z) (fun c z=>by rw [upd_ne (ne_of_none z hn)];exact z) fun c xs z=>by rw [upd_ne (ne_of_none z hn)];exact z
end
def tTryO (K:PySem.W.Frag) (L:Addr) (j:Nat) (tb:XK→St→TS) (ts:Addr→TS):TS:=fun D σ H =>
  tb (fun c dx H'=>∃ C,c=.ref C∧mroIn K C (.ref L)=some true∧∀ ea,H' ea=none →
    ts ea { nx:=fun σ' H2=>D.nx (σ'.set j none) H2,rt:=D.rt,bk:=fun σ' H2=>D.bk (σ'.set j none) H2,ct:=fun σ' H2=>D.ct (σ'.set j none) H2 } (σ.set j (some (.ref ea))) (upd H' ea (XCo C dx ea))) σ D σ H
section
variable {X:Cx} {x n:Str} {L:Addr} {j:Nat} {body suite:List Stmt} {b0:Stmt} {p1 p2 p3:Pos} {tb:XK→St→TS} {ts:Addr→TS}
theorem ps_tryO (hst:X.stack=X.env :: X.outer) (hfr:X.env.frame=some X.env.locals) (hg:Gl X x) (hm:X.mg x=some (.ref L)) (hL:XL X.K L) (hnd:X.N.Nodup) (hj:X.N[j]?=some n) (hk:X.env.kindOf n=some .local)
    (hb:∀ pn XE E σ0,PassesAt (CX1 X.prog X.w) (X.tryc pn XE) E σ0→PSs (X.tryc pn XE) body (tb E σ0)) (hs:∀ e,PSs (X.hand e) (b0 :: suite) (ts e)) (hdb:(x == ("__debug__":Str))=false:=by decide) :
    PS X (.Try body [.ExceptHandler (some (.Name x p1)) (some n) (b0 :: suite) p2] [] [] p3) (tTryO X.K L j tb ts):=by
  intro pins s σ H D I h
  refine wpAny_Try_except ?_
  have ps:PassesAt (CX1 X.prog X.w) (X.tryc (X.pn++pins) fun e s₁=>wpAny (model X.prog X.w) X.A (noteFrame e X.env) (fun _ s₂=>wpAny (model X.prog X.w) X.A (setFlight e none) (fun _ s₃=>wpAny (model X.prog X.w) X.A (handleBy e X.env [.ExceptHandler (some (.Name x p1)) (some n) (b0 :: suite) p2]) (SP X pins D) X.xe s₃) X.xe s₂) X.xe s₁) (fun c dx H'=>∃ C,c=.ref C∧mroIn X.K C (.ref L)=some true∧∀ ea,H' ea=none →
    ts ea { nx:=fun σ' H2=>D.nx (σ'.set j none) H2,rt:=D.rt,bk:=fun σ' H2=>D.bk (σ'.set j none) H2,ct:=fun σ' H2=>D.ct (σ'.set j none) H2 } (σ.set j (some (.ref ea))) (upd H' ea (XCo C dx ea))) σ:=by
    intro pins' H1 s1 e s2 I1 hx
    have I1':Inv X pins σ H1 s1:=I1.of_tryc
    obtain ⟨ea,t,C,dx,H',B,rfl,ho,hgn,F,hok,xu,hn,hea,C',hC',hsub,q⟩:=hx
    cases hC'
    have F0:Fl B X.stack ea (.ref C) dx (.ref t) (some .none) s2.heap:=F
    have xu0:XUn X.stack H1 H' s1.heap B s2.heap:=xu
    have F':Fl B (X.env :: X.outer) ea (.ref C) dx (.ref t) (some .none) s2.heap:=hst ▸ F0
    have hA:X.A.frames=some (X.env :: X.outer):=hst ▸ I1'.ok.frames
    refine fl_note hA hfr F' (.inr rfl) fun h3 F3 u3=>fl_set (s:={ s2 with heap:=h3 }) F3 fun h4 F4 u4=>?_
    have F4':Fl B X.stack ea (.ref C) dx (.ref t) (some .none) h4:=by rw [hst];exact F4
    have J:=(inv_catchO (ea:=ea) (t:=t) I1' xu0 ho hgn F4' F0.frs (u3.trans u4) hok hea hn).1
    refine wpAny_handleBy_cons (codeAny_handlers_test (ld_glob (X:=X.hand ea) J.hand hg hm ?_ hdb)) (fun q=>nomatch q)
    obtain ⟨vs,hvs,_⟩:=F4'.ex
    refine match_exc (K:=X.K) J.kIn hL hvs rfl hsub (codeAny_handlers_suite_as (fl_set (s:={ s2 with heap:=h4 }) F4' fun h5 F5 u5=>?_))
    have J2:=(inv_catchO (ea:=ea) (t:=t) I1' xu0 ho hgn F5 F0.frs ((u3.trans u4).trans u5) hok hea hn).2
    refine store_ok (X:=X.hand ea) (i:=j) (v:=.ref ea) J2.hand hnd hj (.inl hk) rfl (fun s6 J6=>?_) (.inr hk)
    refine wpAny_mono (hs ea pins s6 _ _ _ J6 (q ea hn)) (fun f s7 hf=>?_) fun _ _ z=>z.elim
    have hd:X.calm=true→X.A.handled=none:=I1'.ok.hd
    match f,hf with
    | .ret u,⟨v,σ',H'',J7,rv,qq⟩=>exact name_goes (J7.of_hand hd) hnd hj hk fun s8 J8=>⟨v,_,H'',J8,rv,qq⟩
    | .next,⟨σ',H'',J7,qq⟩=>exact name_goes (J7.of_hand hd) hnd hj hk fun s8 J8=>⟨_,H'',J8,qq⟩
    | .brk,⟨σ',H'',J7,qq⟩=>exact name_goes (J7.of_hand hd) hnd hj hk fun s8 J8=>⟨_,H'',J8,qq⟩
    | .cont,⟨σ',H'',J7,qq⟩=>exact name_goes (J7.of_hand hd) hnd hj hk fun s8 J8=>⟨_,H'',J8,qq⟩
  refine wpAny_mono (hb _ _ _ σ ps [] s σ H D I.tryc h) (fun f s1 hf=>?_) fun _ _ z=>z
  match f,hf with
  | .next,⟨σ',H',J,q⟩=>exact wpAny_execs_nil ⟨σ',H',J.of_tryc,q⟩
  | .ret u,⟨v,σ',H',J,rv,q⟩=>exact ⟨v,σ',H',J.of_tryc,rv,q⟩
  | .brk,⟨σ',H',J,q⟩=>exact ⟨σ',H',J.of_tryc,q⟩
  | .cont,⟨σ',H',J,q⟩=>exact ⟨σ',H',J.of_tryc,q⟩
end
section
variable {X:Cx}
theorem call_isXo:CallR X (.builtin "isinstance") (fun xs H Q=>∃ (a C:Addr) (d:Option Addr) (c:V) (cv:Value),xs=[.ref a,c]∧H a=some (XCo C d a)∧(∀ u,RelV c u→u=cv)∧kitOne X.K (.ref C) cv=some true∧Q (.bl true) H):=by
  intro pins s σ H xs us Q I r h
  obtain ⟨a,C,d,c,cv,rfl,ha,hc,e,q⟩:=h
  obtain ⟨u,w',rfl,ru,rw'⟩:=vals2 r
  obtain rfl:=hc _ rw'
  obtain rfl:u=Value.ref a:=ru
  obtain ⟨⟨vs,he⟩,_,_⟩:(∃ vs,s.heap.get? a=some ⟨.ref C,d,.fields vs,#[]⟩)∧_∧_:=I.hok a _ ha
  refine call_isinstance (S:=fun _ R s=>(X.K.In s.heap∧(∃ vs,s.heap.get? a=some ⟨.ref C,d,.fields vs,#[]⟩))∧∀ tk,R (.ok (.ret (.bool true))) { s with toks:=tk })
    (fun prog w A R s hs=>isinstance_outer (kit_yes (K:=X.K) (t:=.ref C) (H:=fun h=>∃ vs,h.get? a=some ⟨.ref C,d,.fields vs,#[]⟩) (fun M h _ p=>?_) e 0 _ prog w A R s hs) (fun z=>nomatch z)) ⟨⟨I.kIn,vs,he⟩,fun tk=>⟨.bl true,H,I.tok _,rfl,q⟩⟩
  obtain ⟨vs,p⟩:=p
  exact (Looks.ld p).andThen .now
end
end L2
namespace L2
open PySem PySem.Spec PyProof.Rows PySem.W
end L2
namespace L2
open PySem PySem.Spec PyProof.Rows PySem.W
section
variable {X:Cx} {t u:TS} {pos:Pos}
theorem bss_nil:Box (PSs X [] tNext):=⟨pss_nil⟩
theorem bs_if {c:Expr} {a b:List Stmt} {tc:TT} (hc:Box (PT X c tc)) (ha:Box (PSs X a t)) (hb:Box (PSs X b u)):Box (PS X (.If c a b pos) (tIfS tc t u)):=⟨ps_if hc.un ha.un hb.un⟩
theorem be_op {a b:Expr} {ta tb:TE} {op:Operator} {r:R2} (ho:OpR X (binaryOp op) r) (ha:Box (PE X a ta)) (hb:Box (PE X b tb)):Box (PE X (.BinOp a op b pos) (tOp r ta tb)):=⟨pe_op ho ha.un hb.un⟩
end
end L2
namespace L2
open PySem PySem.Spec PyProof.Rows PySem.W
end L2
namespace L2
open PySem PySem.Spec PyProof.Rows PySem.W
end L2
namespace L2
open PySem PySem.Spec PyProof.Rows PySem.W
end L2
namespace L2
open PySem PySem.Spec PyProof.Rows PySem.W
section
open AutoSeq1 (wpAny_loadPart')
end
end L2
namespace L2
open PySem PySem.Spec PyProof.Rows PySem.W
end L2
namespace L2
open PySem PySem.Spec PyProof.Rows PySem.W
theorem FnOk.or {P:Program} {w:World} {K:PySem.W.Frag} {mg:Str→Option Value} {base:Heap} {CX:CXT} {k:Nat} {f:Addr} {fd:FuncData} {ps:List Str} {sp sp':Sp} (F:FnOk P w K mg base CX k f fd ps sp) (G:FnOk P w K mg base CX k f fd ps sp') :
    FnOk P w K mg base CX k f fd ps (fun vs H Q E=>sp vs H Q E∨sp' vs H Q E) :=
  ⟨fun vs H Q E q=>q.elim (F.len vs H Q E) (G.len vs H Q E),fun A outer s H args us vs Q E hr he hb hv hs=>hs.elim (F.run A outer s H args us vs Q E hr he hb hv) (G.run A outer s H args us vs Q E hr he hb hv)⟩
end L2
namespace L2
open PySem PySem.Spec PyProof.Rows PySem.W
def repS (i:Str) (n:Int):Str:=⟨(List.replicate n.toNat i.cps).foldl (·++·) #[]⟩
end L2
namespace L2
open PySem PySem.Spec PyProof.Rows PySem.W
theorem star_tup {es' es:List Expr} {k:Nat} {p:Pos} {env:Env}:starEach (.Tuple es' k p :: es) env=(false,eval (.Tuple es' k p) env) :: starEach es env:=rfl
theorem star_lst {es' es:List Expr} {p:Pos} {env:Env}:starEach (.List es' p :: es) env=(false,eval (.List es' p) env) :: starEach es env:=rfl
theorem star_con {c:Const} {k:Nat} {es:List Expr} {p:Pos} {env:Env}:starEach (.Constant c k p :: es) env=(false,eval (.Constant c k p) env) :: starEach es env:=rfl
theorem star_nam {n:Str} {es:List Expr} {p:Pos} {env:Env}:starEach (.Name n p :: es) env=(false,eval (.Name n p) env) :: starEach es env:=rfl
theorem star_bin {o:Operator} {l r:Expr} {es:List Expr} {p:Pos} {env:Env}:starEach (.BinOp l o r p :: es) env=(false,eval (.BinOp l o r p) env) :: starEach es env:=rfl
theorem star_cal {f:Expr} {as es:List Expr} {kw:List Keyword} {p:Pos} {env:Env}:starEach (.Call f as kw p :: es) env=(false,eval (.Call f as kw p) env) :: starEach es env:=rfl
theorem swap_lst {es:List Expr} {p:Pos} {t:Option Expr} {n:Nat} {env:Env}:swapsWith (.List es p) t n env=pure false:=rfl
theorem boxE {X:Cx} {b:List Stmt} {R:TS→Prop} (h:∃ t,Box (PSs X b t)∧R t):∃ t,PSs X b t∧R t:=let ⟨t,h1,h2⟩:=h;⟨t,h1.un,h2⟩
end L2
namespace L2
open PySem PySem.Spec PyProof.Rows PySem.W
end L2
namespace L2
open PySem PySem.Spec PyProof.Rows
end L2
namespace L2
open PySem PySem.Spec PyProof.Rows
section
variable {P:Program} {w:World} {h:Heap}
open Classical in
open Classical in
open Classical in
end
end L2
namespace L2
open PySem PySem.Spec PyProof.Rows
end L2
namespace L2
open PySem PySem.Spec PyProof.Rows
end L2
namespace L2
open PySem PySem.Spec PyProof.Rows
section
open MeetsSeq MeetsSeq2 MeetsSeq3 SeqRoads2 AutoSeq1
variable {P:Program} {w:World}
end
end L2
namespace L2
open PySem PySem.Spec PyProof.Rows
end L2
namespace HT
open PySem PySem.Spec PyProof.Rows
end HT
namespace L2
open PySem PySem.Spec PyProof.Rows
end L2
namespace L2
open PySem PySem.Spec PyProof.Rows PySem.W
end L2
namespace L2
open PySem PySem.Spec PyProof.Rows PySem.W
section
variable {X:Cx}
def rFind:V→List V→Hp→VK→Prop:=fun x vs H Q=>∃ z y i,x=.str z∧vs=[.str y,.int i]∧Q (.int (Txt.find3 z y i)) H
theorem mt_find:MtR X "str.find" rFind:=by
  intro pins s σ H x xs v us Q I rx rs h
  obtain ⟨z,y,i,rfl,rfl,q⟩:=h
  obtain ⟨t,rfl⟩:=rx
  obtain ⟨u,w',rfl,⟨t1,rfl⟩,⟨t2,rfl⟩⟩:=vals2 rs
  exact SC.find3 ⟨.int _,H,I.tok _,⟨_,rfl⟩,q⟩
end
end L2
namespace L2
open PySem PySem.Spec PyProof.Rows PySem.W
section
variable {X:Cx}
theorem op_mul_strN:OpR X (binaryOp .Mult) (fun x y H Q=>∃ i n,x=.str i∧y=.int n∧0≤n∧n≤100∧1≤i.length∧i.length≤100∧Q (.str (repS i n)) H):=by
  intro pins s σ H x y v u Q I rx ry h
  obtain ⟨i,n,rfl,rfl,h1,h2,h3,h4,q⟩:=h
  obtain ⟨t,rfl⟩:=rx
  obtain ⟨t',rfl⟩:=ry
  have e2:(i.length == 0)=false:=beq_eq_false_iff_ne.mpr (by omega)
  have hrep:(repS i n).length≤sizeLine:=by
    have z:∀ (k:Nat) (acc:Array Nat),((List.replicate k i.cps).foldl (·++·) acc).size=acc.size+k * i.length:=by
      intro k
      induction k with
      | zero=>intro acc;simp
      | succ k ih =>
        intro acc
        rw [List.replicate_succ,List.foldl_cons,ih,Array.size_append,Nat.succ_mul]
        show acc.size+i.length+_=_
        omega
    have:(repS i n).length=0+n.toNat * i.length:=z n.toNat #[]
    have hm:n.toNat * i.length≤100 * 100:=Nat.mul_le_mul (by omega) h4
    rw [this,sizeLine_eq];omega
  refine P.mul_str (by rw [decide_eq_false (by omega),decide_eq_false (by omega)];rfl) (fun c1 _=>?_) (fun c1 _=>?_) ?_
  · have:(2 ^ 63 - 1:Int) / n ≥ 1000:=by
      refine Int.le_ediv_of_mul_le (by omega) ?_
      omega
    omega
  · have hm:i.length * n.toNat≤100 * 100:=Nat.mul_le_mul h4 (by omega)
    show decide (_ > sizeLine)=false
    rw [decide_eq_false]
    rw [sizeLine_eq];omega
  · rw [e2,Bool.or_false]
    by_cases c1:n < 1
    · have e0:n=0:=by omega
      subst e0
      rw [if_pos (by decide)]
      exact ⟨by decide,⟨.str (repS i 0),H,I.tok _,⟨_,rfl⟩,q⟩⟩
    · rw [if_neg c1]
      by_cases c2:n=1
      · subst c2
        rw [if_pos (by decide)]
        have e:repS i 1=i:=by unfold repS;cases i;simp
        rw [e] at q
        exact ⟨.str i,H,I,⟨_,rfl⟩,q⟩
      · rw [if_neg (by simpa using c2)]
        exact ⟨hrep,⟨.str (repS i n),H,I.tok _,⟨_,rfl⟩,q⟩⟩
end
end L2
namespace L2
open PySem PySem.Spec PyProof.Rows PySem.W
section
variable {X:Cx}
def sgnsV (x:Str):List V:=x.cps.toList.map fun c=>V.str ⟨#[c]⟩
theorem vals_signs {x:Str} {acc:Array Value} (h:ItemsOf (SignAt x) acc x.cps.size):Vals (sgnsV x) acc.toList:=by
  have g:∀ (cs:List Nat) (us:List Value),us.length=cs.length→(∀ (j:Nat) (v:Value),us[j]?=some v→∃ c t,cs[j]?=some c∧v=.str ⟨#[c]⟩ t)→Vals (cs.map fun c=>V.str ⟨#[c]⟩) us:=by
    intro cs
    induction cs with
    | nil =>
      intro us hl _
      cases us with
      | nil=>exact .nil
      | cons u us=>simp at hl
    | cons c cs ih =>
      intro us hl hj
      cases us with
      | nil=>simp at hl
      | cons u us =>
        obtain ⟨c',t,e,rfl⟩:=hj 0 u rfl
        have e:c=c':=by simpa using e
        subst e
        exact .cons ⟨t,rfl⟩ (ih us (by simpa using hl) fun j v hv=>by simpa using hj (j+1) v (by simpa using hv))
  refine g _ _ (by simpa using h.1) fun j v hv=>?_
  have z:=h.2 j v (by rw [← Array.getElem?_toList];exact hv)
  obtain ⟨c,t,e1,e2⟩:=z
  exact ⟨c,t,by rw [Array.getElem?_toList];exact e1,e2⟩
theorem call_tuple_text (hc:X.calm=true):CallR X (.type "tuple") (fun xs H Q=>∃ x,xs=[.str x]∧x.length≤1000∧∀ l,H l=none→Q (.ref l) (upd H l (.tup (sgnsV x)))):=by
  intro pins s σ H xs us Q I r h
  obtain ⟨x,rfl,hx,q⟩:=h
  obtain ⟨u,rfl,ru⟩:=vals1 r
  obtain ⟨t,rfl⟩:=ru
  have hx':x.cps.size≤1000:=hx
  have hz:x.cps.size≤sizeLine:=by rw [sizeLine_eq];omega
  refine call_tuple_str (I.ok.hd hc) x t (fun h' tk acc kp hit=>?_) hz
  have I1:Inv X pins σ H { s with heap:=h',toks:=tk }:=I.kept (t':=tk) kp
  have hv:=vals_signs hit
  have hl:(sgnsV x).length≤sizeLine:=by unfold sgnsV;rw [List.length_map,Array.length_toList];exact hz
  have I2:Inv X pins σ (upd H h'.objs.size (.tup (sgnsV x))) { s with heap:=h'.push { cls:=.type "tuple",data:=.seq acc },toks:=tk } :=
    I1.laid (t':=tk) (fun b o e=>Heap.get?_push_of_some _ e) (Nat.le_refl _) (show ObjOk X.prog X.w _ _ _ (.tup (sgnsV x)) from ⟨hl,acc.toList,hv,by rw [Array.toArray_toList];exact IsTup.new _ _⟩)
  exact ⟨.ref h'.objs.size,_,I2,rfl,q _ (I1.hok.fresh (Nat.le_refl _))⟩
variable {pos:Pos} {e a b:Expr} {te ta tb:TE} {st:Stmt} {ts:TS}
theorem be_ix {r:R2} (hr:IxR X r) (ha:Box (PE X a ta)) (hb:Box (PE X b tb)) (hs:PlainIx b):Box (PE X (.Subscript a b pos) (tOp r ta tb)):=⟨pe_ix hr ha.un hb.un hs⟩
theorem be_cut (h:Box (PE X e te)):Box (PE X e (tCut te)):=⟨pe_cut h.un⟩
theorem be_call {CX:CXT} {k:Nat} {f:Addr} {fd:FuncData} {ps:List Str} {sp:Sp} {x:Str} {ds:List Value} {dvs:List V} {E:XK} {p:Pos} {es:List Expr} {t:TA} (F:FnOk X.prog X.w X.K X.mg X.base CX k f fd ps sp) (hr:Room k X.A) (hg:Gl X x) (hm:X.mg x=some (.ref f)) (hk:PySem.W.keepIn X.K (.ref f)=true) (hb:Binds X.K fd ps ds) (hd:Vals dvs ds) (hx:Passes CX X E)
    (ha:Box (PA X (e :: es) t)) (hdb:(x == ("__debug__":Str))=false:=by decide) (he:starEach (e :: es) X.env=(false,eval e X.env) :: starEach es X.env:=by rfl) (hpl:(backTo pos (starEach es X.env)).any (·.1)=false:=by rfl) :
    Box (PE X (.Call (.Name x p) (e :: es) [] pos) (tCall sp dvs E t)):=⟨pe_call F hr hg hm hk hb hd hx ha.un hdb he hpl⟩
end
end L2
namespace My
open PySem L2
def top (i:Nat):Stmt:=PySem.Challenge.pw_logdelve_k07_terms_misread.main.body.getD i (.Pass ⟨0,0,0,0⟩)
def clsBody (s:Stmt):List Stmt:=match s with
  | .ClassDef _ _ _ b _ _ _ _ _ _ _=>b
  | _=>[]
def meth (i:Nat):Stmt:=(clsBody (top i)).getD 0 (.Pass ⟨0,0,0,0⟩)
set_option genInjectivity false in
set_option genSizeOf false in
structure Adr where
  f_is_word:Addr
  d_is_word:FuncData
  f_begins_with_letter:Addr
  d_begins_with_letter:FuncData
  f_has_only:Addr
  d_has_only:FuncData
  f_number_in:Addr
  d_number_in:FuncData
  f_signs_in:Addr
  d_signs_in:FuncData
  f_sign_at:Addr
  d_sign_at:FuncData
  f_is_figure_at:Addr
  d_is_figure_at:FuncData
  f_end_of_run:Addr
  d_end_of_run:FuncData
  f_name_at:Addr
  d_name_at:FuncData
  f_word_at:Addr
  d_word_at:FuncData
  f_number_at:Addr
  d_number_at:FuncData
  f_mark_at:Addr
  d_mark_at:FuncData
  f_read_term:Addr
  d_read_term:FuncData
  f_take_term:Addr
  d_take_term:FuncData
  f_take_part:Addr
  d_take_part:FuncData
  f_take_negation:Addr
  d_take_negation:FuncData
  f_take_deeper:Addr
  d_take_deeper:FuncData
  f_take_leaf:Addr
  d_take_leaf:FuncData
  f_begin:Addr
  d_begin:FuncData
  f_take:Addr
  d_take:FuncData
  f_of:Addr
  d_of:FuncData
  f_same:Addr
  d_same:FuncData
  f_kept_word:Addr
  d_kept_word:FuncData
  f_letters:Addr
  d_letters:FuncData
  f_drawn_word:Addr
  d_drawn_word:FuncData
  f_number:Addr
  d_number:FuncData
  f_value:Addr
  d_value:FuncData
  f_value_text:Addr
  d_value_text:FuncData
  f_kinds:Addr
  d_kinds:FuncData
  f_leaf:Addr
  d_leaf:FuncData
  f_term:Addr
  d_term:FuncData
  f_two_parts:Addr
  d_two_parts:FuncData
  f_level:Addr
  d_level:FuncData
  f_wrapped:Addr
  d_wrapped:FuncData
  f_text:Addr
  d_text:FuncData
  f_thing:Addr
  d_thing:FuncData
  f_things:Addr
  d_things:FuncData
  f_atom:Addr
  d_atom:FuncData
  f_parsed:Addr
  d_parsed:FuncData
  f_read_of:Addr
  d_read_of:FuncData
  f_bent:Addr
  d_bent:FuncData
  f_refused_at:Addr
  d_refused_at:FuncData
  f_law:Addr
  d_law:FuncData
  f_Reader__init:Addr
  d_Reader__init:FuncData
  f_Reader__place:Addr
  d_Reader__place:FuncData
  f_Reader__sees:Addr
  d_Reader__sees:FuncData
  f_Reader__sees_one:Addr
  d_Reader__sees_one:FuncData
  f_Reader__take:Addr
  d_Reader__take:FuncData
  f_Reader__take_kind:Addr
  d_Reader__take_kind:FuncData
  f_Reader__take_one:Addr
  d_Reader__take_one:FuncData
  c_Reader:Addr
  u_NUMBER:Value
  u_WORD:Value
  u_FLAG:Value
  u_LETTERS:Value
  u_FIGURES:Value
  u_NAME_SIGNS:Value
  u_WORD_SIGNS:Value
  u_NAME:Value
  u_MARK:Value
  u_END:Value
  u_SHORT_MARKS:Value
  u_MOST_SIGNS:Value
  u_MOST_FIGURES:Value
  u_MOST_NAME_SIGNS:Value
  u_NOT_LEVEL:Value
  u_COMPARISON_LEVEL:Value
  u_LEAF_LEVEL:Value
  u_MOST_DEEP:Value
  a_KEPT_WORDS:Addr
  a_LONG_MARKS:Addr
  a_LEVELS:Addr
  a_LEVELS_0:Addr
  a_LEVELS_1:Addr
  a_LEVELS_2:Addr
  a_LEVELS_3:Addr
  a_LEVELS_4:Addr
  a_LEVELS_5:Addr
  c_LogError:Addr
  c_BadText:Addr
  i_BadText:Addr
  j_BadText:FuncData
structure Txt (K:PySem.W.Frag) (mg:Str→Option Value) (a:Adr):Prop where
  F_is_word:Fun K "is_word" "is_word" (top 14) a.f_is_word a.d_is_word
  m_is_word:mg "is_word"=some (.ref a.f_is_word)
  b_is_word:Binds K a.d_is_word ["text"] []
  F_begins_with_letter:Fun K "begins_with_letter" "begins_with_letter" (top 15) a.f_begins_with_letter a.d_begins_with_letter
  m_begins_with_letter:mg "begins_with_letter"=some (.ref a.f_begins_with_letter)
  b_begins_with_letter:Binds K a.d_begins_with_letter ["text"] []
  F_has_only:Fun K "has_only" "has_only" (top 16) a.f_has_only a.d_has_only
  m_has_only:mg "has_only"=some (.ref a.f_has_only)
  b_has_only:Binds K a.d_has_only ["text","signs","most"] []
  F_number_in:Fun K "number_in" "number_in" (top 17) a.f_number_in a.d_number_in
  m_number_in:mg "number_in"=some (.ref a.f_number_in)
  b_number_in:Binds K a.d_number_in ["text"] []
  F_signs_in:Fun K "signs_in" "signs_in" (top 26) a.f_signs_in a.d_signs_in
  m_signs_in:mg "signs_in"=some (.ref a.f_signs_in)
  b_signs_in:Binds K a.d_signs_in ["text"] []
  F_sign_at:Fun K "sign_at" "sign_at" (top 27) a.f_sign_at a.d_sign_at
  m_sign_at:mg "sign_at"=some (.ref a.f_sign_at)
  b_sign_at:Binds K a.d_sign_at ["text","at"] []
  F_is_figure_at:Fun K "is_figure_at" "is_figure_at" (top 28) a.f_is_figure_at a.d_is_figure_at
  m_is_figure_at:mg "is_figure_at"=some (.ref a.f_is_figure_at)
  b_is_figure_at:Binds K a.d_is_figure_at ["text","at"] []
  F_end_of_run:Fun K "end_of_run" "end_of_run" (top 29) a.f_end_of_run a.d_end_of_run
  m_end_of_run:mg "end_of_run"=some (.ref a.f_end_of_run)
  b_end_of_run:Binds K a.d_end_of_run ["text","at","signs"] []
  F_name_at:Fun K "name_at" "name_at" (top 30) a.f_name_at a.d_name_at
  m_name_at:mg "name_at"=some (.ref a.f_name_at)
  b_name_at:Binds K a.d_name_at ["text","at"] []
  F_word_at:Fun K "word_at" "word_at" (top 31) a.f_word_at a.d_word_at
  m_word_at:mg "word_at"=some (.ref a.f_word_at)
  b_word_at:Binds K a.d_word_at ["text","at"] []
  F_number_at:Fun K "number_at" "number_at" (top 32) a.f_number_at a.d_number_at
  m_number_at:mg "number_at"=some (.ref a.f_number_at)
  b_number_at:Binds K a.d_number_at ["text","at"] []
  F_mark_at:Fun K "mark_at" "mark_at" (top 33) a.f_mark_at a.d_mark_at
  m_mark_at:mg "mark_at"=some (.ref a.f_mark_at)
  b_mark_at:Binds K a.d_mark_at ["text","at"] []
  F_read_term:Fun K "read_term" "read_term" (top 41) a.f_read_term a.d_read_term
  m_read_term:mg "read_term"=some (.ref a.f_read_term)
  b_read_term:Binds K a.d_read_term ["text"] []
  F_take_term:Fun K "take_term" "take_term" (top 42) a.f_take_term a.d_take_term
  m_take_term:mg "take_term"=some (.ref a.f_take_term)
  b_take_term:Binds K a.d_take_term ["reader","depth"] []
  F_take_part:Fun K "take_part" "take_part" (top 43) a.f_take_part a.d_take_part
  m_take_part:mg "take_part"=some (.ref a.f_take_part)
  b_take_part:Binds K a.d_take_part ["reader","level","depth"] []
  F_take_negation:Fun K "take_negation" "take_negation" (top 44) a.f_take_negation a.d_take_negation
  m_take_negation:mg "take_negation"=some (.ref a.f_take_negation)
  b_take_negation:Binds K a.d_take_negation ["reader","depth"] []
  F_take_deeper:Fun K "take_deeper" "take_deeper" (top 45) a.f_take_deeper a.d_take_deeper
  m_take_deeper:mg "take_deeper"=some (.ref a.f_take_deeper)
  b_take_deeper:Binds K a.d_take_deeper ["reader","depth"] []
  F_take_leaf:Fun K "take_leaf" "take_leaf" (top 46) a.f_take_leaf a.d_take_leaf
  m_take_leaf:mg "take_leaf"=some (.ref a.f_take_leaf)
  b_take_leaf:Binds K a.d_take_leaf ["reader","depth"] []
  F_begin:Fun K "_law_begin" "_law_begin" (top 48) a.f_begin a.d_begin
  m_begin:mg "_law_begin"=some (.ref a.f_begin)
  b_begin:Binds K a.d_begin ["_law_script"] []
  F_take:Fun K "_law_take" "_law_take" (top 49) a.f_take a.d_take
  m_take:mg "_law_take"=some (.ref a.f_take)
  b_take:Binds K a.d_take ["_law_draw","_law_many"] []
  F_of:Fun K "_law_of" "_law_of" (top 50) a.f_of a.d_of
  m_of:mg "_law_of"=some (.ref a.f_of)
  b_of:Binds K a.d_of ["_law_draw","_law_some"] []
  F_same:Fun K "_law_same" "_law_same" (top 51) a.f_same a.d_same
  m_same:mg "_law_same"=some (.ref a.f_same)
  b_same:Binds K a.d_same ["_law_told","_law_due"] []
  F_kept_word:Fun K "_law_kept_word" "_law_kept_word" (top 52) a.f_kept_word a.d_kept_word
  m_kept_word:mg "_law_kept_word"=some (.ref a.f_kept_word)
  b_kept_word:Binds K a.d_kept_word ["_law_text_here"] []
  F_letters:Fun K "_law_letters" "_law_letters" (top 53) a.f_letters a.d_letters
  m_letters:mg "_law_letters"=some (.ref a.f_letters)
  b_letters:Binds K a.d_letters ["_law_draw","_law_signs","_law_most"] []
  F_drawn_word:Fun K "_law_drawn_word" "_law_drawn_word" (top 54) a.f_drawn_word a.d_drawn_word
  m_drawn_word:mg "_law_drawn_word"=some (.ref a.f_drawn_word)
  b_drawn_word:Binds K a.d_drawn_word ["_law_draw"] []
  F_number:Fun K "_law_number" "_law_number" (top 55) a.f_number a.d_number
  m_number:mg "_law_number"=some (.ref a.f_number)
  b_number:Binds K a.d_number ["_law_draw"] []
  F_value:Fun K "_law_value" "_law_value" (top 56) a.f_value a.d_value
  m_value:mg "_law_value"=some (.ref a.f_value)
  b_value:Binds K a.d_value ["_law_draw","_law_sort"] []
  F_value_text:Fun K "_law_value_text" "_law_value_text" (top 57) a.f_value_text a.d_value_text
  m_value_text:mg "_law_value_text"=some (.ref a.f_value_text)
  b_value_text:Binds K a.d_value_text ["_law_value_here"] []
  F_kinds:Fun K "_law_kinds" "_law_kinds" (top 58) a.f_kinds a.d_kinds
  m_kinds:mg "_law_kinds"=some (.ref a.f_kinds)
  b_kinds:Binds K a.d_kinds ["_law_draw"] []
  F_leaf:Fun K "_law_leaf" "_law_leaf" (top 59) a.f_leaf a.d_leaf
  m_leaf:mg "_law_leaf"=some (.ref a.f_leaf)
  b_leaf:Binds K a.d_leaf ["_law_draw","_law_kinds_here","_law_sort"] []
  F_term:Fun K "_law_term" "_law_term" (top 60) a.f_term a.d_term
  m_term:mg "_law_term"=some (.ref a.f_term)
  b_term:Binds K a.d_term ["_law_draw","_law_kinds_here","_law_sort","_law_deep"] []
  F_two_parts:Fun K "_law_two_parts" "_law_two_parts" (top 61) a.f_two_parts a.d_two_parts
  m_two_parts:mg "_law_two_parts"=some (.ref a.f_two_parts)
  b_two_parts:Binds K a.d_two_parts ["_law_draw","_law_kinds_here","_law_sort","_law_deep","_law_sign"] []
  F_level:Fun K "_law_level" "_law_level" (top 62) a.f_level a.d_level
  m_level:mg "_law_level"=some (.ref a.f_level)
  b_level:Binds K a.d_level ["_law_term_here"] []
  F_wrapped:Fun K "_law_wrapped" "_law_wrapped" (top 63) a.f_wrapped a.d_wrapped
  m_wrapped:mg "_law_wrapped"=some (.ref a.f_wrapped)
  b_wrapped:Binds K a.d_wrapped ["_law_term_here","_law_least"] []
  F_text:Fun K "_law_text" "_law_text" (top 64) a.f_text a.d_text
  m_text:mg "_law_text"=some (.ref a.f_text)
  b_text:Binds K a.d_text ["_law_term_here"] []
  F_thing:Fun K "_law_thing" "_law_thing" (top 65) a.f_thing a.d_thing
  m_thing:mg "_law_thing"=some (.ref a.f_thing)
  b_thing:Binds K a.d_thing ["_law_text_here","_law_at"] []
  F_things:Fun K "_law_things" "_law_things" (top 66) a.f_things a.d_things
  m_things:mg "_law_things"=some (.ref a.f_things)
  b_things:Binds K a.d_things ["_law_text_here"] []
  F_atom:Fun K "_law_atom" "_law_atom" (top 67) a.f_atom a.d_atom
  m_atom:mg "_law_atom"=some (.ref a.f_atom)
  b_atom:Binds K a.d_atom ["_law_things_here","_law_at","_law_deep"] []
  F_parsed:Fun K "_law_parsed" "_law_parsed" (top 68) a.f_parsed a.d_parsed
  m_parsed:mg "_law_parsed"=some (.ref a.f_parsed)
  b_parsed:Binds K a.d_parsed ["_law_things_here","_law_at","_law_deep","_law_level_here"] []
  F_read_of:Fun K "_law_read_of" "_law_read_of" (top 69) a.f_read_of a.d_read_of
  m_read_of:mg "_law_read_of"=some (.ref a.f_read_of)
  b_read_of:Binds K a.d_read_of ["_law_text_here"] []
  F_bent:Fun K "_law_bent" "_law_bent" (top 70) a.f_bent a.d_bent
  m_bent:mg "_law_bent"=some (.ref a.f_bent)
  b_bent:Binds K a.d_bent ["_law_draw","_law_text_here"] []
  F_refused_at:Fun K "_law_refused_at" "_law_refused_at" (top 71) a.f_refused_at a.d_refused_at
  m_refused_at:mg "_law_refused_at"=some (.ref a.f_refused_at)
  b_refused_at:Binds K a.d_refused_at ["_law_text_here"] []
  F_law:Fun K "law" "law" (top 72) a.f_law a.d_law
  m_law:mg "law"=some (.ref a.f_law)
  b_law:Binds K a.d_law ["_law_script"] []
  F_Reader__init:Fun K "__init__" "Reader.__init__" (inClass (top 25) 0) a.f_Reader__init a.d_Reader__init
  mk_Reader:Mk K a.c_Reader a.f_Reader__init
  b_Reader__init:Binds K a.d_Reader__init ["self","text"] []
  F_Reader__place:Fun K "place" "Reader.place" (inClass (top 25) 1) a.f_Reader__place a.d_Reader__place
  me_Reader__place:Meth K a.c_Reader "place" a.f_Reader__place
  b_Reader__place:Binds K a.d_Reader__place ["self"] []
  F_Reader__sees:Fun K "sees" "Reader.sees" (inClass (top 25) 2) a.f_Reader__sees a.d_Reader__sees
  me_Reader__sees:Meth K a.c_Reader "sees" a.f_Reader__sees
  b_Reader__sees:Binds K a.d_Reader__sees ["self","kind"] []
  F_Reader__sees_one:Fun K "sees_one" "Reader.sees_one" (inClass (top 25) 3) a.f_Reader__sees_one a.d_Reader__sees_one
  me_Reader__sees_one:Meth K a.c_Reader "sees_one" a.f_Reader__sees_one
  b_Reader__sees_one:Binds K a.d_Reader__sees_one ["self","kind","things"] []
  F_Reader__take:Fun K "take" "Reader.take" (inClass (top 25) 4) a.f_Reader__take a.d_Reader__take
  me_Reader__take:Meth K a.c_Reader "take" a.f_Reader__take
  b_Reader__take:Binds K a.d_Reader__take ["self"] []
  F_Reader__take_kind:Fun K "take_kind" "Reader.take_kind" (inClass (top 25) 5) a.f_Reader__take_kind a.d_Reader__take_kind
  me_Reader__take_kind:Meth K a.c_Reader "take_kind" a.f_Reader__take_kind
  b_Reader__take_kind:Binds K a.d_Reader__take_kind ["self","kind"] []
  F_Reader__take_one:Fun K "take_one" "Reader.take_one" (inClass (top 25) 6) a.f_Reader__take_one a.d_Reader__take_one
  me_Reader__take_one:Meth K a.c_Reader "take_one" a.f_Reader__take_one
  b_Reader__take_one:Binds K a.d_Reader__take_one ["self","kind","things"] []
  cl_Reader:Cls K a.c_Reader
  m_Reader:mg "Reader"=some (.ref a.c_Reader)
  no_Reader_signs:NoAttr K a.c_Reader "signs"
  no_Reader_passed:NoAttr K a.c_Reader "passed"
  g_NUMBER:mg "NUMBER"=some a.u_NUMBER∧RelV (.str "number") a.u_NUMBER
  g_WORD:mg "WORD"=some a.u_WORD∧RelV (.str "word") a.u_WORD
  g_FLAG:mg "FLAG"=some a.u_FLAG∧RelV (.str "flag") a.u_FLAG
  g_LETTERS:mg "LETTERS"=some a.u_LETTERS∧RelV (.str "abcdefghijklmnopqrstuvwxyz") a.u_LETTERS
  g_FIGURES:mg "FIGURES"=some a.u_FIGURES∧RelV (.str "0123456789") a.u_FIGURES
  g_NAME_SIGNS:mg "NAME_SIGNS"=some a.u_NAME_SIGNS∧RelV (.str "abcdefghijklmnopqrstuvwxyz_") a.u_NAME_SIGNS
  g_WORD_SIGNS:mg "WORD_SIGNS"=some a.u_WORD_SIGNS∧RelV (.str "abcdefghijklmnopqrstuvwxyz0123456789") a.u_WORD_SIGNS
  g_NAME:mg "NAME"=some a.u_NAME∧RelV (.str "name") a.u_NAME
  g_MARK:mg "MARK"=some a.u_MARK∧RelV (.str "mark") a.u_MARK
  g_END:mg "END"=some a.u_END∧RelV (.str "end") a.u_END
  g_SHORT_MARKS:mg "SHORT_MARKS"=some a.u_SHORT_MARKS∧RelV (.str "=<>+-*()|,@") a.u_SHORT_MARKS
  g_MOST_SIGNS:mg "MOST_SIGNS"=some a.u_MOST_SIGNS∧RelV (.int 12) a.u_MOST_SIGNS
  g_MOST_FIGURES:mg "MOST_FIGURES"=some a.u_MOST_FIGURES∧RelV (.int 30) a.u_MOST_FIGURES
  g_MOST_NAME_SIGNS:mg "MOST_NAME_SIGNS"=some a.u_MOST_NAME_SIGNS∧RelV (.int 20) a.u_MOST_NAME_SIGNS
  g_NOT_LEVEL:mg "NOT_LEVEL"=some a.u_NOT_LEVEL∧RelV (.int 2) a.u_NOT_LEVEL
  g_COMPARISON_LEVEL:mg "COMPARISON_LEVEL"=some a.u_COMPARISON_LEVEL∧RelV (.int 3) a.u_COMPARISON_LEVEL
  g_LEAF_LEVEL:mg "LEAF_LEVEL"=some a.u_LEAF_LEVEL∧RelV (.int 6) a.u_LEAF_LEVEL
  g_MOST_DEEP:mg "MOST_DEEP"=some a.u_MOST_DEEP∧RelV (.int 12) a.u_MOST_DEEP
  g_KEPT_WORDS:mg "KEPT_WORDS"=some (.ref a.a_KEPT_WORDS)∧RelV (.ref a.a_KEPT_WORDS) (.ref a.a_KEPT_WORDS)
  t_KEPT_WORDS:∀ H,SqT K H a.a_KEPT_WORDS [(.str "and"),(.str "or"),(.str "not"),(.str "has"),(.str "yes"),(.str "no"),(.str "by"),(.str "up"),(.str "down"),(.str "count"),(.str "sum"),(.str "least"),(.str "most"),(.str "unlike"),(.str "all"),(.str "within")]
  g_LONG_MARKS:mg "LONG_MARKS"=some (.ref a.a_LONG_MARKS)∧RelV (.ref a.a_LONG_MARKS) (.ref a.a_LONG_MARKS)
  t_LONG_MARKS:∀ H,SqT K H a.a_LONG_MARKS [(.str "!="),(.str "<="),(.str ">=")]
  g_LEVELS:mg "LEVELS"=some (.ref a.a_LEVELS)∧RelV (.ref a.a_LEVELS) (.ref a.a_LEVELS)
  t_LEVELS:∀ H,SqT K H a.a_LEVELS [.ref a.a_LEVELS_0,.ref a.a_LEVELS_1,.ref a.a_LEVELS_2,.ref a.a_LEVELS_3,.ref a.a_LEVELS_4,.ref a.a_LEVELS_5]
  t_LEVELS_0:∀ H,SqT K H a.a_LEVELS_0 [(.str "or")]
  t_LEVELS_1:∀ H,SqT K H a.a_LEVELS_1 [(.str "and")]
  t_LEVELS_2:∀ H,SqT K H a.a_LEVELS_2 [(.str "not")]
  t_LEVELS_3:∀ H,SqT K H a.a_LEVELS_3 [(.str "="),(.str "!="),(.str "<"),(.str "<="),(.str ">"),(.str ">=")]
  t_LEVELS_4:∀ H,SqT K H a.a_LEVELS_4 [(.str "+"),(.str "-")]
  t_LEVELS_5:∀ H,SqT K H a.a_LEVELS_5 [(.str "*")]
  n_len:mg "len"=none
  n_all:mg "all"=none
  n_isinstance:mg "isinstance"=none
  n_bool:mg "bool"=none
  n_int:mg "int"=none
  n_str:mg "str"=none
  n_list:mg "list"=none
  n_dict:mg "dict"=none
  n_tuple:mg "tuple"=none
  n_range:mg "range"=none
  n_zip:mg "zip"=none
  n_sorted:mg "sorted"=none
  n_enumerate:mg "enumerate"=none
  m_LogError:mg "LogError"=some (.ref a.c_LogError)
  x_LogError:XL K a.c_LogError
  m_BadText:mg "BadText"=some (.ref a.c_BadText)
  x_BadText:XTx K a.c_BadText a.i_BadText a.j_BadText "at" "BadText.__init__" (meth 2)
  y_BadText:PySem.W.mroIn K a.c_BadText (.ref a.c_LogError)=some true
theorem sc_BadText__init:FnScope ["self","at"] ["self","at"] (defScope (meth 2)):=⟨rfl,rfl,rfl,by decide +kernel,rfl,by decide +kernel,by decide +kernel⟩
theorem ok_BadText__init {P:Program} {w:World} {K:PySem.W.Frag} {mg:Str→Option Value} {base:Heap} {a:Adr} (T:Txt K mg a):FnOk P w K mg base CX0 1 a.i_BadText a.j_BadText ["self","at"] (spInit K "at") :=
  T.x_BadText.init sc_BadText__init fun X hN hS hK=>by subst hK;exact pss_one (ps_xf (pe_var (i:=0) (by rw [hN];rfl) (by rw [hS];exact Or.inl rfl)) (pe_var (i:=1) (by rw [hN];rfl) (by rw [hS];exact Or.inl rfl)))
theorem sc_is_word:FnScope ["text"] ["text"] (defScope (top 14)):=⟨rfl,rfl,rfl,by decide +kernel,rfl,by decide +kernel,by decide +kernel⟩
theorem sc_begins_with_letter:FnScope ["text"] ["text"] (defScope (top 15)):=⟨rfl,rfl,rfl,by decide +kernel,rfl,by decide +kernel,by decide +kernel⟩
theorem sc_has_only:FnScope ["text","signs","most"] ["text","signs","most"] (defScope (top 16)):=⟨rfl,rfl,rfl,by decide +kernel,rfl,by decide +kernel,by decide +kernel⟩
theorem sc_number_in:FnScope ["text","figures"] ["text"] (defScope (top 17)):=⟨rfl,rfl,rfl,by decide +kernel,rfl,by decide +kernel,by decide +kernel⟩
theorem sc_signs_in:FnScope ["text","signs","at","kind","thing","end"] ["text"] (defScope (top 26)):=⟨rfl,rfl,rfl,by decide +kernel,rfl,by decide +kernel,by decide +kernel⟩
theorem sc_sign_at:FnScope ["text","at"] ["text","at"] (defScope (top 27)):=⟨rfl,rfl,rfl,by decide +kernel,rfl,by decide +kernel,by decide +kernel⟩
theorem sc_is_figure_at:FnScope ["text","at"] ["text","at"] (defScope (top 28)):=⟨rfl,rfl,rfl,by decide +kernel,rfl,by decide +kernel,by decide +kernel⟩
theorem sc_end_of_run:FnScope ["text","at","signs"] ["text","at","signs"] (defScope (top 29)):=⟨rfl,rfl,rfl,by decide +kernel,rfl,by decide +kernel,by decide +kernel⟩
theorem sc_name_at:FnScope ["text","at","end","name"] ["text","at"] (defScope (top 30)):=⟨rfl,rfl,rfl,by decide +kernel,rfl,by decide +kernel,by decide +kernel⟩
theorem sc_word_at:FnScope ["text","at","quote","word"] ["text","at"] (defScope (top 31)):=⟨rfl,rfl,rfl,by decide +kernel,rfl,by decide +kernel,by decide +kernel⟩
theorem sc_number_at:FnScope ["text","at","end","number"] ["text","at"] (defScope (top 32)):=⟨rfl,rfl,rfl,by decide +kernel,rfl,by decide +kernel,by decide +kernel⟩
theorem sc_mark_at:FnScope ["text","at"] ["text","at"] (defScope (top 33)):=⟨rfl,rfl,rfl,by decide +kernel,rfl,by decide +kernel,by decide +kernel⟩
theorem sc_read_term:FnScope ["text","reader","term"] ["text"] (defScope (top 41)):=⟨rfl,rfl,rfl,by decide +kernel,rfl,by decide +kernel,by decide +kernel⟩
theorem sc_take_term:FnScope ["reader","depth"] ["reader","depth"] (defScope (top 42)):=⟨rfl,rfl,rfl,by decide +kernel,rfl,by decide +kernel,by decide +kernel⟩
theorem sc_take_part:FnScope ["reader","level","depth","term","sign"] ["reader","level","depth"] (defScope (top 43)):=⟨rfl,rfl,rfl,by decide +kernel,rfl,by decide +kernel,by decide +kernel⟩
theorem sc_take_negation:FnScope ["reader","depth"] ["reader","depth"] (defScope (top 44)):=⟨rfl,rfl,rfl,by decide +kernel,rfl,by decide +kernel,by decide +kernel⟩
theorem sc_take_deeper:FnScope ["reader","depth"] ["reader","depth"] (defScope (top 45)):=⟨rfl,rfl,rfl,by decide +kernel,rfl,by decide +kernel,by decide +kernel⟩
theorem sc_take_leaf:FnScope ["reader","depth","term"] ["reader","depth"] (defScope (top 46)):=⟨rfl,rfl,rfl,by decide +kernel,rfl,by decide +kernel,by decide +kernel⟩
theorem sc_begin:FnScope ["_law_script"] ["_law_script"] (defScope (top 48)):=⟨rfl,rfl,rfl,by decide +kernel,rfl,by decide +kernel,by decide +kernel⟩
theorem sc_take:FnScope ["_law_draw","_law_many","_law_cell","_law_digit","_law_one"] ["_law_draw","_law_many"] (defScope (top 49)):=⟨rfl,rfl,rfl,by decide +kernel,rfl,by decide +kernel,by decide +kernel⟩
theorem sc_of:FnScope ["_law_draw","_law_some"] ["_law_draw","_law_some"] (defScope (top 50)):=⟨rfl,rfl,rfl,by decide +kernel,rfl,by decide +kernel,by decide +kernel⟩
theorem sc_same:FnScope ["_law_told","_law_due"] ["_law_told","_law_due"] (defScope (top 51)):=⟨rfl,rfl,rfl,by decide +kernel,rfl,by decide +kernel,by decide +kernel⟩
theorem sc_kept_word:FnScope ["_law_text_here","_law_kept"] ["_law_text_here"] (defScope (top 52)):=⟨rfl,rfl,rfl,by decide +kernel,rfl,by decide +kernel,by decide +kernel⟩
theorem sc_letters:FnScope ["_law_draw","_law_signs","_law_most"] ["_law_draw","_law_signs","_law_most"] (defScope (top 53)):=⟨rfl,rfl,rfl,by decide +kernel,rfl,by decide +kernel,by decide +kernel⟩
theorem sc_drawn_word:FnScope ["_law_draw"] ["_law_draw"] (defScope (top 54)):=⟨rfl,rfl,rfl,by decide +kernel,rfl,by decide +kernel,by decide +kernel⟩
theorem sc_number:FnScope ["_law_draw","_law_fork"] ["_law_draw"] (defScope (top 55)):=⟨rfl,rfl,rfl,by decide +kernel,rfl,by decide +kernel,by decide +kernel⟩
theorem sc_value:FnScope ["_law_draw","_law_sort"] ["_law_draw","_law_sort"] (defScope (top 56)):=⟨rfl,rfl,rfl,by decide +kernel,rfl,by decide +kernel,by decide +kernel⟩
theorem sc_value_text:FnScope ["_law_value_here"] ["_law_value_here"] (defScope (top 57)):=⟨rfl,rfl,rfl,by decide +kernel,rfl,by decide +kernel,by decide +kernel⟩
theorem sc_kinds:FnScope ["_law_draw","_law_names","_law_sorts"] ["_law_draw"] (defScope (top 58)):=⟨rfl,rfl,rfl,by decide +kernel,rfl,by decide +kernel,by decide +kernel⟩
theorem sc_leaf:FnScope ["_law_draw","_law_kinds_here","_law_sort","_law_names"] ["_law_draw","_law_kinds_here","_law_sort"] (defScope (top 59)):=⟨rfl,rfl,rfl,by decide +kernel,rfl,by decide +kernel,by decide +kernel⟩
theorem sc_term:FnScope ["_law_draw","_law_kinds_here","_law_sort","_law_deep","_law_sign","_law_fork","_law_kind"] ["_law_draw","_law_kinds_here","_law_sort","_law_deep"] (defScope (top 60)):=⟨rfl,rfl,rfl,by decide +kernel,rfl,by decide +kernel,by decide +kernel⟩
theorem sc_two_parts:FnScope ["_law_draw","_law_kinds_here","_law_sort","_law_deep","_law_sign","_law_left"] ["_law_draw","_law_kinds_here","_law_sort","_law_deep","_law_sign"] (defScope (top 61)):=⟨rfl,rfl,rfl,by decide +kernel,rfl,by decide +kernel,by decide +kernel⟩
theorem sc_level:FnScope ["_law_term_here"] ["_law_term_here"] (defScope (top 62)):=⟨rfl,rfl,rfl,by decide +kernel,rfl,by decide +kernel,by decide +kernel⟩
theorem sc_wrapped:FnScope ["_law_term_here","_law_least","_law_text_here"] ["_law_term_here","_law_least"] (defScope (top 63)):=⟨rfl,rfl,rfl,by decide +kernel,rfl,by decide +kernel,by decide +kernel⟩
theorem sc_text:FnScope ["_law_term_here","_law_level_here","_law_left"] ["_law_term_here"] (defScope (top 64)):=⟨rfl,rfl,rfl,by decide +kernel,rfl,by decide +kernel,by decide +kernel⟩
theorem sc_thing:FnScope ["_law_text_here","_law_at","_law_here","_law_letters_here","_law_end","_law_word","_law_good","_law_figures"] ["_law_text_here","_law_at"] (defScope (top 65)):=⟨rfl,rfl,rfl,by decide +kernel,rfl,by decide +kernel,by decide +kernel⟩
theorem sc_things:FnScope ["_law_text_here","_law_found","_law_at","_law_thing_here"] ["_law_text_here"] (defScope (top 66)):=⟨rfl,rfl,rfl,by decide +kernel,rfl,by decide +kernel,by decide +kernel⟩
theorem sc_atom:FnScope ["_law_things_here","_law_at","_law_deep","_law_kind","_law_thing_here","_law_place","_law_good","_law_inner","_law_end"] ["_law_things_here","_law_at","_law_deep"] (defScope (top 67)):=⟨rfl,rfl,rfl,by decide +kernel,rfl,by decide +kernel,by decide +kernel⟩
theorem sc_parsed:FnScope ["_law_things_here","_law_at","_law_deep","_law_level_here","_law_signs","_law_inner","_law_end","_law_found","_law_kind","_law_sign","_law_other"] ["_law_things_here","_law_at","_law_deep","_law_level_here"] (defScope (top 68)):=⟨rfl,rfl,rfl,by decide +kernel,rfl,by decide +kernel,by decide +kernel⟩
theorem sc_read_of:FnScope ["_law_text_here","_law_things_here","_law_wrong","_law_found","_law_at"] ["_law_text_here"] (defScope (top 69)):=⟨rfl,rfl,rfl,by decide +kernel,rfl,by decide +kernel,by decide +kernel⟩
theorem sc_bent:FnScope ["_law_draw","_law_text_here","_law_fork","_law_words","_law_at","_law_some","_law_more","_law_deep","_law_nots","_law_place","_law_sign"] ["_law_draw","_law_text_here"] (defScope (top 70)):=⟨rfl,rfl,rfl,by decide +kernel,rfl,by decide +kernel,by decide +kernel⟩
theorem sc_refused_at:FnScope ["_law_text_here","e"] ["_law_text_here"] (defScope (top 71)):=⟨rfl,rfl,rfl,by decide +kernel,rfl,by decide +kernel,by decide +kernel⟩
theorem sc_law:FnScope ["_law_script","_law_draw","_law_few","_law_kinds_here","_law_turn","_law_term_here","_law_text_here","_law_due","_law_at","_law_told","_law_wrong","e"] ["_law_script"] (defScope (top 72)):=⟨rfl,rfl,rfl,by decide +kernel,rfl,by decide +kernel,by decide +kernel⟩
theorem sc_Reader__init:FnScope ["self","text"] ["self","text"] (defScope (inClass (top 25) 0)):=⟨rfl,rfl,rfl,by decide +kernel,rfl,by decide +kernel,by decide +kernel⟩
theorem sc_Reader__place:FnScope ["self"] ["self"] (defScope (inClass (top 25) 1)):=⟨rfl,rfl,rfl,by decide +kernel,rfl,by decide +kernel,by decide +kernel⟩
theorem sc_Reader__sees:FnScope ["self","kind"] ["self","kind"] (defScope (inClass (top 25) 2)):=⟨rfl,rfl,rfl,by decide +kernel,rfl,by decide +kernel,by decide +kernel⟩
theorem sc_Reader__sees_one:FnScope ["self","kind","things"] ["self","kind","things"] (defScope (inClass (top 25) 3)):=⟨rfl,rfl,rfl,by decide +kernel,rfl,by decide +kernel,by decide +kernel⟩
theorem sc_Reader__take:FnScope ["self","thing"] ["self"] (defScope (inClass (top 25) 4)):=⟨rfl,rfl,rfl,by decide +kernel,rfl,by decide +kernel,by decide +kernel⟩
theorem sc_Reader__take_kind:FnScope ["self","kind"] ["self","kind"] (defScope (inClass (top 25) 5)):=⟨rfl,rfl,rfl,by decide +kernel,rfl,by decide +kernel,by decide +kernel⟩
theorem sc_Reader__take_one:FnScope ["self","kind","things"] ["self","kind","things"] (defScope (inClass (top 25) 6)):=⟨rfl,rfl,rfl,by decide +kernel,rfl,by decide +kernel,by decide +kernel⟩
theorem same_new {H:Hp} {p:Addr} (h:H p=none) (o:HO):Same H (upd H p o):=fun b u q=>by rw [upd_ne (ne_of_none q h)];exact q
theorem small {n:Nat} (h:n≤1000):n≤sizeLine:=Nat.le_of_lt (small1000 h)
def kw:List Str:=["and","or","not","has","yes","no","by","up","down","count","sum","least","most","unlike","all","within"]
def kept (x:Str):Bool:=inV (.str x) (kw.map V.str)
def isLet (c:Nat):Bool:=decide (97≤c)&&decide (c≤122)
def isFig (c:Nat):Bool:=decide (48≤c)&&decide (c≤57)
def sz (x:Str):Bool:=decide (1≤x.length)&&decide (x.length≤12)
def bwl (x:Str):Bool:=match x.cps.toList with
  | []=>false
  | c :: _=>isLet c
def nsg (c:Nat):Bool:=isLet c || c == 95
def wsg (c:Nat):Bool:=isLet c || isFig c
def wordB (x:Str):Bool:=sz x&&(bwl x&&x.cps.toList.all wsg)
theorem in_small (L:List Nat) (p:Nat→Bool) (h1:∀ x ∈ L,x < 128) (h2:∀ c,128≤c→p c=false) (h3:((List.range 128).all fun c=>decide (c ∈ L) == p c)=true) (c:Nat):decide (c ∈ L)=p c:=by
  by_cases h:c < 128
  · exact eq_of_beq (List.all_eq_true.mp h3 c (List.mem_range.mpr h))
  · rw [h2 c (by omega)];exact decide_eq_false fun z=>h (h1 c z)
theorem let_big (c:Nat) (h:128≤c):isLet c=false:=by unfold isLet;rw [decide_eq_false (show ¬ c≤122 by omega),Bool.and_false]
theorem fig_big (c:Nat) (h:128≤c):isFig c=false:=by unfold isFig;rw [decide_eq_false (show ¬ c≤57 by omega),Bool.and_false]
theorem let_in (c:Nat):decide (c ∈ (("abcdefghijklmnopqrstuvwxyz":Str)).cps.toList)=isLet c:=in_small _ _ (by decide +kernel) let_big (by decide +kernel) c
theorem nsg_in (c:Nat):decide (c ∈ (("abcdefghijklmnopqrstuvwxyz_":Str)).cps.toList)=nsg c:=in_small _ _ (by decide +kernel) (fun c h=>by unfold nsg;rw [let_big c h,Bool.false_or,beq_eq_false_iff_ne];omega) (by decide +kernel) c
theorem wsg_in (c:Nat):decide (c ∈ (("abcdefghijklmnopqrstuvwxyz0123456789":Str)).cps.toList)=wsg c:=in_small _ _ (by decide +kernel) (fun c h=>by unfold wsg;rw [let_big c h,fig_big c h];rfl) (by decide +kernel) c
theorem comp_its {z:Str} {im:List (Option Nat)} {σ:St} {H:Hp} {Q:VK} {te:TE} (p:Nat→Bool) (hz:z.cps.size≤sizeLine)
    (he:∀ c (R:VK),R (.bl (p c)) H→te ((inner im σ).set 0 (some (.str ⟨#[c]⟩))) H R)
    (hq:∀ D,H D=none→Q (.ref D) (upd H D (.lst ((z.cps.toList.map p).map V.bl)))) :
    CompAt im (gName 0) tNoIf te σ Q (Its z) H:=by
  have hs:z.cps.size=z.cps.toList.length:=by simp
  refine ⟨fun i m ys H'=>m=z.cps.size - i∧i≤z.cps.size∧ys=((z.cps.toList.take i).map p).map V.bl∧H'=H,⟨z.cps.size,by simp⟩,?_⟩
  rintro i m ys H' ⟨rfl,hi,rfl,rfl⟩
  refine ⟨by rw [List.length_map,List.length_map,List.length_take];omega,?_⟩
  by_cases hlt:i < z.cps.size
  · refine .inr ⟨hlt,fun x H'' y=>?_⟩
    obtain ⟨e,c,hc,rfl⟩:=y
    subst e
    refine he c _ ⟨z.cps.size - (i+1),by omega,rfl,hlt,?_,rfl⟩
    have hc':z.cps.toList[i]?=some c:=by rw [Array.getElem?_toList];exact hc
    rw [List.take_add_one,hc']
    simp
  · have e:i=z.cps.size:=by omega
    subst e
    refine .inl ⟨rfl,fun D hD=>?_⟩
    rw [hs,List.take_length]
    exact hq D hD
section
variable {P:Program} {w:World} {K:PySem.W.Frag} {mg:Str→Option Value} {base:Heap} {a:Adr}
def spTB (p:Str→Bool):Sp:=fun vs H Q _=>∃ x,vs=[.str x]∧x.length≤sizeLine∧∀ H',Same H H'→Q (.bl (p x)) H'
theorem ok_begins_with_letter (T:Txt K mg a):FnOk P w K mg base CX0 1 a.f_begins_with_letter a.d_begins_with_letter ["text"] (spTB bwl):=by
  refine T.F_begins_with_letter.ok sc_begins_with_letter (fun vs H Q E h=>?_) (fun cdv A outer s H vs Q E hr h=>?_)
  · obtain ⟨x,rfl,_⟩:=h;rfl
  obtain ⟨x,rfl,hx,q⟩:=h
  refine ⟨_,(pss_one (ps_ret (pe_and (pe_cmpR op_ne (pv 0) pe_str (nomark _)) (pe_one (pe_cmpR op_in_str (pe_ix ix_str (pv 0) pe_int (fun _ _=>rfl)) (pe_glob rfl T.g_LETTERS.1 T.g_LETTERS.2) (by with_unfolding_all rfl)))))),?_⟩
  refine ⟨_,rfl,rfl,_,rfl,?_⟩
  refine ite2 (fun c=>?_) (fun c=>?_)
  · have hne:x.cps.toList≠[]:=fun e=>by
      have:x="":=by
        obtain ⟨cps⟩:=x
        have e':cps=#[]:=by simpa using e
        subst e'
        decide +kernel
      rw [this] at c
      exact absurd c (by decide +kernel)
    obtain ⟨d,r,hd⟩:∃ d r,x.cps.toList=d :: r:=by
      cases e:x.cps.toList with
      | nil=>exact absurd e hne
      | cons d r=>exact ⟨d,r,rfl⟩
    refine ⟨_,rfl,x,0,d,rfl,rfl,hx,?_,_,_,rfl,rfl,?_⟩
    · rw [hd];exact atI_nat (j:=0) rfl
    · show Q (.bl (!(Builtin.Str.occurrences _ _ 0 _ 1).isEmpty)) H
      rw [PySem.StrLaws.found_one,let_in]
      have:bwl x=isLet d:=by unfold bwl;rw [hd]
      rw [← this]
      exact q H (Same.refl H)
  · have e:x="":=by
      by_cases e:x=""
      · exact e
      · exact absurd (by simpa using e) c
    subst e
    have z:=q H (Same.refl H)
    have:bwl ""=false:=by decide +kernel
    rw [this] at z
    exact z
def inT (s:Str) (c:Nat):Bool:=decide (c ∈ s.cps.toList)
def spHO:Sp:=fun vs H Q _=>∃ x s n,vs=[.str x,.str s,.int n]∧x.length≤sizeLine∧∀ H',Same H H'→Q (.bl (decide (1≤(x.length:Int))&&(decide ((x.length:Int)≤n)&&x.cps.toList.all (inT s)))) H'
theorem ok_has_only (T:Txt K mg a):FnOk P w K mg base CX0 1 a.f_has_only a.d_has_only ["text","signs","most"] spHO:=by
  refine T.F_has_only.ok sc_has_only (fun vs H Q E h=>?_) (fun cdv A outer s H vs Q E hr h=>?_)
  · obtain ⟨x,s,n,rfl,_⟩:=h;rfl
  obtain ⟨x,sg,n,rfl,hx,q⟩:=h
  refine ⟨_,(pss_one (ps_ret (pe_and (pe_chain op_le op_le pe_int (pe_callB call_len_str rfl T.n_len PySem.boot_len (pa_cons (pv 0) pa_nil)) (pv 2)) (pe_one (pe_callB (call_all rfl) rfl T.n_all (by decide +kernel) (pa_cons (pe_comp ["sign","signs"] [none,some 1] (pi_str (pv 0)) (fun _ _ _ _ _=>(pg_name (i:=0) (show List.Nodup (["sign","signs"]:List Str) from by decide +kernel) rfl (Or.inl rfl) (Or.inr rfl))) (fun _ _ _ _ _=>pts_nil) (fun _ _ _ _ _=>(pe_cmpR op_in_str (pv 0) (pv 1) (by with_unfolding_all rfl)))) pa_nil)))))),?_⟩
  refine ⟨_,rfl,_,rfl,hx,_,_,rfl,rfl,_,rfl,?_⟩
  refine ite2 (fun c=>?_) (fun c=>?_)
  · rw [c] at q
    refine ⟨_,rfl,_,_,rfl,rfl,_,rfl,?_⟩
    refine ite2 (fun c2=>?_) (fun c2=>?_)
    · rw [c2] at q
      refine ⟨_,rfl,_,rfl,comp_its (inT sg) hx (fun c R hR=>?_) (fun D hD=>?_)⟩
      · refine ⟨_,rfl,_,rfl,_,_,rfl,rfl,?_⟩
        show R (.bl (!(Builtin.Str.occurrences _ _ 0 _ 1).isEmpty)) H
        rw [PySem.StrLaws.found_one]
        exact hR
      · refine ⟨D,_,rfl,SqL.of upd_same,?_⟩
        have z:=q _ (same_new hD (.lst ((x.cps.toList.map (inT sg)).map V.bl)))
        have e:(x.cps.toList.map (inT sg)).all id=x.cps.toList.all (inT sg):=by rw [List.all_map];rfl
        rw [e]
        exact z
    · rw [Bool.eq_false_iff.mpr c2] at q
      exact q H (Same.refl H)
  · rw [Bool.eq_false_iff.mpr c] at q
    exact ⟨_,rfl,iteF (q H (Same.refl H))⟩
theorem ok_is_word (T:Txt K mg a):FnOk P w K mg base CX0 2 a.f_is_word a.d_is_word ["text"] (spTB wordB):=by
  refine T.F_is_word.ok sc_is_word (fun vs H Q E h=>?_) (fun cdv A outer s H vs Q E hr h=>?_)
  · obtain ⟨x,rfl,_⟩:=h;rfl
  obtain ⟨x,rfl,hx,q⟩:=h
  refine ⟨_,(pss_one (ps_ret (pe_and (pe_call (ok_begins_with_letter T) (hr.mono (by decide)) rfl T.m_begins_with_letter T.F_begins_with_letter.kp T.b_begins_with_letter .nil pass0 (pa_cons (pv 0) pa_nil)) (pe_one (pe_call (ok_has_only T) (hr.mono (by decide)) rfl T.m_has_only T.F_has_only.kp T.b_has_only .nil pass0 (pa_cons (pv 0) (pa_cons (pe_glob rfl T.g_WORD_SIGNS.1 T.g_WORD_SIGNS.2) (pa_cons (pe_glob rfl T.g_MOST_SIGNS.1 T.g_MOST_SIGNS.2) pa_nil)))))))),?_⟩
  refine ⟨_,rfl,x,rfl,hx,fun H1 g1=>⟨_,rfl,?_⟩⟩
  refine ite2 (fun c=>?_) (fun c=>?_)
  · refine ⟨_,rfl,x,_,_,rfl,hx,fun H2 g2=>?_⟩
    have z:=q H2 (g1.trans g2)
    have e:wordB x=(decide (1≤(x.length:Int))&&(decide ((x.length:Int)≤12)&&x.cps.toList.all (inT "abcdefghijklmnopqrstuvwxyz0123456789"))):=by
      unfold wordB sz
      rw [c,Bool.true_and]
      have e1:x.cps.toList.all wsg=x.cps.toList.all (inT "abcdefghijklmnopqrstuvwxyz0123456789"):=by
        congr 1;funext d;unfold inT;rw [wsg_in]
      rw [e1,Bool.and_assoc]
      congr 1
      · rw [Bool.eq_iff_iff];simp only [decide_eq_true_eq];omega
      · congr 1;rw [Bool.eq_iff_iff];simp only [decide_eq_true_eq];omega
    rw [e] at z
    exact z
  · have z:=q H1 g1
    have e:wordB x=false:=by unfold wordB;rw [Bool.eq_false_iff.mpr c,Bool.false_and,Bool.and_false]
    rw [e] at z
    exact z
abbrev kwT:Str:="and or not has yes no by up down count sum least most unlike all within"
theorem kw_split:Txt.split kwT " "=kw:=by decide +kernel
theorem kw_parts:(Builtin.Str.partsBetween kwT (Builtin.Str.occurrences kwT " " 0 kwT.length (kwT.length+1)) (" ":Str).length).length=16:=by decide +kernel
theorem kw_len:kwT.length=71:=by decide +kernel
theorem split_kw {H:Hp} {Q:VK} (q:∀ p,H p=none→Q (.ref p) (upd H p (.lst (kw.map V.str)))):rSplit (.str kwT) [.str " "] H Q :=
  ⟨kwT," ",rfl,rfl,by decide +kernel,by rw [kw_len];exact small (by decide),by rw [kw_parts];exact small (by decide),by rw [kw_split];exact small (by decide),by rw [kw_split];exact q⟩
theorem ok_kept_word (T:Txt K mg a):FnOk P w K mg base CX0 1 a.f_kept_word a.d_kept_word ["_law_text_here"] (spTB kept):=by
  refine T.F_kept_word.ok sc_kept_word (fun vs H Q E h=>?_) (fun cdv A outer s H vs Q E hr h=>?_)
  · obtain ⟨x,rfl,_⟩:=h;rfl
  obtain ⟨x,rfl,hx,q⟩:=h
  refine ⟨_,(pss_cons (ps_set (i:=1) sc_kept_word.nd rfl (by first | exact Or.inl rfl | exact Or.inr rfl) pe_str) (pss_one (ps_ret (pe_cmpR op_in_seq (pv 0) (pe_bm PySem.F.plainAttrs_str PySem.F.slot_str_split PySem.F.type_str_split mt_split (pv 1) (pa_cons pe_str pa_nil)) (by with_unfolding_all rfl))))),?_⟩
  refine ⟨_,rfl,_,rfl,rfl,?_⟩
  dsimp only [tCons,tC,tNil]
  refine split_kw fun p hp=>?_
  exact ⟨p,kw.map V.str,rfl,.inl (SqL.of upd_same),rfl,(by decide +kernel),q _ (same_new hp _)⟩
end
end My
namespace My
open PySem L2
def Drw (H:Hp) (d:Addr):Prop:=∃ (l:Addr) (ns:List Int) (p c s:Int),H d=some (.lst [.ref l,.int p,.int c,.int s])∧H l=some (.lst (ns.map V.int))∧0≤p∧0≤s∧s < 2305843009213693951
def Fst (H:Hp) (d l:Addr):Prop:=∃ xs,H d=some (.lst (.ref l :: xs))
structure Ev (d:Addr) (H H':Hp):Prop where
  same:∀ b o,b≠d→H b=some o→H' b=some o
  fst:∀ l,Fst H d l→Fst H' d l
  drw:Drw H' d
theorem fstT {H H':Hp} {d l:Addr} {xs ys:List V} (hd:H d=some (.lst (.ref l :: xs))) (h:H' d=some (.lst (.ref l :: ys))):∀ l',Fst H d l'→Fst H' d l':=fun l' ⟨zs,e⟩=>by
  rw [hd] at e;cases e;exact ⟨ys,h⟩
theorem Ev.trans {d:Addr} {H H1 H2:Hp} (e1:Ev d H H1) (e2:Ev d H1 H2):Ev d H H2:=⟨fun b o hb e=>e2.same b o hb (e1.same b o hb e),fun l h=>e2.fst l (e1.fst l h),e2.drw⟩
theorem Ev.refl {d:Addr} {H:Hp} (h:Drw H d):Ev d H H:=⟨fun _ _ _ e=>e,fun _ h=>h,h⟩
theorem Drw.keep {d:Addr} {H H':Hp} (h:Drw H d) (g:Same H H'):Drw H' d:=by
  obtain ⟨l,ns,p,c,s,h1,h2,r⟩:=h
  exact ⟨l,ns,p,c,s,g _ _ h1,g _ _ h2,r⟩
theorem Ev.of {d:Addr} {H H':Hp} (h:Drw H d) (g:Same H H'):Ev d H H':=⟨fun b o _ e=>g b o e,fun l z=>let ⟨xs,e⟩:=z;⟨xs,g _ _ e⟩,h.keep g⟩
theorem Ev.then {d:Addr} {H H1 H2:Hp} (e:Ev d H H1) (g:Same H1 H2):Ev d H H2:=e.trans (Ev.of e.drw g)
theorem Drw.some {d:Addr} {H:Hp} (h:Drw H d):∃ xs,H d=some (.lst xs):=by obtain ⟨l,ns,p,c,s,h1,_⟩:=h;exact ⟨_,h1⟩
theorem Drw.ne_of_none {d b:Addr} {H:Hp} (h:Drw H d) (hb:H b=Option.none):b≠d:=fun z=>by
  obtain ⟨xs,e⟩:=h.some
  rw [z,e] at hb;cases hb
theorem ixd {K:PySem.W.Frag} {σ:St} {H:Hp} {Q:VK} {d:Addr} {xs:List V} {i:Nat} (k:Nat) {v:V} (hσ:σ[i]?=some (some (.ref d))) (hd:H d=some (.lst xs)) (hk:xs[k]?=some v) (q:Q v H):tOp (rIxL K) (tVar i) (tC (.int (k:Nat))) σ H Q :=
  ⟨_,hσ,d,xs,_,v,rfl,rfl,SqL.of hd,atI_nat hk,q⟩
def spTake:Sp:=fun vs H Q _=>∃ (d:Addr) (m:Int),vs=[.ref d,.int m]∧Drw H d∧1≤m∧m < 2 ^ 200∧∀ r H',0≤r→r < m→Ev d H H'→Q (.int r) H'
section
variable {P:Program} {w:World} {K:PySem.W.Frag} {mg:Str→Option Value} {base:Heap} {a:Adr}
theorem ok_take (T:Txt K mg a):FnOk P w K mg base CX0 1 a.f_take a.d_take ["_law_draw","_law_many"] spTake:=by
  refine T.F_take.ok sc_take (fun vs H Q E h=>?_) (fun cdv A outer s H vs Q E hr h=>?_)
  · obtain ⟨x,s,rfl,_⟩:=h;rfl
  obtain ⟨d,m,rfl,hD,hm1,hm2,q⟩:=h
  obtain ⟨l,ns,p,c,s0,hd,hl,hp,hs0,hs1⟩:=hD
  have hld:l≠d:=fun z=>by
    subst z
    rw [hd] at hl
    cases ns with
    | nil=>cases hl
    | cons n ns=>injection hl with hl;injection hl with hl;injection hl with h1 _;cases h1
  refine ⟨_,(pss_cons (ps_if (PW.pt (pw_and (pt_cmpR op_lt (pe_ix ix_list (pv 0) pe_int (fun _ _=>rfl)) (pv 1) (nomark _)) (pw_and1 (pt_cmpR op_lt (pe_ix ix_list (pv 0) pe_int (fun _ _=>rfl)) (pe_callB call_len rfl T.n_len PySem.boot_len (pa_cons (pe_ix ix_list (pv 0) pe_int (fun _ _=>rfl)) pa_nil)) (nomark _))))) (pss_cons (ps_set (i:=2) sc_take.nd rfl (by first | exact Or.inl rfl | exact Or.inr rfl) (pe_ix ix_seq (pe_ix ix_list (pv 0) pe_int (fun _ _=>rfl)) (pe_ix ix_list (pv 0) pe_int (fun _ _=>rfl)) (fun _ _=>rfl))) (pss_cons (ps_asg (pe_op op_add (pe_ix ix_list (pv 0) pe_int (fun _ _=>rfl)) pe_int) (pg_sub (pv 0) pe_int set_list)) (pss_cons (ps_asg pe_int (pg_sub (pv 0) pe_int set_list)) (pss_cons (ps_if (pt_cmpR op_ge (pv 2) (pe_op op_pow pe_int pe_int) (nomark _)) (pss_one (ps_asg (pv 2) (pg_sub (pv 0) pe_int set_list))) pss_nil) (pss_one (ps_asg (pe_op op_mod (pe_op op_add (pe_op op_add (pe_op op_mul (pe_ix ix_list (pv 0) pe_int (fun _ _=>rfl)) pe_int) (pe_op op_mul (pv 2) pe_int)) (pe_ix ix_list (pv 0) pe_int (fun _ _=>rfl))) pe_int) (pg_sub (pv 0) pe_int set_list))))))) pss_nil) (pss_cons (ps_if (pt_cmpR op_ge (pe_ix ix_list (pv 0) pe_int (fun _ _=>rfl)) (pv 1) (nomark _)) (pss_cons (ps_set (i:=3) sc_take.nd rfl (by first | exact Or.inl rfl | exact Or.inr rfl) (pe_op op_mod (pe_ix ix_list (pv 0) pe_int (fun _ _=>rfl)) (pv 1))) (pss_cons (ps_asg (pe_op op_fdivB (pe_ix ix_list (pv 0) pe_int (fun _ _=>rfl)) (pv 1)) (pg_sub (pv 0) pe_int set_list)) (pss_one (ps_ret (pv 3))))) pss_nil) (pss_cons (ps_set (i:=4) sc_take.nd rfl (by first | exact Or.inl rfl | exact Or.inr rfl) (pe_op op_mod (pe_op op_mul (pe_ix ix_list (pv 0) pe_int (fun _ _=>rfl)) (pe_ix ix_list (pv 0) pe_int (fun _ _=>rfl))) pe_int)) (pss_cons (ps_asg (pe_op op_mod (pe_op op_add (pe_op op_add (pe_op op_mul (pv 4) pe_int) (pe_op op_mul (pe_ix ix_list (pv 0) pe_int (fun _ _=>rfl)) pe_int)) pe_int) pe_int) (pg_sub (pv 0) pe_int set_list)) (pss_one (ps_ret (pe_op op_mod (pe_op op_fdivB (pe_ix ix_list (pv 0) pe_int (fun _ _=>rfl)) pe_int) (pv 1)))))))),?_⟩
  refine ixd 2 rfl hd rfl ⟨_,rfl,_,_,rfl,rfl,_,rfl,?_⟩
  refine ite2 (fun c1=>?_) (fun c1=>?_)
  · refine ixd 1 rfl hd rfl (ixd 0 rfl hd rfl ⟨_,_,rfl,.inl ⟨_,SqL.of hl,rfl⟩,_,_,rfl,rfl,_,rfl,?_⟩)
    refine ite2 (fun c2=>?_) (fun c2=>?_)
    · have c2':p < (ns.map V.int).length:=of_decide_eq_true c2
      rw [List.length_map] at c2'
      obtain ⟨cell,hcell⟩:∃ v,ns[p.toNat]?=some v:=⟨ns[p.toNat]'(by omega),List.getElem?_eq_getElem _⟩
      have hat:atI (ns.map V.int) p=some (.int cell):=by
        have z:atI (ns.map V.int) ((p.toNat:Nat):Int)=some (.int cell):=atI_nat (by rw [List.getElem?_map,hcell];rfl)
        have e:((p.toNat:Nat):Int)=p:=by omega
        rw [e] at z;exact z
      refine ixd 0 rfl hd rfl (ixd 1 rfl hd rfl (.inl ⟨l,_,_,_,rfl,rfl,SqL.of hl,hat,?_⟩))
      refine ixd 1 rfl hd rfl ⟨_,_,rfl,rfl,_,rfl,d,_,_,1,rfl,rfl,hd,rfl,?_⟩
      refine ⟨_,rfl,d,_,_,2,rfl,rfl,upd_same,rfl,?_⟩
      refine ⟨_,rfl,_,_,rfl,rfl,⟨by decide,by decide,by decide⟩,_,_,rfl,rfl,_,rfl,?_⟩
      refine ite2 (fun c3=>?_) (fun c3=>?_)
      · refine ⟨_,rfl,_,rfl,d,_,_,2,rfl,rfl,upd_same,rfl,?_⟩
        refine ixd 3 rfl upd_same rfl ⟨_,_,rfl,rfl,.inr ⟨by decide,by decide⟩,_,rfl,_,_,rfl,rfl,.inr ⟨by decide,by decide⟩,_,_,rfl,rfl,ixd 1 rfl upd_same rfl ⟨_,_,rfl,rfl,_,_,rfl,rfl,(show (0:Int) < 2305843009213693951 by decide),?_⟩⟩
        refine ⟨_,rfl,d,_,_,3,rfl,rfl,upd_same,rfl,?_⟩
        refine ixd 2 rfl upd_same rfl ⟨_,rfl,_,_,rfl,rfl,_,rfl,?_⟩
        refine ite2 (fun k1=>?_) (fun k1=>?_)
        · refine ixd 2 rfl upd_same rfl ⟨_,rfl,_,_,rfl,rfl,(show 0 < m by omega),?_⟩
          refine ixd 2 rfl upd_same rfl ⟨_,rfl,_,_,rfl,rfl,(show CDivB _ m from ⟨by omega,hm2⟩),_,rfl,d,_,_,2,rfl,rfl,upd_same,rfl,?_⟩
          refine ⟨_,rfl,q _ _ (Int.emod_nonneg _ (by omega)) (Int.emod_lt_of_pos _ (by omega)) ⟨fun b o hb e=>by simp only [upd_ne hb];exact e,fstT hd upd_same,l,ns,_,_,_,upd_same,by simp only [upd_ne hld];exact hl,by omega,by omega,by omega⟩⟩
        · refine ixd 3 rfl upd_same rfl (ixd 3 rfl upd_same rfl ⟨_,_,rfl,rfl,.inl ⟨by omega,by omega⟩,_,_,rfl,rfl,(show (0:Int) < 2305843009213693951 by decide),?_⟩)
          refine ⟨_,rfl,_,_,rfl,rfl,.inr ⟨by decide,by decide⟩,ixd 3 rfl upd_same rfl ⟨_,_,rfl,rfl,.inr ⟨by decide,by decide⟩,_,_,rfl,rfl,_,_,rfl,rfl,_,_,rfl,rfl,(show (0:Int) < 2305843009213693951 by decide),?_⟩⟩
          refine ⟨_,rfl,d,_,_,3,rfl,rfl,upd_same,rfl,?_⟩
          refine ixd 3 rfl upd_same rfl ⟨_,_,rfl,rfl,(show CDivB _ 1021 from ⟨by decide,by decide⟩),_,rfl,_,_,rfl,rfl,(show 0 < m by omega),?_⟩
          exact q _ _ (Int.emod_nonneg _ (by omega)) (Int.emod_lt_of_pos _ (by omega)) ⟨fun b o hb e=>by simp only [upd_ne hb];exact e,fstT hd upd_same,l,ns,_,_,_,upd_same,by simp only [upd_ne hld];exact hl,by omega,by omega,by omega⟩
      · refine ixd 3 rfl upd_same rfl ⟨_,_,rfl,rfl,.inr ⟨by decide,by decide⟩,_,rfl,_,_,rfl,rfl,.inr ⟨by decide,by decide⟩,_,_,rfl,rfl,ixd 1 rfl upd_same rfl ⟨_,_,rfl,rfl,_,_,rfl,rfl,(show (0:Int) < 2305843009213693951 by decide),?_⟩⟩
        refine ⟨_,rfl,d,_,_,3,rfl,rfl,upd_same,rfl,?_⟩
        refine ixd 2 rfl upd_same rfl ⟨_,rfl,_,_,rfl,rfl,_,rfl,?_⟩
        refine ite2 (fun k1=>?_) (fun k1=>?_)
        · refine ixd 2 rfl upd_same rfl ⟨_,rfl,_,_,rfl,rfl,(show 0 < m by omega),?_⟩
          refine ixd 2 rfl upd_same rfl ⟨_,rfl,_,_,rfl,rfl,(show CDivB _ m from ⟨by omega,hm2⟩),_,rfl,d,_,_,2,rfl,rfl,upd_same,rfl,?_⟩
          refine ⟨_,rfl,q _ _ (Int.emod_nonneg _ (by omega)) (Int.emod_lt_of_pos _ (by omega)) ⟨fun b o hb e=>by simp only [upd_ne hb];exact e,fstT hd upd_same,l,ns,_,_,_,upd_same,by simp only [upd_ne hld];exact hl,by omega,by omega,by omega⟩⟩
        · refine ixd 3 rfl upd_same rfl (ixd 3 rfl upd_same rfl ⟨_,_,rfl,rfl,.inl ⟨by omega,by omega⟩,_,_,rfl,rfl,(show (0:Int) < 2305843009213693951 by decide),?_⟩)
          refine ⟨_,rfl,_,_,rfl,rfl,.inr ⟨by decide,by decide⟩,ixd 3 rfl upd_same rfl ⟨_,_,rfl,rfl,.inr ⟨by decide,by decide⟩,_,_,rfl,rfl,_,_,rfl,rfl,_,_,rfl,rfl,(show (0:Int) < 2305843009213693951 by decide),?_⟩⟩
          refine ⟨_,rfl,d,_,_,3,rfl,rfl,upd_same,rfl,?_⟩
          refine ixd 3 rfl upd_same rfl ⟨_,_,rfl,rfl,(show CDivB _ 1021 from ⟨by decide,by decide⟩),_,rfl,_,_,rfl,rfl,(show 0 < m by omega),?_⟩
          exact q _ _ (Int.emod_nonneg _ (by omega)) (Int.emod_lt_of_pos _ (by omega)) ⟨fun b o hb e=>by simp only [upd_ne hb];exact e,fstT hd upd_same,l,ns,_,_,_,upd_same,by simp only [upd_ne hld];exact hl,by omega,by omega,by omega⟩
    · refine ixd 2 rfl hd rfl ⟨_,rfl,_,_,rfl,rfl,_,rfl,?_⟩
      refine ite2 (fun k1=>?_) (fun k1=>?_)
      · refine ixd 2 rfl hd rfl ⟨_,rfl,_,_,rfl,rfl,(show 0 < m by omega),?_⟩
        refine ixd 2 rfl hd rfl ⟨_,rfl,_,_,rfl,rfl,(show CDivB _ m from ⟨by omega,hm2⟩),_,rfl,d,_,_,2,rfl,rfl,hd,rfl,?_⟩
        refine ⟨_,rfl,q _ _ (Int.emod_nonneg _ (by omega)) (Int.emod_lt_of_pos _ (by omega)) ⟨fun b o hb e=>by simp only [upd_ne hb];exact e,fstT hd upd_same,l,ns,_,_,_,upd_same,by simp only [upd_ne hld];exact hl,by omega,by omega,by omega⟩⟩
      · refine ixd 3 rfl hd rfl (ixd 3 rfl hd rfl ⟨_,_,rfl,rfl,.inl ⟨by omega,by omega⟩,_,_,rfl,rfl,(show (0:Int) < 2305843009213693951 by decide),?_⟩)
        refine ⟨_,rfl,_,_,rfl,rfl,.inr ⟨by decide,by decide⟩,ixd 3 rfl hd rfl ⟨_,_,rfl,rfl,.inr ⟨by decide,by decide⟩,_,_,rfl,rfl,_,_,rfl,rfl,_,_,rfl,rfl,(show (0:Int) < 2305843009213693951 by decide),?_⟩⟩
        refine ⟨_,rfl,d,_,_,3,rfl,rfl,hd,rfl,?_⟩
        refine ixd 3 rfl upd_same rfl ⟨_,_,rfl,rfl,(show CDivB _ 1021 from ⟨by decide,by decide⟩),_,rfl,_,_,rfl,rfl,(show 0 < m by omega),?_⟩
        exact q _ _ (Int.emod_nonneg _ (by omega)) (Int.emod_lt_of_pos _ (by omega)) ⟨fun b o hb e=>by simp only [upd_ne hb];exact e,fstT hd upd_same,l,ns,_,_,_,upd_same,by simp only [upd_ne hld];exact hl,by omega,by omega,by omega⟩
  · refine ixd 2 rfl hd rfl ⟨_,rfl,_,_,rfl,rfl,_,rfl,?_⟩
    refine ite2 (fun k1=>?_) (fun k1=>?_)
    · refine ixd 2 rfl hd rfl ⟨_,rfl,_,_,rfl,rfl,(show 0 < m by omega),?_⟩
      refine ixd 2 rfl hd rfl ⟨_,rfl,_,_,rfl,rfl,(show CDivB _ m from ⟨by omega,hm2⟩),_,rfl,d,_,_,2,rfl,rfl,hd,rfl,?_⟩
      refine ⟨_,rfl,q _ _ (Int.emod_nonneg _ (by omega)) (Int.emod_lt_of_pos _ (by omega)) ⟨fun b o hb e=>by simp only [upd_ne hb];exact e,fstT hd upd_same,l,ns,_,_,_,upd_same,by simp only [upd_ne hld];exact hl,by omega,by omega,by omega⟩⟩
    · refine ixd 3 rfl hd rfl (ixd 3 rfl hd rfl ⟨_,_,rfl,rfl,.inl ⟨by omega,by omega⟩,_,_,rfl,rfl,(show (0:Int) < 2305843009213693951 by decide),?_⟩)
      refine ⟨_,rfl,_,_,rfl,rfl,.inr ⟨by decide,by decide⟩,ixd 3 rfl hd rfl ⟨_,_,rfl,rfl,.inr ⟨by decide,by decide⟩,_,_,rfl,rfl,_,_,rfl,rfl,_,_,rfl,rfl,(show (0:Int) < 2305843009213693951 by decide),?_⟩⟩
      refine ⟨_,rfl,d,_,_,3,rfl,rfl,hd,rfl,?_⟩
      refine ixd 3 rfl upd_same rfl ⟨_,_,rfl,rfl,(show CDivB _ 1021 from ⟨by decide,by decide⟩),_,rfl,_,_,rfl,rfl,(show 0 < m by omega),?_⟩
      exact q _ _ (Int.emod_nonneg _ (by omega)) (Int.emod_lt_of_pos _ (by omega)) ⟨fun b o hb e=>by simp only [upd_ne hb];exact e,fstT hd upd_same,l,ns,_,_,_,upd_same,by simp only [upd_ne hld];exact hl,by omega,by omega,by omega⟩
end
end My
namespace My
open PySem L2
theorem slice_len (x:Str) (l u:Option Int):(Txt.slice x l u).length≤x.length:=by
  unfold Txt.slice
  split
  · exact Nat.le_refl _
  · show (List.toArray _).size≤_
    rw [List.size_toArray]
    exact Nat.le_trans (List.length_filterMap_le _ _) (sliceIndices_le _ _ _)
theorem glue_size (ys:List Str):∀ (acc:Array Nat),(ys.foldl (fun acc p=>acc++("":Str).cps++p.cps) acc).size=acc.size+(ys.map (·.length)).sum:=by
  have e0:("":Str).cps.size=0:=by decide +kernel
  induction ys with
  | nil=>intro acc;simp
  | cons y ys ih =>
    intro acc
    rw [List.foldl_cons,ih,Array.size_append,Array.size_append,e0,List.map_cons,List.sum_cons]
    show acc.size+0+y.cps.size+_=acc.size+(y.cps.size+_)
    omega
theorem join_len (ys:List Str):(Txt.join "" ys).length=(ys.map (·.length)).sum:=by
  unfold Txt.join Builtin.Str.glued
  show (List.foldl _ _ _:Array Nat).size=_
  cases ys with
  | nil=>decide +kernel
  | cons y ys =>
    rw [List.drop_succ_cons,List.drop_zero,glue_size,List.headD_cons,List.map_cons,List.sum_cons]
    rfl
theorem sum_ge:∀ (ys:List Str),(∀ y ∈ ys,y.length=1)→(ys.map (·.length)).sum=ys.length
  | [],_=>rfl
  | y :: ys,h=>by
    rw [List.map_cons,List.sum_cons,List.length_cons,sum_ge ys fun z hz=>h z (List.mem_cons_of_mem _ hz),h y List.mem_cons_self]
    omega
theorem cat_len (x y:Str):(x++y).length=x.length+y.length:=by
  show (x.cps++y.cps).size=x.cps.size+y.cps.size
  rw [Array.size_append]
theorem comp_rng {im:List (Option Nat)} {σ:St} {H:Hp} {Q:VK} {te:TE} {n:Nat} {lo:Int} (R:Nat→List V→Hp→Prop) (h0:R 0 [] H) (hlen:∀ i ys H',i≤n→R i ys H'→ys.length≤sizeLine)
    (he:∀ i ys H',i < n→R i ys H'→te ((inner im σ).set 0 (some (.int (lo+i)))) H' fun y H''=>R (i+1) (ys++[y]) H'')
    (mono:∀ σ' H' (Q1 Q2:VK),(∀ v H'',Q1 v H''→Q2 v H'')→te σ' H' Q1→te σ' H' Q2)
    (hq:∀ ys H',R n ys H'→∀ D,H' D=none→Q (.ref D) (upd H' D (.lst ys))):CompAt im (gName 0) tNoIf te σ Q (Itr lo n) H:=by
  refine ⟨fun i m ys H'=>m=n - i∧i≤n∧R i ys H',⟨n,by simp,Nat.zero_le _,h0⟩,?_⟩
  rintro i m ys H' ⟨rfl,hi,r⟩
  refine ⟨hlen i ys H' hi r,?_⟩
  by_cases hlt:i < n
  · refine .inr ⟨hlt,fun x H'' y=>?_⟩
    obtain ⟨e,rfl⟩:=y
    subst e
    exact mono _ _ _ _ (fun v H3 z=>⟨n - (i+1),by omega,rfl,hlt,z⟩) (he i ys _ hlt r)
  · have e:i=n:=by omega
    subst e
    exact .inl ⟨Nat.le_refl _,hq ys H' r⟩
section
variable {P:Program} {w:World} {K:PySem.W.Frag} {mg:Str→Option Value} {base:Heap} {a:Adr}
def spBegin:Sp:=fun vs H Q _=>∃ (b:Addr) (ns:List Int),vs=[.ref b]∧SqL K H b (ns.map V.int)∧ns.length≤63∧∀ d H',H d=none→Same H H'→Drw H' d→Q (.ref d) H'
theorem ok_begin (T:Txt K mg a):FnOk P w K mg base CX0 1 a.f_begin a.d_begin ["_law_script"] (spBegin (K:=K)):=by
  refine T.F_begin.ok sc_begin (fun vs H Q E h=>?_) (fun cdv A outer s H vs Q E hr h=>?_)
  · obtain ⟨x,s,rfl,_⟩:=h;rfl
  obtain ⟨b,ns,rfl,hb,hn,q⟩:=h
  refine ⟨_,(pss_one (ps_ret (pe_lst (pa_cons (pe_callTy call_list_of rfl T.n_list (by decide +kernel) (pa_cons (pe_slice sl_list (pv 0) po_none (po_some pe_int)) pa_nil)) (pa_cons pe_int (pa_cons pe_int (pa_cons pe_int pa_nil))))))),?_⟩
  refine ⟨_,rfl,_,rfl,b,_,rfl,hb,fun p hp=>⟨p,_,rfl,.inl (SqL.of upd_same),fun l hl=>?_⟩⟩
  refine ⟨small (n:=4) (by decide),fun d hd=>?_⟩
  have hcut:∃ ms:List Int,cutV (ns.map V.int) none (some 63)=ms.map V.int:=by
    unfold cutV
    exact ⟨_,by rw [← List.map_drop,← List.map_take]⟩
  obtain ⟨ms,hms⟩:=hcut
  have g1:=same_new hp (.lst (cutV (ns.map V.int) none (some 63)))
  have g2:=same_new hl (.lst (cutV (ns.map V.int) none (some 63)))
  have g3:=same_new hd (.lst [.ref l,.int 0,.int 0,.int 41])
  have hdl:l≠d:=fun z=>by subst z;rw [upd_same] at hd;cases hd
  refine q d _ ((g1.trans g2).free hd) ((g1.trans g2).trans g3) ⟨l,ms,0,0,41,upd_same,?_,by decide,by decide,by decide⟩
  rw [upd_ne hdl,upd_same,hms]
def spOf:Sp:=fun vs H Q _=>∃ (d:Addr) (y:V),vs=[.ref d,y]∧Drw H d ∧
  ((∃ z:Str,y=.str z∧1≤z.length∧z.length≤1000∧∀ c H',Ev d H H'→c ∈ z.cps.toList→Q (.str ⟨#[c]⟩) H') ∨
   (∃ b xs,y=.ref b∧b≠d∧H b=some (.lst xs)∧1≤xs.length∧xs.length≤1000∧∀ v H',Ev d H H'→v ∈ xs→Q v H'))
theorem atI_of {α:Type} {xs:List α} {r:Int} (h0:0≤r) (h1:r < xs.length):∃ v,atI xs r=some v∧v ∈ xs:=by
  have hk:r.toNat < xs.length:=by omega
  refine ⟨xs[r.toNat],?_,List.getElem_mem hk⟩
  have z:atI xs ((r.toNat:Nat):Int)=some xs[r.toNat]:=atI_nat (List.getElem?_eq_getElem hk)
  have e:((r.toNat:Nat):Int)=r:=by omega
  rw [e] at z;exact z
theorem lt200 {n:Nat} (h:n≤1000):(n:Int) < 2 ^ 200:=Int.lt_of_le_of_lt (b:=1000) (by omega) (by decide)
theorem ok_of (T : Txt K mg a) : FnOk P w K mg base CX0 2 a.f_of a.d_of ["_law_draw","_law_some"] spOf:=by
  refine T.F_of.ok sc_of (fun vs H Q E h=>?_) (fun cdv A outer s H vs Q E hr h=>?_)
  · obtain ⟨x,s,rfl,_⟩:=h;rfl
  obtain ⟨d,y,rfl,hD,h⟩:=h
  refine ⟨_,(pss_one (ps_ret (pe_ix ix_seq (pv 1) (pe_call (ok_take T) (hr.mono (by decide)) rfl T.m_take T.F_take.kp T.b_take .nil pass0 (pa_cons (pv 0) (pa_cons (pe_callB call_len rfl T.n_len PySem.boot_len (pa_cons (pv 1) pa_nil)) pa_nil))) (fun _ _=>rfl)))),?_⟩
  rcases h with ⟨z,rfl,h1,h2,q⟩ | ⟨b,xs,rfl,hbd,hb,h1,h2,q⟩
  · refine ⟨_, rfl, _, rfl, _, rfl, _, _, rfl, ⟨small h2, rfl⟩,d,_,rfl,hD,by omega,lt200 h2,fun r H' r0 r1 ev=>.inr (.inr ?_)⟩
    obtain ⟨c, hc, hm⟩ := atI_of (xs := z.cps.toList) r0 (by have:z.cps.toList.length=z.length:=by simp [Str.length]
                                                             omega)
    exact ⟨z,r,c,rfl,rfl,small h2,hc,q c H' ev hm⟩
  · refine ⟨_,rfl,_,rfl,_,rfl,_,_,rfl,.inl ⟨_,SqL.of hb,rfl⟩,d,_,rfl,hD,by omega,lt200 h2,fun r H' r0 r1 ev=>.inl ?_⟩
    obtain ⟨v,hv,hm⟩:=atI_of (xs:=xs) r0 (by omega)
    exact ⟨b,xs,r,v,rfl,rfl,SqL.of (ev.same _ _ hbd hb),hv,q v H' ev hm⟩
end
theorem slice_mem {x:Str} {l u:Option Int} {c:Nat} (h:c ∈ (Txt.slice x l u).cps.toList):c ∈ x.cps.toList:=by
  unfold Txt.slice at h
  split at h
  · exact h
  · have h':=h
    simp only [List.toList_toArray] at h'
    obtain ⟨i,_,hi⟩:=List.mem_filterMap.mp h'
    exact Array.mem_toList_iff.mpr (Array.mem_of_getElem? hi)
theorem glue_mem (ys:List Str):∀ (acc:Array Nat) (c:Nat),c ∈ (ys.foldl (fun acc p=>acc++("":Str).cps++p.cps) acc).toList→c ∈ acc.toList∨∃ y ∈ ys,c ∈ y.cps.toList:=by
  have e0:("":Str).cps=#[]:=by decide +kernel
  induction ys with
  | nil=>intro acc c h;exact .inl h
  | cons y ys ih =>
    intro acc c h
    rw [List.foldl_cons] at h
    rcases ih _ c h with h1 | ⟨z,hz,hc⟩
    · rw [e0] at h1
      simp at h1
      rcases h1 with h1 | h1
      · exact .inl (by simpa using h1)
      · exact .inr ⟨y,List.mem_cons_self,by simpa using h1⟩
    · exact .inr ⟨z,List.mem_cons_of_mem _ hz,hc⟩
theorem join_mem {ys:List Str} {c:Nat} (h:c ∈ (Txt.join "" ys).cps.toList):∃ y ∈ ys,c ∈ y.cps.toList:=by
  unfold Txt.join Builtin.Str.glued at h
  cases ys with
  | nil =>
    have e:(Txt.join "" []).cps.toList=[]:=by decide +kernel
    have h':c ∈ (Txt.join "" []).cps.toList:=h
    rw [e] at h';cases h'
  | cons y ys =>
    rw [List.drop_succ_cons,List.drop_zero,List.headD_cons] at h
    rcases glue_mem ys _ c h with h1 | ⟨z,hz,hc⟩
    · exact ⟨y,List.mem_cons_self,h1⟩
    · exact ⟨z,List.mem_cons_of_mem _ hz,hc⟩
section
variable {P:Program} {w:World} {K:PySem.W.Frag} {mg:Str→Option Value} {base:Heap} {a:Adr}
def spLet:Sp:=fun vs H Q _=>∃ (d:Addr) (z:Str) (m:Int),vs=[.ref d,.str z,.int m]∧Drw H d∧1≤z.length∧z.length≤1000∧1≤m∧m≤100∧∀ x H',Ev d H H'→1≤x.length→(x.length:Int)≤m→(∀ c ∈ x.cps.toList,c ∈ z.cps.toList)→Q (.str x) H'
theorem ok_letters (T:Txt K mg a):FnOk P w K mg base CX0 3 a.f_letters a.d_letters ["_law_draw","_law_signs","_law_most"] spLet:=by
  refine T.F_letters.ok sc_letters (fun vs H Q E h=>?_) (fun cdv A outer s H vs Q E hr h=>?_)
  · obtain ⟨x,s,r,rfl,_⟩:=h;rfl
  obtain ⟨d,z,m,rfl,hD,h1,h2,h3,h4,q⟩:=h
  refine ⟨_,(pss_one (ps_ret (pe_bm PySem.F.plainAttrs_str PySem.F.slot_str_join PySem.F.type_str_join mt_join pe_str (pa_cons (pe_comp ["_law_step","_law_draw","_law_signs"] [none,some 0,some 1] (pi_range1 rfl T.n_range (pa_cons (pe_op op_add pe_int (pe_call (ok_take T) (hr.mono (by decide)) rfl T.m_take T.F_take.kp T.b_take .nil pass0 (pa_cons (pv 0) (pa_cons (pv 2) pa_nil)))) pa_nil)) (fun _ _ _ _ _=>(pg_name (i:=0) (show List.Nodup (["_law_step","_law_draw","_law_signs"]:List Str) from by decide +kernel) rfl (Or.inl rfl) (Or.inr rfl))) (fun _ _ _ _ _=>pts_nil) (fun _ _ _ _ _=>(pe_call (ok_of T) (hr.mono (by decide)) rfl T.m_of T.F_of.kp T.b_of .nil pass0 (pa_cons (pv 1) (pa_cons (pv 2) pa_nil))))) pa_nil)))),?_⟩
  refine ⟨rfl,_,rfl,_,rfl,d,m,rfl,hD,h3,Int.lt_of_le_of_lt (b:=100) h4 (by decide),fun r H1 r0 r1 ev=>⟨_,_,rfl,rfl,_,rfl,by omega,by omega,?_⟩⟩
  have en:((1+r).toNat:Int)=1+r:=by omega
  refine comp_rng (fun i ys H'=>∃ zs:List Str,ys=zs.map V.str∧zs.length=i∧(∀ y ∈ zs,y.length=1)∧(∀ y ∈ zs,∀ c ∈ y.cps.toList,c ∈ z.cps.toList)∧Ev d H H') ⟨[],rfl,rfl,by simp,by simp,ev⟩ (fun i ys H' hi r=>?_) (fun i ys H' hi r=>?_) (fun σ' H' Q1 Q2 h t=>?_) (fun ys H' r D hD'=>?_)
  · obtain ⟨zs,rfl,e,_⟩:=r
    rw [List.length_map];exact small (by omega)
  · obtain ⟨zs,rfl,e,e1,e2,ev'⟩:=r
    refine ⟨_,rfl,_,rfl,d,_,rfl,ev'.drw,.inl ⟨z,rfl,h1,h2,fun c H'' ev'' hc=>⟨zs++[⟨#[c]⟩],by simp,by simp [e],fun y hy=>?_,fun y hy=>?_,ev'.trans ev''⟩⟩⟩
    · rcases List.mem_append.mp hy with hy | hy
      · exact e1 y hy
      · have:y=⟨#[c]⟩:=by simpa using hy
        rw [this];rfl
    · rcases List.mem_append.mp hy with hy | hy
      · exact e2 y hy
      · have:y=⟨#[c]⟩:=by simpa using hy
        rw [this]
        intro c' hc'
        have:c'=c:=by simpa using hc'
        rw [this];exact hc
  · obtain ⟨v1,e1,v2,e2,d',y',e3,hD',t⟩:=t
    refine ⟨v1,e1,v2,e2,d',y',e3,hD',?_⟩
    rcases t with ⟨z,t1,t2,t3,t4⟩ | ⟨b,xs,t1,t2,t3,t4,t5,t6⟩
    · exact .inl ⟨z,t1,t2,t3,fun c H'' ev hc=>h _ _ (t4 c H'' ev hc)⟩
    · exact .inr ⟨b,xs,t1,t2,t3,t4,t5,fun v H'' ev hc=>h _ _ (t6 v H'' ev hc)⟩
  · obtain ⟨zs,rfl,e,e1,e2,ev'⟩:=r
    have es:=sum_ge zs e1
    refine ⟨_,D,zs,rfl,rfl,SqL.of upd_same,?_,?_⟩
    · have:("":Str).length=0:=by decide +kernel
      rw [this,es];omega
    · refine q _ _ (ev'.then (same_new hD' _)) ?_ ?_ fun c hc=>?_
      · rw [join_len,es];omega
      · rw [join_len,es];omega
      · obtain ⟨y,hy,hc'⟩:=join_mem hc
        exact e2 y hy c hc'
def spWrd:Sp:=fun vs H Q _=>∃ d:Addr,vs=[.ref d]∧Drw H d∧∀ x H',Ev d H H'→wordB x=true→Q (.str x) H'
theorem one_len (c:Nat):(⟨#[c]⟩:Str).length=1:=rfl
theorem sign_pool:∀ c ∈ ("0123456789abcnoyesz":Str).cps.toList,wsg c=true:=by decide +kernel
theorem let_pool:∀ c ∈ ("abcdefghijklmnopqrstuvwxyz":Str).cps.toList,isLet c=true:=by decide +kernel
theorem word_cat {c:Nat} {y:Str} (hc:isLet c=true) (hy:∀ d ∈ y.cps.toList,wsg d=true) (hl:y.length≤11):wordB (⟨#[c]⟩++y)=true:=by
  have ec:(⟨#[c]⟩++y:Str).cps.toList=c :: y.cps.toList:=by
    show (#[c]++y.cps).toList=_
    simp
  have el:(⟨#[c]⟩++y:Str).length=1+y.length:=by rw [cat_len];rfl
  unfold wordB sz bwl
  rw [ec,el]
  simp only [Bool.and_eq_true,decide_eq_true_eq,List.all_cons,List.all_eq_true]
  exact ⟨⟨by omega,by omega⟩,hc,by unfold wsg;rw [hc];rfl,hy⟩
theorem ok_drawn_word (T:Txt K mg a):FnOk P w K mg base CX0 4 a.f_drawn_word a.d_drawn_word ["_law_draw"] spWrd:=by
  refine T.F_drawn_word.ok sc_drawn_word (fun vs H Q E h=>?_) (fun cdv A outer s H vs Q E hr h=>?_)
  · obtain ⟨x,rfl,_⟩:=h;rfl
  obtain ⟨d,rfl,hD,q⟩:=h
  refine ⟨_,(pss_one (ps_ret (pe_op op_add_str (pe_call (ok_of T) (hr.mono (by decide)) rfl T.m_of T.F_of.kp T.b_of .nil pass0 (pa_cons (pv 0) (pa_cons pe_str pa_nil))) (pe_slice sl_str (pe_call (ok_letters T) (hr.mono (by decide)) rfl T.m_letters T.F_letters.kp T.b_letters .nil pass0 (pa_cons (pv 0) (pa_cons pe_str (pa_cons pe_int pa_nil)))) (po_some pe_int) po_none)))),?_⟩
  refine ⟨_,rfl,d,_,rfl,hD,.inl ⟨_,rfl,by decide +kernel,by decide +kernel,fun c H1 ev1 hc=>?_⟩⟩
  refine ⟨_,rfl,d,_,_,rfl,ev1.drw,by decide +kernel,by decide +kernel,by decide,by decide,fun x H2 ev2 x1 x2 x3=>?_⟩
  have sl:=slice_len x (some 1) none
  have ol:=one_len c
  refine ⟨_,rfl,_,rfl,small (by omega),_,_,rfl,rfl,small (by omega),q _ _ (ev1.trans ev2) ?_⟩
  exact word_cat (let_pool c hc) (fun d hd=>sign_pool d (x3 d (slice_mem hd))) (by omega)
end
section
variable {P:Program} {w:World} {K:PySem.W.Frag} {mg:Str→Option Value} {base:Heap} {a:Adr}
def spNum:Sp:=fun vs H Q _=>∃ d:Addr,vs=[.ref d]∧Drw H d∧∀ (i:Int) H',Ev d H H'→-(10 ^ 29) < i→i < 10 ^ 29→Q (.int i) H'
theorem ok_number (T:Txt K mg a):FnOk P w K mg base CX0 3 a.f_number a.d_number ["_law_draw"] spNum:=by
  refine T.F_number.ok sc_number (fun vs H Q E h=>?_) (fun cdv A outer s H vs Q E hr h=>?_)
  · obtain ⟨x,rfl,_⟩:=h;rfl
  obtain ⟨d,rfl,hD,q⟩:=h
  refine ⟨_,(pss_cons (ps_set (i:=1) sc_number.nd rfl (by first | exact Or.inl rfl | exact Or.inr rfl) (pe_call (ok_take T) (hr.mono (by decide)) rfl T.m_take T.F_take.kp T.b_take .nil pass0 (pa_cons (pv 0) (pa_cons pe_int pa_nil)))) (pss_cons (ps_if (pt_cmpR op_eq (pv 1) pe_int (nomark _)) (pss_one (ps_ret (pe_op op_mul (pe_call (ok_of T) (hr.mono (by decide)) rfl T.m_of T.F_of.kp T.b_of .nil pass0 (pa_cons (pv 0) (pa_cons (pe_lst (pa_cons pe_int (pa_cons (pe_op op_sub pe_int pe_int) pa_nil))) pa_nil))) (pe_call (ok_take T) (hr.mono (by decide)) rfl T.m_take T.F_take.kp T.b_take .nil pass0 (pa_cons (pv 0) (pa_cons (pe_op op_pow pe_int pe_int) pa_nil)))))) pss_nil) (pss_cons (ps_if (pt_cmpR op_eq (pv 1) pe_int (nomark _)) (pss_one (ps_ret (pe_op op_sub (pe_call (ok_take T) (hr.mono (by decide)) rfl T.m_take T.F_take.kp T.b_take .nil pass0 (pa_cons (pv 0) (pa_cons pe_int pa_nil))) pe_int))) pss_nil) (pss_one (ps_ret (pe_op op_sub (pe_call (ok_take T) (hr.mono (by decide)) rfl T.m_take T.F_take.kp T.b_take .nil pass0 (pa_cons (pv 0) (pa_cons pe_int pa_nil))) pe_int)))))),?_⟩
  refine ⟨_,rfl,d,_,rfl,hD,by decide,by decide,fun r H1 r0 r1 ev1=>?_⟩
  refine ⟨_,rfl,rfl,_,rfl,?_⟩
  refine ite2 (fun k=>?_) (fun k=>?_)
  · refine ⟨_,rfl,_,_,rfl,rfl,small (by decide),fun b hb=>?_⟩
    have g1:=same_new hb (.lst [.int 1,.int (0 - 1)])
    have ev2:=ev1.then g1
    refine ⟨d,_,rfl,ev2.drw,.inr ⟨b,_,rfl,ev1.drw.ne_of_none hb,upd_same,by decide,by decide,fun v H3 ev3 hv=>?_⟩⟩
    refine ⟨_,rfl,_,_,rfl,rfl,⟨by decide,by decide,by decide⟩,d,_,rfl,ev3.drw,by decide,by decide,fun r2 H4 s0 s1 ev4=>?_⟩
    have ev:=(ev2.trans ev3).trans ev4
    have s1':r2 < 10 ^ 29:=s1
    simp at hv
    rcases hv with rfl | rfl
    · refine ⟨_,_,rfl,rfl,.inl ⟨by decide,by decide⟩,q _ _ ev ?_ ?_⟩ <;> omega
    · refine ⟨_,_,rfl,rfl,.inl ⟨by decide,by decide⟩,q _ _ ev ?_ ?_⟩ <;> omega
  · refine ⟨_,rfl,rfl,_,rfl,?_⟩
    refine ite2 (fun k2=>?_) (fun k2=>?_)
    · refine ⟨_,rfl,d,_,rfl,ev1.drw,by decide,by decide,fun r2 H4 s0 s1 ev4=>⟨_,_,rfl,rfl,q _ _ (ev1.trans ev4) ?_ ?_⟩⟩ <;> omega
    · refine ⟨_,rfl,d,_,rfl,ev1.drw,by decide,by decide,fun r2 H4 s0 s1 ev4=>⟨_,_,rfl,rfl,q _ _ (ev1.trans ev4) ?_ ?_⟩⟩ <;> omega
end
section
variable {P:Program} {w:World} {K:PySem.W.Frag} {mg:Str→Option Value} {base:Heap} {a:Adr}
def goodV (v:V):Prop:=(∃ b,v=.bl b)∨(∃ i:Int,v=.int i∧-(10 ^ 29) < i∧i < 10 ^ 29)∨∃ x,v=.str x∧wordB x=true
def valS (s:Str) (v:V):Prop:=(s="number"∧∃ i:Int,v=.int i∧-(10 ^ 29) < i∧i < 10 ^ 29)∨(s="flag"∧∃ b,v=.bl b)∨(s="word"∧∃ x,v=.str x∧wordB x=true)
theorem valS.good {s:Str} {v:V} (h:valS s v):goodV v:=by
  rcases h with ⟨_,h⟩ | ⟨_,h⟩ | ⟨_,h⟩
  · exact .inr (.inl h)
  · exact .inl h
  · exact .inr (.inr h)
def spVal:Sp:=fun vs H Q _=>∃ (d:Addr) (z:Str),vs=[.ref d,.str z]∧Drw H d∧(z="number"∨z="flag"∨z="word")∧∀ v H',Ev d H H'→valS z v→Q v H'
theorem six_words:∀ x ∈ (["ann","bob","a","z9","yes","b"]:List Str),wordB x=true:=by decide +kernel
theorem ok_value (T:Txt K mg a):FnOk P w K mg base CX0 5 a.f_value a.d_value ["_law_draw","_law_sort"] spVal:=by
  refine T.F_value.ok sc_value (fun vs H Q E h=>?_) (fun cdv A outer s H vs Q E hr h=>?_)
  · obtain ⟨x,z,rfl,_⟩:=h;rfl
  obtain ⟨d,z,rfl,hD,hz,q⟩:=h
  refine ⟨_,(pss_cons (ps_if (pt_cmpR op_eq (pv 1) pe_str (nomark _)) (pss_one (ps_ret (pe_call (ok_number T) (hr.mono (by decide)) rfl T.m_number T.F_number.kp T.b_number .nil pass0 (pa_cons (pv 0) pa_nil)))) pss_nil) (pss_cons (ps_if (pt_cmpR op_eq (pv 1) pe_str (nomark _)) (pss_one (ps_ret (pe_cmpR op_eq (pe_call (ok_take T) (hr.mono (by decide)) rfl T.m_take T.F_take.kp T.b_take .nil pass0 (pa_cons (pv 0) (pa_cons pe_int pa_nil))) pe_int (nomark _)))) pss_nil) (pss_cons (ps_if (pt_cmpR op_eq (pe_call (ok_take T) (hr.mono (by decide)) rfl T.m_take T.F_take.kp T.b_take .nil pass0 (pa_cons (pv 0) (pa_cons pe_int pa_nil))) pe_int (nomark _)) (pss_one (ps_ret (pe_call (ok_drawn_word T) (hr.mono (by decide)) rfl T.m_drawn_word T.F_drawn_word.kp T.b_drawn_word .nil pass0 (pa_cons (pv 0) pa_nil)))) pss_nil) (pss_one (ps_ret (pe_call (ok_of T) (hr.mono (by decide)) rfl T.m_of T.F_of.kp T.b_of .nil pass0 (pa_cons (pv 0) (pa_cons (pe_lst (pa_cons pe_str (pa_cons pe_str (pa_cons pe_str (pa_cons pe_str (pa_cons pe_str (pa_cons pe_str pa_nil))))))) pa_nil)))))))),?_⟩
  rcases hz with rfl | rfl | rfl
  · exact ⟨_,rfl,rfl,_,rfl,iteT ⟨_,rfl,d,rfl,hD,fun i H1 ev1 i0 i1=>q _ _ ev1 (.inl ⟨rfl,i,rfl,i0,i1⟩)⟩⟩
  · exact ⟨_,rfl,rfl,_,rfl,iteF ⟨_,rfl,rfl,_,rfl,iteT ⟨_,rfl,d,_,rfl,hD,by decide,by decide,fun r H1 _ _ ev1=>⟨rfl,q _ _ ev1 (.inr (.inl ⟨rfl,_,rfl⟩))⟩⟩⟩⟩
  refine ⟨_,rfl,rfl,_,rfl,iteF ⟨_,rfl,rfl,_,rfl,iteF ?_⟩⟩
  refine ⟨_,rfl,d,_,rfl,hD,by decide,by decide,fun r H1 _ _ ev1=>⟨rfl,_,rfl,?_⟩⟩
  refine ite2 (fun k=>?_) (fun k=>?_)
  · exact ⟨_,rfl,d,rfl,ev1.drw,fun x H2 ev2 hx=>q _ _ (ev1.trans ev2) (.inr (.inr ⟨rfl,x,rfl,hx⟩))⟩
  refine ⟨_,rfl,small (by decide),fun b hb=>?_⟩
  have g1:=same_new hb (.lst [.str "ann",.str "bob",.str "a",.str "z9",.str "yes",.str "b"])
  have ev2:=ev1.then g1
  refine ⟨d,_,rfl,ev2.drw,.inr ⟨b,_,rfl,ev1.drw.ne_of_none hb,upd_same,by decide,by decide,fun v H3 ev3 hv=>q _ _ (ev2.trans ev3) ?_⟩⟩
  have hv':v ∈ (["ann","bob","a","z9","yes","b"]:List Str).map V.str:=hv
  obtain ⟨x,hx,rfl⟩:=List.mem_map.mp hv'
  exact .inr (.inr ⟨rfl,x,rfl,six_words x hx⟩)
end
section
variable {P:Program} {w:World} {K:PySem.W.Frag} {mg:Str→Option Value} {base:Heap} {a:Adr}
theorem flat_cases {x:V} (h:flatV x=true):x=.non∨(∃ b,x=.bl b)∨(∃ i,x=.int i)∨∃ z,x=.str z:=by
  cases x <;> first | exact .inl rfl | exact .inr (.inl ⟨_,rfl⟩) | exact .inr (.inr (.inl ⟨_,rfl⟩)) | exact .inr (.inr (.inr ⟨_,rfl⟩)) | cases h
def spSameF:Sp:=fun vs H Q _=>∃ x y:V,vs=[x,y]∧flatV x=true∧flatV y=true∧∀ H',Same H H'→Q (.bl (decide (x=y))) H'
theorem dec_ne {x y:V} (h:x≠y):decide (x=y)=false:=decide_eq_false h
theorem ok_sameF (T:Txt K mg a):FnOk P w K mg base CX0 1 a.f_same a.d_same ["_law_told","_law_due"] spSameF:=by
  refine T.F_same.ok sc_same (fun vs H Q E h=>?_) (fun cdv A outer s H vs Q E hr h=>?_)
  · obtain ⟨x,y,rfl,_⟩:=h;rfl
  obtain ⟨x,y,rfl,fx,fy,q⟩:=h
  refine ⟨_,(pss_cons (ps_if (pt_cmpR op_isN (pv 1) pe_non (nomark _)) (pss_one (ps_ret (pe_cmpR op_isN (pv 0) pe_non (nomark _)))) pss_nil) (pss_cons (ps_if (PW.pt (pw_or (pt_val (pe_callB call_isinst rfl T.n_isinstance (by decide +kernel) (pa_cons (pv 1) (pa_cons (pe_bltn (v:=.ty "bool") (u:=.type "bool") rfl T.n_bool (by decide +kernel) rfl) pa_nil)))) (pw_or1 (pt_val (pe_callB call_isinst rfl T.n_isinstance (by decide +kernel) (pa_cons (pv 0) (pa_cons (pe_bltn (v:=.ty "bool") (u:=.type "bool") rfl T.n_bool (by decide +kernel) rfl) pa_nil))))))) (pss_one (ps_ret (pe_and (pe_callB call_isinst rfl T.n_isinstance (by decide +kernel) (pa_cons (pv 1) (pa_cons (pe_bltn (v:=.ty "bool") (u:=.type "bool") rfl T.n_bool (by decide +kernel) rfl) pa_nil))) (pe_and (pe_callB call_isinst rfl T.n_isinstance (by decide +kernel) (pa_cons (pv 0) (pa_cons (pe_bltn (v:=.ty "bool") (u:=.type "bool") rfl T.n_bool (by decide +kernel) rfl) pa_nil))) (pe_one (pe_cmpR op_eq (pv 0) (pv 1) (nomark _))))))) pss_nil) (pss_cons (ps_if (pt_val (pe_callB call_isinstT rfl T.n_isinstance (by decide +kernel) (pa_cons (pv 1) (pa_cons (pe_tup (pa_cons (pe_bltn (v:=.ty "int") (u:=.type "int") rfl T.n_int (by decide +kernel) rfl) (pa_cons (pe_bltn (v:=.ty "str") (u:=.type "str") rfl T.n_str (by decide +kernel) rfl) pa_nil))) pa_nil)))) (pss_one (ps_ret (pe_and (pe_callB call_isinstT rfl T.n_isinstance (by decide +kernel) (pa_cons (pv 0) (pa_cons (pe_tup (pa_cons (pe_bltn (v:=.ty "int") (u:=.type "int") rfl T.n_int (by decide +kernel) rfl) (pa_cons (pe_bltn (v:=.ty "str") (u:=.type "str") rfl T.n_str (by decide +kernel) rfl) pa_nil))) pa_nil))) (pe_and (pe_cmpR op_eq (pe_callB call_isinst rfl T.n_isinstance (by decide +kernel) (pa_cons (pv 0) (pa_cons (pe_bltn (v:=.ty "int") (u:=.type "int") rfl T.n_int (by decide +kernel) rfl) pa_nil))) (pe_callB call_isinst rfl T.n_isinstance (by decide +kernel) (pa_cons (pv 1) (pa_cons (pe_bltn (v:=.ty "int") (u:=.type "int") rfl T.n_int (by decide +kernel) rfl) pa_nil))) (nomark _)) (pe_one (pe_cmpR op_eq (pv 0) (pv 1) (nomark _))))))) pss_nil) pss_never))),?_⟩
  have no:x≠y→∀ H',Same H H'→Q (.bl false) H':=fun hne H' g=>by have z:=q H' g;rw [dec_ne hne] at z;exact z
  rcases flat_cases fy with rfl | ⟨b,rfl⟩ | ⟨j,rfl⟩ | ⟨z,rfl⟩
  · exact ⟨_,rfl,rfl,_,rfl,iteT ⟨_,rfl,rfl,q H (Same.refl H)⟩⟩
  · refine ⟨_,rfl,rfl,_,rfl,iteF ⟨_,rfl,_,_,_,true,rfl,.bl b,rfl,_,rfl,iteT (iteT ⟨_,rfl,_,_,_,true,rfl,.bl b,rfl,_,rfl,iteT ?_⟩)⟩⟩
    rcases flat_cases fx with rfl | ⟨b',rfl⟩ | ⟨j,rfl⟩ | ⟨z,rfl⟩
    · exact ⟨_,rfl,_,_,_,false,rfl,.non,rfl,_,rfl,iteF (no (by simp) H (Same.refl H))⟩
    · exact ⟨_,rfl,_,_,_,true,rfl,.bl b',rfl,_,rfl,iteT ⟨_,rfl,_,rfl,rfl,q H (Same.refl H)⟩⟩
    · exact ⟨_,rfl,_,_,_,false,rfl,.int j,rfl,_,rfl,iteF (no (by simp) H (Same.refl H))⟩
    · exact ⟨_,rfl,_,_,_,false,rfl,.str z,rfl,_,rfl,iteF (no (by simp) H (Same.refl H))⟩
  · refine ⟨_,rfl,rfl,_,rfl,iteF ⟨_,rfl,_,_,_,false,rfl,.int j,rfl,_,rfl,iteF ?_⟩⟩
    rcases flat_cases fx with rfl | ⟨b',rfl⟩ | ⟨i,rfl⟩ | ⟨z,rfl⟩
    · refine ⟨_,rfl,_,_,_,false,rfl,.non,rfl,_,rfl,iteF ⟨_,rfl,small (n:=2) (by decide),fun tp htp=>⟨_,_,tp,["int","str"],true,rfl,upd_same,.int j,rfl,_,rfl,iteT ?_⟩⟩⟩
      refine ⟨_,rfl,small (n:=2) (by decide),fun tp2 htp2=>⟨_,_,tp2,["int","str"],false,rfl,upd_same,.non,rfl,_,rfl,iteF (no (by simp) _ ((same_new htp _).trans (same_new htp2 _)))⟩⟩
    · exact ⟨_,rfl,_,_,_,true,rfl,.bl b',rfl,_,rfl,iteT ⟨_,rfl,_,_,_,false,rfl,.int j,rfl,_,rfl,iteF (no (by simp) H (Same.refl H))⟩⟩
    · refine ⟨_,rfl,_,_,_,false,rfl,.int i,rfl,_,rfl,iteF ⟨_,rfl,small (n:=2) (by decide),fun tp htp=>⟨_,_,tp,["int","str"],true,rfl,upd_same,.int j,rfl,_,rfl,iteT ?_⟩⟩⟩
      refine ⟨_,rfl,small (n:=2) (by decide),fun tp2 htp2=>⟨_,_,tp2,["int","str"],true,rfl,upd_same,.int i,rfl,_,rfl,iteT ?_⟩⟩
      exact ⟨_,rfl,_,_,_,true,rfl,.int i,rfl,_,rfl,_,_,_,true,rfl,.int j,rfl,rfl,_,rfl,iteT ⟨_,rfl,_,rfl,rfl,q _ ((same_new htp _).trans (same_new htp2 _))⟩⟩
    · refine ⟨_,rfl,_,_,_,false,rfl,.str z,rfl,_,rfl,iteF ⟨_,rfl,small (n:=2) (by decide),fun tp htp=>⟨_,_,tp,["int","str"],true,rfl,upd_same,.int j,rfl,_,rfl,iteT ?_⟩⟩⟩
      refine ⟨_,rfl,small (n:=2) (by decide),fun tp2 htp2=>⟨_,_,tp2,["int","str"],true,rfl,upd_same,.str z,rfl,_,rfl,iteT ?_⟩⟩
      exact ⟨_,rfl,_,_,_,false,rfl,.str z,rfl,_,rfl,_,_,_,true,rfl,.int j,rfl,rfl,_,rfl,iteF (no (by simp) _ ((same_new htp _).trans (same_new htp2 _)))⟩
  · refine ⟨_,rfl,rfl,_,rfl,iteF ⟨_,rfl,_,_,_,false,rfl,.str z,rfl,_,rfl,iteF ?_⟩⟩
    rcases flat_cases fx with rfl | ⟨b',rfl⟩ | ⟨i,rfl⟩ | ⟨z',rfl⟩
    · refine ⟨_,rfl,_,_,_,false,rfl,.non,rfl,_,rfl,iteF ⟨_,rfl,small (n:=2) (by decide),fun tp htp=>⟨_,_,tp,["int","str"],true,rfl,upd_same,.str z,rfl,_,rfl,iteT ?_⟩⟩⟩
      refine ⟨_,rfl,small (n:=2) (by decide),fun tp2 htp2=>⟨_,_,tp2,["int","str"],false,rfl,upd_same,.non,rfl,_,rfl,iteF (no (by simp) _ ((same_new htp _).trans (same_new htp2 _)))⟩⟩
    · exact ⟨_,rfl,_,_,_,true,rfl,.bl b',rfl,_,rfl,iteT ⟨_,rfl,_,_,_,false,rfl,.str z,rfl,_,rfl,iteF (no (by simp) H (Same.refl H))⟩⟩
    · refine ⟨_,rfl,_,_,_,false,rfl,.int i,rfl,_,rfl,iteF ⟨_,rfl,small (n:=2) (by decide),fun tp htp=>⟨_,_,tp,["int","str"],true,rfl,upd_same,.str z,rfl,_,rfl,iteT ?_⟩⟩⟩
      refine ⟨_,rfl,small (n:=2) (by decide),fun tp2 htp2=>⟨_,_,tp2,["int","str"],true,rfl,upd_same,.int i,rfl,_,rfl,iteT ?_⟩⟩
      exact ⟨_,rfl,_,_,_,true,rfl,.int i,rfl,_,rfl,_,_,_,false,rfl,.str z,rfl,rfl,_,rfl,iteF (no (by simp) _ ((same_new htp _).trans (same_new htp2 _)))⟩
    · refine ⟨_,rfl,_,_,_,false,rfl,.str z',rfl,_,rfl,iteF ⟨_,rfl,small (n:=2) (by decide),fun tp htp=>⟨_,_,tp,["int","str"],true,rfl,upd_same,.str z,rfl,_,rfl,iteT ?_⟩⟩⟩
      refine ⟨_,rfl,small (n:=2) (by decide),fun tp2 htp2=>⟨_,_,tp2,["int","str"],true,rfl,upd_same,.str z',rfl,_,rfl,iteT ?_⟩⟩
      exact ⟨_,rfl,_,_,_,false,rfl,.str z',rfl,_,rfl,_,_,_,false,rfl,.str z,rfl,rfl,_,rfl,iteT ⟨_,rfl,_,rfl,rfl,q _ ((same_new htp _).trans (same_new htp2 _))⟩⟩
end
end My
namespace My
open PySem L2
theorem str_ext {x y:Str} (h:x.cps.toList=y.cps.toList):x=y:=by
  cases x;cases y
  simp only at h
  rw [Array.toList_inj.mp h]
theorem len_list (x:Str):x.cps.toList.length=x.length:=by simp [Str.length]
theorem q_list:("'":Str).cps.toList=[39]:=by decide +kernel
theorem m_list:("-":Str).cps.toList=[45]:=by decide +kernel
theorem starts1 {x y:Str} {d:Nat} (hy:y.cps.toList=[d]):Txt.startswith x y=(x.cps.toList.head? == some d):=by
  have ly:y.length=1:=by rw [← len_list,hy];rfl
  have lx:=len_list x
  unfold Txt.startswith
  rw [StrLaws.subAt_eq,hy,ly]
  cases e:x.cps.toList with
  | nil =>
    rw [e] at lx
    have:x.length=0:=lx.symm
    rw [this];rfl
  | cons c r =>
    rw [e] at lx
    have:0+1≤x.length:=by rw [← lx];simp
    rw [decide_eq_true this]
    simp
theorem ends1 {x y:Str} {d:Nat} (hy:y.cps.toList=[d]) (hx:1≤x.length):Txt.endswith x y=(x.cps.toList[x.length - 1]? == some d):=by
  have ly:y.length=1:=by rw [← len_list,hy];rfl
  unfold Txt.endswith
  rw [StrLaws.subAt_eq,hy,ly,decide_eq_true (by omega),Bool.true_and]
  rw [Bool.eq_iff_iff,StrLaws.take1_drop]
  simp
theorem slice_from1 {x:Str} {c:Nat} {r:List Nat} (e:x.cps.toList=c :: r):(Txt.slice x (some 1) none).cps.toList=r:=by
  have z:Txt.slice x (some 1) none=StrLaws.sliceText x (some 1) none:=rfl
  rw [z,StrLaws.sliceText_from ⟨by decide,by rw [e,List.length_cons];omega⟩,e]
  simp
theorem slice_mid {x:Str} (h:2≤x.length):(Txt.slice x (some 1) (some (-1))).cps.toList=(x.cps.toList.drop 1).take (x.length - 2):=by
  have z:Txt.slice x (some 1) (some (-1))=StrLaws.sliceText x (some 1) (some (-1)):=rfl
  have lx:=len_list x
  rw [z,StrLaws.sliceText_neg_hi x (some 1) (by decide) (by omega),StrLaws.sliceText_plain ⟨by decide,by omega,by omega⟩]
  have e:(-1+(x.length:Int) - 1).toNat=x.length - 2:=by omega
  rw [e]
  simp
def figs (x:Str):Str:=if (x.cps.toList.head? == some 45)=true then Txt.slice x (some 1) none else x
theorem remove_minus (x:Str):Txt.removeprefix x "-"=figs x:=by
  have ly:("-":Str).length=1:=by decide +kernel
  have lx:=len_list x
  rw [StrLaws.removeprefix_eq,StrLaws.subAt_eq,ly,m_list]
  unfold figs
  cases e:x.cps.toList with
  | nil =>
    rw [e] at lx
    have:x.length=0:=lx.symm
    rw [this];rfl
  | cons c r =>
    rw [e] at lx
    have h1:0+1≤x.length:=by rw [← lx];simp
    rw [decide_eq_true h1,Bool.true_and]
    by_cases hc:c=45
    · subst hc
      rw [if_pos (by simp),if_pos (by simp)]
      apply str_ext
      rw [slice_from1 e]
      have:x.length - 1=r.length:=by rw [← lx];simp
      rw [this]
      simp
    · rw [if_neg (by simp [hc]),if_neg (by simp [hc])]
def figB (f:Str):Bool:=decide (1≤f.length)&&(decide (f.length≤30)&&f.cps.toList.all isFig)
def head0 (f:Str):Bool:=f.cps.toList.head? == some 48
def numV (x:Str):Option V:=if figB (figs x)=true then (if (head0 (figs x)&&!decide (x="0"))=true then none else (PySem.intText? x).map V.int) else none
def q1 (x:Str):Bool:=Txt.startswith x "'"&&Txt.endswith x "'"
def wrdV (x:Str):Option V:=if wordB (Txt.slice x (some 1) (some (-1)))=true then some (.str (Txt.slice x (some 1) (some (-1)))) else none
def rdV (x:Str):Option V:=if x="yes" then some (.bl true) else if x="no" then some (.bl false) else if q1 x=true then wrdV x else numV x
theorem fig_in (c:Nat):inT "0123456789" c=isFig c:=in_small _ _ (by decide +kernel) fig_big (by decide +kernel) c
theorem figB_of (f:Str):(decide (1≤(f.length:Int))&&(decide ((f.length:Int)≤30)&&f.cps.toList.all (inT "0123456789")))=figB f:=by
  unfold figB
  have e1:f.cps.toList.all (inT "0123456789")=f.cps.toList.all isFig:=by congr 1;funext c;exact fig_in c
  rw [e1]
  congr 1
  · rw [Bool.eq_iff_iff];simp only [decide_eq_true_eq];omega
  · congr 1;rw [Bool.eq_iff_iff];simp only [decide_eq_true_eq];omega
theorem all_fig {l:List Nat} (h:l.all isFig=true):NumText.AllDigits l:=by
  intro c hc
  have:=List.all_eq_true.mp h c hc
  unfold isFig at this
  simpa using this
theorem figs_cases (x:Str):(∃ r,x.cps.toList=45 :: r∧(figs x).cps.toList=r)∨(x.cps.toList.head?≠some 45∧figs x=x):=by
  unfold figs
  cases e:x.cps.toList with
  | nil=>exact .inr ⟨by simp,by rw [if_neg (by simp)]⟩
  | cons c r =>
    by_cases hc:c=45
    · subst hc
      exact .inl ⟨r,rfl,by rw [if_pos (by simp)];exact slice_from1 e⟩
    · exact .inr ⟨by simp [hc],by rw [if_neg (by simp [hc])]⟩
theorem figB_parts {f:Str} (h:figB f=true):1≤f.length∧f.length≤30∧f.cps.toList.all isFig=true:=by
  unfold figB at h
  simp only [Bool.and_eq_true,decide_eq_true_eq] at h
  exact ⟨h.1,h.2.1,h.2.2⟩
theorem int_of_figs {x:Str} (h:figB (figs x)=true) (hx:x.length≤640):∃ n,PySem.intText? x=some n:=by
  obtain ⟨h1,h2,h3⟩:=figB_parts h
  have hl:=len_list (figs x)
  rcases figs_cases x with ⟨r,e,er⟩ | ⟨_,e⟩
  · rw [er] at h3 hl
    exact ⟨_,intText_neg e (all_fig h3) (fun z=>by rw [z] at hl;simp at hl;omega) (by omega)⟩
  · rw [e] at h1 h3 hl
    exact ⟨_,intText_digits (all_fig h3) (fun z=>by rw [z] at hl;simp at hl;omega) (by omega)⟩
theorem z_list:("0":Str).cps.toList=[48]:=by decide +kernel
theorem mz_list:("-0":Str).cps.toList=[45,48]:=by decide +kernel
theorem eq_list {x y:Str}:x=y ↔ x.cps.toList=y.cps.toList:=⟨fun h=>by rw [h],str_ext⟩
theorem zero_rule {x:Str} (h:figB (figs x)=true):((decide (1 < ((figs x).length:Int))&&head0 (figs x)) || decide (x="-0"))=(head0 (figs x)&&!decide (x="0")):=by
  obtain ⟨h1,h2,h3⟩:=figB_parts h
  have hl:=len_list (figs x)
  have d1:decide (x="-0")=decide (x.cps.toList=[45,48]):=by rw [Bool.eq_iff_iff,decide_eq_true_eq,decide_eq_true_eq,eq_list,mz_list]
  have d2:decide (x="0")=decide (x.cps.toList=[48]):=by rw [Bool.eq_iff_iff,decide_eq_true_eq,decide_eq_true_eq,eq_list,z_list]
  rw [d1,d2]
  unfold head0
  rcases figs_cases x with ⟨r,e,er⟩ | ⟨hn,e⟩
  · rw [er] at hl ⊢
    rw [e]
    rw [Bool.eq_iff_iff]
    cases r with
    | nil=>simp at hl;omega
    | cons c r =>
      rw [← hl]
      cases r with
      | nil=>simp
      | cons c2 r=>simp;omega
  · rw [e] at hl ⊢
    rw [Bool.eq_iff_iff]
    cases q:x.cps.toList with
    | nil=>rw [q] at hl;simp at hl;rw [e] at h1;omega
    | cons c r =>
      rw [q] at hl hn
      have hc:c≠45:=fun z=>hn (by rw [z];rfl)
      rw [← hl]
      cases r with
      | nil=>simp [hc]
      | cons c2 r=>simp [hc];omega
theorem yes_list:("yes":Str).cps.toList=[121,101,115]:=by decide +kernel
theorem no_list:("no":Str).cps.toList=[110,111]:=by decide +kernel
theorem ne_head {x y:Str} {c d:Nat} {r s:List Nat} (hx:x.cps.toList=c :: r) (hy:y.cps.toList=d :: s) (h:c≠d):x≠y:=fun e=>by
  rw [e,hy] at hx
  injection hx with hx _
  exact h hx.symm
theorem app_list (x y:Str):(x++y).cps.toList=x.cps.toList++y.cps.toList:=by
  show (x.cps++y.cps).toList=_
  simp
theorem rd_word {w:Str} (h:wordB w=true):rdV ("'"++w++"'")=some (.str w):=by
  have e:("'"++w++"'":Str).cps.toList=39 :: (w.cps.toList++[39]):=by
    rw [app_list,app_list,q_list];rfl
  have l:("'"++w++"'":Str).length=w.length+2:=by
    rw [← len_list,e,List.length_cons,List.length_append,len_list];rfl
  generalize ("'"++w++"'":Str)=x at e l
  have hs:Txt.slice x (some 1) (some (-1))=w:=by
    apply str_ext
    rw [slice_mid (by omega),e,l]
    have:w.length+2 - 2=w.cps.toList.length:=by rw [len_list];omega
    rw [this]
    simp
  have hq:q1 x=true:=by
    unfold q1
    rw [starts1 q_list,ends1 q_list (by omega),e,l]
    have:w.length+2 - 1=w.cps.toList.length+1:=by rw [len_list];omega
    rw [this,List.getElem?_cons_succ,List.getElem?_append_right (Nat.le_refl _)]
    simp
  unfold rdV
  rw [if_neg (ne_head e yes_list (by decide)),if_neg (ne_head e no_list (by decide)),if_pos hq]
  unfold wrdV
  rw [hs,if_pos h]
def dig (m:Nat):List Nat:=(Nat.toDigits 10 m).map Char.toNat
theorem dig_small {m:Nat} (h:m < 10):dig m=[48+m]:=by
  unfold dig
  rw [Nat.toDigits_of_lt_base h]
  have:∀ d:Nat,d < 10→(Nat.digitChar d).toNat=48+d:=by decide
  rw [List.map_singleton,this m h]
theorem dig_big {m:Nat} (h:10≤m):dig m=dig (m / 10)++[48+m % 10]:=by
  have hm:m % 10 < 10:=Nat.mod_lt m (by decide)
  have t:Nat.toDigits 10 (m / 10)++Nat.toDigits 10 (m % 10)=Nat.toDigits 10 (10 * (m / 10)+m % 10):=Nat.toDigits_append_toDigits (by decide) (by omega) hm
  rw [Nat.div_add_mod] at t
  have e:=dig_small hm
  unfold dig at e ⊢
  rw [← t,List.map_append,e]
theorem dig_facts (m:Nat):∃ c r,dig m=c :: r∧(c=48→m=0)∧(dig m).all isFig=true∧∀ k,1≤k→m < 10 ^ k→(dig m).length≤k:=by
  induction m using Nat.strongRecOn with
  | _ m ih =>
    by_cases h:m < 10
    · refine ⟨48+m,[],dig_small h,by omega,?_,fun k hk _=>?_⟩
      · rw [dig_small h]
        simp only [List.all_cons,List.all_nil,Bool.and_true]
        unfold isFig
        simp only [Bool.and_eq_true,decide_eq_true_eq]
        omega
      · rw [dig_small h];simpa using hk
    · obtain ⟨c,r,e,h0,h1,h2⟩:=ih (m / 10) (by omega)
      have e2:=dig_big (m:=m) (by omega)
      refine ⟨c,r++[48+m % 10],by rw [e2,e];rfl,fun z=>?_,?_,fun k hk hm=>?_⟩
      · have:=h0 z;omega
      · rw [e2,List.all_append,h1]
        simp only [List.all_cons,List.all_nil,Bool.and_true,Bool.true_and]
        unfold isFig
        simp only [Bool.and_eq_true,decide_eq_true_eq]
        omega
      · rw [e2,List.length_append,List.length_singleton]
        obtain ⟨k',rfl⟩:∃ k',k=k'+1:=⟨k - 1,by omega⟩
        rw [Nat.pow_succ] at hm
        have hk':1≤k':=by
          cases k' with
          | zero=>simp at hm;omega
          | succ n=>omega
        have:=h2 k' hk' (by omega)
        omega
theorem pos_list (m:Nat):(Str.ofString (toString ((m:Nat):Int))).cps.toList=dig m:=PySem.W.KIN.signs_num m
theorem neg_list (m:Nat):(Str.ofString (toString (Int.negSucc m))).cps.toList=45 :: dig (m+1):=by
  rw [PyProof.Rows.signs_ofString]
  show (("-":String)++Nat.repr (m+1)).toList.map Char.toNat=_
  rw [String.toList_append,List.map_append,Nat.toList_repr]
  rfl
theorem rd_num {x:Str} {n:Int} {f:List Nat} {c:Nat} {r:List Nat} (hf:(figs x).cps.toList=f) (e:f=c :: r) (hd:f.all isFig=true) (hl:f.length≤30) (h0:c=48→x="0") (hq:x.cps.toList.head?≠some 39∧x≠"yes"∧x≠"no") (hn:PySem.intText? x=some n):rdV x=some (.int n):=by
  have l:=len_list (figs x)
  rw [hf] at l
  have hB:figB (figs x)=true:=by
    unfold figB
    rw [← l,hf,hd,e,decide_eq_true (by simp),decide_eq_true (by rw [← e];exact hl)]
    rfl
  unfold rdV
  rw [if_neg hq.2.1,if_neg hq.2.2]
  have hq1:q1 x=false:=by
    unfold q1
    rw [starts1 q_list,beq_eq_false_iff_ne.mpr hq.1,Bool.false_and]
  rw [hq1,if_neg (by decide)]
  unfold numV
  rw [if_pos hB,hn]
  have hz:(head0 (figs x)&&!decide (x="0"))=false:=by
    unfold head0
    rw [hf,e]
    by_cases hc:c=48
    · rw [decide_eq_true (h0 hc)];simp
    · have:((c :: r).head? == some 48)=false:=by simpa using hc
      rw [this,Bool.false_and]
  rw [hz,if_neg (by decide)]
  rfl
theorem fig_range {c:Nat} {r:List Nat} (h:(c :: r).all isFig=true):48≤c∧c≤57:=(all_fig h).head
theorem rd_int {i:Int} (h0:-(10 ^ 29) < i) (h1:i < 10 ^ 29):rdV (Str.ofString (toString i))=some (.int i)∧(Str.ofString (toString i)).length≤30:=by
  cases i with
  | ofNat m =>
    have e:=pos_list m
    obtain ⟨c,r,ec,hc,hd,hl⟩:=dig_facts m
    have hl:=hl 29 (by decide) (by have h1':(m:Int) < 10 ^ 29:=h1;omega)
    have l:=len_list (Str.ofString (toString ((m:Nat):Int)))
    rw [e] at l
    have v:NumText.digitsVal (dig m)=m:=PySem.W.KIN.val_back m
    show rdV (Str.ofString (toString ((m:Nat):Int)))=_∧(Str.ofString (toString ((m:Nat):Int))).length≤30
    generalize hx:Str.ofString (toString ((m:Nat):Int))=x at e l ⊢
    have hcr:=fig_range (ec ▸ hd)
    have e':x.cps.toList=c :: r:=e.trans ec
    have hfx:figs x=x:=by
      rcases figs_cases x with ⟨r',z,_⟩ | ⟨_,z⟩
      · rw [e'] at z;injection z with z _;omega
      · exact z
    refine ⟨rd_num (f:=dig m) (by rw [hfx];exact e) ec hd (by omega) (fun z=>?_) ⟨by rw [e'];simp;omega,ne_head e' yes_list (by omega),ne_head e' no_list (by omega)⟩ ?_,by omega⟩
    · have hm:=hc z
      subst hm
      apply str_ext
      rw [e,z_list]
      decide +kernel
    · rw [intText_digits (x:=x) (by rw [e];exact all_fig hd) (by rw [e'];simp) (by omega),e,v]
      rfl
  | negSucc m =>
    have e:=neg_list m
    obtain ⟨c,r,ec,hc,hd,hl⟩:=dig_facts (m+1)
    have hl:=hl 29 (by decide) (by have h0':-(10 ^ 29:Int) < Int.negSucc m:=h0;omega)
    have l:=len_list (Str.ofString (toString (Int.negSucc m)))
    rw [e,List.length_cons] at l
    have v:NumText.digitsVal (dig (m+1))=m+1:=PySem.W.KIN.val_back (m+1)
    generalize hx:Str.ofString (toString (Int.negSucc m))=x at e l ⊢
    have hcr:=fig_range (ec ▸ hd)
    have hfx:(figs x).cps.toList=dig (m+1):=by
      rcases figs_cases x with ⟨r',z,z2⟩ | ⟨z,_⟩
      · rw [e] at z;injection z with _ z;rw [z2,z]
      · rw [e] at z;exact absurd rfl z
    refine ⟨rd_num hfx ec hd (by omega) (fun z=>?_) ⟨by rw [e];simp,ne_head e yes_list (by omega),ne_head e no_list (by omega)⟩ ?_,by omega⟩
    · have hm:=hc z;omega
    · rw [intText_neg (x:=x) e (all_fig hd) (by rw [ec];simp) (by omega),v]
      rfl
theorem rd_yes:rdV "yes"=some (.bl true):=by unfold rdV;rw [if_pos rfl]
theorem rd_no:rdV "no"=some (.bl false):=by unfold rdV;rw [if_neg (by decide +kernel),if_pos rfl]
theorem figs_le (x:Str):x.length≤(figs x).length+1:=by
  have l1:=len_list x
  have l2:=len_list (figs x)
  rcases figs_cases x with ⟨r,e,er⟩ | ⟨_,e⟩
  · rw [e] at l1;rw [er] at l2;simp at l1 l2;omega
  · rw [e];omega
theorem line_ok {n:Nat} (h:n≤9000000):n≤sizeLine:=by rw [sizeLine_eq];omega
section
variable {P:Program} {w:World} {K:PySem.W.Frag} {mg:Str→Option Value} {base:Heap} {a:Adr}
def vtx:V→Str
  | .bl b=>if b then "yes" else "no"
  | .int i=>Str.ofString (toString i)
  | .str x=>"'"++x++"'"
  | _=>""
theorem log_of {i:Int} (h0:-(10 ^ 29) < i) (h1:i < 10 ^ 29):i.natAbs.log2 < 1920:=by
  by_cases h:i.natAbs=0
  · rw [h];decide
  · rw [Nat.log2_lt h]
    have:i.natAbs < 10 ^ 29:=by omega
    exact Nat.lt_of_lt_of_le this (Nat.le_trans (show (10:Nat) ^ 29≤2 ^ 100 by decide) (Nat.pow_le_pow_right (by decide) (by decide)))
theorem word_len {x:Str} (h:wordB x=true):x.length≤12:=by
  unfold wordB sz at h
  simp only [Bool.and_eq_true,decide_eq_true_eq] at h
  exact h.1.2
def spVT:Sp:=fun vs H Q _=>∃ v,vs=[v]∧goodV v∧∀ H',Same H H'→Q (.str (vtx v)) H'
theorem ok_value_text (T:Txt K mg a):FnOk P w K mg base CX0 1 a.f_value_text a.d_value_text ["_law_value_here"] spVT:=by
  refine T.F_value_text.ok sc_value_text (fun vs H Q E h=>?_) (fun cdv A outer s H vs Q E hr h=>?_)
  · obtain ⟨x,rfl,_⟩:=h;rfl
  obtain ⟨v,rfl,hv,q⟩:=h
  refine ⟨_,(pss_cons (ps_if (pt_val (pe_callB call_isinst rfl T.n_isinstance (by decide +kernel) (pa_cons (pv 0) (pa_cons (pe_bltn (v:=.ty "bool") (u:=.type "bool") rfl T.n_bool (by decide +kernel) rfl) pa_nil)))) (pss_one (ps_ret (pe_ix ix_list (pe_lst (pa_cons pe_str (pa_cons pe_str pa_nil))) (pe_callTy call_int1 rfl T.n_int (by decide +kernel) (pa_cons (pv 0) pa_nil)) (fun _ _=>rfl)))) pss_nil) (pss_one (ps_ret (pe_ifExp (pt_val (pe_callB call_isinst rfl T.n_isinstance (by decide +kernel) (pa_cons (pv 0) (pa_cons (pe_bltn (v:=.ty "int") (u:=.type "int") rfl T.n_int (by decide +kernel) rfl) pa_nil)))) (pe_callTy call_str_int rfl T.n_str (by decide +kernel) (pa_cons (pv 0) pa_nil)) (pe_op op_add_str (pe_op op_add_str pe_str (pv 0)) pe_str))))),?_⟩
  rcases hv with ⟨b,rfl⟩ | ⟨i,rfl,i0,i1⟩ | ⟨x,rfl,hx⟩
  · refine ⟨_,rfl,_,_,_,true,rfl,.bl b,rfl,_,rfl,iteT ?_⟩
    refine ⟨small (n:=2) (by decide),fun p hp=>⟨_,rfl,.inr ⟨b,rfl,p,_,_,_,rfl,rfl,SqL.of upd_same,?_,q _ (same_new hp _)⟩⟩⟩
    cases b
    · exact atI_nat (j:=0) rfl
    · exact atI_nat (j:=1) rfl
  · exact ⟨_,rfl,_,_,_,false,rfl,.int i,rfl,_,rfl,iteF ⟨_,rfl,_,_,_,true,rfl,.int i,rfl,_,rfl,iteT ⟨_,rfl,i,rfl,log_of i0 i1,q H (Same.refl H)⟩⟩⟩
  · have hl:=word_len hx
    have lq:("'":Str).length=1:=by decide +kernel
    refine ⟨_,rfl,_,_,_,false,rfl,.str x,rfl,_,rfl,iteF ⟨_,rfl,_,_,_,false,rfl,.str x,rfl,_,rfl,iteF ?_⟩⟩
    exact ⟨_,rfl,_,_,rfl,rfl,small (by rw [lq];omega),_,_,rfl,rfl,small (by rw [cat_len,lq];omega),q H (Same.refl H)⟩
def nOr:Option V→V:=fun o=>o.getD .non
def spTN (p:Str→Option V):Sp:=fun vs H Q _=>∃ x,vs=[.str x]∧x.length≤100000∧∀ H',Same H H'→Q (nOr (p x)) H'
theorem figs_len (x:Str):(figs x).length≤x.length:=by
  unfold figs
  split
  · exact slice_len x _ _
  · exact Nat.le_refl _
theorem head_at {x:Str} (h:1≤x.length):∃ c r,x.cps.toList=c :: r:=by
  have l:=len_list x
  cases e:x.cps.toList with
  | nil=>rw [e] at l;simp at l;omega
  | cons c r=>exact ⟨c,r,rfl⟩
theorem one_is {c d:Nat} {y:Str} (hy:y.cps.toList=[d]):decide (V.str ⟨#[c]⟩=V.str y)=(c == d):=by
  rw [Bool.eq_iff_iff,decide_eq_true_eq,beq_iff_eq]
  constructor
  · intro h
    injection h with h
    have e:=congrArg (fun z:Str=>z.cps.toList) h
    rw [hy] at e
    simpa using e
  · intro h
    congr 1
    apply str_ext
    rw [hy,h]
theorem ok_number_in (T:Txt K mg a):FnOk P w K mg base CX0 2 a.f_number_in a.d_number_in ["text"] (spTN numV):=by
  refine T.F_number_in.ok sc_number_in (fun vs H Q E h=>?_) (fun cdv A outer s H vs Q E hr h=>?_)
  · obtain ⟨x,rfl,_⟩:=h;rfl
  obtain ⟨x,rfl,hx,q⟩:=h
  have fl:=figs_len x
  refine ⟨_,(pss_cons (ps_set (i:=1) sc_number_in.nd rfl (by first | exact Or.inl rfl | exact Or.inr rfl) (pe_bm PySem.F.plainAttrs_str PySem.F.slot_str_removeprefix PySem.F.type_str_removeprefix mt_removeprefix (pv 0) (pa_cons pe_str pa_nil))) (pss_cons (ps_if (pt_not (pt_val (pe_call (ok_has_only T) (hr.mono (by decide)) rfl T.m_has_only T.F_has_only.kp T.b_has_only .nil pass0 (pa_cons (pv 1) (pa_cons (pe_glob rfl T.g_FIGURES.1 T.g_FIGURES.2) (pa_cons (pe_glob rfl T.g_MOST_FIGURES.1 T.g_MOST_FIGURES.2) pa_nil)))))) (pss_one (ps_ret pe_non)) pss_nil) (pss_cons (ps_if (PW.pt (pw_and (pt_cmpR op_eq (pe_ix ix_str (pv 1) pe_int (fun _ _=>rfl)) pe_str (nomark _)) (pw_and1 (pt_cmpR op_ne (pv 0) pe_str (nomark _))))) (pss_one (ps_ret pe_non)) pss_nil) (pss_one (ps_ret (pe_callTy call_int_text rfl T.n_int (by decide +kernel) (pa_cons (pv 0) pa_nil))))))),?_⟩
  refine ⟨_,rfl,rfl,x,_,rfl,rfl,line_ok (by omega),?_⟩
  rw [remove_minus]
  refine ⟨_,rfl,_,_,_,rfl,line_ok (by omega),fun H1 g1=>⟨_,rfl,?_⟩⟩
  rw [figB_of]
  have z:=q H1 g1
  unfold numV nOr at z
  refine ite2 (fun k=>?_) (fun k=>?_)
  · have k':figB (figs x)=false:=by simpa using k
    rw [k',if_neg (by decide)] at z
    exact z
  · have k':figB (figs x)=true:=by simpa using k
    rw [k',if_pos rfl] at z
    obtain ⟨h1,h2,h3⟩:=figB_parts k'
    have hx31:=figs_le x
    obtain ⟨c,r,e⟩:=head_at h1
    obtain ⟨n,hn⟩:=int_of_figs k' (by omega)
    have h0:head0 (figs x)=(c == 48):=by unfold head0;rw [e];rfl
    rw [hn,h0] at z
    refine ⟨_,rfl,_,_,c,rfl,rfl,line_ok (by omega),by rw [e];exact atI_nat (j:=0) rfl,rfl,_,rfl,?_⟩
    rw [one_is z_list]
    refine ite2 (fun k2=>?_) (fun k2=>?_)
    · rw [k2,Bool.true_and] at z
      refine ⟨_,rfl,rfl,_,rfl,?_⟩
      have ex:decide (x="0")=decide (V.str x=V.str "0"):=by rw [Bool.eq_iff_iff];simp
      rw [ex] at z
      refine ite2 (fun k3=>?_) (fun k3=>?_)
      · rw [k3,if_pos rfl] at z
        exact z
      · rw [Bool.eq_false_iff.mpr k3,if_neg (by decide)] at z
        exact ⟨_,rfl,x,n,rfl,hn,by omega,z⟩
    · rw [Bool.eq_false_iff.mpr k2,Bool.false_and,if_neg (by decide)] at z
      exact ⟨_,rfl,x,n,rfl,hn,by omega,z⟩
end
section
variable {P:Program} {w:World} {K:PySem.W.Frag} {mg:Str→Option Value} {base:Heap} {a:Adr}
theorem vtx_len {v:V} (h:goodV v):1≤(vtx v).length∧(vtx v).length≤30∧rdV (vtx v)=some v∧flatV v=true:=by
  rcases h with ⟨b,rfl⟩ | ⟨i,rfl,i0,i1⟩ | ⟨x,rfl,hx⟩
  · cases b
    · exact ⟨by decide +kernel,by decide +kernel,rd_no,rfl⟩
    · exact ⟨by decide +kernel,by decide +kernel,rd_yes,rfl⟩
  · obtain ⟨h1,h2⟩:=rd_int i0 i1
    refine ⟨?_,h2,h1,rfl⟩
    by_cases h:1≤(vtx (.int i)).length
    · exact h
    · have e:vtx (.int i)="":=str_ext (by
        have l:=len_list (vtx (.int i))
        rw [List.length_eq_zero_iff.mp (show (vtx (.int i)).cps.toList.length=0 by omega)]
        decide +kernel)
      have h1':rdV (vtx (.int i))=some (.int i):=h1
      rw [e] at h1'
      exact absurd h1' (by rw [show rdV ""=none by decide +kernel];simp)
  · have hl:=word_len hx
    have lq:("'":Str).length=1:=by decide +kernel
    have l:(vtx (.str x)).length=1+x.length+1:=by show ("'"++x++"'":Str).length=_;rw [cat_len,cat_len,lq]
    exact ⟨by omega,by omega,rd_word hx,rfl⟩
end
end My
namespace My
open PySem L2
theorem flat_strs (ss:List Str):(ss.map V.str).all flatV=true:=by
  rw [List.all_eq_true]
  intro x hx
  obtain ⟨s,_,rfl⟩:=List.mem_map.mp hx
  rfl
inductive Tm
  | lit (s:Str) (v:V)
  | nam (s n:Str)
  | neg (t:Tm)
  | bin (s:Str) (l r:Tm)
abbrev litS:List Str:=["number","word","flag"]
abbrev namS:List Str:=["field","has"]
abbrev cmpS:List Str:=["=","!=","<","<=",">",">="]
abbrev binS:List Str:=["or","and","=","!=","<","<=",">",">=","+","-","*"]
def Tm.hd:Tm→Str
  | .lit s _=>s
  | .nam s _=>s
  | .neg _=>"not"
  | .bin s _ _=>s
def Tm.ok:Tm→Prop
  | .lit s v=>s ∈ litS∧goodV v
  | .nam s n=>s ∈ namS∧n.length≤100
  | .neg t=>t.ok
  | .bin s l r=>s ∈ binS∧l.ok∧r.ok
def Tm.deep:Tm→Nat
  | .lit _ _=>0
  | .nam _ _=>0
  | .neg t=>t.deep+1
  | .bin _ l r=>max l.deep r.deep+1
def Tm.size:Tm→Nat
  | .lit _ _=>1
  | .nam _ _=>1
  | .neg t=>t.size+1
  | .bin _ l r=>l.size+r.size+1
theorem Tm.size_le (t:Tm):t.size < 2 ^ (t.deep+1):=by
  induction t with
  | lit s v=>show 1 < 2 ^ 1;decide
  | nam s v=>show 1 < 2 ^ 1;decide
  | neg t ih =>
    show t.size+1 < 2 ^ (t.deep+1+1)
    rw [Nat.pow_succ];omega
  | bin s l r i1 i2 =>
    show l.size+r.size+1 < 2 ^ (max l.deep r.deep+1+1)
    have m1:2 ^ (l.deep+1)≤2 ^ (max l.deep r.deep+1):=Nat.pow_le_pow_right (by decide) (by omega)
    have m2:2 ^ (r.deep+1)≤2 ^ (max l.deep r.deep+1):=Nat.pow_le_pow_right (by decide) (by omega)
    have p:2 ^ (max l.deep r.deep+1+1)=2 * 2 ^ (max l.deep r.deep+1):=by rw [Nat.pow_succ];omega
    omega
def TmAt (H:Hp):V→Tm→Prop
  | u,.lit s v=>∃ p,u=.ref p∧H p=some (.tup [.str s,v])
  | u,.nam s n=>∃ p,u=.ref p∧H p=some (.tup [.str s,.str n])
  | u,.neg t=>∃ p w,u=.ref p∧H p=some (.tup [.str "not",w])∧TmAt H w t
  | u,.bin s l r=>∃ p w1 w2,u=.ref p∧H p=some (.tup [.str s,w1,w2])∧TmAt H w1 l∧TmAt H w2 r
theorem TmAt.keep {H H':Hp} (g:∀ b xs,H b=some (.tup xs)→H' b=some (.tup xs)):∀ {t:Tm} {u:V},TmAt H u t→TmAt H' u t
  | .lit _ _,_,⟨p,e,h⟩=>⟨p,e,g _ _ h⟩
  | .nam _ _,_,⟨p,e,h⟩=>⟨p,e,g _ _ h⟩
  | .neg _,_,⟨p,w,e,h,r⟩=>⟨p,w,e,g _ _ h,r.keep g⟩
  | .bin _ _ _,_,⟨p,w1,w2,e,h,r1,r2⟩=>⟨p,w1,w2,e,g _ _ h,r1.keep g,r2.keep g⟩
theorem TmAt.same {H H':Hp} {t:Tm} {u:V} (h:TmAt H u t) (g:Same H H'):TmAt H' u t:=h.keep fun b _ e=>g b _ e
theorem TmAt.ev {d:Addr} {H H':Hp} {t:Tm} {u:V} (h:TmAt H u t) (hD:Drw H d) (g:Ev d H H'):TmAt H' u t:=h.keep fun b _ e=>g.same b _ (fun z=>by
  obtain ⟨xs,q⟩:=hD.some
  rw [z,q] at e;cases e) e
theorem TmAt.top {H:Hp} {t:Tm} {u:V} (h:TmAt H u t):∃ p xs,u=.ref p∧H p=some (.tup (.str t.hd :: xs)):=by
  cases t with
  | lit s v=>obtain ⟨p,e,q⟩:=h;exact ⟨p,_,e,q⟩
  | nam s n=>obtain ⟨p,e,q⟩:=h;exact ⟨p,_,e,q⟩
  | neg t=>obtain ⟨p,w,e,q,_⟩:=h;exact ⟨p,_,e,q⟩
  | bin s l r=>obtain ⟨p,w1,w2,e,q,_⟩:=h;exact ⟨p,_,e,q⟩
abbrev allS:List Str:=["number","word","flag","field","has","not","or","and","=","!=","<","<=",">",">=","+","-","*"]
theorem Tm.hd_in {t:Tm} (h:t.ok):t.hd ∈ allS:=by
  have l1:∀ s ∈ litS,s ∈ allS:=by decide +kernel
  have l2:∀ s ∈ namS,s ∈ allS:=by decide +kernel
  have l3:∀ s ∈ binS,s ∈ allS:=by decide +kernel
  cases t with
  | lit s v=>exact l1 s h.1
  | nam s n=>exact l2 s h.1
  | neg t=>show ("not":Str) ∈ allS;decide +kernel
  | bin s l r=>exact l3 s h.1
theorem line_of {n:Nat} (h:n≤9000000):n≤sizeLine:=by rw [sizeLine_eq];omega
theorem fn_false {P:Program} {w:World} {K:PySem.W.Frag} {mg:Str→Option Value} {base:Heap} {CX:CXT} {k:Nat} {f:Addr} {fd:FuncData} {ps:List Str} {sp:Sp} (h:∀ vs H Q E,¬ sp vs H Q E):FnOk P w K mg base CX k f fd ps sp :=
  ⟨fun vs H Q E z=>(h _ _ _ _ z).elim,fun _ _ _ _ _ _ _ _ _ _ _ _ _ z=>(h _ _ _ _ z).elim⟩
theorem same_upd {H H2:Hp} {p:Addr} {o:HO} (g:Same H H2) (h:H p=none):Same H (upd H2 p o):=fun b u q=>by
  have hb:b≠p:=fun z=>by rw [z,h] at q;cases q
  rw [upd_ne hb];exact g b u q
theorem comp_listF {K:PySem.W.Frag} {a:Addr} {xs:List V} {im:List (Option Nat)} {σ:St} {H:Hp} {Q:VK} {tc:TT} {te:TE} (R:Nat→List V→Hp→Prop) (h0:R 0 [] H)
    (hl:∀ i ys H',i≤xs.length→R i ys H'→ys.length≤sizeLine∧SqL K H' a xs)
    (he:∀ i x ys H' (N:List V→Hp→Prop),xs[i]?=some x→R i ys H'→(∀ ys' H'',R (i+1) ys' H''→N ys' H'') →
      tc ((inner im σ).set 0 (some x)) H' fun b H3=>if b=true then te ((inner im σ).set 0 (some x)) H3 fun y H4=>N (ys++[y]) H4 else N ys H3)
    (hq:∀ ys H',R xs.length ys H'→∀ D,H' D=none→Q (.ref D) (upd H' D (.lst ys))):CompAt im (gName 0) tc te σ Q (Itl K a) H:=by
  refine ⟨fun i m ys H'=>m=xs.length - i∧i≤xs.length∧R i ys H',⟨xs.length,by simp,Nat.zero_le _,h0⟩,?_⟩
  rintro i m ys H' ⟨rfl,hi,r⟩
  have hz:=hl i ys H' hi r
  refine ⟨hz.1,?_⟩
  by_cases hlt:i < xs.length
  · refine .inr ⟨⟨xs,xs[i],hz.2,by simp [hlt]⟩,fun x H'' y=>?_⟩
    obtain ⟨e,y⟩:=y
    subst e
    exact he i x ys _ (fun ys' H5=>∃ m',m' < xs.length - i∧m'=xs.length - (i+1)∧i+1≤xs.length∧R (i+1) ys' H5) (y xs hz.2) r fun ys' H5 z=>⟨xs.length - (i+1),by omega,rfl,hlt,z⟩
  · have e:i=xs.length:=by omega
    subst e
    exact .inl ⟨⟨xs,hz.2,Nat.le_refl _⟩,hq ys H' r⟩
theorem inV_str (n:Str) (acc:List Str):inV (.str n) (acc.map V.str)=decide (n ∈ acc):=by
  unfold inV
  induction acc with
  | nil=>simp
  | cons x xs ih =>
    rw [List.map_cons,List.any_cons,ih]
    rw [Bool.eq_iff_iff]
    simp only [Bool.or_eq_true,decide_eq_true_eq,List.mem_cons]
    constructor
    · rintro (h | h)
      · left
        have:(x == n)=true:=h
        exact (by simpa using this:x=n).symm
      · exact .inr h
    · rintro (h | h)
      · left
        subst h
        show (n == n)=true
        simp
      · exact .inr h
abbrev arS:List Str:=["+","-","*"]
abbrev boS:List Str:=["and","or"]
abbrev ltS:List Str:=["<","<=",">",">="]
abbrev eqS:List Str:=["=","!="]
def kk:List (Str × Str):=[("took","number"),("user","word"),("ok","flag"),("a","number"),("level","word"),("that_x","number")]
def KD (m:Nat):List (Key × V):=(kk.take m).map fun p=>(Sum.inr p.1,V.str p.2)
def WT (m:Nat):Tm→Str→Prop
  | .lit s v,z=>s=z∧valS s v
  | .nam s n,z=>(s="field"∧(n,z) ∈ kk.take m)∨(s="has"∧z="flag"∧n ∈ (kk.take m).map (·.1))
  | .neg t,z=>z="flag"∧WT m t "flag"
  | .bin s l r,z=>(s ∈ arS∧z="number"∧WT m l "number"∧WT m r "number")∨(s ∈ boS∧z="flag"∧WT m l "flag"∧WT m r "flag") ∨
      (s ∈ ltS∧z="flag"∧WT m l "number"∧WT m r "number")∨(s ∈ eqS∧z="flag"∧∃ k,WT m l k∧WT m r k)
theorem ar_bin:∀ s ∈ arS,s ∈ binS:=by decide +kernel
theorem bo_bin:∀ s ∈ boS,s ∈ binS:=by decide +kernel
theorem lt_bin:∀ s ∈ ltS,s ∈ binS:=by decide +kernel
theorem eq_bin:∀ s ∈ eqS,s ∈ binS:=by decide +kernel
theorem kk_len:∀ p ∈ kk,p.1.length≤100:=by decide +kernel
theorem WT.ok {m:Nat}:∀ {t:Tm} {z:Str},WT m t z→t.ok
  | .lit s v,z,h=>⟨by rcases h.2 with ⟨e,_⟩ | ⟨e,_⟩ | ⟨e,_⟩ <;> (subst e;decide +kernel),h.2.good⟩
  | .nam s n,z,h=>by
    rcases h with ⟨e,h⟩ | ⟨e,_,h⟩
    · subst e
      exact ⟨by decide +kernel,kk_len _ (List.mem_of_mem_take h)⟩
    · subst e
      obtain ⟨p,hp,e⟩:=List.mem_map.mp h
      subst e
      exact ⟨by decide +kernel,kk_len _ (List.mem_of_mem_take hp)⟩
  | .neg t,z,h=>h.2.ok
  | .bin s l r,z,h=>by
    rcases h with ⟨hs,_,h1,h2⟩ | ⟨hs,_,h1,h2⟩ | ⟨hs,_,h1,h2⟩ | ⟨hs,_,k,h1,h2⟩
    · exact ⟨ar_bin s hs,h1.ok,h2.ok⟩
    · exact ⟨bo_bin s hs,h1.ok,h2.ok⟩
    · exact ⟨lt_bin s hs,h1.ok,h2.ok⟩
    · exact ⟨eq_bin s hs,h1.ok,h2.ok⟩
theorem Ev.free {d b:Addr} {H H':Hp} (e:Ev d H H') (h:H' b=none):H b=none:=by
  cases hh:H b with
  | none=>rfl
  | some o =>
    have:=e.same b o (e.drw.ne_of_none h) hh
    rw [this] at h;cases h
theorem of_disp {d b:Addr} {H:Hp} {Q:VK} {E:XK} (ss:List Str) (hD:Drw H d) (hb:H b=none) (l1:1≤ss.length) (l2:ss.length≤1000) (q:∀ s H',s ∈ ss→Ev d H H'→Q (.str s) H'):spOf [.ref d,.ref b] (upd H b (.lst (ss.map V.str))) Q E:=by
  have ev:=Ev.of hD (same_new hb (.lst (ss.map V.str)))
  refine ⟨d,_,rfl,ev.drw,.inr ⟨b,_,rfl,hD.ne_of_none hb,upd_same,by rw [List.length_map];exact l1,by rw [List.length_map];exact l2,fun v H' ev' hv=>?_⟩⟩
  obtain ⟨s,hs,rfl⟩:=List.mem_map.mp hv
  exact q s H' hs (ev.trans ev')
theorem comp_pairs {K:PySem.W.Frag} {p q:Addr} {xs ys:List V} {im:List (Option Nat)} {σ:St} {H:Hp} {Q:VK} {te:TE} (hl:xs.length≤ys.length) (hp:SqL K H p xs) (hq:SqL K H q ys) (hz:xs.length≤sizeLine)
    (he:∀ x y H' (R:VK),(∀ T,H' T=none→R (.ref T) (upd H' T (.tup [x,y])))→te (((inner im σ).set 0 (some x)).set 1 (some y)) H' R)
    (hQ:∀ D (ts:List Addr) H',Same H H'→ts.length=xs.length→(∀ (j:Nat) (t:Addr),ts[j]?=some t→∃ x y,xs[j]?=some x∧ys[j]?=some y∧H' t=some (.tup [x,y]))→H' D=none→Q (.ref D) (upd H' D (.lst (ts.map V.ref)))) :
    CompAt im (gTup K 2 (gCons (gName 0) (gCons (gName 1) gNil))) tNoIf te σ Q (Itz K p q) H:=by
  refine ⟨fun i m zs H'=>m=xs.length - i∧i≤xs.length∧∃ ts:List Addr,zs=ts.map V.ref∧ts.length=i∧Same H H'∧∀ (j:Nat) (t:Addr),ts[j]?=some t→∃ x y,xs[j]?=some x∧ys[j]?=some y∧H' t=some (.tup [x,y]),⟨xs.length,by simp,Nat.zero_le _,[],rfl,rfl,Same.refl H,fun j t h=>by simp at h⟩,?_⟩
  rintro i m zs H' ⟨rfl,hi,ts,rfl,rfl,g,hts⟩
  refine ⟨by rw [List.length_map];omega,?_⟩
  by_cases hlt:ts.length < xs.length
  · have hlt2:ts.length < ys.length:=by omega
    refine .inr ⟨⟨xs,ys,xs[ts.length],ys[ts.length],g.seq hp,g.seq hq,List.getElem?_eq_getElem hlt,List.getElem?_eq_getElem hlt2⟩,fun u H'' yl=>?_⟩
    obtain ⟨T,rfl,hT,yl⟩:=yl
    obtain ⟨x,y,hx,hy,rfl⟩:=yl xs ys (g.seq hp) (g.seq hq)
    refine ⟨T,[x,y],rfl,SqT.of upd_same,rfl,x,[y],rfl,y,[],rfl,rfl,?_⟩
    have g2:=same_new hT (.tup [x,y])
    refine he x y _ _ fun T2 hT2=>⟨xs.length - (ts.length+1),by omega,rfl,hlt,ts++[T2],by simp,by simp,(g.trans g2).trans (same_new hT2 _),fun j t hj=>?_⟩
    by_cases hjl:j < ts.length
    · rw [List.getElem?_append_left hjl] at hj
      obtain ⟨x',y',e1,e2,e3⟩:=hts j t hj
      exact ⟨x',y',e1,e2,same_new hT2 _ _ _ (g2 _ _ e3)⟩
    · rw [List.getElem?_append_right (by omega)] at hj
      have hj0:j - ts.length=0:=by
        cases h:j - ts.length with
        | zero=>rfl
        | succ k=>rw [h] at hj;simp at hj
      rw [hj0] at hj
      have ej:j=ts.length:=by omega
      have et:T2=t:=by simpa using hj
      subst et ej
      exact ⟨x,y,hx,hy,upd_same⟩
  · have e:ts.length=xs.length:=by omega
    exact .inl ⟨⟨xs,ys,g.seq hp,g.seq hq,(by omega)⟩,fun D hD=>hQ D ts H' g e hts hD⟩
section
variable {P:Program} {w:World} {K:PySem.W.Frag} {mg:Str→Option Value} {base:Heap} {a:Adr}
theorem kk_cut {r:Int} (h0:0≤r) (h1:r < 4):∃ m,3≤m∧m≤6∧cutV (kk.map fun p=>V.str p.1) none (some (3+r))=(kk.take m).map (fun p=>V.str p.1)∧foldK (KD m)=KD m:=by
  have:r=0∨r=1∨r=2∨r=3:=by omega
  rcases this with rfl | rfl | rfl | rfl
  · exact ⟨3,by decide,by decide,by decide +kernel,by decide +kernel⟩
  · exact ⟨4,by decide,by decide,by decide +kernel,by decide +kernel⟩
  · exact ⟨5,by decide,by decide,by decide +kernel,by decide +kernel⟩
  · exact ⟨6,by decide,by decide,by decide +kernel,by decide +kernel⟩
def spKinds:Sp:=fun vs H Q _=>∃ d,vs=[.ref d]∧Drw H d∧∀ kd m H',3≤m→m≤6→H kd=none→Ev d H H'→H' kd=some (.dK (KD m))→Q (.ref kd) H'
theorem ok_kinds (T:Txt K mg a):FnOk P w K mg base CX0 2 a.f_kinds a.d_kinds ["_law_draw"] spKinds:=by
  refine T.F_kinds.ok sc_kinds (fun vs H Q E h=>?_) (fun cdv A outer s H vs Q E hr h=>?_)
  · obtain ⟨x,rfl,_⟩:=h;rfl
  obtain ⟨d,rfl,hD,q⟩:=h
  refine ⟨_,(pss_cons (ps_set (i:=1) sc_kinds.nd rfl (by first | exact Or.inl rfl | exact Or.inr rfl) (pe_slice sl_list (pe_lst (pa_cons pe_str (pa_cons pe_str (pa_cons pe_str (pa_cons pe_str (pa_cons pe_str (pa_cons pe_str pa_nil))))))) po_none (po_some (pe_op op_add pe_int (pe_call (ok_take T) (hr.mono (by decide)) rfl T.m_take T.F_take.kp T.b_take .nil pass0 (pa_cons (pv 0) (pa_cons pe_int pa_nil))))))) (pss_cons (ps_set (i:=2) sc_kinds.nd rfl (by first | exact Or.inl rfl | exact Or.inr rfl) (pe_lst (pa_cons pe_str (pa_cons pe_str (pa_cons pe_str (pa_cons pe_str (pa_cons pe_str (pa_cons pe_str pa_nil)))))))) (pss_one (ps_ret (pe_callTy (call_dictP rfl) rfl T.n_dict (by decide +kernel) (pa_cons (pe_comp (g:=gTup K 2 (gCons (gName 0) (gCons (gName 1) gNil))) ["_law_name","_law_sort"] [none,none] (pi_zip rfl T.n_zip (pa_cons (pv 1) (pa_cons (pv 2) pa_nil))) (fun _ _ _ _ _=>(pg_tup (n:=2) rfl (pgs_cons (pg_name (i:=0) (show List.Nodup (["_law_name","_law_sort"]:List Str) from by decide +kernel) rfl (Or.inl rfl) (Or.inr rfl)) (pgs_cons (pg_name (i:=1) (show List.Nodup (["_law_name","_law_sort"]:List Str) from by decide +kernel) rfl (Or.inl rfl) (Or.inr rfl)) pgs_nil)))) (fun _ _ _ _ _=>pts_nil) (fun _ _ _ _ _=>(pe_tup (pa_cons (pv 0) (pa_cons (pv 1) pa_nil))))) pa_nil)))))),?_⟩
  refine ⟨small (n:=6) (by decide),fun l hl=>?_⟩
  have ev0:=Ev.of hD (same_new hl (.lst (kk.map fun p=>V.str p.1)))
  refine ⟨_,rfl,d,_,rfl,ev0.drw,by decide,by decide,fun r H1 r0 r1 ev1=>?_⟩
  obtain ⟨m,m1,m2,hcut,hfold⟩:=kk_cut r0 r1
  refine ⟨_,_,rfl,rfl,_,rfl,l,_,rfl,SqL.of (ev1.same _ _ (hD.ne_of_none hl) upd_same),fun p hp=>?_⟩
  refine ⟨small (n:=6) (by decide),fun l2 hl2=>?_⟩
  have hc:cutV [.str "took",.str "user",.str "ok",.str "a",.str "level",.str "that_x"] none (some (3+r))=(kk.take m).map (fun p=>V.str p.1):=hcut
  rw [hc] at hl2 ⊢
  have g2:=same_new hp (.lst ((kk.take m).map (fun p=>V.str p.1)))
  have g3:=same_new hl2 (.lst (kk.map fun p=>V.str p.2))
  have hxl:((kk.take m).map (fun p=>V.str p.1)).length=m:=by rw [List.length_map,List.length_take];show min m 6=m;omega
  refine ⟨_,rfl,_,rfl,p,l2,rfl,⟨_,SqL.of (g3 _ _ upd_same)⟩,⟨_,SqL.of upd_same⟩,?_⟩
  refine comp_pairs (xs:=(kk.take m).map (fun p=>V.str p.1)) (ys:=kk.map fun p=>V.str p.2) (by rw [hxl];show m≤6;omega) (SqL.of (g3 _ _ upd_same)) (SqL.of upd_same) (small (by omega)) (fun x y H' R hR=>?_) (fun D ts H' g hts hT hDn=>?_)
  · exact ⟨_,rfl,_,rfl,small (n:=2) (by decide),hR⟩
  · have g4:=same_new hDn (.lst (ts.map V.ref))
    refine ⟨D,ts,KD m,rfl,upd_same,by rw [hts,hxl];show m=((kk.take m).map _).length;rw [List.length_map,List.length_take];show m=min m 6;omega,fun j t kv hj hkv=>?_,fun kd hkd=>?_⟩
    · obtain ⟨x,y,e1,e2,e3⟩:=hT j t hj
      refine g4 _ _ ?_
      rw [e3]
      unfold KD at hkv
      rw [List.getElem?_map] at hkv e1 e2
      cases ek:(kk.take m)[j]? with
      | none=>rw [ek] at hkv;cases hkv
      | some pr =>
        have ek2:kk[j]?=some pr:=by
          rw [List.getElem?_take] at ek
          split at ek
          · exact ek
          · cases ek
        rw [ek] at hkv e1
        rw [ek2] at e2
        cases hkv;cases e1;cases e2
        rfl
    · have gg:=((g2.trans g3).trans g).trans g4
      have hkd0:H kd=none:=((ev0.trans ev1).then gg).free hkd
      rw [hfold]
      exact q kd m _ m1 m2 hkd0 (((ev0.trans ev1).then gg).then (same_new hkd _)) upd_same
theorem kd_keys (m:Nat):((KD m).map (·.1)).map kV=((kk.take m).map (·.1)).map V.str:=by
  unfold KD
  rw [List.map_map,List.map_map,List.map_map]
  rfl
theorem kd_val:∀ m,3≤m→m≤6→∀ p ∈ kk.take m,valV (KD m) (Sum.inr p.1)=some (.str p.2):=by
  intro m h1 h2
  have:m=3∨m=4∨m=5∨m=6:=by omega
  rcases this with rfl | rfl | rfl | rfl <;> decide +kernel
theorem eqLs_nil {ss:List Str} (h:¬ eqLs (ss.map V.str) []=true):1≤ss.length:=by
  cases ss with
  | nil=>exact absurd rfl h
  | cons s ss=>rw [List.length_cons];omega
structure Kd (H:Hp) (d kd:Addr) (m:Nat):Prop where
  drw:Drw H d
  at':H kd=some (.dK (KD m))
  lo:3≤m
  hi:m≤6
theorem Kd.ne {H:Hp} {d kd:Addr} {m:Nat} (h:Kd H d kd m):kd≠d:=fun z=>by
  obtain ⟨xs,e⟩:=h.drw.some
  have:=h.at'
  rw [z,e] at this;cases this
theorem Kd.ev {H H':Hp} {d kd:Addr} {m:Nat} (h:Kd H d kd m) (e:Ev d H H'):Kd H' d kd m:=⟨e.drw,e.same _ _ h.ne h.at',h.lo,h.hi⟩
def spLeaf:Sp:=fun vs H Q _=>∃ d kd m z,vs=[.ref d,.ref kd,.str z]∧Kd H d kd m∧(z="number"∨z="flag"∨z="word")∧∀ v t H',Ev d H H'→TmAt H' v t→WT m t z→t.deep=0→Q v H'
theorem ok_leaf (T:Txt K mg a):FnOk P w K mg base CX0 6 a.f_leaf a.d_leaf ["_law_draw","_law_kinds_here","_law_sort"] spLeaf:=by
  refine T.F_leaf.ok sc_leaf (fun vs H Q E h=>?_) (fun cdv A outer s H vs Q E hr h=>?_)
  · obtain ⟨_,_,_,_,rfl,_⟩:=h;rfl
  obtain ⟨d,kd,m,z,rfl,hK,hz,q⟩:=h
  have hu:=hr.units0
  have hu1:=hu_of hr
  refine ⟨_,(pss_cons (ps_setC (i:=3) sc_leaf.nd rfl (by first | exact Or.inl rfl | exact Or.inr rfl) ["_law_name","_law_kinds_here","_law_sort"] [none,some 1,some 2] (pi_list (pe_callB call_sortedS rfl T.n_sorted (by decide +kernel) (pa_cons (pe_callTy (call_listD rfl) rfl T.n_list (by decide +kernel) (pa_cons (pv 1) pa_nil)) pa_nil))) (fun _ _ _ _ _=>(pg_name (i:=0) (show List.Nodup (["_law_name","_law_kinds_here","_law_sort"]:List Str) from by decide +kernel) rfl (Or.inl rfl) (Or.inr rfl))) (fun _ _ _ _ _=>(pts_one (pt_cmpR op_eq (pe_dget hu1 (pv 1) (pv 0) (fun _ _=>rfl)) (pv 2) (nomark _)))) (fun _ _ _ _ _=>(pv 0))) (pss_cons (ps_if (PW.pt (pw_or (pt_cmpR (op_eqL hu) (pv 3) (pe_lst pa_nil) (nomark _)) (pw_or1 (pt_cmpR op_eq (pe_call (ok_take T) (hr.mono (by decide)) rfl T.m_take T.F_take.kp T.b_take .nil pass0 (pa_cons (pv 0) (pa_cons pe_int pa_nil))) pe_int (nomark _))))) (pss_one (ps_ret (pe_tup (pa_cons (pv 2) (pa_cons (pe_call (ok_value T) (hr.mono (by decide)) rfl T.m_value T.F_value.kp T.b_value .nil pass0 (pa_cons (pv 0) (pa_cons (pv 2) pa_nil))) pa_nil))))) pss_nil) (pss_one (ps_ret (pe_tup (pa_cons pe_str (pa_cons (pe_call (ok_of T) (hr.mono (by decide)) rfl T.m_of T.F_of.kp T.b_of .nil pass0 (pa_cons (pv 0) (pa_cons (pv 3) pa_nil))) pa_nil))))))),?_⟩
  refine ⟨_,rfl,kd,_,rfl,.inl hK.at',fun l1 hl1=>?_⟩
  rw [kd_keys]
  have g1:=same_new hl1 (.lst (((kk.take m).map (·.1)).map V.str))
  have klen:((kk.take m).map (·.1)).length≤6:=by rw [List.length_map,List.length_take];show min m 6≤6;omega
  refine ⟨l1,_,rfl,SqL.of upd_same,by omega,fun ss l2 hpm _ hl2=>?_⟩
  have g2:=same_new hl2 (.lst (ss.map V.str))
  have ev2:=Ev.of hK.drw (g1.trans g2)
  have sl:ss.length≤6:=by rw [hpm.length_eq];exact klen
  have K2:=hK.ev ev2
  refine ⟨l2,rfl,⟨_,SqL.of upd_same⟩,?_⟩
  refine comp_listF (xs:=ss.map V.str) (fun i ys H'=>H'=_∧∃ zs:List Str,ys=zs.map V.str∧zs.length≤i∧∀ n ∈ zs,(n,z) ∈ kk.take m) ⟨rfl,[],rfl,Nat.le_refl _,by simp⟩ (fun i ys H' hi hR=>?_) (fun i x ys H' N hx hR hN=>?_) (fun ys H' hR D hDn=>?_)
  · obtain ⟨rfl,zs,rfl,h1,_⟩:=hR
    rw [List.length_map] at hi ⊢
    exact ⟨small (by omega),SqL.of upd_same⟩
  · obtain ⟨rfl,zs,rfl,h1,h2⟩:=hR
    rw [List.getElem?_map] at hx
    obtain ⟨n,hn,rfl⟩:=Option.map_eq_some_iff.mp hx
    have hmem:n ∈ (kk.take m).map (·.1):=hpm.mem_iff.mp (List.mem_of_getElem? hn)
    obtain ⟨pr,hpr,rfl⟩:=List.mem_map.mp hmem
    have hv:=kd_val m hK.lo hK.hi pr hpr
    refine ⟨_,rfl,_,rfl,kd,.str pr.2,rfl,?_,_,rfl,rfl,_,rfl,?_⟩
    · have:=DGet.k (k:=Sum.inr pr.1) K2.at'
      rw [hv] at this
      exact this
    · refine ite2 (fun k=>?_) (fun k=>?_)
      · have e:pr.2=z:=by
          have:=of_decide_eq_true k
          injection this
        refine ⟨_,rfl,hN _ _ ⟨rfl,zs++[pr.1],by simp,by simp;omega,fun n hn=>?_⟩⟩
        rcases List.mem_append.mp hn with hn | hn
        · exact h2 n hn
        · have:n=pr.1:=by simpa using hn
          rw [this,← e];exact hpr
      · exact hN _ _ ⟨rfl,zs,rfl,by omega,h2⟩
  · obtain ⟨rfl,zs,rfl,h1,h2⟩:=hR
    rw [List.length_map] at h1
    have g3:=same_new hDn (.lst (zs.map V.str))
    have ev3:=ev2.then g3
    have lit:∀ H4,Ev d H H4→tRet (tTup (tCons (tVar 2) (tCons (tCall spVal [] E (tCons (tVar 0) (tCons (tVar 2) tNil))) tNil))) { nx:=fun _ H'=>Q .non H',rt:=Q } [some (.ref d),some (.ref kd),some (.str z),some (.ref D)] H4:=fun H4 ev4=>by
      refine ⟨_,rfl,_,rfl,_,rfl,d,_,rfl,ev4.drw,hz,fun v H5 ev5 hv=>⟨small (n:=2) (by decide),fun t ht=>?_⟩⟩
      exact q _ (.lit z v) _ ((ev4.trans ev5).then (same_new ht _)) ⟨t,rfl,upd_same⟩ ⟨rfl,hv⟩ rfl
    refine ⟨_,rfl,small (n:=0) (by decide),fun e he=>?_⟩
    have g4:=same_new he (.lst [])
    refine ⟨D,e,_,_,rfl,rfl,SqL.of (g4 _ _ upd_same),SqL.of upd_same,flat_strs zs,rfl,_,rfl,?_⟩
    refine ite2 (fun k=>iteT ?_) (fun k=>?_)
    · exact lit _ (ev3.then g4)
    have ev4:=ev3.then g4
    refine ⟨_,rfl,d,_,rfl,ev4.drw,by decide,by decide,fun r H5 _ _ ev5=>⟨rfl,_,rfl,?_⟩⟩
    have ev6:=ev4.trans ev5
    refine ite2 (fun k=>?_) (fun k=>?_)
    · exact lit _ ev6
    have hD5:H5 D=some (.lst (zs.map V.str)):=ev5.same _ _ (ev2.drw.ne_of_none hDn) (g4 _ _ upd_same)
    have h1':=eqLs_nil (ss:=zs) (by assumption)
    refine ⟨_,rfl,_,rfl,d,_,rfl,ev6.drw,.inr ⟨D,_,rfl,ev2.drw.ne_of_none hDn,hD5,by rw [List.length_map];exact h1',by rw [List.length_map];omega,fun v H7 ev7 hv=>⟨small (n:=2) (by decide),fun t ht=>?_⟩⟩⟩
    obtain ⟨n,hn,rfl⟩:=List.mem_map.mp hv
    exact q _ (.nam "field" n) _ ((ev6.trans ev7).then (same_new ht _)) ⟨t,rfl,upd_same⟩ (.inl ⟨rfl,h2 n hn⟩) rfl
end
end My
namespace My
open PySem L2
section
variable {P:Program} {w:World} {K:PySem.W.Frag} {mg:Str→Option Value} {base:Heap} {a:Adr}
def spTerm (n:Nat):Sp:=fun vs H Q _=>∃ d kd m z,∃ i:Int,vs=[.ref d,.ref kd,.str z,.int i]∧Kd H d kd m∧(z="number"∨z="flag"∨z="word")∧0≤i∧i < n∧∀ v t H',Ev d H H'→TmAt H' v t→WT m t z→(t.deep:Int)≤i→Q v H'
def spTwo (n:Nat):Sp:=fun vs H Q _=>∃ d kd m z sg,∃ i:Int,vs=[.ref d,.ref kd,.str z,.int i,.str sg]∧Kd H d kd m∧(z="number"∨z="flag"∨z="word")∧1≤i∧i≤n ∧
  ∀ v l r H',Ev d H H'→TmAt H' v (.bin sg l r)→WT m l z→WT m r z→(l.deep:Int)+1≤i→(r.deep:Int)+1≤i→Q v H'
theorem ok_two (T:Txt K mg a) (n:Nat) (ih:FnOk P w K mg base CX0 (5+2 * n) a.f_term a.d_term ["_law_draw","_law_kinds_here","_law_sort","_law_deep"] (spTerm n)) :
    FnOk P w K mg base CX0 (5+2 * n+1) a.f_two_parts a.d_two_parts ["_law_draw","_law_kinds_here","_law_sort","_law_deep","_law_sign"] (spTwo n):=by
  refine T.F_two_parts.ok sc_two_parts (fun vs H Q E h=>?_) (fun cdv A outer s H vs Q E hr h=>?_)
  · obtain ⟨_,_,_,_,_,_,rfl,_⟩:=h;rfl
  obtain ⟨d,kd,m,z,sg,i,rfl,hK,hz,i1,i2,q⟩:=h
  refine ⟨_,(pss_cons (ps_set (i:=5) sc_two_parts.nd rfl (by first | exact Or.inl rfl | exact Or.inr rfl) (pe_call ih (hr.mono (by omega)) rfl T.m_term T.F_term.kp T.b_term .nil pass0 (pa_cons (pv 0) (pa_cons (pv 1) (pa_cons (pv 2) (pa_cons (pe_op op_sub (pv 3) pe_int) pa_nil)))))) (pss_one (ps_ret (pe_tup (pa_cons (pv 4) (pa_cons (pv 5) (pa_cons (pe_call ih (hr.mono (by omega)) rfl T.m_term T.F_term.kp T.b_term .nil pass0 (pa_cons (pv 0) (pa_cons (pv 1) (pa_cons (pv 2) (pa_cons (pe_op op_sub (pv 3) pe_int) pa_nil))))) pa_nil))))))),?_⟩
  refine ⟨_,rfl,_,rfl,_,rfl,_,rfl,_,_,rfl,rfl,d,kd,m,z,i - 1,rfl,hK,hz,by omega,by omega,fun v l H1 ev1 hl wl dl=>?_⟩
  refine ⟨_,rfl,_,rfl,_,rfl,_,rfl,_,rfl,_,rfl,_,_,rfl,rfl,d,kd,m,z,i - 1,rfl,hK.ev ev1,hz,by omega,by omega,fun v2 r H2 ev2 hr2 wr dr=>?_⟩
  refine ⟨small (n:=3) (by decide),fun t ht=>?_⟩
  have g:=same_new ht (.tup [.str sg,v,v2])
  exact q _ l r _ ((ev1.trans ev2).then g) ⟨t,v,v2,rfl,upd_same,(hl.ev ev1.drw ev2).same g,hr2.same g⟩ wl wr (by omega) (by omega)
theorem six_cut:cutV [.str "=",.str "!=",.str "<",.str "<=",.str ">",.str ">="] none (some (2+4 * 1))=(["=","!=","<","<=",">",">="]:List Str).map V.str:=by decide +kernel
theorem two_cut:cutV [.str "=",.str "!=",.str "<",.str "<=",.str ">",.str ">="] none (some (2+4 * 0))=(["=","!="]:List Str).map V.str:=by decide +kernel
theorem six_in:∀ s ∈ (["=","!=","<","<=",">",">="]:List Str),s ∈ eqS∨s ∈ ltS:=by decide +kernel
theorem ar4_in:∀ s ∈ (["+","-","*","-"]:List Str),s ∈ arS:=by decide +kernel
theorem sort4_in:∀ s ∈ (["number","number","word","flag"]:List Str),s="number"∨s="flag"∨s="word":=by decide +kernel
theorem ok_term_succ (T:Txt K mg a) (n:Nat) (ih:FnOk P w K mg base CX0 (5+2 * n) a.f_term a.d_term ["_law_draw","_law_kinds_here","_law_sort","_law_deep"] (spTerm n))
    (ih2:FnOk P w K mg base CX0 (5+2 * n+1) a.f_two_parts a.d_two_parts ["_law_draw","_law_kinds_here","_law_sort","_law_deep","_law_sign"] (spTwo n)) :
    FnOk P w K mg base CX0 (5+2 * n+1+1) a.f_term a.d_term ["_law_draw","_law_kinds_here","_law_sort","_law_deep"] (spTerm (n+1)):=by
  refine T.F_term.ok sc_term (fun vs H Q E h=>?_) (fun cdv A outer s H vs Q E hr h=>?_)
  · obtain ⟨_,_,_,_,_,rfl,_⟩:=h;rfl
  obtain ⟨d,kd,m,z,i,rfl,hK,hz,i1,i2,q⟩:=h
  have leaf:∀ H1,Ev d H H1→spLeaf [.ref d,.ref kd,.str z] H1 Q E:=fun H1 ev=>⟨d,kd,m,z,rfl,hK.ev ev,hz,fun v t H' ev' ht hw hd=>q v t H' (ev.trans ev') ht hw (by rw [hd];omega)⟩
  have two:∀ (H1:Hp) (sg z':Str),Ev d H H1→1≤i→(z'="number"∨z'="flag"∨z'="word")→(∀ l r,WT m l z'→WT m r z'→WT m (.bin sg l r) z)→spTwo n [.ref d,.ref kd,.str z',.int i,.str sg] H1 Q E :=
    fun H1 sg z' ev j1 hz' hw=>⟨d,kd,m,z',sg,i,rfl,hK.ev ev,hz',j1,by omega,fun v l r H' ev' ht wl wr dl dr=>q v _ H' (ev.trans ev') ht (hw l r wl wr) (by
      have e:(Tm.bin sg l r).deep=max l.deep r.deep+1:=rfl
      rw [e];omega)⟩
  refine ⟨_,(pss_cons (ps_if (PW.pt (pw_or (pt_cmpR op_eq (pv 3) pe_int (nomark _)) (pw_or (pt_cmpR op_eq (pv 2) pe_str (nomark _)) (pw_or1 (pt_cmpR op_eq (pe_call (ok_take T) (hr.mono (by omega)) rfl T.m_take T.F_take.kp T.b_take .nil pass0 (pa_cons (pv 0) (pa_cons pe_int pa_nil))) pe_int (nomark _)))))) (pss_one (ps_ret (pe_call (ok_leaf T) (hr.mono (by omega)) rfl T.m_leaf T.F_leaf.kp T.b_leaf .nil pass0 (pa_cons (pv 0) (pa_cons (pv 1) (pa_cons (pv 2) pa_nil)))))) pss_nil) (pss_cons (ps_if (pt_cmpR op_eq (pv 2) pe_str (nomark _)) (pss_cons (ps_set (i:=4) sc_term.nd rfl (by first | exact Or.inl rfl | exact Or.inr rfl) (pe_call (ok_of T) (hr.mono (by omega)) rfl T.m_of T.F_of.kp T.b_of .nil pass0 (pa_cons (pv 0) (pa_cons (pe_lst (pa_cons pe_str (pa_cons pe_str (pa_cons pe_str (pa_cons pe_str pa_nil))))) pa_nil)))) (pss_one (ps_ret (pe_call ih2 (hr.mono (by omega)) rfl T.m_two_parts T.F_two_parts.kp T.b_two_parts .nil pass0 (pa_cons (pv 0) (pa_cons (pv 1) (pa_cons (pv 2) (pa_cons (pv 3) (pa_cons (pv 4) pa_nil))))))))) pss_nil) (pss_cons (ps_set (i:=5) sc_term.nd rfl (by first | exact Or.inl rfl | exact Or.inr rfl) (pe_call (ok_take T) (hr.mono (by omega)) rfl T.m_take T.F_take.kp T.b_take .nil pass0 (pa_cons (pv 0) (pa_cons pe_int pa_nil)))) (pss_cons (ps_if (pt_cmpR op_lt (pv 5) pe_int (nomark _)) (pss_one (ps_ret (pe_call ih2 (hr.mono (by omega)) rfl T.m_two_parts T.F_two_parts.kp T.b_two_parts .nil pass0 (pa_cons (pv 0) (pa_cons (pv 1) (pa_cons (pv 2) (pa_cons (pv 3) (pa_cons (pe_call (ok_of T) (hr.mono (by omega)) rfl T.m_of T.F_of.kp T.b_of .nil pass0 (pa_cons (pv 0) (pa_cons (pe_lst (pa_cons pe_str (pa_cons pe_str pa_nil))) pa_nil))) pa_nil)))))))) pss_nil) (pss_cons (ps_if (pt_cmpR op_eq (pv 5) pe_int (nomark _)) (pss_one (ps_ret (pe_tup (pa_cons pe_str (pa_cons (pe_call ih (hr.mono (by omega)) rfl T.m_term T.F_term.kp T.b_term .nil pass0 (pa_cons (pv 0) (pa_cons (pv 1) (pa_cons (pv 2) (pa_cons (pe_op op_sub (pv 3) pe_int) pa_nil))))) pa_nil))))) pss_nil) (pss_cons (ps_if (pt_cmpR op_eq (pv 5) pe_int (nomark _)) (pss_one (ps_ret (pe_tup (pa_cons pe_str (pa_cons (pe_call (ok_of T) (hr.mono (by omega)) rfl T.m_of T.F_of.kp T.b_of .nil pass0 (pa_cons (pv 0) (pa_cons (pe_callB call_sortedS rfl T.n_sorted (by decide +kernel) (pa_cons (pe_callTy (call_listD rfl) rfl T.n_list (by decide +kernel) (pa_cons (pv 1) pa_nil)) pa_nil)) pa_nil))) pa_nil))))) pss_nil) (pss_cons (ps_set (i:=6) sc_term.nd rfl (by first | exact Or.inl rfl | exact Or.inr rfl) (pe_call (ok_of T) (hr.mono (by omega)) rfl T.m_of T.F_of.kp T.b_of .nil pass0 (pa_cons (pv 0) (pa_cons (pe_lst (pa_cons pe_str (pa_cons pe_str (pa_cons pe_str (pa_cons pe_str pa_nil))))) pa_nil)))) (pss_cons (ps_set (i:=4) sc_term.nd rfl (by first | exact Or.inl rfl | exact Or.inr rfl) (pe_call (ok_of T) (hr.mono (by omega)) rfl T.m_of T.F_of.kp T.b_of .nil pass0 (pa_cons (pv 0) (pa_cons (pe_slice sl_list (pe_lst (pa_cons pe_str (pa_cons pe_str (pa_cons pe_str (pa_cons pe_str (pa_cons pe_str (pa_cons pe_str pa_nil))))))) po_none (po_some (pe_op op_add pe_int (pe_op op_mul pe_int (pe_callTy call_int1 rfl T.n_int (by decide +kernel) (pa_cons (pe_cmpR op_eq (pv 6) pe_str (nomark _)) pa_nil)))))) pa_nil)))) (pss_one (ps_ret (pe_call ih2 (hr.mono (by omega)) rfl T.m_two_parts T.F_two_parts.kp T.b_two_parts .nil pass0 (pa_cons (pv 0) (pa_cons (pv 1) (pa_cons (pv 6) (pa_cons (pv 3) (pa_cons (pv 4) pa_nil)))))))))))))))),?_⟩
  refine ⟨_,rfl,rfl,_,rfl,ite2 (fun k1=>iteT ⟨_,rfl,_,rfl,_,rfl,leaf _ (Ev.refl hK.drw)⟩) (fun k1=>⟨_,rfl,rfl,_,rfl,ite2 (fun k2=>iteT ⟨_,rfl,_,rfl,_,rfl,leaf _ (Ev.refl hK.drw)⟩) (fun k2=>?_)⟩)⟩
  have j1:1≤i:=by
    have:i≠0:=fun e=>k1 (by rw [e];rfl)
    omega
  refine ⟨_,rfl,d,_,rfl,hK.drw,by decide,by decide,fun r H1 _ _ ev1=>⟨rfl,_,rfl,ite2 (fun k3=>⟨_,rfl,_,rfl,_,rfl,leaf _ ev1⟩) (fun k3=>?_)⟩⟩
  refine ⟨_,rfl,rfl,_,rfl,ite2 (fun k4=>?_) (fun k4=>?_)⟩
  · have ez:z="number":=by have:=of_decide_eq_true k4;injection this
    refine ⟨_,rfl,small (n:=4) (by decide),fun b hb=>?_⟩
    dsimp only [tCons,tNil]
    refine of_disp ["+","-","*","-"] ev1.drw hb (by decide) (by decide) fun sg H2 hs ev2=>?_
    exact ⟨_,rfl,_,rfl,_,rfl,_,rfl,_,rfl,two _ sg z (ev1.trans ev2) j1 hz fun l r wl wr=>.inl ⟨ar4_in sg hs,ez,by rw [ez] at wl;exact wl,by rw [ez] at wr;exact wr⟩⟩
  have ez:z="flag":=by
    rcases hz with e | e | e
    · exact absurd (by rw [e];rfl) k4
    · exact e
    · exact absurd (by rw [e];rfl) k2
  refine ⟨_,rfl,d,_,rfl,ev1.drw,by decide,by decide,fun r2 H2 _ _ ev2=>?_⟩
  have ev12:=ev1.trans ev2
  refine ⟨_,rfl,_,_,rfl,rfl,_,rfl,ite2 (fun k5=>?_) (fun k5=>?_)⟩
  · refine ⟨_,rfl,_,rfl,_,rfl,_,rfl,_,rfl,small (n:=2) (by decide),fun b hb=>?_⟩
    dsimp only [tCons,tNil]
    refine of_disp ["and","or"] ev12.drw hb (by decide) (by decide) fun sg H3 hs ev3=>?_
    exact two _ sg z (ev12.trans ev3) j1 hz fun l r wl wr=>.inr (.inl ⟨hs,ez,by rw [ez] at wl;exact wl,by rw [ez] at wr;exact wr⟩)
  refine ⟨_,rfl,rfl,_,rfl,ite2 (fun k6=>?_) (fun k6=>?_)⟩
  · refine ⟨_,rfl,_,rfl,_,rfl,_,rfl,_,_,rfl,rfl,d,kd,m,z,i - 1,rfl,hK.ev ev12,hz,by omega,by omega,fun v t H3 ev3 ht wt dt=>⟨small (n:=2) (by decide),fun p hp=>?_⟩⟩
    have g:=same_new hp (.tup [.str "not",v])
    exact q _ (.neg t) _ ((ev12.trans ev3).then g) ⟨p,v,rfl,upd_same,ht.same g⟩ ⟨ez,by rw [ez] at wt;exact wt⟩ (by
      have e:(Tm.neg t).deep=t.deep+1:=rfl
      rw [e];omega)
  have K2:=hK.ev ev12
  refine ⟨_,rfl,rfl,_,rfl,ite2 (fun k7=>?_) (fun k7=>?_)⟩
  · refine ⟨_,rfl,_,rfl,kd,_,rfl,.inl K2.at',fun l1 hl1=>?_⟩
    rw [kd_keys]
    have g1:=same_new hl1 (.lst (((kk.take m).map (·.1)).map V.str))
    have klen:((kk.take m).map (·.1)).length=m:=by rw [List.length_map,List.length_take];show min m 6=m;have:=hK.hi;omega
    have:=hK.lo;have:=hK.hi
    refine ⟨l1,_,rfl,SqL.of upd_same,by omega,fun ss l2 hpm _ hl2=>?_⟩
    have g2:=same_new hl2 (.lst (ss.map V.str))
    have ev3:=ev12.then (g1.trans g2)
    have sl:=hpm.length_eq
    refine ⟨d,_,rfl,ev3.drw,.inr ⟨l2,_,rfl,(ev12.then g1).drw.ne_of_none hl2,upd_same,by rw [List.length_map];omega,by rw [List.length_map];omega,fun v H4 ev4 hv=>⟨small (n:=2) (by decide),fun p hp=>?_⟩⟩⟩
    obtain ⟨nm,hn,rfl⟩:=List.mem_map.mp hv
    exact q _ (.nam "has" nm) _ ((ev3.trans ev4).then (same_new hp _)) ⟨p,rfl,upd_same⟩ (.inr ⟨rfl,ez,hpm.mem_iff.mp hn⟩) i1
  refine ⟨_,rfl,small (n:=4) (by decide),fun b hb=>?_⟩
  dsimp only [tCons,tNil]
  refine of_disp ["number","number","word","flag"] ev12.drw hb (by decide) (by decide) fun z' H3 hs' ev3=>?_
  have hz':=sort4_in z' hs'
  have ev123:=ev12.trans ev3
  refine ⟨_,rfl,small (n:=6) (by decide),fun l hl=>⟨_,rfl,rfl,.inr ⟨_,rfl,_,_,rfl,rfl,.inl ⟨by decide,by decide⟩,_,_,rfl,rfl,_,rfl,l,_,rfl,SqL.of upd_same,fun p hp=>?_⟩⟩⟩
  have evl:=ev123.then (same_new hl (.lst [.str "=",.str "!=",.str "<",.str "<=",.str ">",.str ">="]))
  by_cases ek:z'="number"
  · subst ek
    have e:(if decide (V.str "number"=V.str "number")=true then (1:Int) else 0)=1:=by decide +kernel
    rw [e,six_cut]
    dsimp only [tCons,tNil]
    refine of_disp ["=","!=","<","<=",">",">="] evl.drw hp (by decide) (by decide) fun sg H4 hs ev4=>?_
    refine ⟨_,rfl,_,rfl,_,rfl,_,rfl,_,rfl,two _ sg "number" (evl.trans ev4) j1 (.inl rfl) fun l r wl wr=>?_⟩
    rcases six_in sg hs with h | h
    · exact .inr (.inr (.inr ⟨h,ez,_,wl,wr⟩))
    · exact .inr (.inr (.inl ⟨h,ez,wl,wr⟩))
  · have e:(if decide (V.str z'=V.str "number")=true then (1:Int) else 0)=0:=by
      have:decide (V.str z'=V.str "number")=false:=decide_eq_false fun h=>ek (by injection h)
      rw [this];rfl
    rw [e,two_cut]
    dsimp only [tCons,tNil]
    refine of_disp ["=","!="] evl.drw hp (by decide) (by decide) fun sg H4 hs ev4=>?_
    exact ⟨_,rfl,_,rfl,_,rfl,_,rfl,_,rfl,two _ sg z' (evl.trans ev4) j1 hz' fun l r wl wr=>.inr (.inr (.inr ⟨hs,ez,_,wl,wr⟩))⟩
theorem ok_term (T:Txt K mg a):∀ n,FnOk P w K mg base CX0 (5+2 * n) a.f_term a.d_term ["_law_draw","_law_kinds_here","_law_sort","_law_deep"] (spTerm n)
  | 0=>fn_false fun vs H Q E h=>by obtain ⟨_,_,_,_,i,_,_,_,h1,h2,_⟩:=h;omega
  | n+1=>ok_term_succ T n (ok_term T n) (ok_two T n (ok_term T n))
end
end My
namespace My
open PySem L2
def lvS (s:Str):Int:=if s ∈ cmpS then 4 else if s="or" then 1 else if s="and" then 2 else if s="not" then 3 else if s="+" then 5 else if s="-" then 5 else if s="*" then 6 else 7
def wrS (least lv:Int) (x:Str):Str:=if lv < least then "("++x++")" else x
def Tm.txt:Tm→Str
  | .lit _ v=>vtx v
  | .nam s n=>if s="field" then n else "has "++n
  | .neg t=>"not "++wrS 3 (lvS t.hd) t.txt
  | .bin s l r=>wrS (lvS s+(if decide (lvS s=4)=true then 1 else 0)) (lvS l.hd) l.txt++" "++s++" "++wrS (lvS s+1) (lvS r.hd) r.txt
theorem wr_len (a b:Int) (x:Str):(wrS a b x).length≤x.length+2:=by
  have l1:("(":Str).length=1:=by decide +kernel
  have l2:(")":Str).length=1:=by decide +kernel
  unfold wrS
  split
  · rw [cat_len,cat_len,l1,l2];omega
  · omega
theorem bin_len:∀ s ∈ binS,s.length≤3:=by decide +kernel
theorem Tm.len {t:Tm} (h:t.ok):t.txt.length≤200 * 3 ^ t.deep:=by
  have l1:(" ":Str).length=1:=by decide +kernel
  have l2:("not ":Str).length=4:=by decide +kernel
  have l3:("has ":Str).length=4:=by decide +kernel
  induction t with
  | lit s v =>
    have:=(vtx_len h.2).2.1
    show (vtx v).length≤200 * 3 ^ 0
    omega
  | nam s n =>
    have:=h.2
    show (if s="field" then n else "has "++n:Str).length≤200 * 3 ^ 0
    split
    · omega
    · rw [cat_len,l3];omega
  | neg t ih =>
    have i:=ih h
    have w:=wr_len 3 (lvS t.hd) t.txt
    have p:3 ^ (t.deep+1)=3 * 3 ^ t.deep:=by rw [Nat.pow_succ];omega
    have q:1≤3 ^ t.deep:=Nat.pow_pos (by decide)
    show ("not "++wrS 3 (lvS t.hd) t.txt:Str).length≤200 * 3 ^ (t.deep+1)
    rw [cat_len,l2,p]
    omega
  | bin s l r ih1 ih2 =>
    obtain ⟨hs,h1,h2⟩:=h
    have i1:=ih1 h1
    have i2:=ih2 h2
    have w1:=wr_len (lvS s+(if decide (lvS s=4)=true then 1 else 0)) (lvS l.hd) l.txt
    have w2:=wr_len (lvS s+1) (lvS r.hd) r.txt
    have b:=bin_len s hs
    have m1:3 ^ l.deep≤3 ^ max l.deep r.deep:=Nat.pow_le_pow_right (by decide) (Nat.le_max_left _ _)
    have m2:3 ^ r.deep≤3 ^ max l.deep r.deep:=Nat.pow_le_pow_right (by decide) (Nat.le_max_right _ _)
    have p:3 ^ (max l.deep r.deep+1)=3 * 3 ^ max l.deep r.deep:=by rw [Nat.pow_succ];omega
    have q:1≤3 ^ max l.deep r.deep:=Nat.pow_pos (by decide)
    show (wrS _ _ l.txt++" "++s++" "++wrS _ _ r.txt:Str).length≤200 * 3 ^ (max l.deep r.deep+1)
    rw [cat_len,cat_len,cat_len,cat_len,l1,p]
    omega
theorem Tm.len8 {t:Tm} (h:t.ok) (hd:t.deep < 9):t.txt.length≤2000000:=by
  have:=Tm.len h
  have m:3 ^ t.deep≤3 ^ 8:=Nat.pow_le_pow_right (by decide) (by omega)
  have e:3 ^ 8=6561:=by decide
  omega
def lvRows:List (List Str):=[["or"],["and"],["not"],["=","!=","<","<=",">",">="],["+","-"],["*"]]
section
variable {P:Program} {w:World} {K:PySem.W.Frag} {mg:Str→Option Value} {base:Heap} {a:Adr}
theorem Txt.lv (T:Txt K mg a):∀ i x,([V.ref a.a_LEVELS_0,.ref a.a_LEVELS_1,.ref a.a_LEVELS_2,.ref a.a_LEVELS_3,.ref a.a_LEVELS_4,.ref a.a_LEVELS_5]:List V)[i]?=some x→∃ b,∃ h:i < 6,x=.ref b∧∀ H,SqT K H b ((lvRows[i]'h).map V.str)
  | 0,_,e=>by cases e;exact ⟨_,by decide,rfl,T.t_LEVELS_0⟩
  | 1,_,e=>by cases e;exact ⟨_,by decide,rfl,T.t_LEVELS_1⟩
  | 2,_,e=>by cases e;exact ⟨_,by decide,rfl,T.t_LEVELS_2⟩
  | 3,_,e=>by cases e;exact ⟨_,by decide,rfl,T.t_LEVELS_3⟩
  | 4,_,e=>by cases e;exact ⟨_,by decide,rfl,T.t_LEVELS_4⟩
  | 5,_,e=>by cases e;exact ⟨_,by decide,rfl,T.t_LEVELS_5⟩
  | n+6,_,e=>by simp at e
theorem nam_cases:∀ s ∈ namS,s="field"∨s="has":=by decide +kernel
end
end My
namespace My
open PySem L2
section
variable {P:Program} {w:World} {K:PySem.W.Frag} {mg:Str→Option Value} {base:Heap} {a:Adr}
def spLevel:Sp:=fun vs H Q _=>∃ v t,vs=[v]∧TmAt H v t∧t.ok∧∀ H',Same H H'→Q (.int (lvS t.hd)) H'
abbrev lvT:List (Key × V):=[(.inr "or",.int 1),(.inr "and",.int 2),(.inr "not",.int 3),(.inr "+",.int 5),(.inr "-",.int 5),(.inr "*",.int 6)]
theorem lv_tab:∀ s ∈ allS,¬ (inV (.str s) (cmpS.map V.str))=true→(valV (mergeK [] lvT) (.inr s)).getD (.int 7)=.int (lvS s):=by decide +kernel
theorem lv_cmp:∀ s ∈ allS,inV (.str s) (cmpS.map V.str)=true→lvS s=4:=by decide +kernel
theorem ok_level (T:Txt K mg a):FnOk P w K mg base CX0 1 a.f_level a.d_level ["_law_term_here"] spLevel:=by
  refine T.F_level.ok sc_level (fun vs H Q E h=>?_) (fun cdv A outer s H vs Q E hr h=>?_)
  · obtain ⟨x,t,rfl,_⟩:=h;rfl
  obtain ⟨v,t,rfl,ht,hk,q⟩:=h
  have hu1:=hu_of hr
  obtain ⟨p,xs,rfl,hp⟩:=ht.top
  refine ⟨_,(bss_cons ⟨(ps_if (pt_cmpR op_in_seq (pe_ix ix_tup (pv 0) pe_int (fun _ _=>rfl)) (pe_tup (pa_cons pe_str (pa_cons pe_str (pa_cons pe_str (pa_cons pe_str (pa_cons pe_str (pa_cons pe_str pa_nil))))))) (by with_unfolding_all rfl)) (pss_one (ps_ret pe_int)) pss_nil)⟩ (bss_one (bs_ret (be_dget2 hu1 (be_disp (bps_cons ⟨pe_str⟩ ⟨pe_int⟩ (bps_cons ⟨pe_str⟩ ⟨pe_int⟩ (bps_cons ⟨pe_str⟩ ⟨pe_int⟩ (bps_cons ⟨pe_str⟩ ⟨pe_int⟩ (bps_cons ⟨pe_str⟩ ⟨pe_int⟩ (bps_cons ⟨pe_str⟩ ⟨pe_int⟩ bps_nil)))))) rfl rfl (by simp) (by decide)) ⟨(pe_ix ix_tup (pv 0) pe_int (fun _ _=>rfl))⟩ ⟨pe_int⟩ ⟨base_dict _ _ _ _ _ _,rfl,rfl,rfl⟩)))).un,?_⟩
  have hin:=Tm.hd_in hk
  refine ⟨_,rfl,p,_,_,_,rfl,rfl,SqT.of hp,atI_nat (j:=0) rfl,small (n:=6) (by decide),fun tp htp=>?_⟩
  have g1:=same_new htp (.tup (cmpS.map V.str))
  refine ⟨tp,cmpS.map V.str,rfl,.inr (SqT.of upd_same),rfl,(by rfl),_,rfl,?_⟩
  refine ite2 (fun k=>?_) (fun k=>?_)
  · have z:=q _ g1
    rw [lv_cmp _ hin k] at z
    exact z
  · refine fun d hd=>?_
    have g2:=same_new hd (.dK [])
    refine ⟨upd_same,lvT,rfl,by decide,d,rfl,.inl ⟨_,.inl upd_same⟩,?_⟩
    rw [upd_upd]
    have g3:=g1.trans (same_new hd (.dK (mergeK [] lvT)))
    refine ⟨_,rfl,p,_,_,_,rfl,rfl,SqT.of (g3 _ _ hp),atI_nat (j:=0) rfl,_,DGet.k (k:=Sum.inr t.hd) upd_same,?_⟩
    rw [lv_tab _ hin k]
    exact q _ g3
def spText (n:Nat):Sp:=fun vs H Q _=>∃ v t,vs=[v]∧TmAt H v t∧t.ok∧t.deep < n∧n≤9∧∀ H',Same H H'→Q (.str t.txt) H'
def spWrap (n:Nat):Sp:=fun vs H Q _=>∃ v t,∃ i:Int,vs=[v,.int i]∧TmAt H v t∧t.ok∧t.deep < n∧n≤9∧∀ H',Same H H'→Q (.str (wrS i (lvS t.hd) t.txt)) H'
theorem ok_wrapped (T:Txt K mg a) (n:Nat) (ih:FnOk P w K mg base CX0 (2 * n+1) a.f_text a.d_text ["_law_term_here"] (spText n)):FnOk P w K mg base CX0 (2 * n+2) a.f_wrapped a.d_wrapped ["_law_term_here","_law_least"] (spWrap n):=by
  refine T.F_wrapped.ok sc_wrapped (fun vs H Q E h=>?_) (fun cdv A outer s H vs Q E hr h=>?_)
  · obtain ⟨_,_,_,rfl,_⟩:=h;rfl
  obtain ⟨v,t,i,rfl,ht,hok,hd,h9,q⟩:=h
  have l1:("(":Str).length=1:=by decide +kernel
  have l2:(")":Str).length=1:=by decide +kernel
  have hlen:=Tm.len8 hok (by omega)
  refine ⟨_,(pss_cons (ps_set (i:=2) sc_wrapped.nd rfl (by first | exact Or.inl rfl | exact Or.inr rfl) (pe_call ih (hr.mono (by omega)) rfl T.m_text T.F_text.kp T.b_text .nil pass0 (pa_cons (pv 0) pa_nil))) (pss_one (ps_ret (pe_ifExp (pt_cmpR op_lt (pe_call (ok_level T) (hr.mono (by omega)) rfl T.m_level T.F_level.kp T.b_level .nil pass0 (pa_cons (pv 0) pa_nil)) (pv 1) (nomark _)) (pe_op op_add_str (pe_op op_add_str pe_str (pv 2)) pe_str) (pv 2))))),?_⟩
  refine ⟨_,rfl,v,t,rfl,ht,hok,hd,h9,fun H1 g1=>?_⟩
  refine ⟨_,rfl,v,t,rfl,ht.same g1,hok,fun H2 g2=>?_⟩
  refine ⟨_,rfl,_,_,rfl,rfl,_,rfl,ite2 (fun k=>?_) (fun k=>?_)⟩
  · have k':lvS t.hd < i:=of_decide_eq_true k
    refine ⟨_,rfl,_,_,rfl,rfl,?_,_,_,rfl,rfl,?_,?_⟩
    · rw [l1];exact line_of (by omega)
    · rw [cat_len,l1,l2];exact line_of (by omega)
    · have:=q H2 (g1.trans g2)
      unfold wrS at this
      rw [if_pos k'] at this
      exact this
  · have k':¬ lvS t.hd < i:=fun z=>k (decide_eq_true z)
    refine ⟨_,rfl,?_⟩
    have:=q H2 (g1.trans g2)
    unfold wrS at this
    rw [if_neg k'] at this
    exact this
theorem lit_in5:∀ s ∈ allS,inV (.str s) [.str "number",.str "word",.str "flag"]=decide (s ∈ litS):=by decide +kernel
theorem bin_no:∀ s ∈ binS,s≠"field"∧s≠"has"∧s≠"not"∧s ∉ litS:=by decide +kernel
theorem nam_lit:∀ s ∈ namS,s ∉ litS:=by decide +kernel
theorem ok_text_succ (T:Txt K mg a) (n:Nat) (ih:FnOk P w K mg base CX0 (2 * n+2) a.f_wrapped a.d_wrapped ["_law_term_here","_law_least"] (spWrap n)):FnOk P w K mg base CX0 (2 * (n+1)+1) a.f_text a.d_text ["_law_term_here"] (spText (n+1)):=by
  refine T.F_text.ok sc_text (fun vs H Q E h=>?_) (fun cdv A outer s H vs Q E hr h=>?_)
  · obtain ⟨_,_,rfl,_⟩:=h;rfl
  obtain ⟨v,t,rfl,ht,hok,hd,h9,q⟩:=h
  have l1:(" ":Str).length=1:=by decide +kernel
  have l2:("not ":Str).length=4:=by decide +kernel
  have l3:("has ":Str).length=4:=by decide +kernel
  refine ⟨_,(pss_cons (ps_if (pt_cmpR op_in_seq (pe_ix ix_tup (pv 0) pe_int (fun _ _=>rfl)) (pe_tup (pa_cons pe_str (pa_cons pe_str (pa_cons pe_str pa_nil)))) (by with_unfolding_all rfl)) (pss_one (ps_ret (pe_call (ok_value_text T) (hr.mono (by omega)) rfl T.m_value_text T.F_value_text.kp T.b_value_text .nil pass0 (pa_cons (pe_ix ix_tup (pv 0) pe_int (fun _ _=>rfl)) pa_nil)))) pss_nil) (pss_cons (ps_if (pt_cmpR op_eq (pe_ix ix_tup (pv 0) pe_int (fun _ _=>rfl)) pe_str (nomark _)) (pss_one (ps_ret (pe_ix ix_tup (pv 0) pe_int (fun _ _=>rfl)))) pss_nil) (pss_cons (ps_if (pt_cmpR op_eq (pe_ix ix_tup (pv 0) pe_int (fun _ _=>rfl)) pe_str (nomark _)) (pss_one (ps_ret (pe_op op_add_str pe_str (pe_ix ix_tup (pv 0) pe_int (fun _ _=>rfl))))) pss_nil) (pss_cons (ps_if (pt_cmpR op_eq (pe_ix ix_tup (pv 0) pe_int (fun _ _=>rfl)) pe_str (nomark _)) (pss_one (ps_ret (pe_op op_add_str pe_str (pe_call ih (hr.mono (by omega)) rfl T.m_wrapped T.F_wrapped.kp T.b_wrapped .nil pass0 (pa_cons (pe_ix ix_tup (pv 0) pe_int (fun _ _=>rfl)) (pa_cons pe_int pa_nil)))))) pss_nil) (pss_cons (ps_set (i:=1) sc_text.nd rfl (by first | exact Or.inl rfl | exact Or.inr rfl) (pe_call (ok_level T) (hr.mono (by omega)) rfl T.m_level T.F_level.kp T.b_level .nil pass0 (pa_cons (pv 0) pa_nil))) (pss_cons (ps_set (i:=2) sc_text.nd rfl (by first | exact Or.inl rfl | exact Or.inr rfl) (pe_call ih (hr.mono (by omega)) rfl T.m_wrapped T.F_wrapped.kp T.b_wrapped .nil pass0 (pa_cons (pe_ix ix_tup (pv 0) pe_int (fun _ _=>rfl)) (pa_cons (pe_op op_add (pv 1) (pe_callTy call_int1 rfl T.n_int (by decide +kernel) (pa_cons (pe_cmpR op_eq (pv 1) pe_int (nomark _)) pa_nil))) pa_nil)))) (pss_one (ps_ret (pe_op op_add_str (pe_op op_add_str (pe_op op_add_str (pe_op op_add_str (pv 2) pe_str) (pe_ix ix_tup (pv 0) pe_int (fun _ _=>rfl))) pe_str) (pe_call ih (hr.mono (by omega)) rfl T.m_wrapped T.F_wrapped.kp T.b_wrapped .nil pass0 (pa_cons (pe_ix ix_tup (pv 0) pe_int (fun _ _=>rfl)) (pa_cons (pe_op op_add (pv 1) pe_int) pa_nil)))))))))))),?_⟩
  obtain ⟨p,xs,rfl,hp⟩:=ht.top
  have hin:=Tm.hd_in hok
  have ht0:=ht
  refine ⟨_,rfl,p,_,_,_,rfl,rfl,SqT.of hp,atI_nat (j:=0) rfl,small (n:=3) (by decide),fun tp htp=>?_⟩
  have g1:=same_new htp (.tup [.str "number",.str "word",.str "flag"])
  refine ⟨tp,_,rfl,.inr (SqT.of upd_same),rfl,rfl,_,rfl,ite2 (fun k=>?_) (fun k=>?_)⟩
  · have k':inV (.str t.hd) [.str "number",.str "word",.str "flag"]=true:=k
    rw [lit_in5 _ hin] at k'
    have k':=of_decide_eq_true k'
    cases t with
    | nam s x=>exact absurd k' (nam_lit s hok.1)
    | neg t=>exact absurd k' (by show ("not":Str) ∉ litS;decide +kernel)
    | bin s l r=>exact absurd k' (bin_no s hok.1).2.2.2
    | lit s x =>
      obtain ⟨p',e,hp'⟩:=ht
      cases e
      exact ⟨_,rfl,p,_,_,_,rfl,rfl,SqT.of (g1 _ _ hp'),atI_nat (j:=1) rfl,x,rfl,hok.2,fun H' g=>q H' (g1.trans g)⟩
  have k':¬ inV (.str t.hd) [.str "number",.str "word",.str "flag"]=true:=k
  rw [lit_in5 _ hin] at k'
  have hp1:=g1 _ _ hp
  cases t with
  | lit s x=>exact absurd (decide_eq_true hok.1) k'
  | nam s x =>
    obtain ⟨p',e,hp'⟩:=ht
    cases e
    have hp2:=g1 _ _ hp'
    have q':=q _ g1
    rcases nam_cases s hok.1 with rfl | rfl
    · exact ⟨_,rfl,p,_,_,_,rfl,rfl,SqT.of hp2,atI_nat (j:=0) rfl,rfl,_,rfl,iteT ⟨_,rfl,p,_,_,_,rfl,rfl,SqT.of hp2,atI_nat (j:=1) rfl,q'⟩⟩
    · refine ⟨_,rfl,p,_,_,_,rfl,rfl,SqT.of hp2,atI_nat (j:=0) rfl,rfl,_,rfl,iteF ⟨_,rfl,p,_,_,_,rfl,rfl,SqT.of hp2,atI_nat (j:=0) rfl,rfl,_,rfl,iteT ?_⟩⟩
      have:=hok.2
      refine ⟨_,rfl,p,_,_,_,rfl,rfl,SqT.of hp2,atI_nat (j:=1) rfl,_,_,rfl,rfl,?_,q'⟩
      rw [l3];exact line_of (by omega)
  | neg t1 =>
    obtain ⟨p',w1,e,hp',ht1⟩:=ht
    cases e
    have hp2:=g1 _ _ hp'
    have hd1:t1.deep < n:=by have:t1.deep+1 < n+1:=hd;omega
    have hlen:=Tm.len8 (t:=t1) hok (by omega)
    have hw:=wr_len 3 (lvS t1.hd) t1.txt
    refine ⟨_,rfl,p,_,_,_,rfl,rfl,SqT.of hp2,atI_nat (j:=0) rfl,rfl,_,rfl,iteF ⟨_,rfl,p,_,_,_,rfl,rfl,SqT.of hp2,atI_nat (j:=0) rfl,rfl,_,rfl,iteF ⟨_,rfl,p,_,_,_,rfl,rfl,SqT.of hp2,atI_nat (j:=0) rfl,rfl,_,rfl,iteT ?_⟩⟩⟩
    refine ⟨_,rfl,p,_,_,_,rfl,rfl,SqT.of hp2,atI_nat (j:=1) rfl,w1,t1,3,rfl,ht1.same g1,hok,hd1,by omega,fun H2 g2=>?_⟩
    refine ⟨_,_,rfl,rfl,?_,q H2 (g1.trans g2)⟩
    rw [l2];exact line_of (by omega)
  | bin s t1 t2 =>
    obtain ⟨p',w1,w2,e,hp',ht1,ht2⟩:=ht
    cases e
    have hp2:=g1 _ _ hp'
    obtain ⟨hs,ok1,ok2⟩:=hok
    obtain ⟨n1,n2,n3,n4⟩:=bin_no s hs
    have hdd:max t1.deep t2.deep+1 < n+1:=hd
    have hlen1:=Tm.len8 ok1 (by omega)
    have hlen2:=Tm.len8 ok2 (by omega)
    have hls:=bin_len s hs
    refine ⟨_,rfl,p,_,_,_,rfl,rfl,SqT.of hp2,atI_nat (j:=0) rfl,rfl,_,rfl,ite2 (fun z=>absurd (by have:=of_decide_eq_true z;injection this) n1) (fun _=>?_)⟩
    refine ⟨_,rfl,p,_,_,_,rfl,rfl,SqT.of hp2,atI_nat (j:=0) rfl,rfl,_,rfl,ite2 (fun z=>absurd (by have:=of_decide_eq_true z;injection this) n2) (fun _=>?_)⟩
    refine ⟨_,rfl,p,_,_,_,rfl,rfl,SqT.of hp2,atI_nat (j:=0) rfl,rfl,_,rfl,ite2 (fun z=>absurd (by have:=of_decide_eq_true z;injection this) n3) (fun _=>?_)⟩
    refine ⟨_,rfl,_,_,rfl,ht0.same g1,⟨hs,ok1,ok2⟩,fun H2 g2=>?_⟩
    have el:lvS (Tm.bin s t1 t2).hd=lvS s:=rfl
    rw [el]
    have g12:=g1.trans g2
    refine ⟨_,rfl,p,_,_,_,rfl,rfl,SqT.of (g2 _ _ hp2),atI_nat (j:=1) rfl,_,rfl,_,rfl,rfl,.inr ⟨_,rfl,_,_,rfl,rfl,w1,t1,_,rfl,ht1.same g12,ok1,by omega,by omega,fun H3 g3=>?_⟩⟩
    have g123:=g12.trans g3
    have ex:(Tm.bin s t1 t2).txt=wrS (lvS s+(if decide (lvS s=4)=true then 1 else 0)) (lvS t1.hd) t1.txt++" "++s++" "++wrS (lvS s+1) (lvS t2.hd) t2.txt:=rfl
    rw [ex] at q
    have e4:(if decide (V.int (lvS s)=V.int 4)=true then (1:Int) else 0)=(if decide (lvS s=4)=true then 1 else 0):=by
      by_cases z:lvS s=4
      · rw [z];rfl
      · rw [decide_eq_false z,decide_eq_false fun y=>z (by injection y)]
    rw [e4]
    have hw1:=wr_len (lvS s+(if decide (lvS s=4)=true then 1 else 0)) (lvS t1.hd) t1.txt
    have hw2:=wr_len (lvS s+1) (lvS t2.hd) t2.txt
    generalize wrS (lvS s+(if decide (lvS s=4)=true then 1 else 0)) (lvS t1.hd) t1.txt=y1 at q hw1
    refine ⟨_,rfl,_,_,rfl,rfl,?_,_,rfl,p,_,_,_,rfl,rfl,SqT.of (g123 _ _ hp'),atI_nat (j:=0) rfl,_,_,rfl,rfl,?_,_,_,rfl,rfl,?_,_,rfl,p,_,_,_,rfl,rfl,SqT.of (g123 _ _ hp'),atI_nat (j:=2) rfl,_,rfl,_,_,rfl,rfl,w2,t2,_,rfl,ht2.same g123,ok2,by omega,by omega,fun H4 g4=>⟨_,_,rfl,rfl,?_,q H4 (g123.trans g4)⟩⟩
    · rw [l1];exact line_of (by omega)
    · rw [cat_len,l1];exact line_of (by omega)
    · rw [cat_len,cat_len,l1];exact line_of (by omega)
    · rw [cat_len,cat_len,cat_len,l1];exact line_of (by omega)
theorem ok_text (T:Txt K mg a):∀ n,FnOk P w K mg base CX0 (2 * n+1) a.f_text a.d_text ["_law_term_here"] (spText n)
  | 0=>fn_false fun vs H Q E h=>by obtain ⟨_,_,_,_,_,h,_⟩:=h;omega
  | n+1=>ok_text_succ T n (ok_wrapped T n (ok_text T n))
end
end My
namespace My
open PySem L2
def posL (d:Nat):Nat→List Nat→List Nat
  | _,[]=>[]
  | i,c :: r=>if c=d then i :: posL d (i+1) r else posL d (i+1) r
theorem posL_app (d:Nat):∀ (w t:List Nat) (i:Nat),posL d i (w++t)=posL d i w++posL d (i+w.length) t
  | [],t,i=>by simp [posL]
  | c :: w,t,i=>by
    have e:i+1+w.length=i+(c :: w).length:=by rw [List.length_cons];omega
    rw [List.cons_append,posL,posL,posL_app d w t (i+1),e]
    split
    · rw [List.cons_append]
    · rfl
theorem posL_no (d:Nat):∀ (w:List Nat) (i:Nat),d ∉ w→posL d i w=[]
  | [],_,_=>rfl
  | c :: w,i,h=>by
    rw [posL,if_neg fun e=>h (by rw [e];exact List.mem_cons_self)]
    exact posL_no d w (i+1) fun z=>h (List.mem_cons_of_mem _ z)
theorem occ_walk {x y:Str} {d:Nat} (hy:y.cps.toList=[d]) (lim:Nat):∀ (k i:Nat) (st:Array Nat × Nat),i+k=x.length+1→st.snd≤i→st.fst.size≤lim →
    (forIn (List.range' i k) st (StrLaws.occBody x y x.length lim)).run.fst.toList=st.fst.toList++(posL d i (x.cps.toList.drop i)).take (lim - st.fst.size)
  | 0,i,st,hk,_,_=>by
    have e:x.cps.toList.drop i=[]:=List.drop_eq_nil_of_le (by rw [len_list];omega)
    rw [e]
    simp [posL]
  | k + 1, i,st,hk,hs,hl=>by
    have ly:y.length=1:=by rw [← len_list,hy];rfl
    rw [List.range'_succ,List.forIn_cons]
    unfold StrLaws.occBody
    by_cases hlt:i < x.length
    · have hg:x.cps.toList[i]?=some (x.cps.toList[i]'(by rw [len_list];exact hlt)):=List.getElem?_eq_getElem _
      have ed:x.cps.toList.drop i=x.cps.toList[i]'(by rw [len_list];exact hlt) :: x.cps.toList.drop (i+1):=List.drop_eq_getElem_cons _
      have hsub:(Builtin.Str.subAt x y i=true) ↔ x.cps.toList[i]'(by rw [len_list];exact hlt)=d:=by
        rw [StrLaws.subAt_eq,hy,ly,StrLaws.take1_drop,hg]
        simp
      rw [ed,posL]
      by_cases hc:x.cps.toList[i]'(by rw [len_list];exact hlt)=d
      · rw [if_pos hc]
        by_cases hz:st.fst.size < lim
        · rw [if_pos ⟨⟨⟨hz,hs⟩,by rw [ly];omega⟩,hsub.mpr hc⟩]
          have ih:=occ_walk (x:=x) hy lim k (i+1) (st.fst.push i,i+y.length) (by omega) (by show i+y.length≤i+1;omega) (by show (st.fst.push i).size≤lim;rw [Array.size_push];omega)
          have e1:lim - st.fst.size=lim - (st.fst.push i).size+1:=by rw [Array.size_push];omega
          rw [e1,List.take_succ_cons]
          refine Eq.trans ih ?_
          simp
        · rw [if_neg fun z=>hz z.1.1.1]
          have ih:=occ_walk (x:=x) hy lim k (i+1) (st.fst,st.snd) (by omega) (by show st.snd≤i+1;omega) hl
          have e1:lim - st.fst.size=0:=by omega
          refine Eq.trans ih ?_
          rw [e1];simp
      · rw [if_neg hc,if_neg fun z=>hc (hsub.mp z.2)]
        exact occ_walk (x:=x) hy lim k (i+1) (st.fst,st.snd) (by omega) (by show st.snd≤i+1;omega) hl
    · have e:x.cps.toList.drop i=[]:=List.drop_eq_nil_of_le (by rw [len_list];omega)
      have e1:x.cps.toList.drop (i+1)=[]:=List.drop_eq_nil_of_le (by rw [len_list];omega)
      rw [if_neg fun z=>by have:=z.1.2;rw [ly] at this;omega]
      have ih:=occ_walk (x:=x) hy lim k (i+1) (st.fst,st.snd) (by omega) (by show st.snd≤i+1;omega) hl
      refine Eq.trans ih ?_
      rw [e,e1];rfl
theorem occ_pos {x y:Str} {d:Nat} (hy:y.cps.toList=[d]) (lim:Nat):Builtin.Str.occurrences x y 0 x.length lim=(posL d 0 x.cps.toList).take lim:=by
  rw [StrLaws.occ_eq]
  have z:=occ_walk (x:=x) hy lim (x.length+1 - 0) 0 ((#[]:Array Nat),0) (by omega) (Nat.le_refl _) (Nat.zero_le _)
  refine Eq.trans z ?_
  simp
theorem posL_len (d:Nat):∀ (w:List Nat) (i:Nat),(posL d i w).length≤w.length
  | [],_=>Nat.le_refl _
  | c :: w,i=>by
    have:=posL_len d w (i+1)
    rw [posL,List.length_cons]
    split
    · rw [List.length_cons];omega
    · omega
def prt (X:List Nat) (off:Nat) (cuts:List Nat):List (List Nat):=((off :: cuts.map (·+1)).zip (cuts++[X.length])).map fun ij=>(X.drop ij.1).take (ij.2 - ij.1)
theorem prt_cons (X:List Nat) (off c:Nat) (cs:List Nat):prt X off (c :: cs)=(X.drop off).take (c - off) :: prt X (c+1) cs:=by
  unfold prt
  rw [List.cons_append,List.zip_cons_cons,List.map_cons,List.map_cons]
theorem prt_nil (X:List Nat) (off:Nat):prt X off []=[X.drop off]:=by
  unfold prt
  have e:(X.drop off).take (X.length - off)=X.drop off:=List.take_of_length_le (by rw [List.length_drop];omega)
  simp [e]
def joinL (d:Nat) (w:List Nat) (ws:List (List Nat)):List Nat:=w++ws.flatMap fun r=>d :: r
theorem glue_list (y:Str) (ws:List Str):∀ (acc:Array Nat),(ws.foldl (fun acc p=>acc++y.cps++p.cps) acc).toList=acc.toList++ws.flatMap fun r=>y.cps.toList++r.cps.toList:=by
  induction ws with
  | nil=>intro acc;simp
  | cons w ws ih =>
    intro acc
    rw [List.foldl_cons,ih,Array.toList_append,Array.toList_append,List.flatMap_cons]
    simp
theorem join_list {y:Str} {d:Nat} (hy:y.cps.toList=[d]) (w:Str) (ws:List Str):(Txt.join y (w :: ws)).cps.toList=joinL d w.cps.toList (ws.map fun r=>r.cps.toList):=by
  show (List.foldl _ _ _:Array Nat).toList=_
  rw [List.drop_succ_cons,List.drop_zero,List.headD_cons,glue_list,hy]
  unfold joinL
  rw [List.flatMap_map]
  rfl
theorem parts_list (x:Str) (cuts:List Nat):(Builtin.Str.partsBetween x cuts 1).map (fun r=>r.cps.toList)=prt x.cps.toList 0 cuts:=by
  unfold Builtin.Str.partsBetween prt
  rw [List.map_map,len_list]
  apply List.map_congr_left
  rintro ⟨i,j⟩ _
  exact StrLaws.strSub_toList x i j
theorem split_cases {x y:Str} {d:Nat} (hy:y.cps.toList=[d]) (hk:Builtin.Str.strKind y=1):Txt.split x y=if d ∈ x.cps.toList then Builtin.Str.partsBetween x (posL d 0 x.cps.toList) 1 else [x]:=by
  have ly:y.length=1:=by rw [← len_list,hy];rfl
  have hk1:¬ Builtin.Str.strKind x < Builtin.Str.strKind y:=by
    rw [hk]
    unfold Builtin.Str.strKind
    split
    · omega
    · split <;> omega
  have eo:Builtin.Str.occurrences x y 0 x.length (x.length+1)=posL d 0 x.cps.toList:=by
    rw [occ_pos hy,List.take_of_length_le]
    have:=posL_len d x.cps.toList 0
    rw [len_list] at this;omega
  unfold Txt.split
  rw [eo,ly]
  by_cases hd:d ∈ x.cps.toList
  · rw [if_pos hd]
    have hx:¬ x.length < 1:=fun z=>by
      have:x.cps.toList=[]:=List.length_eq_zero_iff.mp (by rw [len_list];omega)
      rw [this] at hd;cases hd
    rw [if_neg (by simp [hx,hk1]),if_neg]
    intro z
    obtain ⟨a,b,e⟩:=List.append_of_mem hd
    rw [e,posL_app,posL,if_pos rfl] at z
    simp at z
  · rw [if_neg hd,posL_no d _ _ hd]
    split
    · rfl
    · rfl
theorem split_ne (x y:Str):Txt.split x y≠[]:=by
  unfold Txt.split
  split
  · simp
  · split
    · simp
    · unfold Builtin.Str.partsBetween
      cases Builtin.Str.occurrences x y 0 x.length (x.length+1) <;> simp
theorem parts_len (x:Str) (cuts:List Nat) (k:Nat):(Builtin.Str.partsBetween x cuts k).length=cuts.length+1:=by
  unfold Builtin.Str.partsBetween
  simp
theorem split_many (x y:Str):(Txt.split x y).length≤x.length+2:=by
  have:=StrLaws.occ_length_le x y 0 x.length (x.length+1)
  unfold Txt.split
  split
  · simp
  · split
    · simp
    · rw [parts_len];omega
abbrev big:Nat:=100000
theorem big_line {n:Nat} (h:n≤100000):n≤sizeLine:=line_ok (by omega)
def runN (p:Nat→Bool) (cs:List Nat) (i:Nat):Nat:=i+((cs.drop i).takeWhile p).length
theorem runN_go {p:Nat→Bool} {cs:List Nat} {i c:Nat} (h:cs[i]?=some c) (hp:p c=true):runN p cs i=runN p cs (i+1):=by
  obtain ⟨h1,h2⟩:=List.getElem?_eq_some_iff.mp h
  unfold runN
  rw [List.drop_eq_getElem_cons h1,h2,List.takeWhile_cons,if_pos hp,List.length_cons]
  omega
theorem runN_stop {p:Nat→Bool} {cs:List Nat} {i c:Nat} (h:cs[i]?=some c) (hp:p c=false):runN p cs i=i:=by
  obtain ⟨h1,h2⟩:=List.getElem?_eq_some_iff.mp h
  unfold runN
  rw [List.drop_eq_getElem_cons h1,h2,List.takeWhile_cons,if_neg (by simp [hp])]
  rfl
theorem runN_end {p:Nat→Bool} {cs:List Nat} {i:Nat} (h:cs.length≤i):runN p cs i=i:=by
  unfold runN
  rw [List.drop_eq_nil_of_le h]
  rfl
theorem runN_ge (p:Nat→Bool) (cs:List Nat) (i:Nat):i≤runN p cs i:=Nat.le_add_right _ _
theorem runN_le (p:Nat→Bool) (cs:List Nat) (i:Nat) (h:i≤cs.length):runN p cs i≤cs.length:=by
  unfold runN
  have h1:=(List.takeWhile_sublist (p:=p) (l:=cs.drop i)).length_le
  rw [List.length_drop] at h1
  omega
section
variable {P:Program} {w:World} {K:PySem.W.Frag} {mg:Str→Option Value} {base:Heap} {a:Adr}
theorem at_c {x:Str} {i:Nat} (h:i < x.length):∃ c,x.cps.toList[i]?=some c∧atI x.cps.toList (i:Int)=some c:=by
  have l:=len_list x
  have h':i < x.cps.toList.length:=by omega
  exact ⟨_,List.getElem?_eq_getElem h',atI_nat (List.getElem?_eq_getElem h')⟩
theorem occ_in (s:Str) (c:Nat):(!(Builtin.Str.occurrences s ⟨#[c]⟩ 0 s.length 1).isEmpty)=inT s c:=by
  rw [PySem.StrLaws.found_one];rfl
def spRun:Sp:=fun vs H Q _=>∃ (x:Str) (i:Nat) (sg:Str),vs=[.str x,.int (i:Int),.str sg]∧x.length≤big∧Q (.int ((runN (inT sg) x.cps.toList i:Nat):Int)) H
theorem ok_end_of_run (T:Txt K mg a):FnOk P w K mg base CX0 1 a.f_end_of_run a.d_end_of_run ["text","at","signs"] spRun:=by
  refine T.F_end_of_run.ok sc_end_of_run (fun vs H Q E h=>?_) (fun cdv A outer s H vs Q E hr h=>?_)
  · obtain ⟨_,_,_,rfl,_⟩:=h;rfl
  obtain ⟨x,i0,sg,rfl,hx,q⟩:=h
  have l:=len_list x
  refine ⟨_,(pss_cons (ps_while PassesOwn.never (PW.pt (pw_and (pt_cmpR op_lt (pv 1) (pe_callB call_len_str rfl T.n_len PySem.boot_len (pa_cons (pv 0) pa_nil)) (nomark _)) (pw_and1 (pt_cmpR op_in_str (pe_ix ix_str (pv 0) (pv 1) (fun _ _=>rfl)) (pv 2) (by with_unfolding_all rfl))))) (pss_one (ps_aug (i:=1) sc_end_of_run.nd rfl (by first | exact Or.inl rfl | exact Or.inr rfl) pe_int ip_add))) (pss_one (ps_ret (pv 1)))),?_⟩
  refine while_by (fun σ H'=>∃ i:Nat,σ=[some (.str x),some (.int (i:Int)),some (.str sg)]∧H'=H∧runN (inT sg) x.cps.toList i=runN (inT sg) x.cps.toList i0) (fun σ _=>match σ with | [_,some (.int i),_]=>x.length - i.toNat | _=>0) ⟨i0,rfl,rfl,rfl⟩ (fun σ H' hP=>?_) (fun σ H' Q Q' hQ h=>?_)
  · obtain ⟨i,rfl,rfl,hi⟩:=hP
    refine ⟨_,rfl,_,rfl,_,rfl,big_line hx,_,_,rfl,rfl,_,rfl,ite2 (fun k=>?_) (fun k=>?_)⟩
    · have k':i < x.length:=by have:(i:Int) < (x.length:Int):=of_decide_eq_true k;omega
      obtain ⟨c,hc,hat⟩:=at_c k'
      refine ⟨_,rfl,_,rfl,x,_,c,rfl,rfl,big_line hx,hat,_,rfl,_,_,rfl,rfl,_,rfl,?_⟩
      rw [occ_in]
      refine ite2 (fun k2=>?_) (fun k2=>?_)
      · refine ⟨_,rfl,_,_,rfl,rfl,⟨i+1,rfl,rfl,?_⟩,?_⟩
        · rw [← runN_go hc k2];exact hi
        · show x.length - ((i:Int)+1).toNat < x.length - (i:Int).toNat
          omega
      · refine ⟨_,rfl,?_⟩
        rw [runN_stop hc (by simpa using k2)] at hi
        rw [hi];exact q
    · refine iteF ⟨_,rfl,?_⟩
      have k':x.length≤i:=by
        have:¬ (i:Int) < (x.length:Int):=fun z=>k (decide_eq_true z)
        omega
      rw [runN_end (by omega)] at hi
      rw [hi];exact q
  · obtain ⟨v1,e1,v2,e2,y,e3,h3,i,j,e4,e5,k,e6,h⟩:=h
    refine ⟨v1,e1,v2,e2,y,e3,h3,i,j,e4,e5,k,e6,?_⟩
    cases k with
    | false=>exact hQ _ _ h
    | true =>
      obtain ⟨w1,f1,w2,f2,z,i',c,f3,f4,f5,f6,w3,f7,i2,j2,f8,f9,b2,f10,h⟩:=h
      exact ⟨w1,f1,w2,f2,z,i',c,f3,f4,f5,f6,w3,f7,i2,j2,f8,f9,b2,f10,hQ _ _ h⟩
def spFigAt:Sp:=fun vs H Q _=>∃ (x:Str) (i:Nat),vs=[.str x,.int (i:Int)]∧x.length≤big∧Q (.bl (match x.cps.toList[i]? with | some c=>isFig c | none=>false)) H
theorem ok_is_figure_at (T:Txt K mg a):FnOk P w K mg base CX0 1 a.f_is_figure_at a.d_is_figure_at ["text","at"] spFigAt:=by
  refine T.F_is_figure_at.ok sc_is_figure_at (fun vs H Q E h=>?_) (fun cdv A outer s H vs Q E hr h=>?_)
  · obtain ⟨_,_,rfl,_⟩:=h;rfl
  obtain ⟨x,i,rfl,hx,q⟩:=h
  have l:=len_list x
  refine ⟨_,(pss_one (ps_ret (pe_and (pe_cmpR op_lt (pv 1) (pe_callB call_len_str rfl T.n_len PySem.boot_len (pa_cons (pv 0) pa_nil)) (nomark _)) (pe_one (pe_cmpR op_in_str (pe_ix ix_str (pv 0) (pv 1) (fun _ _=>rfl)) (pe_glob rfl T.g_FIGURES.1 T.g_FIGURES.2) (by with_unfolding_all rfl)))))),?_⟩
  refine ⟨_,rfl,_,rfl,_,rfl,big_line hx,_,_,rfl,rfl,_,rfl,ite2 (fun k=>?_) (fun k=>?_)⟩
  · have k':i < x.length:=by have:(i:Int) < (x.length:Int):=of_decide_eq_true k;omega
    obtain ⟨c,hc,hat⟩:=at_c k'
    refine ⟨_,rfl,_,rfl,x,_,c,rfl,rfl,big_line hx,hat,_,_,rfl,rfl,?_⟩
    rw [occ_in,fig_in]
    rw [hc] at q
    exact q
  · have k':x.length≤i:=by
      have:¬ (i:Int) < (x.length:Int):=fun z=>k (decide_eq_true z)
      omega
    rw [List.getElem?_eq_none (by omega)] at q
    exact q
def cutN (x:Str) (i j:Nat):Str:=Txt.slice x (some (i:Int)) (some (j:Int))
def nameAt (x:Str) (i:Nat):Option (Str × V × Nat) :=
  if 20 < (cutN x i (runN nsg x.cps.toList i)).length then none
  else some ((if kept (cutN x i (runN nsg x.cps.toList i))=true then "mark" else "name":Str),V.str (cutN x i (runN nsg x.cps.toList i)),runN nsg x.cps.toList i)
def numAt (x:Str) (i:Nat):Option (Str × V × Nat) :=
  match numV (cutN x i (runN isFig x.cps.toList (i+1))) with
  | none=>none
  | some v=>some ("number",v,runN isFig x.cps.toList (i+1))
def wordAt (x:Str) (i:Nat):Option (Str × V × Nat) :=
  let e:=Txt.find3 x "'" ((i:Int)+1)
  if e < 0 then none else if wordB (Txt.slice x (some ((i:Int)+1)) (some e))=true then some ("word",.str (Txt.slice x (some ((i:Int)+1)) (some e)),(e+1).toNat) else none
abbrev longS:List Str:=["!=","<=",">="]
def markAt (x:Str) (i:Nat):Option (Str × V × Nat) :=
  if inV (.str (cutN x i (i+2))) (longS.map V.str)=true then some ("mark",.str (cutN x i (i+2)),i+2)
  else match x.cps.toList[i]? with
    | none=>none
    | some c=>if inT "=<>+-*()|,@" c=true then some ("mark",.str ⟨#[c]⟩,i+1) else none
theorem bad_same {H:Hp} {t dx:Addr} {o o':HO} (ht:H t=none) (hd:H dx=none) (hne:dx≠t):Same H (upd (upd H t o) dx o'):=by
  have hd':upd H t o dx=none:=by rw [upd_ne hne];exact hd
  exact (same_new ht o).trans (same_new hd' o')
theorem numV_ne {x:Str} {v:V} (h:numV x=some v):v≠.non:=fun z=>by
  subst z
  unfold numV at h
  split at h
  · split at h
    · cases h
    · cases e:PySem.intText? x <;> rw [e] at h <;> cases h
  · cases h
def spSig (f:Str→Nat→Option (Str × V × Nat)) (C:Addr):Sp:=fun vs H Q E=>∃ (x:Str) (i:Nat),vs=[.str x,.int (i:Int)]∧x.length≤big∧i < x.length ∧
  (f x i=none→∀ H' dx,Same H H'→H' dx=some (.xd [("at",.int (i:Int))])→E (.ref C) (some dx) H') ∧
  (∀ k v e,f x i=some (k,v,e)→∀ t H',Same H H'→H' t=some (.tup [.str k,v,.int (e:Int)])→Q (.ref t) H')
theorem ok_name_at (T:Txt K mg a):FnOk P w K mg base (CX1 P w) 3 a.f_name_at a.d_name_at ["text","at"] (spSig nameAt a.c_BadText):=by
  refine T.F_name_at.ok1 sc_name_at (fun vs H Q E h=>?_) (fun cdv A outer s H vs Q E hr h=>?_)
  · obtain ⟨_,_,rfl,_⟩:=h;rfl
  obtain ⟨x,i,rfl,hx,hi,qe,q⟩:=h
  refine ⟨_,(pss_cons (ps_set (i:=2) sc_name_at.nd rfl (by first | exact Or.inl rfl | exact Or.inr rfl) (pe_call (ok_end_of_run T) (hr.mono (by decide)) rfl T.m_end_of_run T.F_end_of_run.kp T.b_end_of_run .nil pass0 (pa_cons (pv 0) (pa_cons (pv 1) (pa_cons (pe_glob rfl T.g_NAME_SIGNS.1 T.g_NAME_SIGNS.2) pa_nil))))) (pss_cons (ps_set (i:=3) sc_name_at.nd rfl (by first | exact Or.inl rfl | exact Or.inr rfl) (pe_slice sl_str (pv 0) (po_some (pv 1)) (po_some (pv 2)))) (pss_cons (ps_if (pt_cmpR op_gt (pe_callB call_len_str rfl T.n_len PySem.boot_len (pa_cons (pv 3) pa_nil)) (pe_glob rfl T.g_MOST_NAME_SIGNS.1 T.g_MOST_NAME_SIGNS.2) (nomark _)) (pss_one (ps_raise T.x_BadText.made.choose_spec (ok_BadText__init T) T.x_BadText.tk (hr.mono (by decide)) T.x_BadText.bd rfl rfl T.m_BadText (pv 1))) pss_nil) (pss_one (ps_ret (pe_tup (pa_cons (pe_ifExp (pt_cmpR op_in_seq (pv 3) (pe_glob rfl T.g_KEPT_WORDS.1 T.g_KEPT_WORDS.2) (by with_unfolding_all rfl)) (pe_glob rfl T.g_MARK.1 T.g_MARK.2) (pe_glob rfl T.g_NAME.1 T.g_NAME.2)) (pa_cons (pv 3) (pa_cons (pv 2) pa_nil))))))))),?_⟩
  refine ⟨_,rfl,_,rfl,x,i,_,rfl,hx,?_⟩
  have er:inT "abcdefghijklmnopqrstuvwxyz_"=nsg:=funext fun c=>nsg_in c
  rw [er]
  refine ⟨_,rfl,_,rfl,_,rfl,_,rfl,_,rfl,x,rfl,big_line hx,?_⟩
  have sl:=slice_len x (some (i:Int)) (some ((runN nsg x.cps.toList i:Nat):Int))
  refine ⟨_,rfl,_,rfl,big_line (Nat.le_trans sl hx),_,_,rfl,rfl,_,rfl,ite2 (fun k=>?_) (fun k=>?_)⟩
  · have k':20 < (cutN x i (runN nsg x.cps.toList i)).length:=by
      have:((cutN x i (runN nsg x.cps.toList i)).length:Int) > 20:=of_decide_eq_true k
      omega
    have hno:nameAt x i=none:=by unfold nameAt;rw [if_pos k']
    exact ⟨_,rfl,_,rfl,fun t dx ht hdx hne=>qe hno _ dx (bad_same ht hdx hne) upd_same⟩
  · have k':¬ 20 < (cutN x i (runN nsg x.cps.toList i)).length:=fun z=>k (decide_eq_true (by
      show ((cutN x i (runN nsg x.cps.toList i)).length:Int) > 20
      omega))
    have hsome:nameAt x i=some ((if kept (cutN x i (runN nsg x.cps.toList i))=true then "mark" else "name":Str),V.str (cutN x i (runN nsg x.cps.toList i)),runN nsg x.cps.toList i):=by unfold nameAt;rw [if_neg k']
    have q':=q _ _ _ hsome
    refine ⟨_,rfl,a.a_KEPT_WORDS,_,rfl,.inr (T.t_KEPT_WORDS H),rfl,rfl,_,rfl,?_⟩
    have ek:inV (.str (cutN x i (runN nsg x.cps.toList i))) (kw.map V.str)=kept (cutN x i (runN nsg x.cps.toList i)):=rfl
    refine ite2 (fun k2=>?_) (fun k2=>?_)
    · have k3:kept (cutN x i (runN nsg x.cps.toList i))=true:=k2
      rw [if_pos k3] at q'
      exact ⟨_,rfl,_,rfl,small (n:=3) (by decide),fun t ht=>q' t _ (same_new ht _) upd_same⟩
    · have k3:¬ kept (cutN x i (runN nsg x.cps.toList i))=true:=k2
      rw [if_neg k3] at q'
      exact ⟨_,rfl,_,rfl,small (n:=3) (by decide),fun t ht=>q' t _ (same_new ht _) upd_same⟩
theorem ok_number_at (T:Txt K mg a):FnOk P w K mg base (CX1 P w) 3 a.f_number_at a.d_number_at ["text","at"] (spSig numAt a.c_BadText):=by
  refine T.F_number_at.ok1 sc_number_at (fun vs H Q E h=>?_) (fun cdv A outer s H vs Q E hr h=>?_)
  · obtain ⟨_,_,rfl,_⟩:=h;rfl
  obtain ⟨x,i,rfl,hx,hi,qe,q⟩:=h
  refine ⟨_,(pss_cons (ps_set (i:=2) sc_number_at.nd rfl (by first | exact Or.inl rfl | exact Or.inr rfl) (pe_call (ok_end_of_run T) (hr.mono (by decide)) rfl T.m_end_of_run T.F_end_of_run.kp T.b_end_of_run .nil pass0 (pa_cons (pv 0) (pa_cons (pe_op op_add (pv 1) pe_int) (pa_cons (pe_glob rfl T.g_FIGURES.1 T.g_FIGURES.2) pa_nil))))) (pss_cons (ps_set (i:=3) sc_number_at.nd rfl (by first | exact Or.inl rfl | exact Or.inr rfl) (pe_call (ok_number_in T) (hr.mono (by decide)) rfl T.m_number_in T.F_number_in.kp T.b_number_in .nil pass0 (pa_cons (pe_slice sl_str (pv 0) (po_some (pv 1)) (po_some (pv 2))) pa_nil))) (pss_cons (ps_if (pt_cmpR op_isN (pv 3) pe_non (nomark _)) (pss_one (ps_raise T.x_BadText.made.choose_spec (ok_BadText__init T) T.x_BadText.tk (hr.mono (by decide)) T.x_BadText.bd rfl rfl T.m_BadText (pv 1))) pss_nil) (pss_one (ps_ret (pe_tup (pa_cons (pe_glob rfl T.g_NUMBER.1 T.g_NUMBER.2) (pa_cons (pv 3) (pa_cons (pv 2) pa_nil))))))))),?_⟩
  refine ⟨_,rfl,_,rfl,_,_,rfl,rfl,x,i+1,_,rfl,hx,?_⟩
  have er:inT "0123456789"=isFig:=funext fun c=>fig_in c
  rw [er]
  have sl:=slice_len x (some (i:Int)) (some ((runN isFig x.cps.toList (i+1):Nat):Int))
  refine ⟨_,rfl,_,rfl,_,rfl,_,rfl,_,rfl,x,rfl,big_line hx,_,rfl,Nat.le_trans sl hx,fun H1 g1=>?_⟩
  cases e:numV (cutN x i (runN isFig x.cps.toList (i+1))) with
  | none =>
    have hno:numAt x i=none:=by unfold numAt;rw [e]
    have e':numV (Txt.slice x (some (i:Int)) (some ((runN isFig x.cps.toList (i+1):Nat):Int)))=none:=e
    rw [e']
    exact ⟨_,rfl,rfl,_,rfl,iteT ⟨_,rfl,_,rfl,fun t dx ht hdx hne=>qe hno _ dx (g1.trans (bad_same ht hdx hne)) upd_same⟩⟩
  | some v =>
    have hsome:numAt x i=some (("number":Str),v,runN isFig x.cps.toList (i+1)):=by unfold numAt;rw [e]
    have e':numV (Txt.slice x (some (i:Int)) (some ((runN isFig x.cps.toList (i+1):Nat):Int)))=some v:=e
    rw [e']
    refine ⟨_,rfl,rfl,_,rfl,?_⟩
    refine ite2 (fun k=>absurd (of_decide_eq_true k) (numV_ne e)) (fun _=>?_)
    exact ⟨_,rfl,_,rfl,small (n:=3) (by decide),fun t ht=>q _ _ _ hsome t _ (g1.trans (same_new ht _)) upd_same⟩
theorem ok_word_at (T:Txt K mg a):FnOk P w K mg base (CX1 P w) 3 a.f_word_at a.d_word_at ["text","at"] (spSig wordAt a.c_BadText):=by
  refine T.F_word_at.ok1 sc_word_at (fun vs H Q E h=>?_) (fun cdv A outer s H vs Q E hr h=>?_)
  · obtain ⟨_,_,rfl,_⟩:=h;rfl
  obtain ⟨x,i,rfl,hx,hi,qe,q⟩:=h
  refine ⟨_,(pss_cons (ps_set (i:=2) sc_word_at.nd rfl (by first | exact Or.inl rfl | exact Or.inr rfl) (pe_bm PySem.F.plainAttrs_str PySem.F.slot_str_find PySem.F.type_str_find mt_find (pv 0) (pa_cons pe_str (pa_cons (pe_op op_add (pv 1) pe_int) pa_nil)))) (pss_cons (ps_set (i:=3) sc_word_at.nd rfl (by first | exact Or.inl rfl | exact Or.inr rfl) (pe_slice sl_str (pv 0) (po_some (pe_op op_add (pv 1) pe_int)) (po_some (pv 2)))) (pss_cons (ps_if (PW.pt (pw_or (pt_cmpR op_lt (pv 2) pe_int (nomark _)) (pw_or1 (pt_not (pt_val (pe_call (ok_is_word T) (hr.mono (by decide)) rfl T.m_is_word T.F_is_word.kp T.b_is_word .nil pass0 (pa_cons (pv 3) pa_nil))))))) (pss_one (ps_raise T.x_BadText.made.choose_spec (ok_BadText__init T) T.x_BadText.tk (hr.mono (by decide)) T.x_BadText.bd rfl rfl T.m_BadText (pv 1))) pss_nil) (pss_one (ps_ret (pe_tup (pa_cons (pe_glob rfl T.g_WORD.1 T.g_WORD.2) (pa_cons (pv 3) (pa_cons (pe_op op_add (pv 2) pe_int) pa_nil))))))))),?_⟩
  refine ⟨_,rfl,rfl,_,rfl,_,_,rfl,rfl,x,"'",_,rfl,rfl,?_⟩
  have sl:=slice_len x (some ((i:Int)+1)) (some (Txt.find3 x "'" ((i:Int)+1)))
  refine ⟨_,rfl,_,rfl,_,_,rfl,rfl,_,rfl,_,rfl,_,rfl,x,rfl,big_line hx,?_⟩
  have un:∀ {r},wordAt x i=r→(if Txt.find3 x "'" ((i:Int)+1) < 0 then none else if wordB (Txt.slice x (some ((i:Int)+1)) (some (Txt.find3 x "'" ((i:Int)+1))))=true then some (("word":Str),V.str (Txt.slice x (some ((i:Int)+1)) (some (Txt.find3 x "'" ((i:Int)+1)))),(Txt.find3 x "'" ((i:Int)+1)+1).toNat) else none)=r:=fun h=>h
  refine ⟨_,rfl,_,_,rfl,rfl,_,rfl,ite2 (fun k=>iteT ?_) (fun k=>?_)⟩
  · have k':Txt.find3 x "'" ((i:Int)+1) < 0:=of_decide_eq_true k
    have hno:wordAt x i=none:=by unfold wordAt;rw [if_pos k']
    exact ⟨_,rfl,_,rfl,fun t dx ht hdx hne=>qe hno _ dx (bad_same ht hdx hne) upd_same⟩
  · have k':¬ Txt.find3 x "'" ((i:Int)+1) < 0:=fun z=>k (decide_eq_true z)
    refine ⟨_,rfl,_,rfl,Nat.le_trans sl (big_line hx),fun H1 g1=>⟨_,rfl,?_⟩⟩
    cases e:wordB (Txt.slice x (some ((i:Int)+1)) (some (Txt.find3 x "'" ((i:Int)+1)))) with
    | false =>
      have hno:wordAt x i=none:=by unfold wordAt;rw [if_neg k',e];rfl
      exact iteT ⟨_,rfl,_,rfl,fun t dx ht hdx hne=>qe hno _ dx (g1.trans (bad_same ht hdx hne)) upd_same⟩
    | true =>
      have hsome:wordAt x i=some (("word":Str),V.str (Txt.slice x (some ((i:Int)+1)) (some (Txt.find3 x "'" ((i:Int)+1)))),(Txt.find3 x "'" ((i:Int)+1)+1).toNat):=by unfold wordAt;rw [if_neg k',e];rfl
      refine iteF ⟨_,rfl,_,rfl,_,_,rfl,rfl,small (n:=3) (by decide),fun t ht=>q _ _ _ hsome t _ (g1.trans (same_new ht _)) ?_⟩
      have en:(((Txt.find3 x "'" ((i:Int)+1)+1).toNat:Nat):Int)=Txt.find3 x "'" ((i:Int)+1)+1:=by omega
      rw [en];exact upd_same
theorem ok_mark_at (T:Txt K mg a):FnOk P w K mg base (CX1 P w) 3 a.f_mark_at a.d_mark_at ["text","at"] (spSig markAt a.c_BadText):=by
  refine T.F_mark_at.ok1 sc_mark_at (fun vs H Q E h=>?_) (fun cdv A outer s H vs Q E hr h=>?_)
  · obtain ⟨_,_,rfl,_⟩:=h;rfl
  obtain ⟨x,i,rfl,hx,hi,qe,q⟩:=h
  refine ⟨_,(pss_cons (ps_if (pt_cmpR op_in_seq (pe_slice sl_str (pv 0) (po_some (pv 1)) (po_some (pe_op op_add (pv 1) pe_int))) (pe_glob rfl T.g_LONG_MARKS.1 T.g_LONG_MARKS.2) (by with_unfolding_all rfl)) (pss_one (ps_ret (pe_tup (pa_cons (pe_glob rfl T.g_MARK.1 T.g_MARK.2) (pa_cons (pe_slice sl_str (pv 0) (po_some (pv 1)) (po_some (pe_op op_add (pv 1) pe_int))) (pa_cons (pe_op op_add (pv 1) pe_int) pa_nil)))))) pss_nil) (pss_cons (ps_if (pt_cmpR op_in_str (pe_ix ix_str (pv 0) (pv 1) (fun _ _=>rfl)) (pe_glob rfl T.g_SHORT_MARKS.1 T.g_SHORT_MARKS.2) (by with_unfolding_all rfl)) (pss_one (ps_ret (pe_tup (pa_cons (pe_glob rfl T.g_MARK.1 T.g_MARK.2) (pa_cons (pe_ix ix_str (pv 0) (pv 1) (fun _ _=>rfl)) (pa_cons (pe_op op_add (pv 1) pe_int) pa_nil)))))) pss_nil) (pss_one (ps_raise T.x_BadText.made.choose_spec (ok_BadText__init T) T.x_BadText.tk (hr.mono (by decide)) T.x_BadText.bd rfl rfl T.m_BadText (pv 1))))),?_⟩
  obtain ⟨c,hc,hat⟩:=at_c hi
  refine ⟨_,rfl,_,rfl,_,rfl,_,rfl,_,_,rfl,rfl,_,rfl,x,rfl,big_line hx,a.a_LONG_MARKS,_,rfl,.inr (T.t_LONG_MARKS H),rfl,rfl,_,rfl,ite2 (fun k=>?_) (fun k=>?_)⟩
  · have k':inV (.str (cutN x i (i+2))) (longS.map V.str)=true:=k
    have hsome:markAt x i=some (("mark":Str),V.str (cutN x i (i+2)),i+2):=by unfold markAt;rw [if_pos k']
    exact ⟨_,rfl,_,rfl,_,rfl,_,rfl,_,_,rfl,rfl,_,rfl,x,rfl,big_line hx,_,rfl,_,_,rfl,rfl,small (n:=3) (by decide),fun t ht=>q _ _ _ hsome t _ (same_new ht _) upd_same⟩
  · have k':¬ inV (.str (cutN x i (i+2))) (longS.map V.str)=true:=k
    refine ⟨_,rfl,_,rfl,x,_,c,rfl,rfl,big_line hx,hat,_,_,rfl,rfl,_,rfl,?_⟩
    rw [occ_in]
    cases e:inT "=<>+-*()|,@" c with
    | false =>
      have hno:markAt x i=none:=by unfold markAt;rw [if_neg k',hc];show (if inT "=<>+-*()|,@" c=true then _ else none)=none;rw [e];rfl
      exact iteF ⟨_,rfl,_,rfl,fun t dx ht hdx hne=>qe hno _ dx (bad_same ht hdx hne) upd_same⟩
    | true =>
      have hsome:markAt x i=some (("mark":Str),V.str ⟨#[c]⟩,i+1):=by unfold markAt;rw [if_neg k',hc];show (if inT "=<>+-*()|,@" c=true then some (("mark":Str),V.str ⟨#[c]⟩,i+1) else none)=_;rw [e];rfl
      exact iteT ⟨_,rfl,_,rfl,x,_,c,rfl,rfl,big_line hx,hat,_,rfl,_,_,rfl,rfl,small (n:=3) (by decide),fun t ht=>q _ _ _ hsome t _ (same_new ht _) upd_same⟩
end
end My
namespace My
open PySem L2
theorem posL_ge (d:Nat):∀ (w:List Nat) (i:Nat),∀ k ∈ posL d i w,i≤k
  | [],_,k,h=>by simp [posL] at h
  | c :: w,i,k,h=>by
    rw [posL] at h
    split at h
    · rcases List.mem_cons.mp h with e | h
      · omega
      · have:=posL_ge d w (i+1) k h;omega
    · have:=posL_ge d w (i+1) k h;omega
theorem occ_from {x y:Str} {d:Nat} (hy:y.cps.toList=[d]) (lo:Nat) (h:lo≤x.length):Builtin.Str.occurrences x y lo x.length 1=(posL d lo (x.cps.toList.drop lo)).take 1:=by
  rw [StrLaws.occ_eq]
  have z:=occ_walk (x:=x) hy 1 (x.length+1 - lo) lo ((#[]:Array Nat),lo) (by omega) (Nat.le_refl _) (Nat.zero_le _)
  refine Eq.trans z ?_
  simp
theorem find_q (x:Str) (i:Nat) (h:i≤x.length):Txt.find3 x "'" (i:Int)=match posL 39 i (x.cps.toList.drop i) with | k :: _=>(k:Int) | []=>-1:=by
  unfold Txt.find3
  have e:fromIndex x.length (i:Int)=i:=by unfold fromIndex;rw [if_neg (by omega)];omega
  rw [e,occ_from q_list i h]
  cases posL 39 i (x.cps.toList.drop i) <;> rfl
theorem find_ge (x:Str) (i:Nat) (h:i≤x.length) (h0:¬ Txt.find3 x "'" (i:Int) < 0):(i:Int)≤Txt.find3 x "'" (i:Int):=by
  rw [find_q x i h] at h0 ⊢
  cases e:posL 39 i (x.cps.toList.drop i) with
  | nil=>rw [e] at h0;exact absurd (show (-1:Int) < 0 by decide) h0
  | cons k r =>
    have:=posL_ge 39 _ i k (by rw [e];exact List.mem_cons_self)
    show (i:Int)≤(k:Int)
    omega
def figAt (x:Str) (i:Nat):Bool:=match x.cps.toList[i]? with | some c=>isFig c | none=>false
def sigAt (x:Str) (i:Nat):Option (Str × V × Nat) :=
  match x.cps.toList[i]? with
  | none=>none
  | some c=>if isLet c=true then nameAt x i else if c=39 then wordAt x i else if (isFig c || (c == 45&&figAt x (i+1)))=true then numAt x i else markAt x i
structure Tok where
  k:Str
  v:V
  p:Nat
def lexN:Nat→Str→Nat→Sum Nat (List Tok)
  | 0,x,_=>.inr [⟨"end",.str "",x.length⟩]
  | f + 1,x,i=>match x.cps.toList[i]? with
    | none=>.inr [⟨"end",.str "",x.length⟩]
    | some c=>if c=32 then lexN f x (i+1) else match sigAt x i with
      | none=>.inl i
      | some (k,v,e)=>match lexN f x e with
        | .inl p=>.inl p
        | .inr ts=>.inr (⟨k,v,i⟩ :: ts)
theorem sig_up {x:Str} {i:Nat} {k:Str} {v:V} {e:Nat} (hi:i < x.length) (h:sigAt x i=some (k,v,e)):i < e:=by
  obtain ⟨c,hc,_⟩:=at_c hi
  have l:=len_list x
  unfold sigAt at h
  rw [hc] at h
  dsimp only at h
  split at h
  · rename_i hl
    unfold nameAt at h
    split at h
    · cases h
    · have hn:nsg c=true:=by unfold nsg;rw [hl];rfl
      have:=runN_go (p:=nsg) hc hn
      have:=runN_ge nsg x.cps.toList (i+1)
      cases h
      omega
  · split at h
    · unfold wordAt at h
      dsimp only at h
      split at h
      · cases h
      · split at h
        · rename_i h0 _
          have:=find_ge x (i+1) (by omega) h0
          have e1:(((i+1:Nat)):Int)=(i:Int)+1:=by omega
          rw [e1] at this
          cases h
          omega
        · cases h
    · split at h
      · unfold numAt at h
        split at h
        · cases h
        · have:=runN_ge isFig x.cps.toList (i+1)
          cases h
          omega
      · unfold markAt at h
        split at h
        · cases h;omega
        · rw [hc] at h
          dsimp only at h
          split at h
          · cases h;omega
          · cases h
def TokAt (H:Hp) (v:V) (t:Tok):Prop:=∃ p,v=.ref p∧H p=some (.tup [.str t.k,t.v,.int (t.p:Int)])
section
variable {P:Program} {w:World} {K:PySem.W.Frag} {mg:Str→Option Value} {base:Heap} {a:Adr}
theorem ok_sign_at (T:Txt K mg a):FnOk P w K mg base (CX1 P w) 4 a.f_sign_at a.d_sign_at ["text","at"] (spSig sigAt a.c_BadText):=by
  refine T.F_sign_at.ok1 sc_sign_at (fun vs H Q E h=>?_) (fun cdv A outer s H vs Q E hr h=>?_)
  · obtain ⟨_,_,rfl,_⟩:=h;rfl
  obtain ⟨x,i,rfl,hx,hi,qe,q⟩:=h
  refine ⟨_,(pss_cons (ps_if (pt_cmpR op_in_str (pe_ix ix_str (pv 0) (pv 1) (fun _ _=>rfl)) (pe_glob rfl T.g_LETTERS.1 T.g_LETTERS.2) (by with_unfolding_all rfl)) (pss_one (ps_ret (pe_call (ok_name_at T) (hr.mono (by decide)) rfl T.m_name_at T.F_name_at.kp T.b_name_at .nil pass1 (pa_cons (pv 0) (pa_cons (pv 1) pa_nil))))) pss_nil) (pss_cons (ps_if (pt_cmpR op_eq (pe_ix ix_str (pv 0) (pv 1) (fun _ _=>rfl)) pe_str (nomark _)) (pss_one (ps_ret (pe_call (ok_word_at T) (hr.mono (by decide)) rfl T.m_word_at T.F_word_at.kp T.b_word_at .nil pass1 (pa_cons (pv 0) (pa_cons (pv 1) pa_nil))))) pss_nil) (pss_cons (ps_if (PW.pt (pw_or (pt_val (pe_call (ok_is_figure_at T) (hr.mono (by decide)) rfl T.m_is_figure_at T.F_is_figure_at.kp T.b_is_figure_at .nil pass0 (pa_cons (pv 0) (pa_cons (pv 1) pa_nil)))) (pw_or1 (PW.pt (pw_and (pt_cmpR op_eq (pe_ix ix_str (pv 0) (pv 1) (fun _ _=>rfl)) pe_str (nomark _)) (pw_and1 (pt_val (pe_call (ok_is_figure_at T) (hr.mono (by decide)) rfl T.m_is_figure_at T.F_is_figure_at.kp T.b_is_figure_at .nil pass0 (pa_cons (pv 0) (pa_cons (pe_op op_add (pv 1) pe_int) pa_nil)))))))))) (pss_one (ps_ret (pe_call (ok_number_at T) (hr.mono (by decide)) rfl T.m_number_at T.F_number_at.kp T.b_number_at .nil pass1 (pa_cons (pv 0) (pa_cons (pv 1) pa_nil))))) pss_nil) (pss_one (ps_ret (pe_call (ok_mark_at T) (hr.mono (by decide)) rfl T.m_mark_at T.F_mark_at.kp T.b_mark_at .nil pass1 (pa_cons (pv 0) (pa_cons (pv 1) pa_nil)))))))),?_⟩
  obtain ⟨c,hc,hat⟩:=at_c hi
  have sub:∀ f:Str→Nat→Option (Str × V × Nat),sigAt x i=f x i→spSig f a.c_BadText [.str x,.int (i:Int)] H Q E:=fun f e=>⟨x,i,rfl,hx,hi,fun h=>qe (e.trans h),fun k v e' h=>q k v e' (e.trans h)⟩
  refine ⟨_,rfl,_,rfl,x,_,c,rfl,rfl,big_line hx,hat,_,_,rfl,rfl,_,rfl,?_⟩
  rw [occ_in,show inT "abcdefghijklmnopqrstuvwxyz" c=isLet c from let_in c]
  refine ite2 (fun k=>?_) (fun k=>?_)
  · exact ⟨_,rfl,_,rfl,sub nameAt (by unfold sigAt;rw [hc];exact if_pos k)⟩
  refine ⟨_,rfl,_,rfl,x,_,c,rfl,rfl,big_line hx,hat,rfl,_,rfl,?_⟩
  rw [show decide (V.str ⟨#[c]⟩=V.str "'")=(c == 39) from one_is q_list]
  refine ite2 (fun k2=>?_) (fun k2=>?_)
  · have k2':c=39:=by simpa using k2
    exact ⟨_,rfl,_,rfl,sub wordAt (by unfold sigAt;rw [hc];show (if isLet c=true then nameAt x i else if c=39 then wordAt x i else _)=_;rw [if_neg k,if_pos k2'])⟩
  have k2':¬ c=39:=fun z=>k2 (by simp [z])
  have hnum:(isFig c || (c == 45&&figAt x (i+1)))=true→sigAt x i=numAt x i:=fun z=>by
    unfold sigAt;rw [hc]
    show (if isLet c=true then nameAt x i else if c=39 then wordAt x i else if (isFig c || (c == 45&&figAt x (i+1)))=true then numAt x i else markAt x i)=_
    rw [if_neg k,if_neg k2',if_pos z]
  have hmark:(isFig c || (c == 45&&figAt x (i+1)))=false→sigAt x i=markAt x i:=fun z=>by
    unfold sigAt;rw [hc]
    show (if isLet c=true then nameAt x i else if c=39 then wordAt x i else if (isFig c || (c == 45&&figAt x (i+1)))=true then numAt x i else markAt x i)=_
    rw [if_neg k,if_neg k2',z];rfl
  refine ⟨_,rfl,_,rfl,x,i,rfl,hx,?_⟩
  rw [hc]
  refine ⟨_,rfl,ite2 (fun k3=>iteT ?_) (fun k3=>?_)⟩
  · exact ⟨_,rfl,_,rfl,sub numAt (hnum (by rw [show isFig c=true from k3];rfl))⟩
  have k3':isFig c=false:=by simpa using k3
  refine ⟨_,rfl,_,rfl,x,_,c,rfl,rfl,big_line hx,hat,rfl,_,rfl,?_⟩
  rw [show decide (V.str ⟨#[c]⟩=V.str "-")=(c == 45) from one_is m_list]
  refine ite2 (fun k4=>?_) (fun k4=>?_)
  · refine ⟨_,rfl,_,rfl,_,_,rfl,rfl,x,i+1,rfl,hx,_,rfl,?_⟩
    refine ite2 (fun k5=>?_) (fun k5=>?_)
    · have k6:figAt x (i+1)=true:=k5
      exact ⟨_,rfl,_,rfl,sub numAt (hnum (by rw [k3',k4,k6];rfl))⟩
    · have k6:¬ figAt x (i+1)=true:=k5
      exact ⟨_,rfl,_,rfl,sub markAt (hmark (by rw [k3',k4,Bool.eq_false_iff.mpr k6];rfl))⟩
  · exact iteF ⟨_,rfl,_,rfl,sub markAt (hmark (by rw [k3',Bool.eq_false_iff.mpr k4];rfl))⟩
def lexR (f:Nat) (x:Str) (i:Nat) (done:List Tok):Sum Nat (List Tok):=match lexN f x i with
  | .inl p=>.inl p
  | .inr ts=>.inr (done++ts)
def spSigns (C:Addr):Sp:=fun vs H Q E=>∃ x:Str,vs=[.str x]∧x.length≤10000 ∧
  (∀ p,lexN (x.length+1) x 0=.inl p→∀ H' dx,Same H H'→H' dx=some (.xd [("at",.int (p:Int))])→E (.ref C) (some dx) H') ∧
  (∀ ts,lexN (x.length+1) x 0=.inr ts→∀ l xs H',H l=none→Same H H'→H' l=some (.lst xs)→Paired (TokAt H') xs ts→Q (.ref l) H')
theorem ok_signs_in (T:Txt K mg a):FnOk P w K mg base (CX1 P w) 5 a.f_signs_in a.d_signs_in ["text"] (spSigns a.c_BadText):=by
  refine T.F_signs_in.ok1 sc_signs_in (fun vs H Q E h=>?_) (fun cdv A outer s H vs Q E hr h=>?_)
  · obtain ⟨_,rfl,_⟩:=h;rfl
  obtain ⟨x,rfl,hx,qe,q⟩:=h
  have hx':x.length≤big:=Nat.le_trans hx (by decide)
  have lx:=len_list x
  refine ⟨_,(pss_cons (ps_set (i:=1) sc_signs_in.nd rfl (by first | exact Or.inl rfl | exact Or.inr rfl) (pe_lst pa_nil)) (pss_cons (ps_set (i:=2) sc_signs_in.nd rfl (by first | exact Or.inl rfl | exact Or.inr rfl) pe_int) (pss_cons (ps_while PassesOwn.leaving (pt_cmpR op_lt (pv 2) (pe_callB call_len_str rfl T.n_len PySem.boot_len (pa_cons (pv 0) pa_nil)) (nomark _)) (pss_one (ps_if (pt_cmpR op_eq (pe_ix ix_str (pv 0) (pv 2) (fun _ _=>rfl)) pe_str (nomark _)) (pss_one (ps_aug (i:=2) sc_signs_in.nd rfl (by first | exact Or.inl rfl | exact Or.inr rfl) pe_int ip_add)) (pss_cons (ps_asg (pe_call (ok_sign_at T) (hr.mono (by decide)) rfl T.m_sign_at T.F_sign_at.kp T.b_sign_at .nil pass1 (pa_cons (pv 0) (pa_cons (pv 2) pa_nil))) (pg_tup (n:=3) rfl (pgs_cons (pg_name (i:=3) sc_signs_in.nd rfl (by first | exact Or.inl rfl | exact Or.inr rfl)) (pgs_cons (pg_name (i:=4) sc_signs_in.nd rfl (by first | exact Or.inl rfl | exact Or.inr rfl)) (pgs_cons (pg_name (i:=5) sc_signs_in.nd rfl (by first | exact Or.inl rfl | exact Or.inr rfl)) pgs_nil))))) (pss_cons (ps_expr (pe_bm PySem.F.plainAttrs_list PySem.F.slot_list_append PySem.F.type_list_append mt_append (pv 1) (pa_cons (pe_tup (pa_cons (pv 3) (pa_cons (pv 4) (pa_cons (pv 2) pa_nil)))) pa_nil))) (pss_one (ps_set (i:=2) sc_signs_in.nd rfl (by first | exact Or.inl rfl | exact Or.inr rfl) (pv 5)))))))) (pss_cons (ps_expr (pe_bm PySem.F.plainAttrs_list PySem.F.slot_list_append PySem.F.type_list_append mt_append (pv 1) (pa_cons (pe_tup (pa_cons (pe_glob rfl T.g_END.1 T.g_END.2) (pa_cons pe_str (pa_cons (pe_callB call_len_str rfl T.n_len PySem.boot_len (pa_cons (pv 0) pa_nil)) pa_nil)))) pa_nil))) (pss_one (ps_ret (pv 1))))))),?_⟩
  refine ⟨small (n:=0) (by decide),fun l hl=>?_⟩
  have gl:=same_new hl (.lst [])
  refine while_by (fun σ H'=>∃ (i f:Nat) (done:List Tok) (xs:List V) (s3 s4 s5:Option V),σ=[some (.str x),some (.ref l),some (.int (i:Int)),s3,s4,s5]∧Same H H'∧H' l=some (.lst xs)∧Paired (TokAt H') xs done∧done.length≤i∧done.length≤x.length∧x.length+1≤f+i∧lexR f x i done=lexN (x.length+1) x 0)
    (fun σ _=>match σ with | [_,_,some (.int i),_,_,_]=>x.length - i.toNat | _=>0) ⟨0,x.length+1,[],[],_,_,_,rfl,gl,upd_same,.nil,Nat.le_refl _,Nat.zero_le _,by omega,?_⟩ (fun σ H' hP=>?_) (fun σ H' Q Q' hQ h=>?_)
  · unfold lexR
    cases lexN (x.length+1) x 0 <;> rfl
  · obtain ⟨i, f,done,xs,s3,s4,s5,rfl,g,hl',hxs,ld,ld2,lf,hR⟩:=hP
    have lxs:=hxs.length
    refine ⟨_,rfl,_,rfl,_,rfl,big_line hx',_,_,rfl,rfl,_,rfl,ite2 (fun k=>?_) (fun k=>?_)⟩
    · have k' : i < x.length:=by have:(i:Int) < (x.length:Int):=of_decide_eq_true k;omega
      obtain ⟨c,hc,hat⟩:=at_c k'
      obtain ⟨f,rfl⟩:∃ f',f=f'+1:=⟨f - 1,by omega⟩
      refine ⟨_,rfl,_,rfl,x,_,c,rfl,rfl,big_line hx',hat,rfl,_,rfl,?_⟩
      rw [show decide (V.str ⟨#[c]⟩=V.str " ")=(c == 32) from one_is (show (" ":Str).cps.toList=[32] by decide +kernel)]
      refine ite2 (fun k2=>?_) (fun k2=>?_)
      · have k2':c=32:=by simpa using k2
        refine ⟨_,rfl,_,_,rfl,rfl,⟨i+1,f,done,xs,_,_,_,rfl,g,hl',hxs,by omega,ld2,by omega,?_⟩,?_⟩
        · rw [← hR]
          unfold lexR
          have:lexN (f+1) x i=lexN f x (i+1):=by
            show (match x.cps.toList[i]? with | none=>_ | some c=>if c=32 then lexN f x (i+1) else _)=_
            rw [hc];exact if_pos k2'
          rw [this]
        · show x.length - ((i:Int)+1).toNat < x.length - (i:Int).toNat
          omega
      · have k2':¬ c=32:=fun z=>k2 (by simp [z])
        have hstep:lexN (f+1) x i=match sigAt x i with
            | none=>.inl i
            | some (k,v,e)=>match lexN f x e with
              | .inl p=>.inl p
              | .inr ts=>.inr (⟨k,v,i⟩ :: ts):=by
          show (match x.cps.toList[i]? with | none=>_ | some c=>if c=32 then lexN f x (i+1) else match sigAt x i with | none=>.inl i | some (k,v,e)=>match lexN f x e with | .inl p=>.inl p | .inr ts=>.inr (⟨k,v,i⟩ :: ts))=_
          rw [hc];exact if_neg k2'
        refine ⟨_,rfl,_,rfl,x,i,rfl,hx',k',fun hno H1 dx g1 hdx=>?_,fun kd v e hsig t H1 g1 ht=>?_⟩
        · refine qe i ?_ H1 dx (g.trans g1) hdx
          rw [← hR];unfold lexR;rw [hstep,hno]
        · have hup:=sig_up k' hsig
          refine ⟨t,_,rfl,SqT.of ht,rfl,_,_,rfl,_,_,rfl,_,_,rfl,rfl,?_⟩
          refine ⟨_,rfl,.inl ⟨rfl,_,SqL.of (g1 _ _ hl')⟩,_,rfl,_,rfl,_,rfl,small (n:=3) (by decide),fun t2 ht2=>?_⟩
          have g2:=same_new ht2 (.tup [.str kd,v,.int (i:Int)])
          have hl2:=g2 _ _ (g1 _ _ hl')
          refine ⟨l,xs,.ref t2,rfl,rfl,hl2,(by rw [sizeLine_eq];omega),?_⟩
          refine ⟨_,rfl,⟨e,f,done++[⟨kd,v,i⟩],xs++[.ref t2],_,_,_,rfl,same_upd (g.trans (g1.trans g2)) hl,upd_same,?_,by rw [List.length_append,List.length_singleton];omega,by rw [List.length_append,List.length_singleton];omega,by omega,?_⟩,?_⟩
          · have kp:∀ b ys,upd H1 t2 (.tup [.str kd,v,.int (i:Int)]) b=some (.tup ys)→upd (upd H1 t2 (.tup [.str kd,v,.int (i:Int)])) l (.lst (xs++[.ref t2])) b=some (.tup ys):=fun b ys e=>by rw [upd_ne (ne_of e hl2 fun z=>nomatch z)];exact e
            refine Paired.snoc (Paired.mapP hxs fun _ _ z=>?_) ⟨t2,rfl,kp _ _ upd_same⟩
            obtain ⟨p,e1,e2⟩:=z
            exact ⟨p,e1,kp _ _ (g2 _ _ (g1 _ _ e2))⟩
          · rw [← hR]
            have h2:lexN (f+1) x i=match lexN f x e with
              | .inl p=>.inl p
              | .inr ts=>.inr (⟨kd,v,i⟩ :: ts):=by rw [hstep,hsig]
            unfold lexR
            rw [h2]
            cases lexN f x e <;> simp [List.append_assoc]
          · show x.length - (e:Int).toNat < x.length - (i:Int).toNat
            omega
    · have k':x.length≤i:=by
        have:¬ (i:Int) < (x.length:Int):=fun z=>k (decide_eq_true z)
        omega
      have hend:lexN f x i=.inr [⟨"end",.str "",x.length⟩]:=by
        cases f with
        | zero=>rfl
        | succ f =>
          show (match x.cps.toList[i]? with | none=>_ | some c=>_)=_
          rw [List.getElem?_eq_none (by omega)]
      have hfin:lexN (x.length+1) x 0=.inr (done++[⟨"end",.str "",x.length⟩]):=by
        rw [← hR];unfold lexR;rw [hend]
      refine ⟨_,rfl,.inl ⟨rfl,_,SqL.of hl'⟩,_,rfl,_,rfl,big_line hx',small (n:=3) (by decide),fun t2 ht2=>?_⟩
      have g2:=same_new ht2 (.tup [.str "end",.str "",.int (x.length:Int)])
      have hl2:=g2 _ _ hl'
      have kp:∀ b ys,upd H' t2 (.tup [.str "end",.str "",.int (x.length:Int)]) b=some (.tup ys)→upd (upd H' t2 (.tup [.str "end",.str "",.int (x.length:Int)])) l (.lst (xs++[.ref t2])) b=some (.tup ys):=fun b ys e=>by rw [upd_ne (ne_of e hl2 fun z=>nomatch z)];exact e
      refine ⟨l,xs,.ref t2,rfl,rfl,hl2,(by rw [sizeLine_eq];omega),_,rfl,?_⟩
      refine q _ hfin l (xs++[.ref t2]) _ hl (same_upd (g.trans g2) hl) upd_same (Paired.snoc (Paired.mapP hxs fun _ _ z=>?_) ⟨t2,rfl,kp _ _ upd_same⟩)
      obtain ⟨p,e1,e2⟩:=z
      exact ⟨p,e1,kp _ _ (g2 _ _ e2)⟩
  · obtain ⟨v1,e1,v2,e2,y,e3,h3,i,j,e4,e5,k,e6,h⟩:=h
    exact ⟨v1,e1,v2,e2,y,e3,h3,i,j,e4,e5,k,e6,hQ _ _ h⟩
end
end My
namespace My
open PySem L2
theorem rdk:¬ (("signs":Str)="passed"):=by decide +kernel
def rf (l:Addr) (i:Int):List (Str × V):=putF "passed" (.int i) (putF "signs" (.ref l) [])
theorem rf_eq (l:Addr) (i:Int):rf l i=([("signs",V.ref l),("passed",V.int i)]:List (Str × V)):=by
  show (if ("signs":Str)="passed" then [(("signs":Str),V.int i)] else (("signs":Str),V.ref l) :: putF "passed" (V.int i) [])=_
  rw [if_neg rdk]
  all_goals rfl
theorem rf_signs (l:Addr) (i:Int):(rf l i).lookup ("signs":Str)=some (.ref l):=by
  unfold rf
  rw [lookup_putF,if_neg rdk,lookup_putF,if_pos rfl]
theorem rf_passed (l:Addr) (i:Int):(rf l i).lookup ("passed":Str)=some (.int i):=by
  unfold rf
  rw [lookup_putF,if_pos rfl]
theorem rf_no (l:Addr) (i:Int) {m:Str} (h1:¬ m="passed") (h2:¬ m="signs"):(rf l i).lookup m=none:=by
  unfold rf
  rw [lookup_putF,if_neg h1,lookup_putF,if_neg h2]
  all_goals rfl
theorem rf_put (l:Addr) (i j:Int):putF "passed" (.int j) (rf l i)=rf l j:=by
  rw [rf_eq,rf_eq]
  show (if ("signs":Str)="passed" then _ else (("signs":Str),V.ref l) :: (if ("passed":Str)="passed" then [(("passed":Str),V.int j)] else _))=([("signs",V.ref l),("passed",V.int j)]:List (Str × V))
  rw [if_neg rdk,if_pos rfl]
structure RdAt (C:Addr) (H:Hp) (r:Addr) (toks:List Tok) (i:Nat):Prop where
  ob:∃ dx l xs,H r=some (.ins C dx (rf l (i:Int)))∧H l=some (.lst xs)∧Paired (TokAt H) xs toks
def SameR (r:Addr) (H H':Hp):Prop:=∀ b o,b≠r→H b=some o→H' b=some o
theorem RdAt.same {C r:Addr} {H H':Hp} {toks:List Tok} {i:Nat} (h:RdAt C H r toks i) (g:Same H H'):RdAt C H' r toks i:=by
  obtain ⟨dx,l,xs,h1,h2,h3⟩:=h.ob
  exact ⟨dx,l,xs,g _ _ h1,g _ _ h2,Paired.mapP h3 fun _ _ z=>let ⟨p,e,q⟩:=z;⟨p,e,g _ _ q⟩⟩
theorem pair_at {α β:Type} {R:α→β→Prop}:∀ {xs:List α} {ys:List β} {i:Nat} {y:β},Paired R xs ys→ys[i]?=some y→∃ x,xs[i]?=some x∧R x y
  | _,_,0,_,.cons (a:=x) h _,e=>by cases e;exact ⟨x,rfl,h⟩
  | _,_,i+1,_,.cons _ t,e=>pair_at (i:=i) t (by simpa using e)
  | _,_,_,_,.nil,e=>by simp at e
section
variable {P:Program} {w:World} {K:PySem.W.Frag} {mg:Str→Option Value} {base:Heap} {a:Adr}
def spPlace (C:Addr):Sp:=fun vs H Q _=>∃ r toks i t,vs=[.ref r]∧RdAt C H r toks i∧toks[i]?=some t∧Q (.int (t.p:Int)) H
theorem ok_Reader__place (T:Txt K mg a):FnOk P w K mg base CX0 1 a.f_Reader__place a.d_Reader__place ["self"] (spPlace a.c_Reader):=by
  refine T.F_Reader__place.ok sc_Reader__place (fun vs H Q E h=>?_) (fun cdv A outer s H vs Q E hr h=>?_)
  · obtain ⟨_,_,_,_,rfl,_⟩:=h;rfl
  obtain ⟨r,toks,i,t,rfl,hR,ht,q⟩:=h
  obtain ⟨dx,l,xs,h1,h2,h3⟩:=hR.ob
  obtain ⟨x,hx,p,rfl,hp⟩:=pair_at h3 ht
  refine ⟨_,(pss_one (ps_ret (pe_ix ix_tup (pe_ix ix_list (pe_fld (pv 0) rfl) (pe_fld (pv 0) rfl) (fun _ _=>rfl)) pe_int (fun _ _=>rfl)))),?_⟩
  exact ⟨_,rfl,r,a.c_Reader,dx,_,_,rfl,h1,T.cl_Reader,T.no_Reader_signs,rf_signs _ _,_,rfl,r,a.c_Reader,dx,_,_,rfl,h1,T.cl_Reader,T.no_Reader_passed,rf_passed _ _,l,xs,_,_,rfl,rfl,SqL.of h2,atI_nat hx,p,_,_,_,rfl,rfl,SqT.of hp,atI_nat (j:=2) rfl,q⟩
def spSees (C:Addr):Sp:=fun vs H Q _=>∃ r toks i t kd,vs=[.ref r,.str kd]∧RdAt C H r toks i∧toks[i]?=some t∧Q (.bl (decide (V.str t.k=V.str kd))) H
theorem ok_Reader__sees (T:Txt K mg a):FnOk P w K mg base CX0 1 a.f_Reader__sees a.d_Reader__sees ["self","kind"] (spSees a.c_Reader):=by
  refine T.F_Reader__sees.ok sc_Reader__sees (fun vs H Q E h=>?_) (fun cdv A outer s H vs Q E hr h=>?_)
  · obtain ⟨_,_,_,_,_,rfl,_⟩:=h;rfl
  obtain ⟨r,toks,i,t,kd,rfl,hR,ht,q⟩:=h
  obtain ⟨dx,l,xs,h1,h2,h3⟩:=hR.ob
  obtain ⟨x,hx,p,rfl,hp⟩:=pair_at h3 ht
  refine ⟨_,(pss_one (ps_ret (pe_cmpR op_eq (pe_ix ix_tup (pe_ix ix_list (pe_fld (pv 0) rfl) (pe_fld (pv 0) rfl) (fun _ _=>rfl)) pe_int (fun _ _=>rfl)) (pv 1) (nomark _)))),?_⟩
  exact ⟨_,rfl,r,a.c_Reader,dx,_,_,rfl,h1,T.cl_Reader,T.no_Reader_signs,rf_signs _ _,_,rfl,r,a.c_Reader,dx,_,_,rfl,h1,T.cl_Reader,T.no_Reader_passed,rf_passed _ _,l,xs,_,_,rfl,rfl,SqL.of h2,atI_nat hx,p,_,_,_,rfl,rfl,SqT.of hp,atI_nat (j:=0) rfl,_,rfl,rfl,q⟩
def spSees1 (K:PySem.W.Frag) (C:Addr):Sp:=fun vs H Q _=>∃ r toks i t kd u ss,vs=[.ref r,.str kd,.ref u]∧RdAt C H r toks i∧toks[i]?=some t∧flatV t.v=true∧SqT K H u (List.map V.str ss)∧Q (.bl (decide (V.str t.k=V.str kd)&&inV t.v (List.map V.str ss))) H
theorem flat_s (ns:List Str):(ns.map V.str).all flatV=true:=by
  rw [List.all_eq_true]
  intro x hx
  obtain ⟨s,_,rfl⟩:=List.mem_map.mp hx
  rfl
theorem ok_Reader__sees_one (T:Txt K mg a):FnOk P w K mg base CX0 2 a.f_Reader__sees_one a.d_Reader__sees_one ["self","kind","things"] (spSees1 K a.c_Reader):=by
  refine T.F_Reader__sees_one.ok sc_Reader__sees_one (fun vs H Q E h=>?_) (fun cdv A outer s H vs Q E hr h=>?_)
  · obtain ⟨_,_,_,_,_,_,_,rfl,_⟩:=h;rfl
  obtain ⟨r,toks,i,t,kd,u,ss,rfl,hR,ht,hf,hu,q⟩:=h
  obtain ⟨dx,l,xs,h1,h2,h3⟩:=hR.ob
  obtain ⟨x,hx,p,rfl,hp⟩:=pair_at h3 ht
  refine ⟨_,(pss_one (ps_ret (pe_and (pe_meth (pv 0) T.cl_Reader T.me_Reader__sees (ok_Reader__sees T) (hr.mono (by decide)) T.b_Reader__sees .nil pass0 (pa_cons (pv 1) pa_nil)) (pe_one (pe_cmpR op_in_seq (pe_ix ix_tup (pe_ix ix_list (pe_fld (pv 0) rfl) (pe_fld (pv 0) rfl) (fun _ _=>rfl)) pe_int (fun _ _=>rfl)) (pv 2) (by with_unfolding_all rfl)))))),?_⟩
  refine ⟨_,rfl,r,dx,_,rfl,h1,rf_no _ _ (by decide +kernel) (by decide +kernel),_,rfl,r,toks,i,t,kd,rfl,hR,ht,_,rfl,?_⟩
  cases e:decide (V.str t.k=V.str kd) with
  | false=>rw [e] at q;exact q
  | true =>
    rw [e,Bool.true_and] at q
    exact ⟨_,rfl,r,a.c_Reader,dx,_,_,rfl,h1,T.cl_Reader,T.no_Reader_signs,rf_signs _ _,_,rfl,r,a.c_Reader,dx,_,_,rfl,h1,T.cl_Reader,T.no_Reader_passed,rf_passed _ _,l,xs,_,_,rfl,rfl,SqL.of h2,atI_nat hx,p,_,_,_,rfl,rfl,SqT.of hp,atI_nat (j:=1) rfl,_,rfl,u,_,rfl,.inr hu,hf,flat_s ss,q⟩
def spTakeT (C:Addr):Sp:=fun vs H Q _=>∃ r toks i t,vs=[.ref r]∧RdAt C H r toks i∧toks[i]?=some t∧∀ H',RdAt C H' r toks (i+1)→SameR r H H'→Q t.v H'
theorem ok_Reader__take (T:Txt K mg a):FnOk P w K mg base CX0 1 a.f_Reader__take a.d_Reader__take ["self"] (spTakeT a.c_Reader):=by
  refine T.F_Reader__take.ok sc_Reader__take (fun vs H Q E h=>?_) (fun cdv A outer s H vs Q E hr h=>?_)
  · obtain ⟨_,_,_,_,rfl,_⟩:=h;rfl
  obtain ⟨r,toks,i,t,rfl,hR,ht,q⟩:=h
  obtain ⟨dx,l,xs,h1,h2,h3⟩:=hR.ob
  obtain ⟨x,hx,p,rfl,hp⟩:=pair_at h3 ht
  refine ⟨_,(pss_cons (ps_set (i:=1) sc_Reader__take.nd rfl (by first | exact Or.inl rfl | exact Or.inr rfl) (pe_ix ix_tup (pe_ix ix_list (pe_fld (pv 0) rfl) (pe_fld (pv 0) rfl) (fun _ _=>rfl)) pe_int (fun _ _=>rfl))) (pss_cons (ps_fldaug (pv 0) pe_int in_add) (pss_one (ps_ret (pv 1))))),?_⟩
  refine ⟨_,rfl,r,a.c_Reader,dx,_,_,rfl,h1,T.cl_Reader,T.no_Reader_signs,rf_signs _ _,_,rfl,r,a.c_Reader,dx,_,_,rfl,h1,T.cl_Reader,T.no_Reader_passed,rf_passed _ _,l,xs,_,_,rfl,rfl,SqL.of h2,atI_nat hx,p,_,_,_,rfl,rfl,SqT.of hp,atI_nat (j:=1) rfl,?_⟩
  refine ⟨_,rfl,r,a.c_Reader,dx,_,_,rfl,h1,T.cl_Reader,T.no_Reader_passed,rf_passed _ _,?_⟩
  refine ⟨_,_,rfl,rfl,dx,_,h1,(by rw [rf_eq];show 2 < 1000;decide),_,rfl,?_⟩
  have e1:putF "passed" (.int ((i:Int)+1)) (rf l (i:Int))=rf l (((i+1:Nat)):Int):=rf_put _ _ _
  refine q _ ⟨dx,l,xs,Eq.trans upd_same (congrArg (fun z=>some (HO.ins a.c_Reader dx z)) e1),by rw [upd_ne (ne_of h2 h1 fun z=>nomatch z)];exact h2,Paired.mapP h3 fun _ _ z=>?_⟩ fun b o hb e=>by rw [upd_ne hb];exact e
  obtain ⟨p2,e2,q2⟩:=z
  exact ⟨p2,e2,by rw [upd_ne (ne_of q2 h1 fun z=>nomatch z)];exact q2⟩
def spTakeK (C EC:Addr):Sp:=fun vs H Q E=>∃ r toks i t kd,vs=[.ref r,.str kd]∧RdAt C H r toks i∧toks[i]?=some t ∧
  (t.k≠kd→∀ H' dx,Same H H'→H' dx=some (.xd [("at",.int (t.p:Int))])→E (.ref EC) (some dx) H') ∧
  (t.k=kd→∀ H',RdAt C H' r toks (i+1)→SameR r H H'→Q t.v H')
theorem ok_Reader__take_kind (T:Txt K mg a):FnOk P w K mg base (CX1 P w) 3 a.f_Reader__take_kind a.d_Reader__take_kind ["self","kind"] (spTakeK a.c_Reader a.c_BadText):=by
  refine T.F_Reader__take_kind.ok1 sc_Reader__take_kind (fun vs H Q E h=>?_) (fun cdv A outer s H vs Q E hr h=>?_)
  · obtain ⟨_,_,_,_,_,rfl,_⟩:=h;rfl
  obtain ⟨r,toks,i,t,kd,rfl,hR,ht,qe,q⟩:=h
  obtain ⟨dx,l,xs,h1,h2,h3⟩:=hR.ob
  refine ⟨_,(pss_cons (ps_if (pt_not (pt_truth (pe_meth (pv 0) T.cl_Reader T.me_Reader__sees (ok_Reader__sees T) (hr.mono (by decide)) T.b_Reader__sees .nil pass0 (pa_cons (pv 1) pa_nil)) (fun _=>rfl))) (pss_one (ps_raise T.x_BadText.made.choose_spec (ok_BadText__init T) T.x_BadText.tk (hr.mono (by decide)) T.x_BadText.bd rfl rfl T.m_BadText (pe_meth0 (pv 0) T.cl_Reader T.me_Reader__place (ok_Reader__place T) (hr.mono (by decide)) T.b_Reader__place .nil pass0))) pss_nil) (pss_one (ps_ret (pe_meth0 (pv 0) T.cl_Reader T.me_Reader__take (ok_Reader__take T) (hr.mono (by decide)) T.b_Reader__take .nil pass0)))),?_⟩
  refine ⟨_,rfl,r,dx,_,rfl,h1,rf_no _ _ (by decide +kernel) (by decide +kernel),_,rfl,r,toks,i,t,kd,rfl,hR,ht,_,rfl,?_⟩
  by_cases e:t.k=kd
  · rw [show decide (V.str t.k=V.str kd)=true from decide_eq_true (by rw [e])]
    exact iteF ⟨_,rfl,r,dx,_,rfl,h1,rf_no _ _ (by decide +kernel) (by decide +kernel),r,toks,i,t,rfl,hR,ht,q e⟩
  · rw [show decide (V.str t.k=V.str kd)=false from decide_eq_false (fun z=>e (by injection z))]
    exact iteT ⟨_,rfl,r,dx,_,rfl,h1,rf_no _ _ (by decide +kernel) (by decide +kernel),r,toks,i,t,rfl,hR,ht,_,rfl,fun t2 dx2 ht2 hdx hne=>qe e _ dx2 (bad_same ht2 hdx hne) upd_same⟩
def one1 (t:Tok) (kd:Str) (ss:List Str):Bool:=decide (V.str t.k=V.str kd)&&inV t.v (List.map V.str ss)
def spTakeO (K:PySem.W.Frag) (C EC:Addr):Sp:=fun vs H Q E=>∃ r toks i t kd u ss,vs=[.ref r,.str kd,.ref u]∧RdAt C H r toks i∧toks[i]?=some t∧flatV t.v=true∧SqT K H u (List.map V.str ss) ∧
  (one1 t kd ss=false→∀ H' dx,Same H H'→H' dx=some (.xd [("at",.int (t.p:Int))])→E (.ref EC) (some dx) H') ∧
  (one1 t kd ss=true→∀ H',RdAt C H' r toks (i+1)→SameR r H H'→Q t.v H')
theorem ok_Reader__take_one (T:Txt K mg a):FnOk P w K mg base (CX1 P w) 3 a.f_Reader__take_one a.d_Reader__take_one ["self","kind","things"] (spTakeO K a.c_Reader a.c_BadText):=by
  refine T.F_Reader__take_one.ok1 sc_Reader__take_one (fun vs H Q E h=>?_) (fun cdv A outer s H vs Q E hr h=>?_)
  · obtain ⟨_,_,_,_,_,_,_,rfl,_⟩:=h;rfl
  obtain ⟨r,toks,i,t,kd,u,ss,rfl,hR,ht,hf,hu,qe,q⟩:=h
  obtain ⟨dx,l,xs,h1,h2,h3⟩:=hR.ob
  refine ⟨_,(pss_cons (ps_if (pt_not (pt_truth (pe_meth (pv 0) T.cl_Reader T.me_Reader__sees_one (ok_Reader__sees_one T) (hr.mono (by decide)) T.b_Reader__sees_one .nil pass0 (pa_cons (pv 1) (pa_cons (pv 2) pa_nil))) (fun _=>rfl))) (pss_one (ps_raise T.x_BadText.made.choose_spec (ok_BadText__init T) T.x_BadText.tk (hr.mono (by decide)) T.x_BadText.bd rfl rfl T.m_BadText (pe_meth0 (pv 0) T.cl_Reader T.me_Reader__place (ok_Reader__place T) (hr.mono (by decide)) T.b_Reader__place .nil pass0))) pss_nil) (pss_one (ps_ret (pe_meth0 (pv 0) T.cl_Reader T.me_Reader__take (ok_Reader__take T) (hr.mono (by decide)) T.b_Reader__take .nil pass0)))),?_⟩
  refine ⟨_,rfl,r,dx,_,rfl,h1,rf_no _ _ (by decide +kernel) (by decide +kernel),_,rfl,_,rfl,r,toks,i,t,kd,u,ss,rfl,hR,ht,hf,hu,_,rfl,?_⟩
  cases e:one1 t kd ss with
  | true =>
    rw [show (decide (V.str t.k=V.str kd)&&inV t.v (List.map V.str ss))=true from e]
    exact iteF ⟨_,rfl,r,dx,_,rfl,h1,rf_no _ _ (by decide +kernel) (by decide +kernel),r,toks,i,t,rfl,hR,ht,q e⟩
  | false =>
    rw [show (decide (V.str t.k=V.str kd)&&inV t.v (List.map V.str ss))=false from e]
    exact iteT ⟨_,rfl,r,dx,_,rfl,h1,rf_no _ _ (by decide +kernel) (by decide +kernel),r,toks,i,t,rfl,hR,ht,_,rfl,fun t2 dx2 ht2 hdx hne=>qe e _ dx2 (bad_same ht2 hdx hne) upd_same⟩
def spInit (C EC:Addr):Sp:=fun vs H Q E=>∃ r dx x,vs=[.ref r,.str x]∧H r=some (.ins C dx [])∧x.length≤10000 ∧
  (∀ p,lexN (x.length+1) x 0=.inl p→∀ H' dx,Same H H'→H' dx=some (.xd [("at",.int (p:Int))])→E (.ref EC) (some dx) H') ∧
  (∀ ts,lexN (x.length+1) x 0=.inr ts→∀ H',RdAt C H' r ts 0→SameR r H H'→Q .non H')
theorem ok_Reader__init (T:Txt K mg a):FnOk P w K mg base (CX1 P w) 6 a.f_Reader__init a.d_Reader__init ["self","text"] (spInit a.c_Reader a.c_BadText):=by
  refine T.F_Reader__init.ok1 sc_Reader__init (fun vs H Q E h=>?_) (fun cdv A outer s H vs Q E hr h=>?_)
  · obtain ⟨_,_,_,rfl,_⟩:=h;rfl
  obtain ⟨r,dx,x,rfl,hr0,hx,qe,q⟩:=h
  refine ⟨_,(pss_cons (ps_fld (pv 0) (pe_call (ok_signs_in T) (hr.mono (by decide)) rfl T.m_signs_in T.F_signs_in.kp T.b_signs_in .nil pass1 (pa_cons (pv 1) pa_nil)) rfl) (pss_one (ps_fld (pv 0) pe_int rfl))),?_⟩
  refine ⟨_,rfl,x,rfl,hx,qe,fun ts hts l xs H1 hl g1 hl1 hxs=>?_⟩
  have h1:=g1 _ _ hr0
  refine ⟨_,rfl,r,a.c_Reader,dx,[],rfl,h1,T.cl_Reader,T.no_Reader_signs,(by show 0 < 1000;decide),_,rfl,r,a.c_Reader,dx,_,rfl,upd_same,T.cl_Reader,T.no_Reader_passed,(by show 1 < 1000;decide),?_⟩
  rw [upd_upd]
  refine q ts hts _ ⟨dx,l,xs,upd_same,by rw [upd_ne (ne_of hl1 h1 fun z=>nomatch z)];exact hl1,Paired.mapP hxs fun _ _ z=>?_⟩ fun b o hb e=>by rw [upd_ne hb];exact g1 _ _ e
  obtain ⟨p2,e2,q2⟩:=z
  exact ⟨p2,e2,by rw [upd_ne (ne_of q2 h1 fun z=>nomatch z)];exact q2⟩
end
end My
namespace My
open PySem L2
abbrev PR:=Sum Nat (Tm × Nat)
def tkA (ts:List Tok) (i:Nat):Tok:=(ts[i]?).getD ⟨"end",.str "",0⟩
def sgn:V→Str
  | .str s=>s
  | _=>""
def loopZ (ts:List Tok) (sub:Nat→PR) (lv:Nat):Nat→Tm→Nat→PR
  | 0,t,j=>.inr (t,j)
  | m + 1,t,j=>if one1 (tkA ts j) "mark" (lvRows.getD lv [])=true then
      match sub (j+1) with
      | .inl p=>.inl p
      | .inr (t2,j2)=>if lv=3 then .inr (.bin (sgn (tkA ts j).v) t t2,j2) else loopZ ts sub lv m (.bin (sgn (tkA ts j).v) t t2) j2
    else .inr (t,j)
inductive PM
  | part (lv:Nat)
  | neg
  | leaf
def kindZ (ts:List Tok) (i:Nat) (kd:Str) (s:Str):PR:=if (tkA ts i).k=kd then .inr (.nam s (sgn (tkA ts i).v),i+1) else .inl (tkA ts i).p
def pz (ts:List Tok):Nat→PM→Nat→Nat→PR
  | 0,_,_,_=>.inl 0
  | n + 1,.part lv,d,i =>
    if lv=2 then pz ts n .neg d i
    else if lv=6 then pz ts n .leaf d i
    else match pz ts n (.part (lv+1)) d i with
      | .inl p=>.inl p
      | .inr (t,j)=>loopZ ts (fun j=>pz ts n (.part (lv+1)) d j) lv ts.length t j
  | n + 1,.neg,d,i =>
    if one1 (tkA ts i) "mark" ["not"]=true then
      (if d=12 then .inl (tkA ts i).p else match pz ts n .neg (d+1) (i+1) with
        | .inl p=>.inl p
        | .inr (t,j)=>.inr (.neg t,j))
    else pz ts n (.part 3) d i
  | n + 1,.leaf,d,i =>
    if (tkA ts i).k="number" then .inr (.lit "number" (tkA ts i).v,i+1)
    else if (tkA ts i).k="word" then .inr (.lit "word" (tkA ts i).v,i+1)
    else if one1 (tkA ts i) "mark" ["yes","no"]=true then .inr (.lit "flag" (.bl (decide ((tkA ts i).v=.str "yes"))),i+1)
    else if one1 (tkA ts i) "mark" ["has"]=true then kindZ ts (i+1) "name" "has"
    else if one1 (tkA ts i) "mark" ["("]=true then
      (if d=12 then .inl (tkA ts i).p else match pz ts n (.part 0) (d+1) (i+1) with
        | .inl p=>.inl p
        | .inr (t,j)=>if one1 (tkA ts j) "mark" [")"]=true then .inr (t,j+1) else .inl (tkA ts j).p)
    else kindZ ts i "name" "field"
def need:PM→Nat→Nat
  | .part lv,d=>9 * (12 - d)+(if lv≤2 then 9 - lv else 8 - lv)
  | .neg,d=>9 * (12 - d)+6
  | .leaf,d=>9 * (12 - d)+1
structure TsOk (ts:List Tok):Prop where
  fl:∀ t ∈ ts,flatV t.v=true
  st:∀ t ∈ ts,t.k≠("number":Str)→∃ s,t.v=.str s
  nd:∀ (i:Nat) (t:Tok),ts[i]?=some t→t.k≠("end":Str)→i+1 < ts.length
theorem tk_at {ts:List Tok} {i:Nat} (h:i < ts.length):ts[i]?=some (tkA ts i):=by
  unfold tkA
  rw [List.getElem?_eq_getElem h];rfl
theorem TsOk.more {ts:List Tok} (h:TsOk ts) {i:Nat} (hi:i < ts.length) (hk:(tkA ts i).k≠("end":Str)):i+1 < ts.length:=h.nd i _ (tk_at hi) hk
theorem TsOk.str {ts:List Tok} (h:TsOk ts) {i:Nat} (hi:i < ts.length) (hk:(tkA ts i).k≠("number":Str)):(tkA ts i).v=.str (sgn (tkA ts i).v):=by
  obtain ⟨s,e⟩:=h.st _ (List.mem_of_getElem? (tk_at hi)) hk
  rw [e];rfl
theorem TsOk.flat {ts:List Tok} (h:TsOk ts) {i:Nat} (hi:i < ts.length):flatV (tkA ts i).v=true:=h.fl _ (List.mem_of_getElem? (tk_at hi))
theorem one1_k {t:Tok} {kd:Str} {ss:List Str} (h:one1 t kd ss=true):t.k=kd:=by
  unfold one1 at h
  have:=(Bool.and_eq_true _ _ ▸ h).1
  have:=of_decide_eq_true this
  injection this
theorem mark_no:("mark":Str)≠"end"∧("mark":Str)≠"number"∧("name":Str)≠"end"∧("name":Str)≠"number"∧("number":Str)≠"end"∧("word":Str)≠"end":=by decide +kernel
theorem loop_up {ts:List Tok} (h:TsOk ts) {sub:Nat→PR} (hs:∀ i t j,i < ts.length→sub i=.inr (t,j)→i < j∧j < ts.length) (lv:Nat):∀ m t0 i t j,i < ts.length→loopZ ts sub lv m t0 i=.inr (t,j)→i≤j∧j < ts.length
  | 0,t0,i,t,j,hi,e=>by cases e;exact ⟨Nat.le_refl _,hi⟩
  | m + 1, t0,i,t,j,hi,e=>by
    rw [loopZ] at e
    split at e
    · rename_i h1
      have hm:=h.more hi (by rw [one1_k h1];exact mark_no.1)
      split at e
      · cases e
      · rename_i t2 j2 e2
        obtain ⟨u1,u2⟩:=hs _ _ _ hm e2
        split at e
        · cases e;exact ⟨by omega,u2⟩
        · have:=loop_up h hs lv m _ _ _ _ u2 e
          exact ⟨by omega,this.2⟩
    · cases e;exact ⟨Nat.le_refl _,hi⟩
theorem kindZ_up {ts:List Tok} (h:TsOk ts) {i:Nat} {s:Str} {t:Tm} {j:Nat} (hi:i < ts.length) (e:kindZ ts i "name" s=.inr (t,j)):i < j∧j < ts.length:=by
  unfold kindZ at e
  split at e
  · rename_i hk
    cases e
    exact ⟨Nat.lt_succ_self _,h.more hi (by rw [hk];exact mark_no.2.2.1)⟩
  · cases e
theorem pz_up {ts:List Tok} (h:TsOk ts):∀ n m d i t j,i < ts.length→pz ts n m d i=.inr (t,j)→i < j∧j < ts.length
  | 0,m,d,i,t,j,hi,e=>by cases m <;> cases e
  | n + 1, .part lv,d,i,t,j,hi,e=>by
    rw [pz] at e
    split at e
    · exact pz_up h n _ _ _ _ _ hi e
    · split at e
      · exact pz_up h n _ _ _ _ _ hi e
      · split at e
        · cases e
        · rename_i t1 j1 e1
          obtain ⟨u1,u2⟩:=pz_up h n _ _ _ _ _ hi e1
          have:=loop_up h (fun i t j hi e=>pz_up h n _ _ i t j hi e) lv _ _ _ _ _ u2 e
          exact ⟨by omega,this.2⟩
  | n + 1, .neg,d,i,t,j,hi,e=>by
    rw [pz] at e
    split at e
    · rename_i h1
      have hm:=h.more hi (by rw [one1_k h1];exact mark_no.1)
      split at e
      · cases e
      · split at e
        · cases e
        · rename_i t1 j1 e1
          have:=pz_up h n _ _ _ _ _ hm e1
          cases e
          exact ⟨by omega,this.2⟩
    · exact pz_up h n _ _ _ _ _ hi e
  | n + 1, .leaf,d,i,t,j,hi,e=>by
    rw [pz] at e
    split at e
    · rename_i hk;cases e;exact ⟨Nat.lt_succ_self _,h.more hi (by rw [hk];exact mark_no.2.2.2.2.1)⟩
    split at e
    · rename_i hk;cases e;exact ⟨Nat.lt_succ_self _,h.more hi (by rw [hk];exact mark_no.2.2.2.2.2)⟩
    split at e
    · rename_i h1;cases e;exact ⟨Nat.lt_succ_self _,h.more hi (by rw [one1_k h1];exact mark_no.1)⟩
    split at e
    · rename_i h1
      have hm:=h.more hi (by rw [one1_k h1];exact mark_no.1)
      have:=kindZ_up h hm e
      exact ⟨by omega,this.2⟩
    split at e
    · rename_i h1
      have hm:=h.more hi (by rw [one1_k h1];exact mark_no.1)
      split at e
      · cases e
      · split at e
        · cases e
        · rename_i t1 j1 e1
          obtain ⟨u1,u2⟩:=pz_up h n _ _ _ _ _ hm e1
          split at e
          · rename_i h2
            have:=h.more u2 (by rw [one1_k h2];exact mark_no.1)
            cases e
            exact ⟨by omega,this⟩
          · cases e
    · exact kindZ_up h hi e
end My
namespace My
open PySem L2
section
variable {P:Program} {w:World} {K:PySem.W.Frag} {mg:Str→Option Value} {base:Heap} {a:Adr}
theorem SameR.trans {r:Addr} {H H1 H2:Hp} (a:SameR r H H1) (b:SameR r H1 H2):SameR r H H2:=fun c o hc e=>b c o hc (a c o hc e)
theorem Same.toR {r:Addr} {H H':Hp} (g:Same H H'):SameR r H H':=fun b o _ e=>g b o e
theorem RdAt.tup {C r:Addr} {H H':Hp} {toks:List Tok} {i:Nat} (h:RdAt C H r toks i) (g:SameR r H H'):∀ b xs,H b=some (.tup xs)→H' b=some (.tup xs):=fun b xs e=>by
  obtain ⟨dx,l,ys,h1,_⟩:=h.ob
  exact g b _ (fun z=>by rw [z,h1] at e;cases e) e
def PzS (C EC r:Addr) (ts:List Tok) (n:Nat) (m:PM) (d i:Nat) (H:Hp) (Q:VK) (E:XK):Prop :=
  RdAt C H r ts i∧TsOk ts∧ts.length≤20000∧i < ts.length∧d≤12∧need m d≤n ∧
  (∀ p,pz ts n m d i=.inl p→∀ H' dx,SameR r H H'→H' dx=some (.xd [("at",.int (p:Int))])→E (.ref EC) (some dx) H') ∧
  (∀ t j,pz ts n m d i=.inr (t,j)→∀ v H',SameR r H H'→RdAt C H' r ts j→TmAt H' v t→Q v H')
def spPart (C EC:Addr) (n:Nat):Sp:=fun vs H Q E=>∃ r ts i lv d,vs=[.ref r,.int ((lv:Nat):Int),.int ((d:Nat):Int)]∧lv≤6∧PzS C EC r ts n (.part lv) d i H Q E
def spTermR (C EC:Addr) (n:Nat):Sp:=fun vs H Q E=>∃ r ts i d,vs=[.ref r,.int ((d:Nat):Int)]∧PzS C EC r ts n (.part 0) d i H Q E
def spNegR (C EC:Addr) (n:Nat):Sp:=fun vs H Q E=>∃ r ts i d,vs=[.ref r,.int ((d:Nat):Int)]∧PzS C EC r ts n .neg d i H Q E
def spLeafR (C EC:Addr) (n:Nat):Sp:=fun vs H Q E=>∃ r ts i d,vs=[.ref r,.int ((d:Nat):Int)]∧PzS C EC r ts n .leaf d i H Q E
theorem ok_take_term_of (T:Txt K mg a) {n:Nat} (ihP:FnOk P w K mg base (CX1 P w) (2 * n+4) a.f_take_part a.d_take_part ["reader","level","depth"] (spPart a.c_Reader a.c_BadText n)) :
    FnOk P w K mg base (CX1 P w) (2 * n+5) a.f_take_term a.d_take_term ["reader","depth"] (spTermR a.c_Reader a.c_BadText n):=by
  refine T.F_take_term.ok1 sc_take_term (fun vs H Q E h=>?_) (fun cdv A outer s H vs Q E hr h=>?_)
  · obtain ⟨_,_,_,_,rfl,_⟩:=h;rfl
  obtain ⟨r,ts,i,d,rfl,h⟩:=h
  refine ⟨_,(pss_one (ps_ret (pe_call ihP (hr.mono (by omega)) rfl T.m_take_part T.F_take_part.kp T.b_take_part .nil pass1 (pa_cons (pv 0) (pa_cons pe_int (pa_cons (pv 1) pa_nil)))))),?_⟩
  exact ⟨_,rfl,_,rfl,r,ts,i,0,d,rfl,by decide,h⟩
def spDeep (C EC:Addr):Sp:=fun vs H Q E=>∃ r ts i d,vs=[.ref r,.int ((d:Nat):Int)]∧RdAt C H r ts i∧i < ts.length ∧
  (d=12→∀ H' dx,Same H H'→H' dx=some (.xd [("at",.int ((tkA ts i).p:Int))])→E (.ref EC) (some dx) H') ∧
  (d≠12→∀ H',RdAt C H' r ts (i+1)→SameR r H H'→Q .non H')
theorem ok_take_deeper (T:Txt K mg a):FnOk P w K mg base (CX1 P w) 3 a.f_take_deeper a.d_take_deeper ["reader","depth"] (spDeep a.c_Reader a.c_BadText):=by
  refine T.F_take_deeper.ok1 sc_take_deeper (fun vs H Q E h=>?_) (fun cdv A outer s H vs Q E hr h=>?_)
  · obtain ⟨_,_,_,_,rfl,_⟩:=h;rfl
  obtain ⟨r,ts,i,d,rfl,hR,hi,qe,q⟩:=h
  obtain ⟨dx,l,xs,h1,h2,h3⟩:=hR.ob
  refine ⟨_,(pss_cons (ps_if (pt_cmpR op_eq (pv 1) (pe_glob rfl T.g_MOST_DEEP.1 T.g_MOST_DEEP.2) (nomark _)) (pss_one (ps_raise T.x_BadText.made.choose_spec (ok_BadText__init T) T.x_BadText.tk (hr.mono (by decide)) T.x_BadText.bd rfl rfl T.m_BadText (pe_meth0 (pv 0) T.cl_Reader T.me_Reader__place (ok_Reader__place T) (hr.mono (by decide)) T.b_Reader__place .nil pass0))) pss_nil) (pss_one (ps_expr (pe_meth0 (pv 0) T.cl_Reader T.me_Reader__take (ok_Reader__take T) (hr.mono (by decide)) T.b_Reader__take .nil pass0)))),?_⟩
  refine ⟨_,rfl,rfl,_,rfl,ite2 (fun k=>?_) (fun k=>?_)⟩
  · have k':d=12:=by have:=of_decide_eq_true k;injection this with this;omega
    exact ⟨_,rfl,r,dx,_,rfl,h1,rf_no _ _ (by decide +kernel) (by decide +kernel),r,ts,i,_,rfl,hR,tk_at hi,_,rfl,fun t2 dx2 ht2 hdx hne=>qe k' _ dx2 (bad_same ht2 hdx hne) upd_same⟩
  · have k':d≠12:=fun z=>k (decide_eq_true (by rw [z];rfl))
    exact ⟨_,rfl,r,dx,_,rfl,h1,rf_no _ _ (by decide +kernel) (by decide +kernel),r,ts,i,_,rfl,hR,tk_at hi,fun H' hR' g=>q k' H' hR' g⟩
theorem ok_leafR_succ (T:Txt K mg a) (n:Nat) (ihP:FnOk P w K mg base (CX1 P w) (2 * n+4) a.f_take_part a.d_take_part ["reader","level","depth"] (spPart a.c_Reader a.c_BadText n)) :
    FnOk P w K mg base (CX1 P w) (2 * (n+1)+4) a.f_take_leaf a.d_take_leaf ["reader","depth"] (spLeafR a.c_Reader a.c_BadText (n+1)):=by
  have ihT:=ok_take_term_of T ihP
  refine T.F_take_leaf.ok1 sc_take_leaf (fun vs H Q E h=>?_) (fun cdv A outer s H vs Q E hr h=>?_)
  · obtain ⟨_,_,_,_,rfl,_⟩:=h;rfl
  obtain ⟨r,ts,i,d,rfl,hR,hT,hl,hi,hd,hn,qe,q⟩:=h
  obtain ⟨dx,l,xs,h1,h2,h3⟩:=hR.ob
  have ht:=tk_at hi
  refine ⟨_,(pss_cons (ps_if (pt_truth (pe_meth (pv 0) T.cl_Reader T.me_Reader__sees (ok_Reader__sees T) (hr.mono (by omega)) T.b_Reader__sees .nil pass0 (pa_cons (pe_glob rfl T.g_NUMBER.1 T.g_NUMBER.2) pa_nil)) (fun _=>rfl)) (pss_one (ps_ret (pe_tup (pa_cons (pe_glob rfl T.g_NUMBER.1 T.g_NUMBER.2) (pa_cons (pe_meth0 (pv 0) T.cl_Reader T.me_Reader__take (ok_Reader__take T) (hr.mono (by omega)) T.b_Reader__take .nil pass0) pa_nil))))) pss_nil) (pss_cons (ps_if (pt_truth (pe_meth (pv 0) T.cl_Reader T.me_Reader__sees (ok_Reader__sees T) (hr.mono (by omega)) T.b_Reader__sees .nil pass0 (pa_cons (pe_glob rfl T.g_WORD.1 T.g_WORD.2) pa_nil)) (fun _=>rfl)) (pss_one (ps_ret (pe_tup (pa_cons (pe_glob rfl T.g_WORD.1 T.g_WORD.2) (pa_cons (pe_meth0 (pv 0) T.cl_Reader T.me_Reader__take (ok_Reader__take T) (hr.mono (by omega)) T.b_Reader__take .nil pass0) pa_nil))))) pss_nil) (pss_cons (ps_if (pt_truth (pe_meth (pv 0) T.cl_Reader T.me_Reader__sees_one (ok_Reader__sees_one T) (hr.mono (by omega)) T.b_Reader__sees_one .nil pass0 (pa_cons (pe_glob rfl T.g_MARK.1 T.g_MARK.2) (pa_cons (pe_tup (pa_cons pe_str (pa_cons pe_str pa_nil))) pa_nil))) (fun _=>rfl)) (pss_one (ps_ret (pe_tup (pa_cons (pe_glob rfl T.g_FLAG.1 T.g_FLAG.2) (pa_cons (pe_cmpR op_eq (pe_meth0 (pv 0) T.cl_Reader T.me_Reader__take (ok_Reader__take T) (hr.mono (by omega)) T.b_Reader__take .nil pass0) pe_str (nomark _)) pa_nil))))) pss_nil) (pss_cons (ps_if (pt_truth (pe_meth (pv 0) T.cl_Reader T.me_Reader__sees_one (ok_Reader__sees_one T) (hr.mono (by omega)) T.b_Reader__sees_one .nil pass0 (pa_cons (pe_glob rfl T.g_MARK.1 T.g_MARK.2) (pa_cons (pe_tup (pa_cons pe_str pa_nil)) pa_nil))) (fun _=>rfl)) (pss_cons (ps_expr (pe_meth0 (pv 0) T.cl_Reader T.me_Reader__take (ok_Reader__take T) (hr.mono (by omega)) T.b_Reader__take .nil pass0)) (pss_one (ps_ret (pe_tup (pa_cons pe_str (pa_cons (pe_meth (pv 0) T.cl_Reader T.me_Reader__take_kind (ok_Reader__take_kind T) (hr.mono (by omega)) T.b_Reader__take_kind .nil pass1 (pa_cons (pe_glob rfl T.g_NAME.1 T.g_NAME.2) pa_nil)) pa_nil)))))) pss_nil) (pss_cons (ps_if (pt_truth (pe_meth (pv 0) T.cl_Reader T.me_Reader__sees_one (ok_Reader__sees_one T) (hr.mono (by omega)) T.b_Reader__sees_one .nil pass0 (pa_cons (pe_glob rfl T.g_MARK.1 T.g_MARK.2) (pa_cons (pe_tup (pa_cons pe_str pa_nil)) pa_nil))) (fun _=>rfl)) (pss_cons (ps_expr (pe_call (ok_take_deeper T) (hr.mono (by omega)) rfl T.m_take_deeper T.F_take_deeper.kp T.b_take_deeper .nil pass1 (pa_cons (pv 0) (pa_cons (pv 1) pa_nil)))) (pss_cons (ps_set (i:=2) sc_take_leaf.nd rfl (by first | exact Or.inl rfl | exact Or.inr rfl) (pe_call ihT (hr.mono (by omega)) rfl T.m_take_term T.F_take_term.kp T.b_take_term .nil pass1 (pa_cons (pv 0) (pa_cons (pe_op op_add (pv 1) pe_int) pa_nil)))) (pss_cons (ps_expr (pe_meth (pv 0) T.cl_Reader T.me_Reader__take_one (ok_Reader__take_one T) (hr.mono (by omega)) T.b_Reader__take_one .nil pass1 (pa_cons (pe_glob rfl T.g_MARK.1 T.g_MARK.2) (pa_cons (pe_tup (pa_cons pe_str pa_nil)) pa_nil)))) (pss_one (ps_ret (pv 2)))))) pss_nil) (pss_one (ps_ret (pe_tup (pa_cons pe_str (pa_cons (pe_meth (pv 0) T.cl_Reader T.me_Reader__take_kind (ok_Reader__take_kind T) (hr.mono (by omega)) T.b_Reader__take_kind .nil pass1 (pa_cons (pe_glob rfl T.g_NAME.1 T.g_NAME.2) pa_nil)) pa_nil)))))))))),?_⟩
  have no:∀ (l:Addr) (i:Int) (m:Str),m≠"passed"→m≠"signs"→(rf l i).lookup m=none:=fun l i m e1 e2=>rf_no l i e1 e2
  refine ⟨_,rfl,r,dx,_,rfl,h1,no _ _ _ (by decide +kernel) (by decide +kernel),r,ts,i,_,_,rfl,hR,ht,_,rfl,?_⟩
  by_cases e1:(tkA ts i).k="number"
  · have hz:pz ts (n+1) .leaf d i=.inr (.lit "number" (tkA ts i).v,i+1):=by rw [pz,if_pos e1]
    rw [show decide (V.str (tkA ts i).k=V.str "number")=true from decide_eq_true (by rw [e1])]
    refine iteT ⟨_,rfl,r,dx,_,rfl,h1,no _ _ _ (by decide +kernel) (by decide +kernel),r,ts,i,_,rfl,hR,ht,fun H1 hR1 g1=>⟨small (n:=2) (by decide),fun t2 ht2=>?_⟩⟩
    have g2:=same_new ht2 (.tup [.str "number",(tkA ts i).v])
    exact q _ _ hz _ _ (g1.trans (Same.toR g2)) (hR1.same g2) ⟨t2,rfl,upd_same⟩
  rw [show decide (V.str (tkA ts i).k=V.str "number")=false from decide_eq_false (fun z=>e1 (by injection z))]
  refine iteF ?_
  refine ⟨_,rfl,r,dx,_,rfl,h1,no _ _ _ (by decide +kernel) (by decide +kernel),r,ts,i,_,_,rfl,hR,ht,_,rfl,?_⟩
  by_cases e2:(tkA ts i).k="word"
  · have hz:pz ts (n+1) .leaf d i=.inr (.lit "word" (tkA ts i).v,i+1):=by rw [pz,if_neg e1,if_pos e2]
    rw [show decide (V.str (tkA ts i).k=V.str "word")=true from decide_eq_true (by rw [e2])]
    refine iteT ⟨_,rfl,r,dx,_,rfl,h1,no _ _ _ (by decide +kernel) (by decide +kernel),r,ts,i,_,rfl,hR,ht,fun H1 hR1 g1=>⟨small (n:=2) (by decide),fun t2 ht2=>?_⟩⟩
    have g2:=same_new ht2 (.tup [.str "word",(tkA ts i).v])
    exact q _ _ hz _ _ (g1.trans (Same.toR g2)) (hR1.same g2) ⟨t2,rfl,upd_same⟩
  rw [show decide (V.str (tkA ts i).k=V.str "word")=false from decide_eq_false (fun z=>e2 (by injection z))]
  refine iteF ?_
  refine ⟨_,rfl,r,dx,_,rfl,h1,no _ _ _ (by decide +kernel) (by decide +kernel),small (n:=2) (by decide),fun u3 hu3=>?_⟩
  have g3:=same_new hu3 (.tup [.str "yes",.str "no"])
  have hR3:=hR.same g3
  have h13:=g3 _ _ h1
  refine ⟨r,ts,i,_,_,u3,["yes","no"],rfl,hR3,ht,hT.flat hi,SqT.of upd_same,_,rfl,?_⟩
  generalize upd H u3 (.tup [.str "yes",.str "no"])=H3 at g3 hR3 h13 ⊢
  have eo:∀ ss,(decide (V.str (tkA ts i).k=V.str "mark")&&inV (tkA ts i).v (List.map V.str ss))=one1 (tkA ts i) "mark" ss:=fun _=>rfl
  rw [eo]
  cases e3:one1 (tkA ts i) "mark" ["yes","no"] with
  | true =>
    have hz:pz ts (n+1) .leaf d i=.inr (.lit "flag" (.bl (decide ((tkA ts i).v=.str "yes"))),i+1):=by rw [pz,if_neg e1,if_neg e2,if_pos e3]
    have hs:=hT.str hi (by rw [one1_k e3];exact mark_no.2.1)
    refine iteT ⟨_,rfl,r,dx,_,rfl,h13,no _ _ _ (by decide +kernel) (by decide +kernel),r,ts,i,_,rfl,hR3,ht,fun H4 hR4 g4=>⟨(by rw [hs];rfl),small (n:=2) (by decide),fun t2 ht2=>?_⟩⟩
    have g5:=same_new ht2 (.tup [.str "flag",.bl (decide ((tkA ts i).v=.str "yes"))])
    exact q _ _ hz _ _ ((Same.toR g3).trans (g4.trans (Same.toR g5))) (hR4.same g5) ⟨t2,rfl,upd_same⟩
  | false =>
  refine iteF ?_
  have n3:¬ one1 (tkA ts i) "mark" ["yes","no"]=true:=by rw [e3];decide
  refine ⟨_,rfl,r,dx,_,rfl,h13,no _ _ _ (by decide +kernel) (by decide +kernel),small (n:=1) (by decide),fun u4 hu4=>?_⟩
  have g4:=same_new hu4 (.tup [.str "has"])
  have hR4:=hR3.same g4
  have h14:=g4 _ _ h13
  refine ⟨r,ts,i,_,_,u4,["has"],rfl,hR4,ht,hT.flat hi,SqT.of upd_same,_,rfl,?_⟩
  have g04:=g3.trans g4
  generalize upd H3 u4 (.tup [.str "has"])=H4 at g04 hR4 h14 ⊢
  rw [eo]
  cases e4:one1 (tkA ts i) "mark" ["has"] with
  | true =>
    have hm:=hT.more hi (by rw [one1_k e4];exact mark_no.1)
    have hz:pz ts (n+1) .leaf d i=kindZ ts (i+1) "name" "has":=by rw [pz,if_neg e1,if_neg e2,if_neg n3,if_pos e4]
    refine iteT ⟨_,rfl,r,dx,_,rfl,h14,no _ _ _ (by decide +kernel) (by decide +kernel),r,ts,i,_,rfl,hR4,ht,fun H5 hR5 g5=>?_⟩
    obtain ⟨dx5,l5,xs5,h15,_⟩:=hR5.ob
    refine ⟨_,rfl,r,dx5,_,rfl,h15,no _ _ _ (by decide +kernel) (by decide +kernel),r,ts,i+1,_,_,rfl,hR5,tk_at hm,fun hk H6 dx6 g6 hdx=>?_,fun hk H6 hR6 g6=>⟨small (n:=2) (by decide),fun t2 ht2=>?_⟩⟩
    · refine qe _ (hz.trans ?_) H6 dx6 ((Same.toR g04).trans (g5.trans (Same.toR g6))) hdx
      unfold kindZ;rw [if_neg hk]
    · have g7:=same_new ht2 (.tup [.str "has",(tkA ts (i+1)).v])
      have hs:=hT.str hm (by rw [hk];exact mark_no.2.2.2.1)
      refine q (.nam "has" (sgn (tkA ts (i+1)).v)) (i+2) (hz.trans ?_) _ _ ((Same.toR g04).trans (g5.trans (g6.trans (Same.toR g7)))) (hR6.same g7) ⟨t2,rfl,?_⟩
      · unfold kindZ;rw [if_pos hk]
      · rw [← hs];exact upd_same
  | false =>
  refine iteF ?_
  have n4:¬ one1 (tkA ts i) "mark" ["has"]=true:=by rw [e4];decide
  refine ⟨_,rfl,r,dx,_,rfl,h14,no _ _ _ (by decide +kernel) (by decide +kernel),small (n:=1) (by decide),fun u5 hu5=>?_⟩
  have g5:=same_new hu5 (.tup [.str "("])
  have hR5:=hR4.same g5
  have h15:=g5 _ _ h14
  refine ⟨r,ts,i,_,_,u5,["("],rfl,hR5,ht,hT.flat hi,SqT.of upd_same,_,rfl,?_⟩
  have g05:=g04.trans g5
  generalize upd H4 u5 (.tup [.str "("])=H5 at g05 hR5 h15 ⊢
  rw [eo]
  cases e5:one1 (tkA ts i) "mark" ["("] with
  | true =>
    have hm:=hT.more hi (by rw [one1_k e5];exact mark_no.1)
    have hz:pz ts (n+1) .leaf d i=(if d=12 then .inl (tkA ts i).p else match pz ts n (.part 0) (d+1) (i+1) with
        | .inl p=>.inl p
        | .inr (t,j)=>if one1 (tkA ts j) "mark" [")"]=true then .inr (t,j+1) else .inl (tkA ts j).p):=by rw [pz,if_neg e1,if_neg e2,if_neg n3,if_neg n4,if_pos e5];try rfl
    refine iteT ⟨_,rfl,_,rfl,r,ts,i,d,rfl,hR5,hi,fun hd12 H6 dx6 g6 hdx=>?_,fun hd12 H6 hR6 g6=>?_⟩
    · exact qe _ (hz.trans (if_pos hd12)) H6 dx6 (Same.toR (g05.trans g6)) hdx
    · rw [if_neg hd12] at hz
      have hnd:need (.part 0) (d+1)≤n:=by
        have:need .leaf d=9 * (12 - d)+1:=rfl
        have:need (.part 0) (d+1)=9 * (12 - (d+1))+9:=rfl
        omega
      refine ⟨_,rfl,_,rfl,_,_,rfl,rfl,r,ts,i+1,d+1,rfl,hR6,hT,hl,hm,by omega,hnd,fun p hp H7 dx7 g7 hdx=>?_,fun t j hp v H7 g7 hR7 hv=>?_⟩
      · rw [hp] at hz
        exact qe _ hz H7 dx7 ((Same.toR g05).trans (g6.trans g7)) hdx
      · rw [hp] at hz
        have hj:=(pz_up hT n _ _ _ _ _ hm hp).2
        obtain ⟨dx7,l7,xs7,h17,_⟩:=hR7.ob
        refine ⟨_,rfl,r,dx7,_,rfl,h17,no _ _ _ (by decide +kernel) (by decide +kernel),small (n:=1) (by decide),fun u7 hu7=>?_⟩
        have g8:=same_new hu7 (.tup [.str ")"])
        have g08:=(Same.toR g05).trans (g6.trans (g7.trans (Same.toR (r:=r) g8)))
        refine ⟨r,ts,j,_,_,u7,[")"],rfl,hR7.same g8,tk_at hj,hT.flat hj,SqT.of upd_same,fun hk H9 dx9 g9 hdx=>?_,fun hk H9 hR9 g9=>?_⟩
        · have hz':pz ts (n+1) .leaf d i=.inl (tkA ts j).p:=hz.trans (by show (if one1 (tkA ts j) "mark" [")"]=true then _ else _)=_;rw [hk];rfl)
          exact qe _ hz' H9 dx9 (g08.trans (Same.toR g9)) hdx
        · have hz':pz ts (n+1) .leaf d i=.inr (t,j+1):=hz.trans (by show (if one1 (tkA ts j) "mark" [")"]=true then _ else _)=_;rw [if_pos hk])
          exact ⟨_,rfl,q _ _ hz' _ _ (g08.trans g9) hR9 ((hv.same g8).keep ((hR7.same g8).tup g9))⟩
  | false =>
  refine iteF ?_
  have n5:¬ one1 (tkA ts i) "mark" ["("]=true:=by rw [e5];decide
  have hz:pz ts (n+1) .leaf d i=kindZ ts i "name" "field":=by rw [pz,if_neg e1,if_neg e2,if_neg n3,if_neg n4,if_neg n5]
  refine ⟨_,rfl,r,dx,_,rfl,h15,no _ _ _ (by decide +kernel) (by decide +kernel),r,ts,i,_,_,rfl,hR5,ht,fun hk H6 dx6 g6 hdx=>?_,fun hk H6 hR6 g6=>⟨small (n:=2) (by decide),fun t2 ht2=>?_⟩⟩
  · refine qe _ (hz.trans ?_) H6 dx6 (Same.toR (g05.trans g6)) hdx
    unfold kindZ;rw [if_neg hk]
  · have g7:=same_new ht2 (.tup [.str "field",(tkA ts i).v])
    have hs:=hT.str hi (by rw [hk];exact mark_no.2.2.2.1)
    refine q (.nam "field" (sgn (tkA ts i).v)) (i+1) (hz.trans ?_) _ _ ((Same.toR g05).trans (g6.trans (Same.toR g7))) (hR6.same g7) ⟨t2,rfl,?_⟩
    · unfold kindZ;rw [if_pos hk]
    · rw [← hs];exact upd_same
theorem ok_negR_succ (T:Txt K mg a) (n:Nat) (ihP:FnOk P w K mg base (CX1 P w) (2 * n+4) a.f_take_part a.d_take_part ["reader","level","depth"] (spPart a.c_Reader a.c_BadText n))
    (ihN:FnOk P w K mg base (CX1 P w) (2 * n+4) a.f_take_negation a.d_take_negation ["reader","depth"] (spNegR a.c_Reader a.c_BadText n)) :
    FnOk P w K mg base (CX1 P w) (2 * (n+1)+4) a.f_take_negation a.d_take_negation ["reader","depth"] (spNegR a.c_Reader a.c_BadText (n+1)):=by
  refine T.F_take_negation.ok1 sc_take_negation (fun vs H Q E h=>?_) (fun cdv A outer s H vs Q E hr h=>?_)
  · obtain ⟨_,_,_,_,rfl,_⟩:=h;rfl
  obtain ⟨r,ts,i,d,rfl,hR,hT,hl,hi,hd,hn,qe,q⟩:=h
  obtain ⟨dx,l,xs,h1,h2,h3⟩:=hR.ob
  have ht:=tk_at hi
  have hn':9 * (12 - d)+6≤n+1:=hn
  refine ⟨_,(pss_cons (ps_if (pt_not (pt_truth (pe_meth (pv 0) T.cl_Reader T.me_Reader__sees_one (ok_Reader__sees_one T) (hr.mono (by omega)) T.b_Reader__sees_one .nil pass0 (pa_cons (pe_glob rfl T.g_MARK.1 T.g_MARK.2) (pa_cons (pe_tup (pa_cons pe_str pa_nil)) pa_nil))) (fun _=>rfl))) (pss_one (ps_ret (pe_call ihP (hr.mono (by omega)) rfl T.m_take_part T.F_take_part.kp T.b_take_part .nil pass1 (pa_cons (pv 0) (pa_cons (pe_op op_add (pe_glob rfl T.g_NOT_LEVEL.1 T.g_NOT_LEVEL.2) pe_int) (pa_cons (pv 1) pa_nil)))))) pss_nil) (pss_cons (ps_expr (pe_call (ok_take_deeper T) (hr.mono (by omega)) rfl T.m_take_deeper T.F_take_deeper.kp T.b_take_deeper .nil pass1 (pa_cons (pv 0) (pa_cons (pv 1) pa_nil)))) (pss_one (ps_ret (pe_tup (pa_cons pe_str (pa_cons (pe_call ihN (hr.mono (by omega)) rfl T.m_take_negation T.F_take_negation.kp T.b_take_negation .nil pass1 (pa_cons (pv 0) (pa_cons (pe_op op_add (pv 1) pe_int) pa_nil))) pa_nil))))))),?_⟩
  refine ⟨_,rfl,r,dx,_,rfl,h1,rf_no _ _ (by decide +kernel) (by decide +kernel),small (n:=1) (by decide),fun u3 hu3=>?_⟩
  have g3:=same_new hu3 (.tup [.str "not"])
  have hR3:=hR.same g3
  have h13:=g3 _ _ h1
  refine ⟨r,ts,i,_,_,u3,["not"],rfl,hR3,ht,hT.flat hi,SqT.of upd_same,_,rfl,?_⟩
  generalize upd H u3 (.tup [.str "not"])=H3 at g3 hR3 h13 ⊢
  have eo:(decide (V.str (tkA ts i).k=V.str "mark")&&inV (tkA ts i).v (List.map V.str ["not"]))=one1 (tkA ts i) "mark" ["not"]:=rfl
  rw [eo]
  cases e3:one1 (tkA ts i) "mark" ["not"] with
  | false =>
    have n3:¬ one1 (tkA ts i) "mark" ["not"]=true:=by rw [e3];decide
    have hz:pz ts (n+1) .neg d i=pz ts n (.part 3) d i:=by rw [pz,if_neg n3]
    have hnd:need (.part 3) d≤n:=by
      have:need (.part 3) d=9 * (12 - d)+5:=rfl
      omega
    exact iteT ⟨_,rfl,_,_,rfl,rfl,_,rfl,r,ts,i,3,d,rfl,by decide,hR3,hT,hl,hi,hd,hnd,fun p hp H4 dx4 g4 hdx=>qe p (hz.trans hp) H4 dx4 ((Same.toR g3).trans g4) hdx,fun t j hp v H4 g4 hR4 hv=>q t j (hz.trans hp) v H4 ((Same.toR g3).trans g4) hR4 hv⟩
  | true =>
    have hm:=hT.more hi (by rw [one1_k e3];exact mark_no.1)
    have hz:pz ts (n+1) .neg d i=(if d=12 then .inl (tkA ts i).p else match pz ts n .neg (d+1) (i+1) with
        | .inl p=>.inl p
        | .inr (t,j)=>.inr (.neg t,j)):=by rw [pz,if_pos e3];try rfl
    refine iteF ⟨_,rfl,_,rfl,r,ts,i,d,rfl,hR3,hi,fun hd12 H6 dx6 g6 hdx=>?_,fun hd12 H6 hR6 g6=>?_⟩
    · exact qe _ (hz.trans (if_pos hd12)) H6 dx6 (Same.toR (g3.trans g6)) hdx
    · rw [if_neg hd12] at hz
      have hnd:need .neg (d+1)≤n:=by
        have:need .neg (d+1)=9 * (12 - (d+1))+6:=rfl
        omega
      refine ⟨_,rfl,_,rfl,_,_,rfl,rfl,r,ts,i+1,d+1,rfl,hR6,hT,hl,hm,by omega,hnd,fun p hp H7 dx7 g7 hdx=>?_,fun t j hp v H7 g7 hR7 hv=>⟨small (n:=2) (by decide),fun t2 ht2=>?_⟩⟩
      · rw [hp] at hz
        exact qe _ hz H7 dx7 ((Same.toR g3).trans (g6.trans g7)) hdx
      · rw [hp] at hz
        have g8:=same_new ht2 (.tup [.str "not",v])
        exact q (.neg t) j hz _ _ ((Same.toR g3).trans (g6.trans (g7.trans (Same.toR g8)))) (hR7.same g8) ⟨t2,v,rfl,upd_same,hv.same g8⟩
theorem ok_partR_succ (T:Txt K mg a) (n:Nat) (ihP:FnOk P w K mg base (CX1 P w) (2 * n+4) a.f_take_part a.d_take_part ["reader","level","depth"] (spPart a.c_Reader a.c_BadText n))
    (ihN:FnOk P w K mg base (CX1 P w) (2 * n+4) a.f_take_negation a.d_take_negation ["reader","depth"] (spNegR a.c_Reader a.c_BadText n))
    (ihL:FnOk P w K mg base (CX1 P w) (2 * n+4) a.f_take_leaf a.d_take_leaf ["reader","depth"] (spLeafR a.c_Reader a.c_BadText n)) :
    FnOk P w K mg base (CX1 P w) (2 * (n+1)+4) a.f_take_part a.d_take_part ["reader","level","depth"] (spPart a.c_Reader a.c_BadText (n+1)):=by
  refine T.F_take_part.ok1 sc_take_part (fun vs H Q E h=>?_) (fun cdv A outer s H vs Q E hr h=>?_)
  · obtain ⟨_,_,_,_,_,rfl,_⟩:=h;rfl
  obtain ⟨r,ts,i,lv,d,rfl,h6,hR,hT,hl,hi,hd,hn,qe,q⟩:=h
  refine ⟨_,(pss_cons (ps_if (pt_cmpR op_eq (pv 1) (pe_glob rfl T.g_NOT_LEVEL.1 T.g_NOT_LEVEL.2) (nomark _)) (pss_one (ps_ret (pe_call ihN (hr.mono (by omega)) rfl T.m_take_negation T.F_take_negation.kp T.b_take_negation .nil pass1 (pa_cons (pv 0) (pa_cons (pv 2) pa_nil))))) pss_nil) (pss_cons (ps_if (pt_cmpR op_eq (pv 1) (pe_glob rfl T.g_LEAF_LEVEL.1 T.g_LEAF_LEVEL.2) (nomark _)) (pss_one (ps_ret (pe_call ihL (hr.mono (by omega)) rfl T.m_take_leaf T.F_take_leaf.kp T.b_take_leaf .nil pass1 (pa_cons (pv 0) (pa_cons (pv 2) pa_nil))))) pss_nil) (pss_cons (ps_set (i:=3) sc_take_part.nd rfl (by first | exact Or.inl rfl | exact Or.inr rfl) (pe_call ihP (hr.mono (by omega)) rfl T.m_take_part T.F_take_part.kp T.b_take_part .nil pass1 (pa_cons (pv 0) (pa_cons (pe_op op_add (pv 1) pe_int) (pa_cons (pv 2) pa_nil))))) (pss_cons (ps_while PassesOwn.leaving (pt_truth (pe_meth (pv 0) T.cl_Reader T.me_Reader__sees_one (ok_Reader__sees_one T) (hr.mono (by omega)) T.b_Reader__sees_one .nil pass0 (pa_cons (pe_glob rfl T.g_MARK.1 T.g_MARK.2) (pa_cons (pe_ix ix_tup (pe_glob rfl T.g_LEVELS.1 T.g_LEVELS.2) (pv 1) (fun _ _=>rfl)) pa_nil))) (fun _=>rfl)) (pss_cons (ps_set (i:=4) sc_take_part.nd rfl (by first | exact Or.inl rfl | exact Or.inr rfl) (pe_meth0 (pv 0) T.cl_Reader T.me_Reader__take (ok_Reader__take T) (hr.mono (by omega)) T.b_Reader__take .nil pass0)) (pss_cons (ps_set (i:=3) sc_take_part.nd rfl (by first | exact Or.inl rfl | exact Or.inr rfl) (pe_tup (pa_cons (pv 4) (pa_cons (pv 3) (pa_cons (pe_call ihP (hr.mono (by omega)) rfl T.m_take_part T.F_take_part.kp T.b_take_part .nil pass1 (pa_cons (pv 0) (pa_cons (pe_op op_add (pv 1) pe_int) (pa_cons (pv 2) pa_nil)))) pa_nil))))) (pss_one (ps_if (pt_cmpR op_eq (pv 1) (pe_glob rfl T.g_COMPARISON_LEVEL.1 T.g_COMPARISON_LEVEL.2) (nomark _)) (pss_one (ps_ret (pv 3))) pss_nil))))) (pss_one (ps_ret (pv 3))))))),?_⟩
  have hn':9 * (12 - d)+(if lv≤2 then 9 - lv else 8 - lv)≤n+1:=hn
  refine ⟨_,rfl,rfl,_,rfl,ite2 (fun k=>?_) (fun k=>?_)⟩
  · have k':lv=2:=by have:=of_decide_eq_true k;injection this with this;omega
    subst k'
    have hz:pz ts (n+1) (.part 2) d i=pz ts n .neg d i:=by rw [pz,if_pos rfl]
    have hnd:need .neg d≤n:=by
      have:need .neg d=9 * (12 - d)+6:=rfl
      rw [if_pos (by decide)] at hn';omega
    exact ⟨_,rfl,_,rfl,r,ts,i,d,rfl,hR,hT,hl,hi,hd,hnd,fun p hp=>qe p (hz.trans hp),fun t j hp=>q t j (hz.trans hp)⟩
  have k2:lv≠2:=fun z=>k (decide_eq_true (by rw [z];rfl))
  refine ⟨_,rfl,rfl,_,rfl,ite2 (fun k=>?_) (fun k=>?_)⟩
  · have k':lv=6:=by have:=of_decide_eq_true k;injection this with this;omega
    subst k'
    have hz:pz ts (n+1) (.part 6) d i=pz ts n .leaf d i:=by rw [pz,if_neg (by decide),if_pos rfl]
    have hnd:need .leaf d≤n:=by
      have:need .leaf d=9 * (12 - d)+1:=rfl
      rw [if_neg (by decide)] at hn';omega
    exact ⟨_,rfl,_,rfl,r,ts,i,d,rfl,hR,hT,hl,hi,hd,hnd,fun p hp=>qe p (hz.trans hp),fun t j hp=>q t j (hz.trans hp)⟩
  have k6:lv≠6:=fun z=>k (decide_eq_true (by rw [z];rfl))
  have hz:pz ts (n+1) (.part lv) d i=match pz ts n (.part (lv+1)) d i with
      | .inl p=>.inl p
      | .inr (t,j)=>loopZ ts (fun j=>pz ts n (.part (lv+1)) d j) lv ts.length t j:=by rw [pz,if_neg k2,if_neg k6];try rfl
  have hnd:need (.part (lv+1)) d≤n:=by
    have e:need (.part (lv+1)) d=9 * (12 - d)+(if lv+1≤2 then 9 - (lv+1) else 8 - (lv+1)):=rfl
    rw [e]
    by_cases c:lv≤1
    · rw [if_pos (by omega)];rw [if_pos (by omega)] at hn';omega
    · rw [if_neg (by omega)];rw [if_neg (by omega)] at hn';omega
  refine ⟨_,rfl,_,rfl,_,_,rfl,rfl,_,rfl,r,ts,i,lv+1,d,rfl,by omega,hR,hT,hl,hi,hd,hnd,fun p hp=>qe p (by rw [hz,hp]),fun t j hp v H1 g1 hR1 hv=>?_⟩
  rw [hp] at hz
  have hj:=pz_up hT n _ _ _ _ _ hi hp
  have hlv:lv < 6:=by omega
  obtain ⟨xl,hxl⟩:∃ x,([V.ref a.a_LEVELS_0,.ref a.a_LEVELS_1,.ref a.a_LEVELS_2,.ref a.a_LEVELS_3,.ref a.a_LEVELS_4,.ref a.a_LEVELS_5]:List V)[lv]?=some x:=⟨_,List.getElem?_eq_getElem (by show lv < 6;exact hlv)⟩
  obtain ⟨bl,hb6,rfl,hbl⟩:=T.lv lv xl hxl
  have erow:lvRows.getD lv []=lvRows[lv]'hb6:=by rw [List.getD_eq_getElem?_getD,List.getElem?_eq_getElem hb6];rfl
  unfold gName
  dsimp only
  unfold tSeq
  refine while_by (fun σ H'=>∃ t j v m s4,σ=[some (.ref r),some (.int ((lv:Nat):Int)),some (.int ((d:Nat):Int)),some v,s4]∧SameR r H H'∧RdAt a.c_Reader H' r ts j∧TmAt H' v t∧j < ts.length∧ts.length≤m+j∧pz ts (n+1) (.part lv) d i=loopZ ts (fun j=>pz ts n (.part (lv+1)) d j) lv m t j)
    (fun _ H'=>match H' r with | some (.ins _ _ fs)=>(match fs.lookup ("passed":Str) with | some (.int j)=>ts.length - j.toNat | _=>0) | _=>0) ⟨t,j,v,ts.length,_,rfl,g1,hR1,hv,hj.2,by omega,hz⟩ (fun σ H' hP=>?_) (fun σ H' Q Q' hQ h=>?_)
  · obtain ⟨t,j,v,m,s4,rfl,g,hRj,hvj,hjl,hm,hZ⟩:=hP
    obtain ⟨dx,l,xs,h1,h2,h3⟩:=hRj.ob
    refine ⟨_,rfl,r,dx,_,rfl,h1,rf_no _ _ (by decide +kernel) (by decide +kernel),_,rfl,a.a_LEVELS,_,_,_,rfl,rfl,T.t_LEVELS _,atI_nat hxl,r,ts,j,_,_,bl,lvRows[lv]'hb6,rfl,hRj,tk_at hjl,hT.flat hjl,hbl _,_,rfl,?_⟩
    have eo:(decide (V.str (tkA ts j).k=V.str "mark")&&inV (tkA ts j).v (List.map V.str (lvRows[lv]'hb6)))=one1 (tkA ts j) "mark" (lvRows.getD lv []):=by rw [erow];rfl
    rw [eo]
    obtain ⟨m,rfl⟩:∃ m',m=m'+1:=⟨m - 1,by omega⟩
    cases e3:one1 (tkA ts j) "mark" (lvRows.getD lv []) with
    | false =>
      have hz':pz ts (n+1) (.part lv) d i=.inr (t,j):=by rw [hZ,loopZ,if_neg (by rw [e3];decide)]
      exact iteF ⟨_,rfl,q t j hz' v H' g hRj hvj⟩
    | true =>
      have hmj:=hT.more hjl (by rw [one1_k e3];exact mark_no.1)
      have hs:=hT.str hjl (by rw [one1_k e3];exact mark_no.2.1)
      rw [loopZ,if_pos e3] at hZ
      refine iteT ⟨_,rfl,r,dx,_,rfl,h1,rf_no _ _ (by decide +kernel) (by decide +kernel),r,ts,j,_,rfl,hRj,tk_at hjl,fun H2 hR2 g2=>?_⟩
      refine ⟨_,rfl,_,rfl,_,rfl,_,rfl,_,_,rfl,rfl,_,rfl,r,ts,j+1,lv+1,d,rfl,by omega,hR2,hT,hl,hmj,hd,hnd,fun p hp H3 dx3 g3 hdx=>?_,fun t2 j2 hp v2 H3 g3 hR3 hv2=>⟨small (n:=3) (by decide),fun t3 ht3=>?_⟩⟩
      · exact qe p (by rw [hZ];show (match pz ts n (.part (lv+1)) d (j+1) with | .inl p=>_ | .inr (t2,j2)=>_)=_;rw [hp]) H3 dx3 (g.trans (g2.trans g3)) hdx
      · have hj2:=pz_up hT n _ _ _ _ _ hmj hp
        have g4:=same_new ht3 (.tup [(tkA ts j).v,v,v2])
        have hv':TmAt (upd H3 t3 (.tup [(tkA ts j).v,v,v2])) (.ref t3) (.bin (sgn (tkA ts j).v) t t2):=⟨t3,v,v2,rfl,by rw [← hs];exact upd_same,((hvj.keep (hRj.tup g2)).keep (hR2.tup g3)).same g4,hv2.same g4⟩
        have gg:=g.trans (g2.trans (g3.trans (Same.toR (r:=r) g4)))
        have hR4:=hR3.same g4
        refine ⟨_,rfl,rfl,_,rfl,ite2 (fun k3=>?_) (fun k3=>?_)⟩
        · have k3':lv=3:=by have:=of_decide_eq_true k3;injection this with this;omega
          have hz':pz ts (n+1) (.part lv) d i=.inr (.bin (sgn (tkA ts j).v) t t2,j2):=by
            rw [hZ];show (match pz ts n (.part (lv+1)) d (j+1) with | .inl p=>_ | .inr (t2,j2)=>_)=_;rw [hp];show (if lv=3 then _ else _)=_;rw [if_pos k3']
          exact ⟨_,rfl,q _ _ hz' _ _ gg hR4 hv'⟩
        · have k3':¬ lv=3:=fun z=>k3 (decide_eq_true (by rw [z];rfl))
          have hz':pz ts (n+1) (.part lv) d i=loopZ ts (fun j=>pz ts n (.part (lv+1)) d j) lv m (.bin (sgn (tkA ts j).v) t t2) j2:=by
            rw [hZ];show (match pz ts n (.part (lv+1)) d (j+1) with | .inl p=>_ | .inr (t2,j2)=>_)=_;rw [hp];show (if lv=3 then _ else _)=_;rw [if_neg k3']
          refine ⟨⟨_,j2,_,m,_,rfl,gg,hR4,hv',hj2.2,by omega,hz'⟩,?_⟩
          obtain ⟨dx4,l4,xs4,h14,_⟩:=hR4.ob
          rw [h14,h1]
          dsimp only
          rw [rf_passed,rf_passed]
          show ts.length - ((j2:Nat):Int).toNat < ts.length - ((j:Nat):Int).toNat
          omega
  · obtain ⟨v0,e0,p0,dx0,fs0,e1,e2,e3,v1,e4,pp,xs1,i1,y1,f1,f2,f3,f4,r1,ts1,i2,t1,kd1,u1,ss1,g1,g2,g3,g4,g5,k1,k2,k3⟩:=h
    exact ⟨v0,e0,p0,dx0,fs0,e1,e2,e3,v1,e4,pp,xs1,i1,y1,f1,f2,f3,f4,r1,ts1,i2,t1,kd1,u1,ss1,g1,g2,g3,g4,g5,k1,k2,hQ _ _ k3⟩
theorem need_pos (m:PM) (d:Nat) (h:match m with | .part lv=>lv≤6 | _=>True):1≤need m d:=by
  cases m with
  | part lv =>
    have h:lv≤6:=h
    show 1≤9 * (12 - d)+(if lv≤2 then 9 - lv else 8 - lv)
    split <;> omega
  | neg=>show 1≤9 * (12 - d)+6;omega
  | leaf=>show 1≤9 * (12 - d)+1;omega
theorem ok_parse (T:Txt K mg a):∀ n,FnOk P w K mg base (CX1 P w) (2 * n+4) a.f_take_part a.d_take_part ["reader","level","depth"] (spPart a.c_Reader a.c_BadText n) ∧
    FnOk P w K mg base (CX1 P w) (2 * n+4) a.f_take_negation a.d_take_negation ["reader","depth"] (spNegR a.c_Reader a.c_BadText n) ∧
    FnOk P w K mg base (CX1 P w) (2 * n+4) a.f_take_leaf a.d_take_leaf ["reader","depth"] (spLeafR a.c_Reader a.c_BadText n)
  | 0 => ⟨fn_false fun vs H Q E h=>by
      obtain ⟨r,ts,i,lv,d,_,h6,_,_,_,_,_,hn,_⟩:=h
      have:=need_pos (.part lv) d h6
      omega,fn_false fun vs H Q E h=>by
      obtain ⟨r,ts,i,d,_,_,_,_,_,_,hn,_⟩:=h
      have:=need_pos .neg d trivial
      omega,fn_false fun vs H Q E h=>by
      obtain ⟨r,ts,i,d,_,_,_,_,_,_,hn,_⟩:=h
      have:=need_pos .leaf d trivial
      omega⟩
  | n+1 =>
    have ih:=ok_parse T n
    ⟨ok_partR_succ T n ih.1 ih.2.1 ih.2.2,ok_negR_succ T n ih.1 ih.2.1,ok_leafR_succ T n ih.1⟩
def termZ (ts:List Tok):Sum Nat Tm:=match pz ts 117 (.part 0) 0 0 with
  | .inl p=>.inl p
  | .inr (t,j)=>if (tkA ts j).k="end" then .inr t else .inl (tkA ts j).p
theorem ok_take_term (T:Txt K mg a):FnOk P w K mg base (CX1 P w) 239 a.f_take_term a.d_take_term ["reader","depth"] (spTermR a.c_Reader a.c_BadText 117):=ok_take_term_of T (ok_parse T 117).1
def spReadT (EC:Addr):Sp:=fun vs H Q E=>∃ x:Str,vs=[.str x]∧x.length≤10000 ∧
  (∀ p,lexN (x.length+1) x 0=.inl p→∀ H' dx,Same H H'→H' dx=some (.xd [("at",.int (p:Int))])→E (.ref EC) (some dx) H') ∧
  (∀ ts,lexN (x.length+1) x 0=.inr ts→TsOk ts∧ts.length≤20000∧0 < ts.length ∧
    (∀ p,termZ ts=.inl p→∀ H' dx,Same H H'→H' dx=some (.xd [("at",.int (p:Int))])→E (.ref EC) (some dx) H') ∧
    (∀ t,termZ ts=.inr t→∀ v H',Same H H'→TmAt H' v t→Q v H'))
theorem ok_read_term (T:Txt K mg a):FnOk P w K mg base (CX1 P w) 240 a.f_read_term a.d_read_term ["text"] (spReadT a.c_BadText):=by
  refine T.F_read_term.ok1 sc_read_term (fun vs H Q E h=>?_) (fun cdv A outer s H vs Q E hr h=>?_)
  · obtain ⟨_,rfl,_⟩:=h;rfl
  obtain ⟨x,rfl,hx,qe,q⟩:=h
  refine ⟨_,(pss_cons (ps_set (i:=1) sc_read_term.nd rfl (by first | exact Or.inl rfl | exact Or.inr rfl) (pe_make T.mk_Reader (ok_Reader__init T) (hr.mono (by decide)) rfl T.m_Reader T.b_Reader__init .nil pass1 (pa_cons (pv 0) pa_nil))) (pss_cons (ps_set (i:=2) sc_read_term.nd rfl (by first | exact Or.inl rfl | exact Or.inr rfl) (pe_call (ok_take_term T) (hr.mono (by decide)) rfl T.m_take_term T.F_take_term.kp T.b_take_term .nil pass1 (pa_cons (pv 1) (pa_cons pe_int pa_nil)))) (pss_cons (ps_expr (pe_meth (pv 1) T.cl_Reader T.me_Reader__take_kind (ok_Reader__take_kind T) (hr.mono (by decide)) T.b_Reader__take_kind .nil pass1 (pa_cons (pe_glob rfl T.g_END.1 T.g_END.2) pa_nil))) (pss_one (ps_ret (pv 2)))))),?_⟩
  refine ⟨_,rfl,?_⟩
  intro r dx nr ndx nex
  have s0:Same H (upd (upd H dx (.own r)) r (.ins a.c_Reader dx [])):=fun b o e=>by
    rw [upd_ne (ne_of_none e nr),upd_ne (ne_of_none e ndx)]
    exact e
  refine ⟨r,dx,x,rfl,upd_same,hx,fun p hp H1 dx1 g1 hdx=>qe p hp H1 dx1 (s0.trans g1) hdx,fun ts hts H1 hR g1=>⟨rfl,?_⟩⟩
  obtain ⟨hT,hl,h0,qte,qt⟩:=q ts hts
  have up:∀ {H2:Hp},SameR r H1 H2→Same H H2:=fun {H2} g b o e=>g b o (ne_of_none e nr) (g1 b o (ne_of_none e nr) (s0 b o e))
  refine ⟨_,rfl,r,ts,0,0,rfl,hR,hT,hl,h0,by decide,by decide,fun p hp H2 dx2 g2 hdx=>qte p (by unfold termZ;rw [hp]) H2 dx2 (up g2) hdx,fun t j hp v H2 g2 hR2 hv=>?_⟩
  have hj:=(pz_up hT 117 _ _ _ _ _ h0 hp).2
  obtain ⟨dx2,l2,xs2,h12,_⟩:=hR2.ob
  have hz:termZ ts=if (tkA ts j).k="end" then .inr t else .inl (tkA ts j).p:=by unfold termZ;rw [hp]
  refine ⟨_,rfl,r,dx2,_,rfl,h12,rf_no _ _ (by decide +kernel) (by decide +kernel),r,ts,j,_,_,rfl,hR2,tk_at hj,fun hk H3 dx3 g3 hdx=>?_,fun hk H3 hR3 g3=>?_⟩
  · exact qte _ (hz.trans (if_neg hk)) H3 dx3 (up (g2.trans (Same.toR g3))) hdx
  · exact ⟨_,rfl,qt t (hz.trans (if_pos hk)) v H3 (up (g2.trans g3)) (hv.keep (hR2.tup g3))⟩
end
end My
namespace My
open PySem L2
theorem sig_fit {x:Str} {i:Nat} {k:Str} {v:V} {e:Nat} (h:sigAt x i=some (k,v,e)):k≠("end":Str)∧((∃ n,v=.int n)∧k="number"∨∃ s,v=.str s):=by
  have n1:("name":Str)≠"end":=by decide +kernel
  have n2:("mark":Str)≠"end":=by decide +kernel
  have n3:("word":Str)≠"end":=by decide +kernel
  have n4:("number":Str)≠"end":=by decide +kernel
  unfold sigAt at h
  split at h
  · cases h
  · split at h
    · unfold nameAt at h
      split at h
      · cases h
      · cases h
        refine ⟨?_,.inr ⟨_,rfl⟩⟩
        split
        · exact n2
        · exact n1
    · split at h
      · unfold wordAt at h
        dsimp only at h
        split at h
        · cases h
        · split at h
          · cases h;exact ⟨n3,.inr ⟨_,rfl⟩⟩
          · cases h
      · split at h
        · unfold numAt at h
          split at h
          · cases h
          · rename_i v0 hv
            cases h
            refine ⟨n4,.inl ⟨?_,rfl⟩⟩
            unfold numV at hv
            split at hv
            · split at hv
              · cases hv
              · cases e1:PySem.intText? (cutN x i (runN isFig x.cps.toList (i+1))) with
                | none=>rw [e1] at hv;cases hv
                | some n=>rw [e1] at hv;cases hv;exact ⟨n,rfl⟩
            · cases hv
        · unfold markAt at h
          split at h
          · cases h;exact ⟨n2,.inr ⟨_,rfl⟩⟩
          · split at h
            · cases h
            · split at h
              · cases h;exact ⟨n2,.inr ⟨_,rfl⟩⟩
              · cases h
theorem ts_end (x:Str):TsOk [⟨"end",.str "",x.length⟩]∧([⟨"end",.str "",x.length⟩]:List Tok).length=1:=by
  refine ⟨⟨fun t ht=>?_,fun t ht _=>?_,fun i t ht hk=>?_⟩,rfl⟩
  · rw [List.mem_singleton.mp ht];rfl
  · rw [List.mem_singleton.mp ht];exact ⟨_,rfl⟩
  · have hm:=List.mem_of_getElem? ht
    rw [List.mem_singleton.mp hm] at hk
    exact absurd rfl hk
theorem lex_ok (x : Str):∀ f i ts,lexN f x i=.inr ts→TsOk ts∧0 < ts.length∧ts.length≤f+1
  | 0,i,ts,h=>by
    have h:Sum.inr [(⟨"end",.str "",x.length⟩:Tok)]=(Sum.inr ts:Sum Nat (List Tok)):=h
    cases h
    exact ⟨(ts_end x).1,by simp,by simp⟩
  | f + 1, i, ts, h=>by
    rw [lexN] at h
    split at h
    · cases h
      exact ⟨(ts_end x).1,by simp,by simp⟩
    · split at h
      · obtain ⟨h1,h2,h3⟩:=lex_ok x f _ ts h
        exact ⟨h1,h2,by omega⟩
      · split at h
        · cases h
        · rename_i k v e hs
          split at h
          · cases h
          · rename_i ts1 h1
            cases h
            obtain ⟨a1,a2,a3⟩:=lex_ok x f _ ts1 h1
            obtain ⟨b1,b2⟩:=sig_fit hs
            refine ⟨⟨fun t ht=>?_,fun t ht hk=>?_,fun j t ht hk=>?_⟩,by simp,by simp;omega⟩
            · rcases List.mem_cons.mp ht with rfl | ht
              · rcases b2 with ⟨⟨n,e1⟩,_⟩ | ⟨s,e1⟩
                · show flatV v=true
                  rw [e1];rfl
                · show flatV v=true
                  rw [e1];rfl
              · exact a1.fl t ht
            · rcases List.mem_cons.mp ht with rfl | ht
              · rcases b2 with ⟨_,e2⟩ | b2
                · exact absurd e2 hk
                · exact b2
              · exact a1.st t ht hk
            · cases j with
              | zero=>simp;omega
              | succ j =>
                have:=a1.nd j t (by simpa using ht) hk
                simp;omega
end My
namespace My
open PySem L2
theorem inT_cat (a b:Str) (c:Nat):inT (a++b) c=(inT a c || inT b c):=by
  unfold inT
  rw [app_list,Bool.eq_iff_iff]
  simp
theorem let_inT (c:Nat):inT "abcdefghijklmnopqrstuvwxyz" c=isLet c:=let_in c
theorem cut_list {x:Str} {a b:Nat} (h1:a≤b) (h2:b≤x.length):(cutN x a b).cps.toList=(x.cps.toList.drop a).take (b - a):=by
  have lx:=len_list x
  have z:cutN x a b=StrLaws.sliceText x (some (a:Int)) (some (b:Int)):=rfl
  rw [z,StrLaws.sliceText_plain ⟨by omega,by omega,by omega⟩]
  have e1:((a:Nat):Int).toNat=a:=by omega
  have e2:((b:Int) - (a:Int)).toNat=b - a:=by omega
  simp only [e1,e2]
theorem posL_skip {d:Nat}:∀ {B:List Nat} {i:Nat} {C:List Nat},(∀ c ∈ B,c≠d)→posL d i (B++C)=posL d (i+B.length) C
  | [],i,C,_=>by simp
  | b :: B,i,C,h=>by
    rw [List.cons_append,posL,if_neg (h b List.mem_cons_self),posL_skip fun c hc=>h c (List.mem_cons_of_mem _ hc),List.length_cons]
    congr 1
    omega
theorem posL_le (d:Nat):∀ (w:List Nat) (i:Nat),∀ k ∈ posL d i w,k+1≤i+w.length
  | [],i,k,h=>by simp [posL] at h
  | c :: w,i,k,h=>by
    rw [posL] at h
    split at h
    · rcases List.mem_cons.mp h with e | h
      · simp;omega
      · have:=posL_le d w (i+1) k h;simp;omega
    · have:=posL_le d w (i+1) k h;simp;omega
theorem take_all {p:Nat→Bool} {l:List Nat}:∀ c ∈ l.takeWhile p,p c=true:=fun c hc=>List.all_eq_true.mp List.all_takeWhile c hc
theorem runN_eq (p:Nat→Bool) (cs:List Nat) (i:Nat):runN p cs i=i+((cs.drop i).takeWhile p).length:=rfl
theorem wsg_q {c:Nat} (h:wsg c=true):c≠39:=fun z=>by rw [z] at h;exact absurd h (by decide)
def wordL (x:Str) (i:Nat):Option (Str × V × Nat) :=
  let e:=runN wsg x.cps.toList (i+1)
  let y:=cutN x (i+1) e
  if (decide (1≤y.length)&&(decide (y.length≤12)&&(bwl y&&decide (x.cps.toList[e]?=some 39))))=true then some ("word",.str y,e+1) else none
theorem word_law {x:Str} {i:Nat} (hi:i < x.length):wordAt x i=wordL x i:=by
  have lx:=len_list x
  have hw:=List.takeWhile_append_dropWhile (p:=wsg) (l:=x.cps.toList.drop (i+1))
  have hB:∀ c ∈ (x.cps.toList.drop (i+1)).takeWhile wsg,wsg c=true:=fun c hc=>take_all c hc
  have hC0:∀ c C,(x.cps.toList.drop (i+1)).dropWhile wsg=c :: C→wsg c=false:=fun c C h=>by
    have z:=List.head?_dropWhile_not wsg (x.cps.toList.drop (i+1))
    rw [h] at z
    exact z
  unfold wordL
  have er:=runN_eq wsg x.cps.toList (i+1)
  generalize (x.cps.toList.drop (i+1)).takeWhile wsg=B at hw hB er
  generalize (x.cps.toList.drop (i+1)).dropWhile wsg=C at hw hC0
  have hle:i+1+B.length≤x.length:=by
    have:=congrArg List.length hw
    rw [List.length_append,List.length_drop,lx] at this
    omega
  have hy:(cutN x (i+1) (i+1+B.length)).cps.toList=B:=by
    rw [cut_list (by omega) hle,← hw,show i+1+B.length - (i+1)=B.length by omega,List.take_left]
  have hat:x.cps.toList[i+1+B.length]?=C[0]?:=by
    have:(x.cps.toList.drop (i+1))[B.length]?=C[0]?:=by rw [← hw,List.getElem?_append_right (Nat.le_refl _),Nat.sub_self]
    rw [List.getElem?_drop] at this
    exact this
  have hf:=find_q x (i+1) (by omega)
  rw [show (((i+1:Nat)):Int)=(i:Int)+1 by omega,← hw,posL_skip fun c hc=>wsg_q (hB c hc)] at hf
  dsimp only
  rw [er]
  have hnq:C[0]?≠some 39→(if (decide (1≤(cutN x (i+1) (i+1+B.length)).length)&&(decide ((cutN x (i+1) (i+1+B.length)).length≤12)&&(bwl (cutN x (i+1) (i+1+B.length))&&decide (x.cps.toList[i+1+B.length]?=some 39))))=true then some (("word":Str),V.str (cutN x (i+1) (i+1+B.length)),i+1+B.length+1) else none)=none:=fun h=>by
    rw [if_neg]
    rw [hat,decide_eq_false h]
    simp
  unfold wordAt
  dsimp only
  cases C with
  | nil =>
    rw [hnq (by simp),hf]
    rfl
  | cons c C =>
    by_cases hc:c=39
    · subst hc
      rw [posL,if_pos rfl] at hf
      have hf:Txt.find3 x "'" ((i:Int)+1)=((i+1+B.length:Nat):Int):=hf
      rw [hf,if_neg (by omega),hat]
      have es:Txt.slice x (some ((i:Int)+1)) (some ((i+1+B.length:Nat):Int))=cutN x (i+1) (i+1+B.length):=by unfold cutN;rw [show (((i+1:Nat)):Int)=(i:Int)+1 by omega]
      rw [es]
      have ew:wordB (cutN x (i+1) (i+1+B.length))=(decide (1≤(cutN x (i+1) (i+1+B.length)).length)&&(decide ((cutN x (i+1) (i+1+B.length)).length≤12)&&(bwl (cutN x (i+1) (i+1+B.length))&&decide (((39 :: C:List Nat)[0]?)=some 39)))):=by
        unfold wordB sz
        have:(cutN x (i+1) (i+1+B.length)).cps.toList.all wsg=true:=by rw [hy,List.all_eq_true];exact hB
        rw [this]
        simp [Bool.and_assoc]
      rw [ew,show (((i+1+B.length:Nat):Int)+1).toNat=i+1+B.length+1 by omega]
    · rw [hnq (by simp [hc])]
      rw [posL,if_neg hc] at hf
      cases hp:posL 39 (i+1+B.length+1) C with
      | nil =>
        rw [hp] at hf
        rw [hf];rfl
      | cons k r =>
        rw [hp] at hf
        have hk:=posL_ge 39 C (i+1+B.length+1) k (by rw [hp];exact List.mem_cons_self)
        have hf:Txt.find3 x "'" ((i:Int)+1)=((k:Nat):Int):=hf
        rw [hf,if_neg (by omega)]
        have hwf:wordB (Txt.slice x (some ((i:Int)+1)) (some (k:Int)))=false:=by
          rw [Bool.eq_false_iff]
          intro hw2
          have hall:∀ c ∈ (Txt.slice x (some ((i:Int)+1)) (some (k:Int))).cps.toList,wsg c=true:=by
            unfold wordB at hw2
            simp only [Bool.and_eq_true,List.all_eq_true] at hw2
            exact hw2.2.2
          have hck:c ∈ (cutN x (i+1) k).cps.toList:=by
            have hkx:k≤x.length:=by
              have z:=posL_le 39 C (i+1+B.length+1) k (by rw [hp];exact List.mem_cons_self)
              have:=congrArg List.length hw
              rw [List.length_append,List.length_drop,lx,List.length_cons] at this
              omega
            rw [cut_list (by omega) hkx,← hw]
            refine List.mem_iff_getElem?.mpr ⟨B.length,?_⟩
            rw [List.getElem?_take,if_pos (by omega),List.getElem?_append_right (Nat.le_refl _),Nat.sub_self]
            rfl
          have z:=hall c (by
            have es:Txt.slice x (some ((i:Int)+1)) (some (k:Int))=cutN x (i+1) k:=by unfold cutN;rw [show (((i+1:Nat)):Int)=(i:Int)+1 by omega]
            rw [es];exact hck)
          rw [hC0 c C rfl] at z
          cases z
        rw [hwf];rfl
def numL (x:Str) (i:Nat):Option (Str × V × Nat) :=
  let e:=runN isFig x.cps.toList (i+1)
  let y:=cutN x i e
  let f:=figs y
  if (decide (f.length≤30)&&((decide (f="0") || !head0 f)&&!decide (y="-0")))=true then (PySem.intText? y).map fun n=>("number",.int n,e) else none
theorem num_cut {x:Str} {i c:Nat} (hc:x.cps.toList[i]?=some c):(cutN x i (runN isFig x.cps.toList (i+1))).cps.toList=c :: (x.cps.toList.drop (i+1)).takeWhile isFig∧runN isFig x.cps.toList (i+1)≤x.length:=by
  have lx:=len_list x
  have hi:=(List.getElem?_eq_some_iff.mp hc).1
  have hle:=runN_le isFig x.cps.toList (i+1) (by omega)
  have hge:=runN_ge isFig x.cps.toList (i+1)
  refine ⟨?_,by omega⟩
  rw [cut_list (by omega) (by omega),runN_eq]
  have hd:x.cps.toList.drop i=c :: x.cps.toList.drop (i+1):=by
    rw [List.drop_eq_getElem_cons hi]
    congr 1
    have:=(List.getElem?_eq_some_iff.mp hc).2
    exact this
  rw [hd,show i+1+((x.cps.toList.drop (i+1)).takeWhile isFig).length - i=((x.cps.toList.drop (i+1)).takeWhile isFig).length+1 by omega,List.take_succ_cons]
  congr 1
  have hw:=List.takeWhile_append_dropWhile (p:=isFig) (l:=x.cps.toList.drop (i+1))
  generalize (x.cps.toList.drop (i+1)).takeWhile isFig=B at hw ⊢
  rw [← hw,List.take_left]
theorem num_figs {x:Str} {i c:Nat} (hc:x.cps.toList[i]?=some c) (hk:(isFig c || (c == 45&&figAt x (i+1)))=true) :
    1≤(figs (cutN x i (runN isFig x.cps.toList (i+1)))).length∧(figs (cutN x i (runN isFig x.cps.toList (i+1)))).cps.toList.all isFig=true:=by
  obtain ⟨hy,_⟩:=num_cut hc
  generalize cutN x i (runN isFig x.cps.toList (i+1))=y at hy
  have hB:((x.cps.toList.drop (i+1)).takeWhile isFig).all isFig=true:=List.all_eq_true.mpr fun c hc=>take_all c hc
  have l:=len_list (figs y)
  rcases figs_cases y with ⟨r,e1,e2⟩ | ⟨e1,e2⟩
  · rw [hy] at e1
    injection e1 with e1 e3
    rw [e2,← e3]
    refine ⟨?_,hB⟩
    rw [← l,e2,← e3]
    have hf:figAt x (i+1)=true:=by
      rw [e1] at hk
      simpa [show isFig 45=false by decide] using hk
    unfold figAt at hf
    cases hx:x.cps.toList[i+1]? with
    | none=>rw [hx] at hf;cases hf
    | some d =>
      rw [hx] at hf
      have hi:=(List.getElem?_eq_some_iff.mp hx).1
      have hd:=List.drop_eq_getElem_cons hi
      have hv:=(List.getElem?_eq_some_iff.mp hx).2
      rw [hd,hv,List.takeWhile_cons,if_pos hf,List.length_cons]
      omega
  · rw [e2]
    rw [e2] at l
    rw [hy] at e1 ⊢
    have hc45:c≠45:=fun z=>e1 (by rw [z];rfl)
    have hf:isFig c=true:=by
      have:(c == 45)=false:=by simpa using hc45
      rw [this] at hk
      simpa using hk
    rw [← l,hy]
    exact ⟨by simp,by rw [List.all_cons,hf,hB];rfl⟩
theorem num_law {x:Str} {i c:Nat} (hc:x.cps.toList[i]?=some c) (hk:(isFig c || (c == 45&&figAt x (i+1)))=true):numAt x i=numL x i:=by
  obtain ⟨h1,h2⟩:=num_figs hc hk
  unfold numAt numL
  dsimp only
  generalize cutN x i (runN isFig x.cps.toList (i+1))=y at h1 h2
  unfold numV
  by_cases h30:(figs y).length≤30
  · have hB : figB (figs y)=true:=by unfold figB;rw [decide_eq_true h1,decide_eq_true h30,h2];rfl
    rw [if_pos hB,decide_eq_true h30,Bool.true_and]
    have z:=zero_rule hB
    have e : ((decide (figs y="0") || !head0 (figs y))&&!decide (y="-0"))=!(head0 (figs y)&&!decide (y="0")):=by
      rw [← z]
      have l:=len_list (figs y)
      by_cases h0:head0 (figs y)=true
      · rw [h0]
        by_cases hz:figs y="0"
        · have:(figs y).length=1:=by rw [hz];decide +kernel
          rw [decide_eq_true hz,this];simp
        · have : 1 < (figs y).length:=by
            by_cases hh:1 < (figs y).length
            · exact hh
            · exfalso
              apply hz
              apply str_ext
              rw [z_list]
              unfold head0 at h0
              cases e:(figs y).cps.toList with
              | nil=>rw [e] at h0;cases h0
              | cons a r =>
                rw [e] at h0 l
                have ha:a=48:=by simpa using h0
                cases r with
                | nil=>rw [ha]
                | cons b r=>simp at l;omega
          rw [decide_eq_false hz,decide_eq_true (show (1:Int) < ((figs y).length:Int) by omega)];simp
      · have h0:head0 (figs y)=false:=by simpa using h0
        rw [h0];simp
    rw [e]
    cases hq:(head0 (figs y)&&!decide (y="0")) with
    | true=>rfl
    | false =>
      rw [if_neg (by decide)]
      show (match Option.map V.int (PySem.intText? y) with | none=>none | some v=>some (("number":Str),v,runN isFig x.cps.toList (i+1)))=Option.map (fun n=>(("number":Str),V.int n,runN isFig x.cps.toList (i+1))) (PySem.intText? y)
      cases PySem.intText? y <;> rfl
  · have hB:figB (figs y)=false:=by unfold figB;rw [decide_eq_false h30];simp
    rw [hB,decide_eq_false h30,Bool.false_and]
    rfl
theorem name_law {x:Str} {i:Nat} (hi:i < x.length):(cutN x i (runN nsg x.cps.toList i)).length=runN nsg x.cps.toList i - i:=by
  have lx:=len_list x
  have hle:=runN_le nsg x.cps.toList i (by omega)
  have hge:=runN_ge nsg x.cps.toList i
  rw [← len_list,cut_list hge (by omega),List.length_take,List.length_drop]
  omega
end My
namespace My
open PySem L2
def keptV:V→Bool
  | .str s=>kept s
  | _=>false
def lkd (k:Str) (v:V):Str:=if k="mark" then (if keptV v=true then "name" else "sign") else k
def spThing:Sp:=fun vs H Q _=>∃ (x:Str) (i:Nat),vs=[.str x,.int (i:Int)]∧x.length≤big∧i < x.length∧(sigAt x i=none→∀ H',Same H H'→Q .non H') ∧
  (∀ k v e,sigAt x i=some (k,v,e)→∀ t H',Same H H'→H' t=some (.tup [.str (lkd k v),v,.int (e:Int)])→Q (.ref t) H')
abbrev ltS26:Str:="abcdefghijklmnopqrstuvwxyz"
theorem wsg_inT (c:Nat):inT (ltS26++"0123456789") c=wsg c:=by rw [inT_cat,let_inT,fig_in];rfl
theorem nsg_inT (c:Nat):inT (ltS26++"_") c=nsg c:=by
  rw [inT_cat,let_inT]
  have:inT "_" c=(c == 95):=by
    unfold inT
    have e:("_":Str).cps.toList=[95]:=by decide +kernel
    rw [e,Bool.eq_iff_iff];simp
  rw [this];rfl
theorem inV_signs (y:Str):inV (.str y) (sgnsV "0123456789")=(decide (y.length=1)&&match y.cps.toList[0]? with | some c=>isFig c | none=>false):=by
  have e:sgnsV "0123456789"=(["0","1","2","3","4","5","6","7","8","9"]:List Str).map V.str:=by decide +kernel
  rw [e,inV_str]
  have l:=len_list y
  rw [Bool.eq_iff_iff,decide_eq_true_eq,Bool.and_eq_true,decide_eq_true_eq]
  constructor
  · intro h
    have:∀ y ∈ (["0","1","2","3","4","5","6","7","8","9"]:List Str),y.length=1∧(match y.cps.toList[0]? with | some c=>isFig c | none=>false)=true:=by decide +kernel
    exact this y h
  · rintro ⟨h1,h2⟩
    rw [h1] at l
    cases e:y.cps.toList with
    | nil=>rw [e] at l;cases l
    | cons c r =>
      rw [e] at l h2
      have hr:r=[]:=by cases r with
        | nil=>rfl
        | cons a b=>simp at l
      subst hr
      have h2:isFig c=true:=h2
      unfold isFig at h2
      simp only [Bool.and_eq_true,decide_eq_true_eq] at h2
      have hy:y=⟨#[c]⟩:=str_ext e
      rw [hy]
      have:∀ c,48≤c∧c≤57→(⟨#[c]⟩:Str) ∈ (["0","1","2","3","4","5","6","7","8","9"]:List Str):=by
        intro c hc
        have hc':c=48∨c=49∨c=50∨c=51∨c=52∨c=53∨c=54∨c=55∨c=56∨c=57:=by omega
        rcases hc' with rfl | rfl | rfl | rfl | rfl | rfl | rfl | rfl | rfl | rfl <;> decide +kernel
      exact this c h2
theorem cut_next {x:Str} {j:Nat}:(cutN x j (j+1)).cps.toList=(x.cps.toList.drop j).take 1:=by
  have lx:=len_list x
  by_cases h:j+1≤x.length
  · rw [cut_list (by omega) h,show j+1 - j=1 by omega]
  · have hd:x.cps.toList.drop j=[]:=List.drop_eq_nil_of_le (by omega)
    rw [hd]
    have z:cutN x j (j+1)=StrLaws.sliceText x (some (j:Int)) (some ((j+1:Nat):Int)):=rfl
    have hi:Builtin.Str.strSliceIndices (some (j:Int)) (some ((j+1:Nat):Int)) 1 x.length=Builtin.Str.strSliceIndices (some (x.length:Int)) (some (x.length:Int)) 1 x.length:=by
      have a:¬ ((x.length:Int) < 0):=by omega
      have b:¬ (((j+1:Nat):Int) < 0):=by omega
      have b2:¬ ((j:Int) < 0):=by omega
      have c:min ((j+1:Nat):Int) (x.length:Int)=min (x.length:Int) (x.length:Int):=by omega
      have c2:min (j:Int) (x.length:Int)=min (x.length:Int) (x.length:Int):=by omega
      unfold Builtin.Str.strSliceIndices
      simp only [if_neg a,if_neg b,if_neg b2,c,c2,if_pos (show (1:Int) > 0 by decide)]
    have hz:StrLaws.sliceText x (some (j:Int)) (some ((j+1:Nat):Int))=StrLaws.sliceText x (some (x.length:Int)) (some (x.length:Int)):=by
      unfold StrLaws.sliceText
      rw [hi]
    rw [z,hz,StrLaws.sliceText_plain ⟨by omega,by omega,by omega⟩]
    simp
theorem fig_next {x:Str} {i:Nat}:inV (.str (cutN x (i+1) (i+1+1))) (sgnsV "0123456789")=figAt x (i+1):=by
  have l:=len_list (cutN x (i+1) (i+1+1))
  have z:=cut_next (x:=x) (j:=i+1)
  rw [z] at l
  rw [inV_signs,z,List.getElem?_take,if_pos (by decide),List.getElem?_drop,Nat.add_zero]
  unfold figAt
  cases h:x.cps.toList[i+1]? with
  | none=>simp
  | some d =>
    have hi:=(List.getElem?_eq_some_iff.mp h).1
    have:(cutN x (i+1) (i+1+1)).length=1:=by
      rw [← l,List.length_take,List.length_drop];omega
    rw [this];simp
theorem q_next {x:Str} {j:Nat}:decide (V.str (cutN x j (j+1))=V.str "'")=decide (x.cps.toList[j]?=some 39):=by
  have z:=cut_next (x:=x) (j:=j)
  rw [Bool.eq_iff_iff,decide_eq_true_eq,decide_eq_true_eq]
  constructor
  · intro h
    injection h with h
    rw [h,q_list] at z
    have:((x.cps.toList.drop j).take 1)[0]?=some 39:=by rw [← z];rfl
    rw [List.getElem?_take,if_pos (by decide),List.getElem?_drop,Nat.add_zero] at this
    exact this
  · intro h
    congr 1
    apply str_ext
    have hi:=(List.getElem?_eq_some_iff.mp h).1
    rw [z,q_list,List.drop_eq_getElem_cons hi,(List.getElem?_eq_some_iff.mp h).2];rfl
section
variable {P:Program} {w:World} {K:PySem.W.Frag} {mg:Str→Option Value} {base:Heap} {a:Adr}
theorem ok_thing (T:Txt K mg a):FnOk P w K mg base CX0 1 a.f_thing a.d_thing ["_law_text_here","_law_at"] spThing:=by
  refine T.F_thing.ok sc_thing (fun vs H Q E h=>?_) (fun cdv A outer s H vs Q E hr h=>?_)
  · obtain ⟨_,_,rfl,_⟩:=h;rfl
  obtain ⟨x,i,rfl,hx,hi,qn,q⟩:=h
  have lx:=len_list x
  have hx':x.length≤100000:=hx
  have l26:ltS26.length=26:=by decide +kernel
  have l10:("0123456789":Str).length=10:=by decide +kernel
  have l1:("_":Str).length=1:=by decide +kernel
  refine ⟨_,(pss_cons (ps_set (i:=2) sc_thing.nd rfl (by first | exact Or.inl rfl | exact Or.inr rfl) (pe_ix ix_str (pv 0) (pv 1) (fun _ _=>rfl))) (pss_cons (ps_set (i:=3) sc_thing.nd rfl (by first | exact Or.inl rfl | exact Or.inr rfl) pe_str) (pss_cons (ps_set (i:=4) sc_thing.nd rfl (by first | exact Or.inl rfl | exact Or.inr rfl) (pe_op op_add (pv 1) pe_int)) (pss_cons (ps_if (pt_cmpR op_eq (pv 2) pe_str (nomark _)) (pss_cons (ps_cut (ps_while PassesOwn.never (PW.pt (pw_and (pt_cmpR op_lt (pv 4) (pe_callB call_len_str rfl T.n_len PySem.boot_len (pa_cons (pv 0) pa_nil)) (nomark _)) (pw_and1 (pt_cmpR op_in_str (pe_ix ix_str (pv 0) (pv 4) (fun _ _=>rfl)) (pe_op op_add_str (pv 3) pe_str) (by with_unfolding_all rfl))))) (pss_one (ps_set (i:=4) sc_thing.nd rfl (by first | exact Or.inl rfl | exact Or.inr rfl) (pe_op op_add (pv 4) pe_int))))) (pss_cons (ps_set (i:=5) sc_thing.nd rfl (by first | exact Or.inl rfl | exact Or.inr rfl) (pe_slice sl_str (pv 0) (po_some (pe_op op_add (pv 1) pe_int)) (po_some (pv 4)))) (pss_cons (ps_set (i:=6) sc_thing.nd rfl (by first | exact Or.inl rfl | exact Or.inr rfl) (pe_cut (pe_and (pe_chain op_le op_le pe_int (pe_callB call_len_str rfl T.n_len PySem.boot_len (pa_cons (pv 5) pa_nil)) pe_int) (pe_and (pe_cmpR op_in_str (pe_ix ix_str (pv 5) pe_int (fun _ _=>rfl)) (pv 3) (by with_unfolding_all rfl)) (pe_one (pe_cmpR op_eq (pe_slice sl_str (pv 0) (po_some (pv 4)) (po_some (pe_op op_add (pv 4) pe_int))) pe_str (nomark _))))))) (pss_one (ps_ret (pe_ifExp (pt_val (pv 6)) (pe_tup (pa_cons pe_str (pa_cons (pv 5) (pa_cons (pe_op op_add (pv 4) pe_int) pa_nil)))) pe_non)))))) pss_nil) (pss_cons (ps_if (pt_cut (PW.pt (pw_or (pt_cmpR op_in_str (pv 2) pe_str (by with_unfolding_all rfl)) (pw_or1 (PW.pt (pw_and (pt_cmpR op_eq (pv 2) pe_str (nomark _)) (pw_and1 (pt_cmpR op_in_seq (pe_slice sl_str (pv 0) (po_some (pv 4)) (po_some (pe_op op_add (pv 4) pe_int))) (pe_callTy (call_tuple_text rfl) rfl T.n_tuple (by decide +kernel) (pa_cons pe_str pa_nil)) (by with_unfolding_all rfl))))))))) (pss_cons (ps_cut (ps_while PassesOwn.never (PW.pt (pw_and (pt_cmpR op_lt (pv 4) (pe_callB call_len_str rfl T.n_len PySem.boot_len (pa_cons (pv 0) pa_nil)) (nomark _)) (pw_and1 (pt_cmpR op_in_str (pe_ix ix_str (pv 0) (pv 4) (fun _ _=>rfl)) pe_str (by with_unfolding_all rfl))))) (pss_one (ps_set (i:=4) sc_thing.nd rfl (by first | exact Or.inl rfl | exact Or.inr rfl) (pe_op op_add (pv 4) pe_int))))) (pss_cons (ps_set (i:=7) sc_thing.nd rfl (by first | exact Or.inl rfl | exact Or.inr rfl) (pe_cut (pe_ifExp (pt_cmpR op_ne (pv 2) pe_str (nomark _)) (pe_slice sl_str (pv 0) (po_some (pv 1)) (po_some (pv 4))) (pe_slice sl_str (pv 0) (po_some (pe_op op_add (pv 1) pe_int)) (po_some (pv 4)))))) (pss_cons (ps_set (i:=6) sc_thing.nd rfl (by first | exact Or.inl rfl | exact Or.inr rfl) (pe_cut (pe_and (pe_cmpR op_le (pe_callB call_len_str rfl T.n_len PySem.boot_len (pa_cons (pv 7) pa_nil)) pe_int (nomark _)) (pe_and (pe_or (pe_cmpR op_eq (pv 7) pe_str (nomark _)) (pe_one (pe_cmpR op_ne (pe_ix ix_str (pv 7) pe_int (fun _ _=>rfl)) pe_str (nomark _)))) (pe_one (pe_cmpR op_ne (pe_slice sl_str (pv 0) (po_some (pv 1)) (po_some (pv 4))) pe_str (nomark _))))))) (pss_one (ps_ret (pe_ifExp (pt_val (pv 6)) (pe_tup (pa_cons pe_str (pa_cons (pe_callTy call_int_text rfl T.n_int (by decide +kernel) (pa_cons (pe_slice sl_str (pv 0) (po_some (pv 1)) (po_some (pv 4))) pa_nil)) (pa_cons (pv 4) pa_nil)))) pe_non)))))) pss_nil) (pss_cons (ps_if (pt_cmpR op_in_str (pv 2) (pv 3) (by with_unfolding_all rfl)) (pss_cons (ps_cut (ps_while PassesOwn.never (PW.pt (pw_and (pt_cmpR op_lt (pv 4) (pe_callB call_len_str rfl T.n_len PySem.boot_len (pa_cons (pv 0) pa_nil)) (nomark _)) (pw_and1 (pt_cmpR op_in_str (pe_ix ix_str (pv 0) (pv 4) (fun _ _=>rfl)) (pe_op op_add_str (pv 3) pe_str) (by with_unfolding_all rfl))))) (pss_one (ps_set (i:=4) sc_thing.nd rfl (by first | exact Or.inl rfl | exact Or.inr rfl) (pe_op op_add (pv 4) pe_int))))) (pss_one (ps_ret (pe_ifExp (pt_cmpR op_le (pe_op op_sub (pv 4) (pv 1)) pe_int (nomark _)) (pe_tup (pa_cons pe_str (pa_cons (pe_slice sl_str (pv 0) (po_some (pv 1)) (po_some (pv 4))) (pa_cons (pv 4) pa_nil)))) pe_non)))) pss_nil) (pss_cons (ps_if (pt_cmpR op_in_seq (pe_slice sl_str (pv 0) (po_some (pv 1)) (po_some (pe_op op_add (pv 1) pe_int))) (pe_tup (pa_cons pe_str (pa_cons pe_str (pa_cons pe_str pa_nil)))) (by with_unfolding_all rfl)) (pss_one (ps_ret (pe_tup (pa_cons pe_str (pa_cons (pe_slice sl_str (pv 0) (po_some (pv 1)) (po_some (pe_op op_add (pv 1) pe_int))) (pa_cons (pe_op op_add (pv 1) pe_int) pa_nil)))))) pss_nil) (pss_one (ps_ret (pe_ifExp (pt_cmpR op_in_str (pv 2) pe_str (by with_unfolding_all rfl)) (pe_tup (pa_cons pe_str (pa_cons (pv 2) (pa_cons (pv 4) pa_nil)))) pe_non)))))))))),?_⟩
  obtain ⟨c,hc,hat⟩:=at_c hi
  refine ⟨_,rfl,_,rfl,x,_,c,rfl,rfl,big_line hx,hat,?_⟩
  refine ⟨_,rfl,_,_,rfl,rfl,?_⟩
  refine ⟨_,rfl,rfl,_,rfl,?_⟩
  rw [show decide (V.str ⟨#[c]⟩=V.str "'")=(c == 39) from one_is q_list]
  refine ite2 (fun k1=>?_) (fun k1=>?_)
  · have k1' : c=39:=by simpa using k1
    have hsig:sigAt x i=wordL x i:=by
      rw [← word_law hi]
      unfold sigAt
      rw [hc]
      dsimp only
      rw [if_neg (by rw [k1'];decide),if_pos k1']
    unfold wordL at hsig
    dsimp only at hsig
    refine ⟨fun σ' H'=>σ'=[some (.str x),some (.int (i:Int)),some (.str ⟨#[c]⟩),some (.str ltS26),some (.int ((runN wsg x.cps.toList (i+1):Nat):Int)),none,none,none]∧H=H',?_,?_⟩
    · refine while_by (fun σ H'=>∃ j:Nat,σ=[some (.str x),some (.int (i:Int)),some (.str ⟨#[c]⟩),some (.str ltS26),some (.int (j:Int)),none,none,none]∧H'=H∧i+1≤j∧j≤x.length∧runN wsg x.cps.toList j=runN wsg x.cps.toList (i+1)) (fun σ _=>match σ with | [_,_,_,_,some (.int j),_,_,_]=>x.length - j.toNat | _=>0) ⟨i+1,rfl,rfl,Nat.le_refl _,by omega,rfl⟩ (fun σ H' hP=>?_) (fun σ H' Q Q' hQ h=>?_)
      · obtain ⟨j,rfl,rfl,hj1,hj2,hj⟩:=hP
        refine ⟨_,rfl,_,rfl,_,rfl,big_line hx,_,_,rfl,rfl,_,rfl,ite2 (fun k=>?_) (fun k=>?_)⟩
        · have k':j < x.length:=by have:(j:Int) < (x.length:Int):=of_decide_eq_true k;omega
          obtain ⟨c2,hc2,hat2⟩:=at_c k'
          refine ⟨_,rfl,_,rfl,x,_,c2,rfl,rfl,big_line hx,hat2,_,rfl,_,_,rfl,rfl,by rw [l26,l10];exact small (by decide),_,_,rfl,rfl,_,rfl,?_⟩
          rw [occ_in,wsg_inT]
          refine ite2 (fun k2=>?_) (fun k2=>?_)
          · refine ⟨_,rfl,_,_,rfl,rfl,⟨j+1,rfl,rfl,by omega,by omega,?_⟩,?_⟩
            · rw [← runN_go hc2 k2];exact hj
            · show x.length - ((j:Int)+1).toNat < x.length - (j:Int).toNat
              omega
          · rw [runN_stop hc2 (by simpa using k2)] at hj
            exact ⟨by rw [← hj],rfl⟩
        · have k':x.length≤j:=by
            have:¬ (j:Int) < (x.length:Int):=fun z=>k (decide_eq_true z)
            omega
          rw [runN_end (by omega)] at hj
          exact iteF ⟨by rw [← hj],rfl⟩
      · obtain ⟨v1,e1,v2,e2,y,e3,h3,i,j,e4,e5,k,e6,h⟩:=h
        refine ⟨v1,e1,v2,e2,y,e3,h3,i,j,e4,e5,k,e6,?_⟩
        cases k with
        | false=>exact hQ _ _ h
        | true =>
          obtain ⟨w1,f1,w2,f2,z,i',c,f3,f4,f5,f6,w3,f7,i2,j2,f8,f9,f10,i3,j3,g1,g2,b2,g3,h⟩:=h
          exact ⟨w1,f1,w2,f2,z,i',c,f3,f4,f5,f6,w3,f7,i2,j2,f8,f9,f10,i3,j3,g1,g2,b2,g3,hQ _ _ h⟩
    rintro σ' H' ⟨rfl,rfl⟩
    have hge:=runN_ge wsg x.cps.toList (i+1)
    have hle:=runN_le wsg x.cps.toList (i+1) (by omega)
    generalize runN wsg x.cps.toList (i+1)=e at hge hle hsig
    have ecut:∀ (a b:Nat) (a' b':Int),a'=(a:Int)→b'=(b:Int)→Txt.slice x (some a') (some b')=cutN x a b:=fun a b a' b' h1 h2=>by subst h1;subst h2;rfl
    refine ⟨_,rfl,_,rfl,_,_,rfl,rfl,_,rfl,_,rfl,_,rfl,x,rfl,big_line hx,?_⟩
    rw [ecut (i+1) e _ _ (by omega) rfl]
    have ycut:=cut_list (x:=x) (a:=i+1) (b:=e) hge hle
    have yl:(cutN x (i+1) e).length=e - (i+1):=by rw [← len_list,ycut,List.length_take,List.length_drop];omega
    generalize cutN x (i+1) e=y at yl hsig ⊢
    refine ⟨fun v H3=>v=.bl (decide (1≤y.length)&&(decide (y.length≤12)&&(bwl y&&decide (x.cps.toList[e]?=some 39))))∧H=H3,?_,?_⟩
    · refine ⟨_,rfl,y,rfl,big_line (by omega),_,_,rfl,rfl,_,rfl,?_⟩
      refine ite2 (fun c1=>?_) (fun c1=>?_)
      · have c1':1≤y.length:=by have:(1:Int)≤(y.length:Int):=of_decide_eq_true c1;omega
        rw [decide_eq_true c1',Bool.true_and]
        refine ⟨_,_,rfl,rfl,_,rfl,ite2 (fun c2=>?_) (fun c2=>?_)⟩
        · have c2':y.length≤12:=by have:(y.length:Int)≤12:=of_decide_eq_true c2;omega
          rw [decide_eq_true c2',Bool.true_and]
          obtain ⟨d,hd,hatd⟩:=at_c (x:=y) (i:=0) (by omega)
          have hb:bwl y=isLet d:=by
            unfold bwl
            cases e2:y.cps.toList with
            | nil=>rw [e2] at hd;cases hd
            | cons a r=>rw [e2] at hd;cases hd;rfl
          rw [hb]
          refine ⟨_,rfl,y,_,d,rfl,rfl,big_line (by omega),hatd,_,rfl,_,_,rfl,rfl,_,rfl,?_⟩
          rw [occ_in,let_inT]
          refine ite2 (fun c3=>?_) (fun c3=>?_)
          · rw [c3,Bool.true_and]
            refine ⟨_,rfl,_,rfl,_,rfl,_,rfl,_,_,rfl,rfl,_,rfl,x,rfl,big_line hx,rfl,?_,rfl⟩
            rw [ecut e (e+1) _ _ rfl (by omega),q_next]
          · rw [Bool.eq_false_iff.mpr c3]
            exact ⟨rfl,rfl⟩
        · have c2':¬ y.length≤12:=fun z=>c2 (decide_eq_true (by omega))
          rw [decide_eq_false c2']
          exact ⟨rfl,rfl⟩
      · have c1':¬ 1≤y.length:=fun z=>c1 (decide_eq_true (by omega))
        rw [decide_eq_false c1']
        exact ⟨_,rfl,iteF ⟨by simp,rfl⟩⟩
    rintro v H3 ⟨rfl,rfl⟩
    refine ⟨_,rfl,_,rfl,ite2 (fun kg=>?_) (fun kg=>?_)⟩
    · rw [if_pos kg] at hsig
      refine ⟨_,rfl,_,rfl,_,_,rfl,rfl,small (n:=3) (by decide),fun t ht=>?_⟩
      have n1:("word":Str)≠"mark":=by decide +kernel
      have z:=q _ _ _ hsig t _ (same_new ht (.tup [.str "word",.str y,.int ((e:Int)+1)])) (by rw [upd_same];unfold lkd;rw [if_neg n1];rfl)
      exact z
    · rw [if_neg kg] at hsig
      exact qn hsig _ (Same.refl _)
  have k1':¬ c=39:=fun z=>k1 (by simp [z])
  refine ⟨fun b H1=>Same H H1∧b=(isFig c || (c == 45&&figAt x (i+1))),?_,?_⟩
  · refine ⟨_,rfl,_,_,rfl,rfl,_,rfl,?_⟩
    rw [occ_in,fig_in]
    refine ite2 (fun c1=>⟨Same.refl _,by rw [show isFig c=true from c1];rfl⟩) (fun c1=>?_)
    have c1':isFig c=false:=by simpa using c1
    refine ⟨_,rfl,rfl,_,rfl,?_⟩
    rw [show decide (V.str ⟨#[c]⟩=V.str "-")=(c == 45) from one_is m_list]
    refine ite2 (fun c2=>?_) (fun c2=>?_)
    · refine ⟨_,rfl,_,rfl,_,rfl,_,rfl,_,_,rfl,rfl,_,rfl,x,rfl,big_line hx,"0123456789",rfl,by rw [l10];decide,fun tp htp=>?_⟩
      refine ⟨tp,_,rfl,.inr (SqT.of upd_same),rfl,by decide +kernel,_,rfl,same_new htp _,?_⟩
      have e:=fig_next (x:=x) (i:=i)
      have e2:Txt.slice x (some ((i:Int)+1)) (some ((i:Int)+1+1))=cutN x (i+1) (i+1+1):=by unfold cutN;rw [show (((i+1:Nat)):Int)=(i:Int)+1 by omega,show (((i+1+1:Nat)):Int)=(i:Int)+1+1 by omega]
      rw [← e2] at e
      rw [c1',c2]
      exact e
    · have c2':(c == 45)=false:=by simpa using c2
      exact ⟨Same.refl _,by rw [c1',c2'];rfl⟩
  rintro b H1 ⟨g1,rfl⟩
  refine ite2 (fun k2=>?_) (fun k2=>?_)
  · have hsig : sigAt x i=numL x i:=by
      rw [← num_law hc k2]
      unfold sigAt
      rw [hc]
      dsimp only
      have:isLet c=false:=by
        unfold isFig at k2
        unfold isLet
        rw [Bool.or_eq_true] at k2
        rcases k2 with z | z
        · simp only [Bool.and_eq_true,decide_eq_true_eq] at z
          rw [decide_eq_false (by omega)];rfl
        · simp only [Bool.and_eq_true,beq_iff_eq] at z
          rw [z.1];decide
      rw [if_neg (by rw [this];decide),if_neg k1',if_pos k2]
    unfold numL at hsig
    dsimp only at hsig
    refine ⟨fun σ' H'=>σ'=[some (.str x),some (.int (i:Int)),some (.str ⟨#[c]⟩),some (.str ltS26),some (.int ((runN isFig x.cps.toList (i+1):Nat):Int)),none,none,none]∧H1=H',?_,?_⟩
    · refine while_by (fun σ H'=>∃ j:Nat,σ=[some (.str x),some (.int (i:Int)),some (.str ⟨#[c]⟩),some (.str ltS26),some (.int (j:Int)),none,none,none]∧H'=H1∧i+1≤j∧j≤x.length∧runN isFig x.cps.toList j=runN isFig x.cps.toList (i+1)) (fun σ _=>match σ with | [_,_,_,_,some (.int j),_,_,_]=>x.length - j.toNat | _=>0) ⟨i+1,rfl,rfl,Nat.le_refl _,by omega,rfl⟩ (fun σ H' hP=>?_) (fun σ H' Q Q' hQ h=>?_)
      · obtain ⟨j,rfl,rfl,hj1,hj2,hj⟩:=hP
        refine ⟨_,rfl,_,rfl,_,rfl,big_line hx,_,_,rfl,rfl,_,rfl,ite2 (fun k=>?_) (fun k=>?_)⟩
        · have k':j < x.length:=by have:(j:Int) < (x.length:Int):=of_decide_eq_true k;omega
          obtain ⟨c2,hc2,hat2⟩:=at_c k'
          refine ⟨_,rfl,_,rfl,x,_,c2,rfl,rfl,big_line hx,hat2,_,_,rfl,rfl,_,rfl,?_⟩
          rw [occ_in,fig_in]
          refine ite2 (fun k2=>?_) (fun k2=>?_)
          · refine ⟨_,rfl,_,_,rfl,rfl,⟨j+1,rfl,rfl,by omega,by omega,?_⟩,?_⟩
            · rw [← runN_go hc2 k2];exact hj
            · show x.length - ((j:Int)+1).toNat < x.length - (j:Int).toNat
              omega
          · rw [runN_stop hc2 (by simpa using k2)] at hj
            exact ⟨by rw [← hj],rfl⟩
        · have k':x.length≤j:=by
            have:¬ (j:Int) < (x.length:Int):=fun z=>k (decide_eq_true z)
            omega
          rw [runN_end (by omega)] at hj
          exact iteF ⟨by rw [← hj],rfl⟩
      · obtain ⟨v1,e1,v2,e2,y,e3,h3,i,j,e4,e5,k,e6,h⟩:=h
        refine ⟨v1,e1,v2,e2,y,e3,h3,i,j,e4,e5,k,e6,?_⟩
        cases k with
        | false=>exact hQ _ _ h
        | true =>
          obtain ⟨w1,f1,w2,f2,z,i',c,f3,f4,f5,f6,i3,j3,g1,g2,b2,g3,h⟩:=h
          exact ⟨w1,f1,w2,f2,z,i',c,f3,f4,f5,f6,i3,j3,g1,g2,b2,g3,hQ _ _ h⟩
    rintro σ' H' ⟨rfl,rfl⟩
    have hge:=runN_ge isFig x.cps.toList (i+1)
    have hle:=runN_le isFig x.cps.toList (i+1) (by omega)
    obtain ⟨f1,f2⟩:=num_figs hc k2
    obtain ⟨ycut,_⟩:=num_cut hc
    have ecut:∀ (a b:Nat) (a' b':Int),a'=(a:Int)→b'=(b:Int)→Txt.slice x (some a') (some b')=cutN x a b:=fun a b a' b' h1 h2=>by subst h1;subst h2;rfl
    have tcut:(cutN x (i+1) (runN isFig x.cps.toList (i+1))).cps.toList=(x.cps.toList.drop (i+1)).takeWhile isFig:=by
      rw [cut_list hge hle,runN_eq]
      have hw:=List.takeWhile_append_dropWhile (p:=isFig) (l:=x.cps.toList.drop (i+1))
      generalize (x.cps.toList.drop (i+1)).takeWhile isFig=B at hw ⊢
      rw [← hw,show i+1+B.length - (i+1)=B.length by omega,List.take_left]
    have yl:=slice_len x (some (i:Int)) (some ((runN isFig x.cps.toList (i+1):Nat):Int))
    have yl:(cutN x i (runN isFig x.cps.toList (i+1))).length≤x.length:=yl
    generalize (x.cps.toList.drop (i+1)).takeWhile isFig=B at ycut tcut
    generalize runN isFig x.cps.toList (i+1)=e at hge hle hsig f1 f2 ycut tcut yl ⊢
    refine ⟨fun v H3=>v=.str (figs (cutN x i e))∧H1=H3,?_,?_⟩
    · refine ⟨_,rfl,rfl,_,rfl,?_⟩
      rw [show (!decide (V.str ⟨#[c]⟩=V.str "-"))=!(c == 45) by rw [show decide (V.str ⟨#[c]⟩=V.str "-")=(c == 45) from one_is m_list]]
      refine ite2 (fun c1=>?_) (fun c1=>?_)
      · refine ⟨_,rfl,_,rfl,_,rfl,_,rfl,_,rfl,x,rfl,big_line hx,?_,rfl⟩
        rw [ecut i e _ _ rfl rfl]
        congr 1
        rcases figs_cases (cutN x i e) with ⟨r,z1,z2⟩ | ⟨_,z⟩
        · rw [ycut] at z1
          injection z1 with z1 _
          rw [z1] at c1;cases c1
        · exact z.symm
      · refine ⟨_,rfl,_,rfl,_,_,rfl,rfl,_,rfl,_,rfl,_,rfl,x,rfl,big_line hx,?_,rfl⟩
        rw [ecut (i+1) e _ _ (by omega) rfl]
        congr 1
        have c1':c=45:=by simpa using c1
        apply str_ext
        rcases figs_cases (cutN x i e) with ⟨r,z1,z2⟩ | ⟨z,_⟩
        · rw [ycut] at z1
          injection z1 with _ z1
          rw [z2,tcut,z1]
        · rw [ycut,c1'] at z
          exact absurd rfl z
    rintro v H3 ⟨rfl,rfl⟩
    have fl:=figs_len (cutN x i e)
    have fl':(figs (cutN x i e)).length≤100000:=by omega
    obtain ⟨d,hd,hatd⟩:=at_c (x:=figs (cutN x i e)) (i:=0) (by omega)
    have h0:head0 (figs (cutN x i e))=(d == 48):=by
      unfold head0
      cases e2:(figs (cutN x i e)).cps.toList with
      | nil=>rw [e2] at hd;cases hd
      | cons a r=>rw [e2] at hd;cases hd;rfl
    refine ⟨fun v H3=>v=.bl (decide ((figs (cutN x i e)).length≤30)&&((decide (figs (cutN x i e)="0") || !head0 (figs (cutN x i e)))&&!decide (cutN x i e="-0")))∧H1=H3,?_,?_⟩
    · refine ⟨_,rfl,_,rfl,big_line fl',_,_,rfl,rfl,_,rfl,ite2 (fun c1=>?_) (fun c1=>?_)⟩
      · have c1':(figs (cutN x i e)).length≤30:=by have:((figs (cutN x i e)).length:Int)≤30:=of_decide_eq_true c1;omega
        rw [decide_eq_true c1',Bool.true_and]
        have e1:decide (V.str (figs (cutN x i e))=V.str "0")=decide (figs (cutN x i e)="0"):=by rw [Bool.eq_iff_iff];simp
        have e2:decide (V.str (cutN x i e)=V.str "-0")=decide (cutN x i e="-0"):=by rw [Bool.eq_iff_iff];simp
        refine ⟨_,rfl,rfl,_,rfl,?_⟩
        rw [e1]
        refine ite2 (fun c2=>?_) (fun c2=>?_)
        · refine ⟨_,rfl,iteT ?_⟩
          rw [c2]
          refine ⟨_,rfl,_,rfl,_,rfl,_,rfl,_,rfl,x,rfl,big_line hx,rfl,?_,rfl⟩
          rw [ecut i e _ _ rfl rfl,e2];simp
        · refine ⟨_,rfl,_,_,d,rfl,rfl,big_line fl',hatd,rfl,?_⟩
          rw [show decide (V.str ⟨#[d]⟩=V.str "0")=(d == 48) from one_is z_list,Bool.eq_false_iff.mpr c2,Bool.false_or,h0]
          refine ⟨_,rfl,ite2 (fun c3=>?_) (fun c3=>?_)⟩
          · rw [c3,Bool.true_and]
            refine ⟨_,rfl,_,rfl,_,rfl,_,rfl,_,rfl,x,rfl,big_line hx,rfl,?_,rfl⟩
            rw [ecut i e _ _ rfl rfl,e2]
          · rw [Bool.eq_false_iff.mpr c3]
            exact ⟨rfl,rfl⟩
      · have c1':¬ (figs (cutN x i e)).length≤30:=fun z=>c1 (decide_eq_true (by omega))
        rw [decide_eq_false c1']
        exact ⟨rfl,rfl⟩
    rintro v H3 ⟨rfl,rfl⟩
    refine ⟨_,rfl,_,rfl,ite2 (fun kg=>?_) (fun kg=>?_)⟩
    · rw [if_pos kg] at hsig
      have k30:(figs (cutN x i e)).length≤30:=by
        rw [Bool.and_eq_true] at kg
        exact of_decide_eq_true kg.1
      have hB:figB (figs (cutN x i e))=true:=by unfold figB;rw [decide_eq_true f1,decide_eq_true k30,f2];rfl
      obtain ⟨n,hn⟩:=int_of_figs hB (by have:=figs_le (cutN x i e);omega)
      have hy:=figs_le (cutN x i e)
      rw [hn] at hsig
      refine ⟨_,rfl,_,rfl,_,rfl,_,rfl,_,rfl,x,rfl,big_line hx,?_⟩
      rw [ecut i e _ _ rfl rfl]
      refine ⟨_,n,rfl,hn,by omega,_,rfl,small (n:=3) (by decide),fun t ht=>?_⟩
      have n1:("number":Str)≠"mark":=by decide +kernel
      exact q _ _ _ hsig t _ (g1.trans (same_new ht (.tup [.str "number",.int n,.int (e:Int)]))) (by rw [upd_same];unfold lkd;rw [if_neg n1])
    · rw [if_neg kg] at hsig
      exact qn hsig _ g1
  have k2':(isFig c || (c == 45&&figAt x (i+1)))=false:=by simpa using k2
  refine ⟨_,rfl,_,rfl,_,_,rfl,rfl,_,rfl,?_⟩
  rw [occ_in,let_inT]
  refine ite2 (fun k3=>?_) (fun k3=>?_)
  · have hn : nsg c=true:=by unfold nsg;rw [show isLet c=true from k3];rfl
    have hsig:sigAt x i=nameAt x i:=by
      unfold sigAt
      rw [hc]
      dsimp only
      rw [if_pos k3]
    unfold nameAt at hsig
    rw [name_law hi] at hsig
    rw [runN_go hc hn] at hsig
    refine ⟨fun σ' H'=>σ'=[some (.str x),some (.int (i:Int)),some (.str ⟨#[c]⟩),some (.str ltS26),some (.int ((runN nsg x.cps.toList (i+1):Nat):Int)),none,none,none]∧H1=H',?_,?_⟩
    · refine while_by (fun σ H'=>∃ j:Nat,σ=[some (.str x),some (.int (i:Int)),some (.str ⟨#[c]⟩),some (.str ltS26),some (.int (j:Int)),none,none,none]∧H'=H1∧i+1≤j∧j≤x.length∧runN nsg x.cps.toList j=runN nsg x.cps.toList (i+1)) (fun σ _=>match σ with | [_,_,_,_,some (.int j),_,_,_]=>x.length - j.toNat | _=>0) ⟨i+1,rfl,rfl,Nat.le_refl _,by omega,rfl⟩ (fun σ H' hP=>?_) (fun σ H' Q Q' hQ h=>?_)
      · obtain ⟨j,rfl,rfl,hj1,hj2,hj⟩:=hP
        refine ⟨_,rfl,_,rfl,_,rfl,big_line hx,_,_,rfl,rfl,_,rfl,ite2 (fun k=>?_) (fun k=>?_)⟩
        · have k':j < x.length:=by have:(j:Int) < (x.length:Int):=of_decide_eq_true k;omega
          obtain ⟨c2,hc2,hat2⟩:=at_c k'
          refine ⟨_,rfl,_,rfl,x,_,c2,rfl,rfl,big_line hx,hat2,_,rfl,_,_,rfl,rfl,by rw [l26,l1];exact small (by decide),_,_,rfl,rfl,_,rfl,?_⟩
          rw [occ_in,nsg_inT]
          refine ite2 (fun k2=>?_) (fun k2=>?_)
          · refine ⟨_,rfl,_,_,rfl,rfl,⟨j+1,rfl,rfl,by omega,by omega,?_⟩,?_⟩
            · rw [← runN_go hc2 k2];exact hj
            · show x.length - ((j:Int)+1).toNat < x.length - (j:Int).toNat
              omega
          · rw [runN_stop hc2 (by simpa using k2)] at hj
            exact ⟨by rw [← hj],rfl⟩
        · have k':x.length≤j:=by
            have:¬ (j:Int) < (x.length:Int):=fun z=>k (decide_eq_true z)
            omega
          rw [runN_end (by omega)] at hj
          exact iteF ⟨by rw [← hj],rfl⟩
      · obtain ⟨v1,e1,v2,e2,y,e3,h3,i,j,e4,e5,k,e6,h⟩:=h
        refine ⟨v1,e1,v2,e2,y,e3,h3,i,j,e4,e5,k,e6,?_⟩
        cases k with
        | false=>exact hQ _ _ h
        | true =>
          obtain ⟨w1,f1,w2,f2,z,i',c,f3,f4,f5,f6,w3,f7,i2,j2,f8,f9,f10,i3,j3,g1,g2,b2,g3,h⟩:=h
          exact ⟨w1,f1,w2,f2,z,i',c,f3,f4,f5,f6,w3,f7,i2,j2,f8,f9,f10,i3,j3,g1,g2,b2,g3,hQ _ _ h⟩
    rintro σ' H' ⟨rfl,rfl⟩
    have hge:=runN_ge nsg x.cps.toList (i+1)
    have hle:=runN_le nsg x.cps.toList (i+1) (by omega)
    have ecut:∀ (a b:Nat) (a' b':Int),a'=(a:Int)→b'=(b:Int)→Txt.slice x (some a') (some b')=cutN x a b:=fun a b a' b' h1 h2=>by subst h1;subst h2;rfl
    generalize runN nsg x.cps.toList (i+1)=e at hge hle hsig ⊢
    refine ⟨_,rfl,_,rfl,_,_,rfl,rfl,_,_,rfl,rfl,_,rfl,ite2 (fun k4=>?_) (fun k4=>?_)⟩
    · have k4':(e:Int) - (i:Int)≤20:=of_decide_eq_true k4
      rw [if_neg (by omega)] at hsig
      refine ⟨_,rfl,_,rfl,_,rfl,_,rfl,_,rfl,x,rfl,big_line hx,?_⟩
      rw [ecut i e _ _ rfl rfl]
      refine ⟨_,rfl,small (n:=3) (by decide),fun t ht=>?_⟩
      refine q _ _ _ hsig t _ (g1.trans (same_new ht (.tup [.str "name",.str (cutN x i e),.int (e:Int)]))) ?_
      rw [upd_same]
      have n1:("name":Str)≠"mark":=by decide +kernel
      have e3:lkd (if kept (cutN x i e)=true then "mark" else "name") (.str (cutN x i e))="name":=by
        unfold lkd
        by_cases hk:kept (cutN x i e)=true
        · rw [if_pos hk,if_pos rfl]
          exact if_pos hk
        · rw [if_neg hk,if_neg n1]
      rw [e3]
    · have k4':¬ (e:Int) - (i:Int)≤20:=fun z=>k4 (decide_eq_true z)
      rw [if_pos (by omega)] at hsig
      exact qn hsig _ g1
  have hsig:sigAt x i=markAt x i:=by
    unfold sigAt
    rw [hc]
    dsimp only
    rw [if_neg k3,if_neg k1',if_neg k2]
  unfold markAt at hsig
  rw [hc] at hsig
  dsimp only at hsig
  have e2:∀ b':Int,b'=(i:Int)+2→Txt.slice x (some (i:Int)) (some b')=cutN x i (i+2):=fun b' h=>by subst h;unfold cutN;rw [show (((i+2:Nat)):Int)=(i:Int)+2 by omega]
  refine ⟨_,rfl,_,rfl,_,rfl,_,rfl,_,_,rfl,rfl,_,rfl,x,rfl,big_line hx,?_⟩
  rw [e2 _ rfl]
  refine ⟨small (n:=3) (by decide),fun tp htp=>?_⟩
  have g2:=same_new htp (.tup (longS.map V.str))
  refine ⟨tp,longS.map V.str,rfl,.inr (SqT.of upd_same),rfl,rfl,_,rfl,ite2 (fun k4=>?_) (fun k4=>?_)⟩
  · have k4':inV (.str (cutN x i (i+2))) (longS.map V.str)=true:=k4
    rw [if_pos k4'] at hsig
    refine ⟨_,rfl,_,rfl,_,rfl,_,rfl,_,_,rfl,rfl,_,rfl,x,rfl,big_line hx,?_⟩
    rw [e2 _ rfl]
    refine ⟨_,rfl,_,_,rfl,rfl,small (n:=3) (by decide),fun t ht=>?_⟩
    refine q _ _ _ hsig t _ (g1.trans (g2.trans (same_new ht (.tup [.str "sign",.str (cutN x i (i+2)),.int ((i:Int)+2)])))) ?_
    rw [upd_same]
    have e3:lkd "mark" (.str (cutN x i (i+2)))="sign":=by
      unfold lkd
      rw [if_pos rfl]
      have hm:cutN x i (i+2) ∈ longS:=by
        unfold inV at k4'
        simp [eqV] at k4'
        simpa [eq_comm] using k4'
      have:∀ z ∈ longS,keptV (.str z)=false:=by decide +kernel
      rw [this _ hm];rfl
    rw [e3];rfl
  · have k4':¬ inV (.str (cutN x i (i+2))) (longS.map V.str)=true:=k4
    rw [if_neg k4'] at hsig
    refine ⟨_,rfl,_,_,rfl,rfl,_,rfl,?_⟩
    rw [occ_in]
    have esame:inT "(),|=<>+-*@" c=inT "=<>+-*()|,@" c:=by
      unfold inT
      have h1:("(),|=<>+-*@":Str).cps.toList=[40,41,44,124,61,60,62,43,45,42,64]:=by decide +kernel
      have h2:("=<>+-*()|,@":Str).cps.toList=[61,60,62,43,45,42,40,41,124,44,64]:=by decide +kernel
      rw [h1,h2,Bool.eq_iff_iff]
      simp only [decide_eq_true_eq,List.mem_cons,List.not_mem_nil,or_false]
      omega
    rw [esame]
    refine ite2 (fun k5=>?_) (fun k5=>?_)
    · rw [if_pos k5] at hsig
      refine ⟨_,rfl,_,rfl,small (n:=3) (by decide),fun t ht=>?_⟩
      refine q _ _ _ hsig t _ (g1.trans (g2.trans (same_new ht (.tup [.str "sign",.str ⟨#[c]⟩,.int ((i:Int)+1)])))) ?_
      rw [upd_same]
      have e3:lkd "mark" (.str ⟨#[c]⟩)="sign":=by
        unfold lkd
        rw [if_pos rfl]
        have hk:keptV (.str ⟨#[c]⟩)=false:=by
          show kept ⟨#[c]⟩=false
          rw [Bool.eq_false_iff]
          intro z
          have hm:(⟨#[c]⟩:Str) ∈ kw:=by
            unfold kept at z
            rw [inV_str] at z
            exact of_decide_eq_true z
          have:∀ z ∈ kw,z.length≠1:=by decide +kernel
          exact this _ hm rfl
        rw [hk];rfl
      rw [e3];rfl
    · rw [if_neg k5] at hsig
      exact qn hsig _ (g1.trans g2)
end
end My
namespace My
open PySem L2
def LTokAt (H:Hp) (v:V) (t:Tok):Prop:=∃ p,v=.ref p∧H p=some (.tup [.str (lkd t.k t.v),t.v,.int (t.p:Int)])
theorem lkd_end (v:V):lkd "end" v="end":=by
  have n1:("end":Str)≠"mark":=by decide +kernel
  unfold lkd;rw [if_neg n1]
section
variable {P:Program} {w:World} {K:PySem.W.Frag} {mg:Str→Option Value} {base:Heap} {a:Adr}
def spThings:Sp:=fun vs H Q _=>∃ x:Str,vs=[.str x]∧x.length≤10000 ∧
  (∀ p,lexN (x.length+1) x 0=.inl p→∀ t l H',Same H H'→H' l=some (.lst [])→H' t=some (.tup [.ref l,.int (p:Int)])→Q (.ref t) H') ∧
  (∀ ts,lexN (x.length+1) x 0=.inr ts→∀ t l xs H',Same H H'→H' l=some (.lst xs)→Paired (LTokAt H') xs ts→H' t=some (.tup [.ref l,.non])→Q (.ref t) H')
theorem ok_things (T:Txt K mg a):FnOk P w K mg base CX0 2 a.f_things a.d_things ["_law_text_here"] spThings:=by
  refine T.F_things.ok sc_things (fun vs H Q E h=>?_) (fun cdv A outer s H vs Q E hr h=>?_)
  · obtain ⟨_,rfl,_⟩:=h;rfl
  obtain ⟨x,rfl,hx,qe,q⟩:=h
  have hx':x.length≤big:=Nat.le_trans hx (by decide)
  have lx:=len_list x
  refine ⟨_,(pss_cons (ps_set (i:=1) sc_things.nd rfl (by first | exact Or.inl rfl | exact Or.inr rfl) (pe_lst pa_nil)) (pss_cons (ps_set (i:=2) sc_things.nd rfl (by first | exact Or.inl rfl | exact Or.inr rfl) pe_int) (pss_cons (ps_while PassesOwn.never (pt_cmpR op_lt (pv 2) (pe_callB call_len_str rfl T.n_len PySem.boot_len (pa_cons (pv 0) pa_nil)) (nomark _)) (pss_one (ps_if (pt_cmpR op_eq (pe_ix ix_str (pv 0) (pv 2) (fun _ _=>rfl)) pe_str (nomark _)) (pss_one (ps_set (i:=2) sc_things.nd rfl (by first | exact Or.inl rfl | exact Or.inr rfl) (pe_op op_add (pv 2) pe_int))) (pss_cons (ps_set (i:=3) sc_things.nd rfl (by first | exact Or.inl rfl | exact Or.inr rfl) (pe_call (ok_thing T) (hr.mono (by decide)) rfl T.m_thing T.F_thing.kp T.b_thing .nil pass0 (pa_cons (pv 0) (pa_cons (pv 2) pa_nil)))) (pss_cons (ps_if (pt_cmpR op_isN (pv 3) pe_non (nomark _)) (pss_one (ps_ret (pe_tup (pa_cons (pe_lst pa_nil) (pa_cons (pv 2) pa_nil))))) pss_nil) (pss_cons (ps_expr (pe_bm PySem.F.plainAttrs_list PySem.F.slot_list_append PySem.F.type_list_append mt_append (pv 1) (pa_cons (pe_tup (pa_cons (pe_ix ix_tup (pv 3) pe_int (fun _ _=>rfl)) (pa_cons (pe_ix ix_tup (pv 3) pe_int (fun _ _=>rfl)) (pa_cons (pv 2) pa_nil)))) pa_nil))) (pss_one (ps_set (i:=2) sc_things.nd rfl (by first | exact Or.inl rfl | exact Or.inr rfl) (pe_ix ix_tup (pv 3) pe_int (fun _ _=>rfl)))))))))) (pss_one (ps_ret (pe_tup (pa_cons (pe_op op_cat (pv 1) (pe_lst (pa_cons (pe_tup (pa_cons pe_str (pa_cons pe_str (pa_cons (pe_callB call_len_str rfl T.n_len PySem.boot_len (pa_cons (pv 0) pa_nil)) pa_nil)))) pa_nil))) (pa_cons pe_non pa_nil)))))))),?_⟩
  refine ⟨small (n:=0) (by decide),fun l hl=>?_⟩
  have gl:=same_new hl (.lst [])
  refine while_by (fun σ H'=>∃ (i f:Nat) (done:List Tok) (xs:List V) (s3:Option V),σ=[some (.str x),some (.ref l),some (.int (i:Int)),s3]∧Same H H'∧H' l=some (.lst xs)∧Paired (LTokAt H') xs done∧done.length≤i∧done.length≤x.length∧x.length+1≤f+i∧lexR f x i done=lexN (x.length+1) x 0)
    (fun σ _=>match σ with | [_,_,some (.int i),_]=>x.length - i.toNat | _=>0) ⟨0,x.length+1,[],[],_,rfl,gl,upd_same,.nil,Nat.le_refl _,Nat.zero_le _,by omega,?_⟩ (fun σ H' hP=>?_) (fun σ H' Q Q' hQ h=>?_)
  · unfold lexR
    cases lexN (x.length+1) x 0 <;> rfl
  · obtain ⟨i, f,done,xs,s3,rfl,g,hl',hxs,ld,ld2,lf,hR⟩:=hP
    have lxs:=hxs.length
    refine ⟨_,rfl,_,rfl,_,rfl,big_line hx',_,_,rfl,rfl,_,rfl,ite2 (fun k=>?_) (fun k=>?_)⟩
    · have k' : i < x.length:=by have:(i:Int) < (x.length:Int):=of_decide_eq_true k;omega
      obtain ⟨c,hc,hat⟩:=at_c k'
      obtain ⟨f,rfl⟩:∃ f',f=f'+1:=⟨f - 1,by omega⟩
      refine ⟨_,rfl,_,rfl,x,_,c,rfl,rfl,big_line hx',hat,rfl,_,rfl,?_⟩
      rw [show decide (V.str ⟨#[c]⟩=V.str " ")=(c == 32) from one_is (show (" ":Str).cps.toList=[32] by decide +kernel)]
      refine ite2 (fun k2=>?_) (fun k2=>?_)
      · have k2':c=32:=by simpa using k2
        refine ⟨_,rfl,_,_,rfl,rfl,⟨i+1,f,done,xs,_,rfl,g,hl',hxs,by omega,ld2,by omega,?_⟩,?_⟩
        · rw [← hR]
          unfold lexR
          have:lexN (f+1) x i=lexN f x (i+1):=by
            show (match x.cps.toList[i]? with | none=>_ | some c=>if c=32 then lexN f x (i+1) else _)=_
            rw [hc];exact if_pos k2'
          rw [this]
        · show x.length - ((i:Int)+1).toNat < x.length - (i:Int).toNat
          omega
      · have k2':¬ c=32:=fun z=>k2 (by simp [z])
        have hstep:lexN (f+1) x i=match sigAt x i with
            | none=>.inl i
            | some (k,v,e)=>match lexN f x e with
              | .inl p=>.inl p
              | .inr ts=>.inr (⟨k,v,i⟩ :: ts):=by
          show (match x.cps.toList[i]? with | none=>_ | some c=>if c=32 then lexN f x (i+1) else match sigAt x i with | none=>.inl i | some (k,v,e)=>match lexN f x e with | .inl p=>.inl p | .inr ts=>.inr (⟨k,v,i⟩ :: ts))=_
          rw [hc];exact if_neg k2'
        refine ⟨_,rfl,_,rfl,x,i,rfl,hx',k',fun hno H1 g1=>?_,fun kd v e hsig t H1 g1 ht=>?_⟩
        · refine ⟨_,rfl,rfl,_,rfl,iteT ?_⟩
          refine ⟨small (n:=0) (by decide),fun l2 hl2=>?_⟩
          have g2:=same_new hl2 (.lst [])
          refine ⟨_,rfl,small (n:=2) (by decide),fun t2 ht2=>?_⟩
          have g3:=same_new ht2 (.tup [.ref l2,.int (i:Int)])
          refine qe i ?_ t2 l2 _ (g.trans (g1.trans (g2.trans g3))) (g3 _ _ upd_same) upd_same
          rw [← hR];unfold lexR;rw [hstep,hno]
        · have hup:=sig_up k' hsig
          refine ⟨_,rfl,rfl,_,rfl,iteF ?_⟩
          refine ⟨_,rfl,.inl ⟨rfl,_,SqL.of (g1 _ _ hl')⟩,?_⟩
          refine ⟨_,rfl,t,_,_,_,rfl,rfl,SqT.of ht,atI_nat (j:=0) rfl,_,rfl,t,_,_,_,rfl,rfl,SqT.of ht,atI_nat (j:=1) rfl,_,rfl,small (n:=3) (by decide),fun t2 ht2=>?_⟩
          have g2:=same_new ht2 (.tup [.str (lkd kd v),v,.int (i:Int)])
          have hl2:=g2 _ _ (g1 _ _ hl')
          have htl:t≠l:=fun z=>by rw [z,g1 _ _ hl'] at ht;cases ht
          refine ⟨l,xs,.ref t2,rfl,rfl,hl2,(by rw [sizeLine_eq];omega),?_⟩
          refine ⟨_,rfl,t,_,_,_,rfl,rfl,SqT.of (by rw [upd_ne htl];exact g2 _ _ ht),atI_nat (j:=2) rfl,⟨e,f,done++[⟨kd,v,i⟩],xs++[.ref t2],_,rfl,same_upd (g.trans (g1.trans g2)) hl,upd_same,?_,by rw [List.length_append,List.length_singleton];omega,by rw [List.length_append,List.length_singleton];omega,by omega,?_⟩,?_⟩
          · have kp:∀ b ys,upd H1 t2 (.tup [.str (lkd kd v),v,.int (i:Int)]) b=some (.tup ys)→upd (upd H1 t2 (.tup [.str (lkd kd v),v,.int (i:Int)])) l (.lst (xs++[.ref t2])) b=some (.tup ys):=fun b ys e=>by rw [upd_ne (ne_of e hl2 fun z=>nomatch z)];exact e
            refine Paired.snoc (Paired.mapP hxs fun _ _ z=>?_) ⟨t2,rfl,kp _ _ upd_same⟩
            obtain ⟨p,e1,e2⟩:=z
            exact ⟨p,e1,kp _ _ (g2 _ _ (g1 _ _ e2))⟩
          · rw [← hR]
            have h2:lexN (f+1) x i=match lexN f x e with
              | .inl p=>.inl p
              | .inr ts=>.inr (⟨kd,v,i⟩ :: ts):=by rw [hstep,hsig]
            unfold lexR
            rw [h2]
            cases lexN f x e <;> simp [List.append_assoc]
          · show x.length - (e:Int).toNat < x.length - (i:Int).toNat
            omega
    · have k':x.length≤i:=by
        have:¬ (i:Int) < (x.length:Int):=fun z=>k (decide_eq_true z)
        omega
      have hend:lexN f x i=.inr [⟨"end",.str "",x.length⟩]:=by
        cases f with
        | zero=>rfl
        | succ f =>
          show (match x.cps.toList[i]? with | none=>_ | some c=>_)=_
          rw [List.getElem?_eq_none (by omega)]
      have hfin:lexN (x.length+1) x 0=.inr (done++[⟨"end",.str "",x.length⟩]):=by
        rw [← hR];unfold lexR;rw [hend]
      refine ⟨_,rfl,_,rfl,_,rfl,big_line hx',small (n:=3) (by decide),fun t2 ht2=>?_⟩
      have g2:=same_new ht2 (.tup [.str "end",.str "",.int (x.length:Int)])
      refine ⟨small (n:=1) (by decide),fun l2 hl2=>?_⟩
      have g3:=same_new hl2 (.lst [.ref t2])
      refine ⟨l,l2,_,_,rfl,rfl,g3 _ _ (g2 _ _ hl'),upd_same,by rw [sizeLine_eq];show xs.length+1≤_;omega,fun l3 hl3=>?_⟩
      have g4:=same_new hl3 (.lst (xs++[.ref t2]))
      refine ⟨small (n:=2) (by decide),fun t3 ht3=>?_⟩
      have g5:=same_new ht3 (.tup [.ref l3,.non])
      have gg:=g2.trans (g3.trans (g4.trans g5))
      refine q _ hfin t3 l3 (xs++[.ref t2]) _ (g.trans gg) (g5 _ _ upd_same) (Paired.snoc (Paired.mapP hxs fun _ _ z=>?_) ⟨t2,rfl,?_⟩) upd_same
      · obtain ⟨p,e1,e2⟩:=z
        exact ⟨p,e1,gg _ _ e2⟩
      · rw [lkd_end];exact g5 _ _ (g4 _ _ (g3 _ _ upd_same))
  · obtain ⟨v1,e1,v2,e2,y,e3,h3,i,j,e4,e5,k,e6,h⟩:=h
    exact ⟨v1,e1,v2,e2,y,e3,h3,i,j,e4,e5,k,e6,hQ _ _ h⟩
end
end My
namespace My
open PySem L2
def KdOk (t:Tok):Prop:=(t.k="name"∧keptV t.v=false)∨t.k="mark"∨t.k="word"∨t.k="number"∨t.k="end"
theorem lex_kd (x : Str) : ∀ f i ts,lexN f x i=.inr ts→∀ t ∈ ts,KdOk t
  | 0,i,ts,h,t,ht=>by
    have h:Sum.inr [(⟨"end",.str "",x.length⟩:Tok)]=(Sum.inr ts:Sum Nat (List Tok)):=h
    cases h
    rw [List.mem_singleton.mp ht]
    exact .inr (.inr (.inr (.inr rfl)))
  | f + 1, i, ts, h, t, ht=>by
    rw [lexN] at h
    split at h
    · cases h
      rw [List.mem_singleton.mp ht]
      exact .inr (.inr (.inr (.inr rfl)))
    · split at h
      · exact lex_kd x f _ ts h t ht
      · split at h
        · cases h
        · rename_i k v e hs
          split at h
          · cases h
          · rename_i ts1 h1
            cases h
            rcases List.mem_cons.mp ht with rfl | ht
            · unfold sigAt at hs
              split at hs
              · cases hs
              · split at hs
                · unfold nameAt at hs
                  split at hs
                  · cases hs
                  · cases hs
                    by_cases hk:kept (cutN x i (runN nsg x.cps.toList i))=true
                    · exact .inr (.inl (if_pos hk))
                    · exact .inl ⟨if_neg hk,Bool.eq_false_iff.mpr hk⟩
                · split at hs
                  · unfold wordAt at hs
                    dsimp only at hs
                    split at hs
                    · cases hs
                    · split at hs
                      · cases hs;exact .inr (.inr (.inl rfl))
                      · cases hs
                  · split at hs
                    · unfold numAt at hs
                      split at hs
                      · cases hs
                      · cases hs;exact .inr (.inr (.inr (.inl rfl)))
                    · unfold markAt at hs
                      split at hs
                      · cases hs;exact .inr (.inl rfl)
                      · split at hs
                        · cases hs
                        · split at hs
                          · cases hs;exact .inr (.inl rfl)
                          · cases hs
            · exact lex_kd x f _ ts1 h1 t ht
theorem sig_len {x:Str} {i:Nat} {k:Str} {v:V} {e:Nat} (hs:sigAt x i=some (k,v,e)):(sgn v).length≤x.length+2:=by
  have sl:=fun (a b:Option Int)=>slice_len x a b
  have cl:∀ a b:Nat,(cutN x a b).length≤x.length:=fun a b=>slice_len x _ _
  have l0:("":Str).length=0:=by decide +kernel
  unfold sigAt at hs
  split at hs
  · cases hs
  · split at hs
    · unfold nameAt at hs
      split at hs
      · cases hs
      · cases hs
        exact Nat.le_trans (cl _ _) (Nat.le_add_right _ _)
    · split at hs
      · unfold wordAt at hs
        dsimp only at hs
        split at hs
        · cases hs
        · split at hs
          · cases hs;exact Nat.le_trans (sl _ _) (Nat.le_add_right _ _)
          · cases hs
      · split at hs
        · unfold numAt at hs
          split at hs
          · cases hs
          · rename_i v0 hv
            cases hs
            have : sgn v="":=by
              unfold numV at hv
              split at hv
              · split at hv
                · cases hv
                · cases e1:PySem.intText? (cutN x i (runN isFig x.cps.toList (i+1))) with
                  | none=>rw [e1] at hv;cases hv
                  | some n=>rw [e1] at hv;cases hv;rfl
              · cases hv
            rw [this,l0];omega
        · unfold markAt at hs
          split at hs
          · cases hs;exact Nat.le_trans (cl _ _) (Nat.le_add_right _ _)
          · split at hs
            · cases hs
            · split at hs
              · cases hs
                show 1≤x.length+2
                omega
              · cases hs
theorem lex_len (x:Str):∀ f i ts,lexN f x i=.inr ts→∀ t ∈ ts,(sgn t.v).length≤x.length+2
  | 0,i,ts,h,t,ht=>by
    have h:Sum.inr [(⟨"end",.str "",x.length⟩:Tok)]=(Sum.inr ts:Sum Nat (List Tok)):=h
    cases h
    rw [List.mem_singleton.mp ht]
    have l0:("":Str).length=0:=by decide +kernel
    show ("":Str).length≤_
    rw [l0];omega
  | f + 1, i,ts,h,t,ht=>by
    rw [lexN] at h
    split at h
    · cases h
      rw [List.mem_singleton.mp ht]
      have l0:("":Str).length=0:=by decide +kernel
      show ("":Str).length≤_
      rw [l0];omega
    · split at h
      · exact lex_len x f _ ts h t ht
      · split at h
        · cases h
        · rename_i k v e hs
          split at h
          · cases h
          · rename_i ts1 h1
            cases h
            rcases List.mem_cons.mp ht with rfl | ht
            · exact sig_len hs
            · exact lex_len x f _ ts1 h1 t ht
def KdL (t:Tok):Prop:=KdOk t∧(sgn t.v).length≤20000
theorem inV_of {v:V} {ss:List Str} (h:inV v (ss.map V.str)=true):∃ s ∈ ss,v=.str s:=by
  unfold inV at h
  obtain ⟨y,hy,e⟩:=List.any_eq_true.mp h
  obtain ⟨s,hs,rfl⟩:=List.mem_map.mp hy
  refine ⟨s,hs,?_⟩
  cases v with
  | str z =>
    have e:(s == z)=true:=e
    rw [eq_of_beq e]
  | _=>cases e
theorem in_of {s:Str} {ss:List Str} (h:s ∈ ss):inV (.str s) (ss.map V.str)=true:=by
  rw [inV_str];exact decide_eq_true h
abbrev NSg (b:Bool):Str:=if b=true then "name" else "sign"
theorem kds:("name":Str)≠"mark"∧("word":Str)≠"mark"∧("number":Str)≠"mark"∧("end":Str)≠"mark"∧(∀ b,NSg b≠"word"∧NSg b≠"number"∧NSg b≠"end")∧("name":Str)≠"sign"∧("sign":Str)≠"name":=by decide +kernel
theorem kd_law {t:Tok} (h:KdOk t) {b:Bool} {ss:List Str} (hs:∀ s ∈ ss,kept s=b):(decide (lkd t.k t.v=NSg b)&&inV t.v (ss.map V.str))=one1 t "mark" ss:=by
  obtain ⟨n1,n2,n3,n4,n5,n6,n7⟩:=kds
  have ed:decide (V.str t.k=V.str "mark")=decide (t.k="mark"):=by rw [Bool.eq_iff_iff];simp
  unfold one1
  rw [ed]
  cases hi:inV t.v (ss.map V.str) with
  | false=>rw [Bool.and_false,Bool.and_false]
  | true =>
    obtain ⟨s,hm,hv⟩:=inV_of hi
    have hk:keptV t.v=b:=by rw [hv];exact hs s hm
    rw [Bool.and_true,Bool.and_true]
    have lk:∀ k,k≠("mark":Str)→t.k=k→lkd t.k t.v=k:=fun k hne e=>by unfold lkd;rw [e,if_neg hne]
    rcases h with ⟨h1,h2⟩ | h1 | h1 | h1 | h1
    · rw [lk _ n1 h1,h1,decide_eq_false n1]
      have:b=false:=by rw [← hk,h2]
      subst this
      exact decide_eq_false n6
    · rw [h1,decide_eq_true rfl]
      unfold lkd
      rw [if_pos rfl,hk]
      exact decide_eq_true rfl
    · rw [lk _ n2 h1,h1,decide_eq_false n2]
      exact decide_eq_false fun z=>(n5 b).1 z.symm
    · rw [lk _ n3 h1,h1,decide_eq_false n3]
      exact decide_eq_false fun z=>(n5 b).2.1 z.symm
    · rw [lk _ n4 h1,h1,decide_eq_false n4]
      exact decide_eq_false fun z=>(n5 b).2.2 z.symm
theorem kd_nm {t:Tok} (h:KdOk t) {ss:List Str} (hs:∀ s ∈ ss,kept s=true):(decide (lkd t.k t.v="name")&&inV t.v (ss.map V.str))=one1 t "mark" ss:=kd_law h hs
theorem kd_sg {t:Tok} (h:KdOk t) {ss:List Str} (hs:∀ s ∈ ss,kept s=false):(decide (lkd t.k t.v="sign")&&inV t.v (ss.map V.str))=one1 t "mark" ss:=kd_law h hs
theorem inV_one {v:V} {s:Str}:inV v [.str s]=decide (v=.str s):=by
  rw [Bool.eq_iff_iff,decide_eq_true_eq]
  constructor
  · intro h
    obtain ⟨s',hm,e⟩:=inV_of (ss:=[s]) h
    rw [List.mem_singleton.mp hm] at e;exact e
  · intro h;rw [h];exact in_of (ss:=[s]) List.mem_cons_self
theorem eqV_one {v:V} {s:Str}:eqV v (.str s)=decide (v=.str s):=by
  rw [Bool.eq_iff_iff,decide_eq_true_eq]
  cases v with
  | str z =>
    constructor
    · intro h
      have h:(z == s)=true:=h
      rw [eq_of_beq h]
    · intro h;injection h with h;rw [h];show (s == s)=true;simp
  | _=>exact ⟨fun h=>(by cases h),fun h=>(by cases h)⟩
theorem kd_name {t:Tok} (h:KdOk t):(decide (lkd t.k t.v="name")&&!keptV t.v)=decide (t.k="name"):=by
  obtain ⟨n1,n2,n3,n4,n5,n6,n7⟩:=kds
  have lk:∀ k,k≠("mark":Str)→t.k=k→lkd t.k t.v=k:=fun k hne e=>by unfold lkd;rw [e,if_neg hne]
  rcases h with ⟨h1,h2⟩ | h1 | h1 | h1 | h1
  · rw [lk _ n1 h1,h1,h2];rfl
  · have e:lkd t.k t.v=NSg (keptV t.v):=by unfold lkd;rw [h1,if_pos rfl]
    rw [e,h1]
    cases keptV t.v with
    | true=>decide +kernel
    | false=>decide +kernel
  · rw [lk _ n2 h1,h1]
    have:decide (("word":Str)="name")=false:=by decide +kernel
    rw [this];rfl
  · rw [lk _ n3 h1,h1]
    have:decide (("number":Str)="name")=false:=by decide +kernel
    rw [this];rfl
  · rw [lk _ n4 h1,h1]
    have:decide (("end":Str)="name")=false:=by decide +kernel
    rw [this];rfl
theorem kd_lit {t:Tok} (h:KdOk t) {s:Str} (hs:s="number"∨s="word"):decide (lkd t.k t.v=s)=decide (t.k=s)∧(t.k=s→lkd t.k t.v=s):=by
  obtain ⟨n1,n2,n3,n4,n5,n6,n7⟩:=kds
  have lk:∀ k,k≠("mark":Str)→t.k=k→lkd t.k t.v=k:=fun k hne e=>by unfold lkd;rw [e,if_neg hne]
  have hm:s≠"mark":=by rcases hs with rfl | rfl;exact n3;exact n2
  refine ⟨?_,lk s hm⟩
  by_cases hk:t.k="mark"
  · have e:lkd t.k t.v=NSg (keptV t.v):=by unfold lkd;rw [hk,if_pos rfl]
    rw [e,hk,decide_eq_false hm.symm]
    rcases hs with rfl | rfl
    · exact decide_eq_false (n5 _).2.1
    · exact decide_eq_false (n5 _).1
  · rw [lk t.k hk rfl]
def LSt (H:Hp) (l:Addr) (xs:List V) (ts:List Tok):Prop:=H l=some (.lst xs)∧Paired (LTokAt H) xs ts
theorem LSt.same {H H':Hp} {l:Addr} {xs:List V} {ts:List Tok} (h:LSt H l xs ts) (g:Same H H'):LSt H' l xs ts :=
  ⟨g _ _ h.1,Paired.mapP h.2 fun _ _ ⟨p,e1,e2⟩=>⟨p,e1,g _ _ e2⟩⟩
theorem LSt.at' {H:Hp} {l:Addr} {xs:List V} {ts:List Tok} (h:LSt H l xs ts) {i:Nat} (hi:i < ts.length):∃ p,xs[i]?=some (.ref p)∧H p=some (.tup [.str (lkd (tkA ts i).k (tkA ts i).v),(tkA ts i).v,.int ((tkA ts i).p:Int)]):=by
  obtain ⟨x,hx,p,rfl,hp⟩:=pair_at h.2 (tk_at hi)
  exact ⟨p,hx,hp⟩
def PzC (ts:List Tok) (n:Nat) (m:PM) (d i:Nat):Prop:=TsOk ts∧(∀ t ∈ ts,KdL t)∧ts.length≤20000∧i < ts.length∧d≤12∧need m d≤n
def PzQ (ts:List Tok) (n:Nat) (m:PM) (d i:Nat) (H:Hp) (Q:VK):Prop :=
  (∀ p,pz ts n m d i=.inl p→∀ j r H',j < ts.length→(tkA ts j).p=p→Same H H'→H' r=some (.tup [.non,.int ((j:Nat):Int)])→Q (.ref r) H') ∧
  (∀ t j,pz ts n m d i=.inr (t,j)→∀ v r H',Same H H'→TmAt H' v t→H' r=some (.tup [v,.int ((j:Nat):Int)])→Q (.ref r) H')
def modeL (L:Nat):PM:=if L=3 then .neg else .part (L - 1)
def spParsed (n:Nat):Sp:=fun vs H Q _=>∃ l xs ts i d L,vs=[.ref l,.int ((i:Nat):Int),.int ((d:Nat):Int),.int ((L:Nat):Int)]∧1≤L∧L≤7∧LSt H l xs ts∧PzC ts n (modeL L) d i∧PzQ ts n (modeL L) d i H Q
def spAtom (n:Nat):Sp:=fun vs H Q _=>∃ l xs ts i d,vs=[.ref l,.int ((i:Nat):Int),.int ((d:Nat):Int)]∧LSt H l xs ts∧PzC ts n .leaf d i∧PzQ ts n .leaf d i H Q
theorem str_dec (a b:Str):decide (V.str a=V.str b)=decide (a=b):=by rw [Bool.eq_iff_iff];simp
section
variable {P:Program} {w:World} {K:PySem.W.Frag} {mg:Str→Option Value} {base:Heap} {a:Adr}
theorem ok_atom_succ (T:Txt K mg a) (n:Nat) (ih:∀ n',n'≤n→FnOk P w K mg base CX0 (n+4) a.f_parsed a.d_parsed ["_law_things_here","_law_at","_law_deep","_law_level_here"] (spParsed n')) :
    FnOk P w K mg base CX0 (n+1+4) a.f_atom a.d_atom ["_law_things_here","_law_at","_law_deep"] (spAtom (n+1)):=by
  refine T.F_atom.ok sc_atom (fun vs H Q E h=>?_) (fun cdv A outer s H vs Q E hr h=>?_)
  · obtain ⟨_,_,_,_,_,rfl,_⟩:=h;rfl
  obtain ⟨l,xs,ts,i,d,rfl,hS,⟨hT,hK,hl,hi,hd,hn⟩,qe,q⟩:=h
  have hu:=hr.units0
  refine ⟨_,(pss_cons (ps_asg (pe_ix ix_list (pv 0) (pv 1) (fun _ _=>rfl)) (pg_tup (n:=3) rfl (pgs_cons (pg_name (i:=3) sc_atom.nd rfl (by first | exact Or.inl rfl | exact Or.inr rfl)) (pgs_cons (pg_name (i:=4) sc_atom.nd rfl (by first | exact Or.inl rfl | exact Or.inr rfl)) (pgs_cons (pg_name (i:=5) sc_atom.nd rfl (by first | exact Or.inl rfl | exact Or.inr rfl)) pgs_nil))))) (pss_cons (ps_if (pt_cmpR op_in_seq (pv 3) (pe_tup (pa_cons pe_str (pa_cons pe_str pa_nil))) (by with_unfolding_all rfl)) (pss_one (ps_ret (pe_tup (pa_cons (pe_tup (pa_cons (pv 3) (pa_cons (pv 4) pa_nil))) (pa_cons (pe_op op_add (pv 1) pe_int) pa_nil))))) pss_nil) (pss_cons (ps_if (pt_cut (PW.pt (pw_and (pt_cmpR op_eq (pv 3) pe_str (nomark _)) (pw_and1 (pt_cmpR op_in_seq (pv 4) (pe_tup (pa_cons pe_str (pa_cons pe_str pa_nil))) (by with_unfolding_all rfl)))))) (pss_one (ps_ret (pe_tup (pa_cons (pe_tup (pa_cons pe_str (pa_cons (pe_cmpR op_eq (pv 4) pe_str (nomark _)) pa_nil))) (pa_cons (pe_op op_add (pv 1) pe_int) pa_nil))))) pss_nil) (pss_cons (ps_if (pt_cut (PW.pt (pw_and (pt_cmpR op_eq (pv 3) pe_str (nomark _)) (pw_and1 (pt_cmpR op_eq (pv 4) pe_str (nomark _)))))) (pss_cons (ps_asg (pe_ix ix_list (pv 0) (pe_op op_add (pv 1) pe_int) (fun _ _=>rfl)) (pg_tup (n:=3) rfl (pgs_cons (pg_name (i:=3) sc_atom.nd rfl (by first | exact Or.inl rfl | exact Or.inr rfl)) (pgs_cons (pg_name (i:=4) sc_atom.nd rfl (by first | exact Or.inl rfl | exact Or.inr rfl)) (pgs_cons (pg_name (i:=5) sc_atom.nd rfl (by first | exact Or.inl rfl | exact Or.inr rfl)) pgs_nil))))) (pss_cons (ps_set (i:=6) sc_atom.nd rfl (by first | exact Or.inl rfl | exact Or.inr rfl) (pe_cut (pe_and (pe_cmpR op_eq (pv 3) pe_str (nomark _)) (pe_one (pe_not (pe_call (ok_kept_word T) (hr.mono (by omega)) rfl T.m_kept_word T.F_kept_word.kp T.b_kept_word .nil pass0 (pa_cons (pv 4) pa_nil))))))) (pss_one (ps_ret (pe_ifExp (pt_val (pv 6)) (pe_tup (pa_cons (pe_tup (pa_cons pe_str (pa_cons (pv 4) pa_nil))) (pa_cons (pe_op op_add (pv 1) pe_int) pa_nil))) (pe_tup (pa_cons pe_non (pa_cons (pe_op op_add (pv 1) pe_int) pa_nil)))))))) pss_nil) (pss_cons (ps_if (pt_cut (PW.pt (pw_and (pt_cmpR (op_eqT hu) (pe_tup (pa_cons (pv 3) (pa_cons (pv 4) pa_nil))) (pe_tup (pa_cons pe_str (pa_cons pe_str pa_nil))) (nomark _)) (pw_and1 (pt_cmpR op_lt (pv 2) pe_int (nomark _)))))) (pss_cons (ps_asg (pe_call (ih _ (Nat.le_refl _)) (hr.mono (by omega)) rfl T.m_parsed T.F_parsed.kp T.b_parsed .nil pass0 (pa_cons (pv 0) (pa_cons (pe_op op_add (pv 1) pe_int) (pa_cons (pe_op op_add (pv 2) pe_int) (pa_cons pe_int pa_nil))))) (pg_tup (n:=2) rfl (pgs_cons (pg_name (i:=7) sc_atom.nd rfl (by first | exact Or.inl rfl | exact Or.inr rfl)) (pgs_cons (pg_name (i:=8) sc_atom.nd rfl (by first | exact Or.inl rfl | exact Or.inr rfl)) pgs_nil)))) (pss_cons (ps_if (pt_cut (PW.pt (pw_or (pt_cmpR op_isN (pv 7) pe_non (nomark _)) (pw_or1 (pt_cmpR (op_neT hu) (pe_slice sl_tup (pe_ix ix_list (pv 0) (pv 8) (fun _ _=>rfl)) po_none (po_some pe_int)) (pe_tup (pa_cons pe_str (pa_cons pe_str pa_nil))) (nomark _)))))) (pss_one (ps_ret (pe_tup (pa_cons pe_non (pa_cons (pv 8) pa_nil))))) pss_nil) (pss_one (ps_ret (pe_tup (pa_cons (pv 7) (pa_cons (pe_op op_add (pv 8) pe_int) pa_nil))))))) pss_nil) (pss_one (ps_ret (pe_ifExp (pt_cut (PW.pt (pw_and (pt_cmpR op_eq (pv 3) pe_str (nomark _)) (pw_and1 (pt_not (pt_val (pe_call (ok_kept_word T) (hr.mono (by omega)) rfl T.m_kept_word T.F_kept_word.kp T.b_kept_word .nil pass0 (pa_cons (pv 4) pa_nil)))))))) (pe_tup (pa_cons (pe_tup (pa_cons pe_str (pa_cons (pv 4) pa_nil))) (pa_cons (pe_op op_add (pv 1) pe_int) pa_nil))) (pe_tup (pa_cons pe_non (pa_cons (pv 1) pa_nil))))))))))),?_⟩
  obtain ⟨p,hx,hp⟩:=hS.at' hi
  obtain ⟨hKi,hLi⟩:=hK _ (List.mem_of_getElem? (tk_at hi))
  have hfl:=hT.flat hi
  refine ⟨_,rfl,_,rfl,l,_,_,_,rfl,rfl,SqL.of hS.1,atI_nat hx,?_⟩
  refine ⟨p,[_,_,_],rfl,SqT.of hp,rfl,_,[_,_],rfl,_,[_],rfl,_,[],rfl,rfl,?_⟩
  refine ⟨_,rfl,small (n:=2) (by decide),fun t0 ht0=>?_⟩
  have g1:=same_new ht0 (.tup [.str "number",.str "word"])
  refine ⟨t0,_,rfl,.inr (SqT.of upd_same),rfl,rfl,_,rfl,ite2 (fun c1=>?_) (fun c1=>?_)⟩
  · have c1':inV (.str (lkd (tkA ts i).k (tkA ts i).v)) ((["number","word"]:List Str).map V.str)=true:=c1
    rw [inV_str] at c1'
    have c2:=of_decide_eq_true c1'
    have hcase:(tkA ts i).k="number"∨(tkA ts i).k="word":=by
      rcases List.mem_cons.mp c2 with z | z
      · exact .inl (of_decide_eq_true ((kd_lit hKi (.inl rfl)).1.symm.trans (decide_eq_true z)))
      · exact .inr (of_decide_eq_true ((kd_lit hKi (.inr rfl)).1.symm.trans (decide_eq_true (List.mem_singleton.mp z))))
    refine ⟨_,rfl,_,rfl,small (n:=2) (by decide),fun t1 ht1=>⟨_,rfl,_,_,rfl,rfl,small (n:=2) (by decide),fun t2 ht2=>?_⟩⟩
    have g2:=same_new ht1 (.tup [.str (lkd (tkA ts i).k (tkA ts i).v),(tkA ts i).v])
    have g3:=same_new ht2 (.tup [.ref t1,.int ((i:Int)+1)])
    have n0:("word":Str)≠"number":=by decide +kernel
    rcases hcase with z | z
    · have hz:pz ts (n+1) .leaf d i=.inr (.lit "number" (tkA ts i).v,i+1):=by rw [pz,if_pos z]
      refine q _ _ hz (.ref t1) t2 _ (g1.trans (g2.trans g3)) ⟨t1,rfl,?_⟩ upd_same
      refine g3 _ _ ?_
      rw [upd_same,(kd_lit hKi (.inl rfl)).2 z]
    · have hz:pz ts (n+1) .leaf d i=.inr (.lit "word" (tkA ts i).v,i+1):=by rw [pz,if_neg (by rw [z];exact n0),if_pos z]
      refine q _ _ hz (.ref t1) t2 _ (g1.trans (g2.trans g3)) ⟨t1,rfl,?_⟩ upd_same
      refine g3 _ _ ?_
      rw [upd_same,(kd_lit hKi (.inr rfl)).2 z]
  have e1:(tkA ts i).k≠"number":=fun z=>c1 (by
    show inV (.str (lkd (tkA ts i).k (tkA ts i).v)) ((["number","word"]:List Str).map V.str)=true
    rw [(kd_lit hKi (.inl rfl)).2 z];decide +kernel)
  have e2:(tkA ts i).k≠"word":=fun z=>c1 (by
    show inV (.str (lkd (tkA ts i).k (tkA ts i).v)) ((["number","word"]:List Str).map V.str)=true
    rw [(kd_lit hKi (.inr rfl)).2 z];decide +kernel)
  have hv:=hT.str hi e1
  have hsc:∀ s:Str,scal (tkA ts i).v (.str s)=true:=fun s=>by rw [hv];rfl
  generalize upd H t0 (.tup [.str "number",.str "word"])=H1 at g1 ⊢
  refine ⟨fun b H2=>Same H1 H2∧b=one1 (tkA ts i) "mark" ["yes","no"],?_,?_⟩
  · have kl:=kd_nm hKi (ss:=["yes","no"]) (by decide +kernel)
    refine ⟨_,rfl,rfl,_,rfl,?_⟩
    rw [str_dec]
    refine ite2 (fun c=>?_) (fun c=>?_)
    · refine ⟨_,rfl,small (n:=2) (by decide),fun u hu'=>⟨u,_,rfl,.inr (SqT.of upd_same),hfl,rfl,_,rfl,same_new hu' _,?_⟩⟩
      rw [← kl,c,Bool.true_and];rfl
    · exact ⟨Same.refl _,by rw [← kl,Bool.eq_false_iff.mpr c,Bool.false_and]⟩
  rintro b H2 ⟨g2,rfl⟩
  have g02:=g1.trans g2
  refine ite2 (fun c3=>?_) (fun c3=>?_)
  · refine ⟨_,rfl,hsc _,small (n:=2) (by decide),fun t1 ht1=>⟨_,rfl,_,_,rfl,rfl,small (n:=2) (by decide),fun t2 ht2=>?_⟩⟩
    have g3:=same_new ht1 (.tup [.str "flag",.bl (decide ((tkA ts i).v=.str "yes"))])
    have g4:=same_new ht2 (.tup [.ref t1,.int ((i:Int)+1)])
    have hz:pz ts (n+1) .leaf d i=.inr (.lit "flag" (.bl (decide ((tkA ts i).v=.str "yes"))),i+1):=by rw [pz,if_neg e1,if_neg e2,if_pos c3]
    exact q _ _ hz (.ref t1) t2 _ (g02.trans (g3.trans g4)) ⟨t1,rfl,g4 _ _ upd_same⟩ upd_same
  have e3:¬ one1 (tkA ts i) "mark" ["yes","no"]=true:=c3
  refine ⟨fun b H3=>Same H2 H3∧b=one1 (tkA ts i) "mark" ["has"],?_,?_⟩
  · have kl:=kd_nm hKi (ss:=["has"]) (by decide +kernel)
    refine ⟨_,rfl,rfl,_,rfl,?_⟩
    rw [str_dec]
    refine ite2 (fun c=>?_) (fun c=>?_)
    · refine ⟨_,rfl,hsc _,_,rfl,Same.refl _,?_⟩
      rw [← kl,c,Bool.true_and];exact inV_one.symm
    · exact ⟨Same.refl _,by rw [← kl,Bool.eq_false_iff.mpr c,Bool.false_and]⟩
  rintro b H3 ⟨g3,rfl⟩
  have g03:=g02.trans g3
  refine ite2 (fun c4=>?_) (fun c4=>?_)
  · have hm:=hT.more hi (by rw [one1_k c4];exact mark_no.1)
    have hS3:=hS.same g03
    obtain ⟨p2,hx2,hp2⟩:=hS3.at' hm
    obtain ⟨hKi2,hLi2⟩:=hK _ (List.mem_of_getElem? (tk_at hm))
    have hz:pz ts (n+1) .leaf d i=kindZ ts (i+1) "name" "has":=by rw [pz,if_neg e1,if_neg e2,if_neg e3,if_pos c4]
    refine ⟨_,rfl,_,rfl,_,_,rfl,rfl,l,_,_,_,rfl,rfl,SqL.of hS3.1,atI_nat hx2,?_⟩
    refine ⟨p2,[_,_,_],rfl,SqT.of hp2,rfl,_,[_,_],rfl,_,[_],rfl,_,[],rfl,rfl,?_⟩
    refine ⟨fun v H4=>Same H3 H4∧v=.bl (decide ((tkA ts (i+1)).k="name")),?_,?_⟩
    · have kn:=kd_name hKi2
      refine ⟨_,rfl,rfl,_,rfl,?_⟩
      rw [str_dec]
      refine ite2 (fun c=>?_) (fun c=>?_)
      · have c':=of_decide_eq_true c
        have hv2:(tkA ts (i+1)).v=.str (sgn (tkA ts (i+1)).v):=hT.str hm fun z=>by
          have:decide (lkd (tkA ts (i+1)).k (tkA ts (i+1)).v="number")=true:=(kd_lit hKi2 (.inl rfl)).1.trans (decide_eq_true z)
          rw [c'] at this
          exact absurd (of_decide_eq_true this) (by decide +kernel)
        refine ⟨_,rfl,sgn (tkA ts (i+1)).v,by rw [← hv2];rfl,line_ok (by omega),fun H4 g4=>⟨_,rfl,g4,?_⟩⟩
        rw [← kn,c,Bool.true_and,hv2];rfl
      · exact ⟨Same.refl _,by rw [← kn,Bool.eq_false_iff.mpr c,Bool.false_and]⟩
    rintro v H4 ⟨g4,rfl⟩
    have g04:=g03.trans g4
    have hj:((i+1:Nat):Int)=(i:Int)+1:=by omega
    refine ⟨_,rfl,_,rfl,ite2 (fun c5=>?_) (fun c5=>?_)⟩
    · have c5':(tkA ts (i+1)).k="name":=of_decide_eq_true c5
      have hv2:(tkA ts (i+1)).v=.str (sgn (tkA ts (i+1)).v):=hT.str hm (by rw [c5'];decide +kernel)
      have hz2:pz ts (n+1) .leaf d i=.inr (.nam "has" (sgn (tkA ts (i+1)).v),i+1+1):=by rw [hz];unfold kindZ;rw [if_pos c5']
      refine ⟨_,rfl,small (n:=2) (by decide),fun t1 ht1=>⟨_,rfl,_,_,rfl,rfl,small (n:=2) (by decide),fun t2 ht2=>?_⟩⟩
      have g5:=same_new ht1 (.tup [.str "has",(tkA ts (i+1)).v])
      have g6:=same_new ht2 (.tup [.ref t1,.int ((i:Int)+2)])
      refine q _ _ hz2 (.ref t1) t2 _ (g04.trans (g5.trans g6)) ⟨t1,rfl,?_⟩ ?_
      · rw [← hv2];exact g6 _ _ upd_same
      · rw [upd_same,show (((i+1+1:Nat)):Int)=(i:Int)+2 by omega]
    · have c5':¬ (tkA ts (i+1)).k="name":=fun z=>c5 (decide_eq_true z)
      have hz2:pz ts (n+1) .leaf d i=.inl (tkA ts (i+1)).p:=by rw [hz];unfold kindZ;rw [if_neg c5']
      refine ⟨_,rfl,_,_,rfl,rfl,small (n:=2) (by decide),fun t2 ht2=>?_⟩
      have g6:=same_new ht2 (.tup [.non,.int ((i:Int)+1)])
      exact qe _ hz2 (i+1) t2 _ hm rfl (g04.trans g6) upd_same
  have e4:¬ one1 (tkA ts i) "mark" ["has"]=true:=c4
  refine ⟨fun b H4=>Same H3 H4∧b=(one1 (tkA ts i) "mark" ["("]&&decide (d < 12)),?_,?_⟩
  · have kl:=kd_sg hKi (ss:=["("]) (by decide +kernel)
    refine ⟨_,rfl,_,rfl,small (n:=2) (by decide),fun u1 hu1=>⟨small (n:=2) (by decide),fun u2 hu2=>?_⟩⟩
    have g5:=same_new hu1 (.tup [.str (lkd (tkA ts i).k (tkA ts i).v),(tkA ts i).v])
    have g6:=same_new hu2 (.tup [.str "sign",.str "("])
    refine ⟨u1,u2,_,_,rfl,rfl,SqT.of (g6 _ _ upd_same),SqT.of upd_same,rfl,by rw [hv];rfl,rfl,_,rfl,?_⟩
    have e:(List.zipWith eqV [.str (lkd (tkA ts i).k (tkA ts i).v),(tkA ts i).v] [.str "sign",.str "("]).all id=one1 (tkA ts i) "mark" ["("]:=by
      rw [← kl]
      show ((eqV (.str (lkd (tkA ts i).k (tkA ts i).v)) (.str "sign"))&&(eqV (tkA ts i).v (.str "(")&&true))=_
      rw [eqV_one,eqV_one,Bool.and_true,str_dec]
      congr 1
      exact inV_one.symm
    rw [e]
    refine ite2 (fun c=>?_) (fun c=>?_)
    · refine ⟨_,rfl,_,_,rfl,rfl,_,rfl,g5.trans g6,?_⟩
      have c':one1 (tkA ts i) "mark" ["("]=true:=c
      rw [c',Bool.true_and,Bool.eq_iff_iff,decide_eq_true_eq,decide_eq_true_eq];omega
    · have c':one1 (tkA ts i) "mark" ["("]=false:=Bool.eq_false_iff.mpr c
      exact ⟨g5.trans g6,by rw [c',Bool.false_and]⟩
  rintro b H4 ⟨g4,rfl⟩
  have g04:=g03.trans g4
  refine ite2 (fun c5=>?_) (fun c5=>?_)
  · rw [Bool.and_eq_true,decide_eq_true_eq] at c5
    obtain ⟨c5,cd⟩:=c5
    have hm:=hT.more hi (by rw [one1_k c5];exact mark_no.1)
    have hz:pz ts (n+1) .leaf d i=(match pz ts n (.part 0) (d+1) (i+1) with
        | .inl p=>.inl p
        | .inr (t,j)=>if one1 (tkA ts j) "mark" [")"]=true then .inr (t,j+1) else .inl (tkA ts j).p):=by rw [pz,if_neg e1,if_neg e2,if_neg e3,if_neg e4,if_pos c5,if_neg (by omega)];try rfl
    have hS4:=hS.same g04
    have hn':9 * (12 - d)+1≤n+1:=hn
    have hcl:∀ x1 x2 x3:V,cutV [x1,x2,x3] none (some 2)=[x1,x2]:=fun x1 x2 x3=>by unfold cutV HT.sIx;simp
    refine ⟨_,rfl,_,rfl,_,_,rfl,rfl,_,rfl,_,_,rfl,rfl,l,xs,ts,i+1,d+1,1,rfl,by decide,by decide,hS4,⟨hT,hK,hl,hm,by omega,?_⟩,fun p5 hp5 j r H5 hj hjp g5 hr5=>?_,fun t j hp5 v r H5 g5 hv5 hr5=>?_⟩
    · show 9 * (12 - (d+1))+9≤n
      omega
    · have hp5:pz ts n (.part 0) (d+1) (i+1)=.inl p5:=hp5
      refine ⟨r,[_,_],rfl,SqT.of hr5,rfl,_,[_],rfl,_,[],rfl,rfl,?_⟩
      refine ⟨fun b H6=>Same H5 H6∧b=true,?_,?_⟩
      · exact ⟨_,rfl,rfl,_,rfl,iteT ⟨Same.refl _,rfl⟩⟩
      rintro b H6 ⟨g6,rfl⟩
      refine iteT ⟨_,rfl,small (n:=2) (by decide),fun t2 ht2=>?_⟩
      have g7:=same_new ht2 (.tup [.non,.int ((j:Nat):Int)])
      exact qe p5 (by rw [hz,hp5]) j t2 _ hj hjp (g04.trans (g5.trans (g6.trans g7))) upd_same
    · have hp5:pz ts n (.part 0) (d+1) (i+1)=.inr (t,j):=hp5
      have hj:=pz_up hT n _ _ _ _ _ hm hp5
      obtain ⟨pt,xt,rfl,hpt⟩:=hv5.top
      have hS5:=hS4.same g5
      obtain ⟨pe,hxe,hpe⟩:=hS5.at' hj.2
      obtain ⟨hKe,hLe⟩:=hK _ (List.mem_of_getElem? (tk_at hj.2))
      have hfe:=hT.flat hj.2
      refine ⟨r,[_,_],rfl,SqT.of hr5,rfl,_,[_],rfl,_,[],rfl,rfl,?_⟩
      refine ⟨fun b H6=>Same H5 H6∧b=!one1 (tkA ts j) "mark" [")"],?_,?_⟩
      · refine ⟨_,rfl,rfl,_,rfl,iteF ?_⟩
        refine ⟨_,rfl,_,rfl,l,_,_,_,rfl,rfl,SqL.of hS5.1,atI_nat hxe,?_⟩
        refine ⟨_,rfl,pe,_,rfl,SqT.of hpe,by unfold HT.sIx;simp,fun u1 hu1=>?_⟩
        rw [hcl]
        have k1:=same_new hu1 (.tup [.str (lkd (tkA ts j).k (tkA ts j).v),(tkA ts j).v])
        refine ⟨small (n:=2) (by decide),fun u2 hu2=>?_⟩
        have k2:=same_new hu2 (.tup [.str "sign",.str ")"])
        refine ⟨u1,u2,_,_,rfl,rfl,SqT.of (k2 _ _ upd_same),SqT.of upd_same,rfl,by rw [List.all_cons,List.all_cons,hfe];rfl,rfl,_,rfl,k1.trans k2,?_⟩
        rw [← kd_sg hKe (ss:=[")"]) (by decide +kernel)]
        show (!(eqV (.str (lkd (tkA ts j).k (tkA ts j).v)) (.str "sign")&&(eqV (tkA ts j).v (.str ")")&&true)))=_
        rw [eqV_one,eqV_one,Bool.and_true,str_dec]
        congr 2
        exact inV_one.symm
      rintro b H6 ⟨g6,rfl⟩
      have g06:=g04.trans (g5.trans g6)
      refine ite2 (fun c6=>?_) (fun c6=>?_)
      · have c6':¬ one1 (tkA ts j) "mark" [")"]=true:=by simpa using c6
        refine ⟨_,rfl,small (n:=2) (by decide),fun t2 ht2=>?_⟩
        have g7:=same_new ht2 (.tup [.non,.int ((j:Nat):Int)])
        exact qe (tkA ts j).p (by rw [hz,hp5];exact if_neg c6') j t2 _ hj.2 rfl (g06.trans g7) upd_same
      · have c6':one1 (tkA ts j) "mark" [")"]=true:=by simpa using c6
        refine ⟨_,rfl,_,rfl,_,_,rfl,rfl,small (n:=2) (by decide),fun t2 ht2=>?_⟩
        have g7:=same_new ht2 (.tup [.ref pt,.int ((j:Int)+1)])
        exact q t (j+1) (by rw [hz,hp5];exact if_pos c6') (.ref pt) t2 _ (g06.trans g7) ((hv5.same g6).same g7) upd_same
  have kn:=kd_name hKi
  have hz:pz ts (n+1) .leaf d i=(if one1 (tkA ts i) "mark" ["("]=true then .inl (tkA ts i).p else kindZ ts i "name" "field"):=by
    rw [pz,if_neg e1,if_neg e2,if_neg e3,if_neg e4]
    by_cases e5:one1 (tkA ts i) "mark" ["("]=true
    · rw [if_pos e5,if_pos e5]
      have:d=12:=by
        rw [e5,Bool.true_and,decide_eq_true_eq] at c5
        omega
      rw [if_pos this]
    · rw [if_neg e5,if_neg e5]
  refine ⟨fun b H5=>Same H4 H5∧b=decide ((tkA ts i).k="name"),?_,?_⟩
  · refine ⟨_,rfl,rfl,_,rfl,?_⟩
    rw [str_dec]
    refine ite2 (fun c=>?_) (fun c=>?_)
    · refine ⟨_,rfl,sgn (tkA ts i).v,by rw [← hv];rfl,line_ok (by omega),fun H5 g5=>⟨_,rfl,g5,?_⟩⟩
      rw [← kn,c,Bool.true_and,hv];rfl
    · exact ⟨Same.refl _,by rw [← kn,Bool.eq_false_iff.mpr c,Bool.false_and]⟩
  rintro b H5 ⟨g5,rfl⟩
  have g05:=g04.trans g5
  refine ite2 (fun c6=>?_) (fun c6=>?_)
  · have c6':(tkA ts i).k="name":=of_decide_eq_true c6
    have e5:¬ one1 (tkA ts i) "mark" ["("]=true:=fun z=>by
      have:=one1_k z
      rw [c6'] at this
      exact absurd this kds.1
    have hz2:pz ts (n+1) .leaf d i=.inr (.nam "field" (sgn (tkA ts i).v),i+1):=by rw [hz,if_neg e5];unfold kindZ;rw [if_pos c6']
    refine ⟨_,rfl,small (n:=2) (by decide),fun t1 ht1=>⟨_,rfl,_,_,rfl,rfl,small (n:=2) (by decide),fun t2 ht2=>?_⟩⟩
    have g6:=same_new ht1 (.tup [.str "field",(tkA ts i).v])
    have g7:=same_new ht2 (.tup [.ref t1,.int ((i:Int)+1)])
    refine q _ _ hz2 (.ref t1) t2 _ (g05.trans (g6.trans g7)) ⟨t1,rfl,?_⟩ upd_same
    rw [← hv];exact g7 _ _ upd_same
  · have c6':¬ (tkA ts i).k="name":=fun z=>c6 (decide_eq_true z)
    have hz2:pz ts (n+1) .leaf d i=.inl (tkA ts i).p:=by
      rw [hz]
      unfold kindZ
      rw [if_neg c6']
      split <;> rfl
    refine ⟨_,rfl,small (n:=2) (by decide),fun t2 ht2=>?_⟩
    have g7:=same_new ht2 (.tup [.non,.int ((i:Nat):Int)])
    exact qe _ hz2 i t2 _ hi rfl (g05.trans g7) upd_same
end
end My
namespace My
open PySem L2
abbrev sgL:List (List Str):=[[],["or"],["and"],[],["=","!=","<","<=",">",">="],["+","-"],["*"],[]]
def msr (N:Nat) (σ:St):Nat:=match σ with
  | [_,some (.int j),_,_,_,_,_,some (.ref _),_,_,_]=>1+(N - j.toNat)
  | _=>0
theorem sub_sp {n L:Nat} (h1:1≤L) (h6:L≤6) {l:Addr} {xs:List V} {ts:List Tok} {i d:Nat} {H:Hp} {Q:VK} {E:XK} {vs:List V} (hvs:vs=[.ref l,.int ((i:Nat):Int),.int ((d:Nat):Int),.int (((L+1:Nat):Nat):Int)]) (hS:LSt H l xs ts) (hC:PzC ts n (.part L) d i) (hQ:PzQ ts n (.part L) d i H Q) :
    spParsed n vs H Q E∨spParsed (n - 1) vs H Q E:=by
  by_cases h2:L=2
  · subst h2
    obtain ⟨hT,hK,hl,hi,hd,hn⟩:=hC
    have hn:9 * (12 - d)+7≤n:=hn
    obtain ⟨n,rfl⟩:∃ k,n=k+1:=⟨n - 1,by omega⟩
    have hz:pz ts (n+1) (.part 2) d i=pz ts n .neg d i:=by rw [pz,if_pos rfl]
    refine .inr ⟨l,xs,ts,i,d,3,hvs,by decide,by decide,hS,⟨hT,hK,hl,hi,hd,(by show 9 * (12 - d)+6≤n;omega)⟩,?_,?_⟩
    · intro p hp
      exact hQ.1 p (hz.trans hp)
    · intro t j hp
      exact hQ.2 t j (hz.trans hp)
  · have hm:modeL (L+1)=.part L:=by
      unfold modeL
      rw [if_neg (by omega)];rfl
    refine .inl ⟨l,xs,ts,i,d,L+1,hvs,by omega,by omega,hS,?_,?_⟩
    · rw [hm];exact hC
    · rw [hm];exact hQ
section
variable {P:Program} {w:World} {K:PySem.W.Frag} {mg:Str→Option Value} {base:Heap} {a:Adr}
theorem ok_parsed_succ (T:Txt K mg a) (n:Nat) (ih:∀ n',n'≤n→FnOk P w K mg base CX0 (n+4) a.f_parsed a.d_parsed ["_law_things_here","_law_at","_law_deep","_law_level_here"] (spParsed n'))
    (iha:FnOk P w K mg base CX0 (n+4) a.f_atom a.d_atom ["_law_things_here","_law_at","_law_deep"] (spAtom n)) :
    FnOk P w K mg base CX0 (n+1+4) a.f_parsed a.d_parsed ["_law_things_here","_law_at","_law_deep","_law_level_here"] (spParsed (n+1)):=by
  have ihs:=FnOk.or (ih n (Nat.le_refl _)) (ih (n - 1) (Nat.sub_le _ _))
  refine T.F_parsed.ok sc_parsed (fun vs H Q E h=>?_) (fun cdv A outer s H vs Q E hr h=>?_)
  · obtain ⟨_,_,_,_,_,_,rfl,_⟩:=h;rfl
  obtain ⟨l,xs,ts,i,d,L,rfl,L1,L7,hS,⟨hT,hK,hl,hi,hd,hn⟩,qe,q⟩:=h
  have hu:=hr.units0
  refine boxE ⟨_,(by exact (bss_cons (bs_set (i:=4) sc_parsed.nd rfl (by first | exact Or.inl rfl | exact Or.inr rfl) (be_cut (be_ix ix_list (be_lst (bpa_cons (be_tup bpa_nil) (bpa_cons (be_tup (bpa_cons ⟨pe_str⟩ bpa_nil star_con)) (bpa_cons (be_tup (bpa_cons ⟨pe_str⟩ bpa_nil star_con)) (bpa_cons (be_tup bpa_nil) (bpa_cons (be_tup (bpa_cons ⟨pe_str⟩ (bpa_cons ⟨pe_str⟩ (bpa_cons ⟨pe_str⟩ (bpa_cons ⟨pe_str⟩ (bpa_cons ⟨pe_str⟩ (bpa_cons ⟨pe_str⟩ bpa_nil star_con) star_con) star_con) star_con) star_con) star_con)) (bpa_cons (be_tup (bpa_cons ⟨pe_str⟩ (bpa_cons ⟨pe_str⟩ bpa_nil star_con) star_con)) (bpa_cons (be_tup (bpa_cons ⟨pe_str⟩ bpa_nil star_con)) (bpa_cons (be_tup bpa_nil) bpa_nil star_tup) star_tup) star_tup) star_tup) star_tup) star_tup) star_tup) star_tup)) ⟨(pv 3)⟩ (fun _ _=>rfl))) rfl (by first | exact .inl rfl | exact .inr rfl)) (bss_cons (bs_if ⟨(PW.pt (pw_and (pt_cmpR op_eq (pv 3) pe_int (nomark _)) (pw_and1 (pt_cmpR (op_eqT hu) (pe_slice sl_tup (pe_ix ix_list (pv 0) (pv 1) (fun _ _=>rfl)) po_none (po_some pe_int)) (pe_tup (pa_cons pe_str (pa_cons pe_str pa_nil star_con) star_con)) (nomark _)))))⟩ (bss_cons (bs_if ⟨(pt_cmpR op_gt (pv 2) pe_int (nomark _))⟩ (bss_one (bs_ret (be_tup (bpa_cons ⟨pe_non⟩ (bpa_cons ⟨(pv 1)⟩ bpa_nil star_nam) star_con)))) bss_nil) (bss_cons ⟨(ps_asg (pe_call ihs (hr.mono (by omega)) rfl T.m_parsed T.F_parsed.kp T.b_parsed .nil pass0 (pa_cons (pv 0) (pa_cons (pe_op op_add (pv 1) pe_int) (pa_cons (pe_op op_add (pv 2) pe_int) (pa_cons pe_int pa_nil star_con) star_bin) star_bin) star_nam)) (pg_tup (n:=2) rfl (pgs_cons (pg_name (i:=5) sc_parsed.nd rfl (by first | exact Or.inl rfl | exact Or.inr rfl)) (pgs_cons (pg_name (i:=6) sc_parsed.nd rfl (by first | exact Or.inl rfl | exact Or.inr rfl)) pgs_nil))))⟩ (bss_one (bs_ret ⟨(pe_ifExp (pt_cmpR op_isN (pv 5) pe_non (nomark _)) (pe_tup (pa_cons pe_non (pa_cons (pv 6) pa_nil star_nam) star_con)) (pe_tup (pa_cons (pe_tup (pa_cons pe_str (pa_cons (pv 5) pa_nil star_nam) star_con)) (pa_cons (pv 6) pa_nil star_nam) star_tup)))⟩)))) bss_nil) (bss_cons (bs_if ⟨(pt_cmpR op_eq (pv 3) pe_int (nomark _))⟩ (bss_one (bs_ret ⟨(pe_call iha (hr.mono (by omega)) rfl T.m_atom T.F_atom.kp T.b_atom .nil pass0 (pa_cons (pv 0) (pa_cons (pv 1) (pa_cons (pv 2) pa_nil star_nam) star_nam) star_nam))⟩)) bss_nil) (bss_cons (bs_if ⟨(pt_cmpR op_eq (pv 3) pe_int (nomark _))⟩ (bss_one (bs_ret ⟨(pe_call ihs (hr.mono (by omega)) rfl T.m_parsed T.F_parsed.kp T.b_parsed .nil pass0 (pa_cons (pv 0) (pa_cons (pv 1) (pa_cons (pv 2) (pa_cons pe_int pa_nil star_con) star_nam) star_nam) star_nam))⟩)) bss_nil) (bss_cons ⟨(ps_cut (ps_asg (pe_call ihs (hr.mono (by omega)) rfl T.m_parsed T.F_parsed.kp T.b_parsed .nil pass0 (pa_cons (pv 0) (pa_cons (pv 1) (pa_cons (pv 2) (pa_cons (pe_op op_add (pv 3) pe_int) pa_nil star_bin) star_nam) star_nam) star_nam)) (pg_tup (n:=2) rfl (pgs_cons (pg_name (i:=7) sc_parsed.nd rfl (by first | exact Or.inl rfl | exact Or.inr rfl)) (pgs_cons (pg_name (i:=1) sc_parsed.nd rfl (by first | exact Or.inl rfl | exact Or.inr rfl)) pgs_nil)))))⟩ (bss_cons (bs_set (i:=8) sc_parsed.nd rfl (by first | exact Or.inl rfl | exact Or.inr rfl) (be_ix ix_list (be_lst (bpa_cons ⟨pe_str⟩ (bpa_cons ⟨pe_str⟩ bpa_nil star_con) star_con)) ⟨(pe_callTy call_int1 rfl T.n_int (by decide +kernel) (pa_cons (pe_cmpR op_lt (pv 3) pe_int (nomark _)) pa_nil))⟩ (fun _ _=>rfl)) rfl (by first | exact .inl rfl | exact .inr rfl)) (bss_cons ⟨(ps_while PassesOwn.never (PW.pt (pw_and (pt_cmpR op_notN (pv 7) pe_non (nomark _)) (pw_and (pt_cmpR op_in_seq (pe_ix ix_tup (pe_ix ix_list (pv 0) (pv 1) (fun _ _=>rfl)) pe_int (fun _ _=>rfl)) (pv 4) (by with_unfolding_all rfl)) (pw_and1 (pt_cmpR op_eq (pe_ix ix_tup (pe_ix ix_list (pv 0) (pv 1) (fun _ _=>rfl)) pe_int (fun _ _=>rfl)) (pv 8) (nomark _)))))) (pss_cons (ps_set (i:=9) sc_parsed.nd rfl (by first | exact Or.inl rfl | exact Or.inr rfl) (pe_ix ix_tup (pe_ix ix_list (pv 0) (pv 1) (fun _ _=>rfl)) pe_int (fun _ _=>rfl))) (pss_cons (ps_asg (pe_call ihs (hr.mono (by omega)) rfl T.m_parsed T.F_parsed.kp T.b_parsed .nil pass0 (pa_cons (pv 0) (pa_cons (pe_op op_add (pv 1) pe_int) (pa_cons (pv 2) (pa_cons (pe_op op_add (pv 3) pe_int) pa_nil star_bin) star_nam) star_bin) star_nam)) (pg_tup (n:=2) rfl (pgs_cons (pg_name (i:=10) sc_parsed.nd rfl (by first | exact Or.inl rfl | exact Or.inr rfl)) (pgs_cons (pg_name (i:=1) sc_parsed.nd rfl (by first | exact Or.inl rfl | exact Or.inr rfl)) pgs_nil)))) (pss_cons (ps_set (i:=7) sc_parsed.nd rfl (by first | exact Or.inl rfl | exact Or.inr rfl) (pe_ifExp (pt_cmpR op_isN (pv 10) pe_non (nomark _)) pe_non (pe_tup (pa_cons (pv 9) (pa_cons (pv 7) (pa_cons (pv 10) pa_nil star_nam) star_nam) star_nam)))) (pss_one (ps_set (i:=4) sc_parsed.nd rfl (by first | exact Or.inl rfl | exact Or.inr rfl) (pe_ifExp (pt_cmpR op_eq (pv 3) pe_int (nomark _)) (pe_tup pa_nil) (pv 4))))))))⟩ (bss_one (bs_ret (be_tup (bpa_cons ⟨(pv 7)⟩ (bpa_cons ⟨(pv 1)⟩ bpa_nil star_nam) star_nam)))))))))))),?_⟩
  have hcl:∀ x1 x2 x3:V,cutV [x1,x2,x3] none (some 2)=[x1,x2]:=fun x1 x2 x3=>by unfold cutV HT.sIx;simp
  refine ⟨fun v H1=>∃ r,v=.ref r∧Same H H1∧H1 r=some (.tup ((sgL.getD L []).map V.str)),?_,?_⟩
  · refine ⟨small (n:=0) (by decide),fun r0 k0=>?_⟩
    have g0:=same_new k0 (.tup [])
    refine ⟨small (n:=1) (by decide),fun r1 k1=>?_⟩
    have g1:=same_new k1 (.tup [.str "or"])
    refine ⟨small (n:=1) (by decide),fun r2 k2=>?_⟩
    have g2:=same_new k2 (.tup [.str "and"])
    refine ⟨small (n:=0) (by decide),fun r3 k3=>?_⟩
    have g3:=same_new k3 (.tup [])
    refine ⟨small (n:=6) (by decide),fun r4 k4=>?_⟩
    have g4:=same_new k4 (.tup (cmpS.map V.str))
    refine ⟨small (n:=2) (by decide),fun r5 k5=>?_⟩
    have g5:=same_new k5 (.tup [.str "+",.str "-"])
    refine ⟨small (n:=1) (by decide),fun r6 k6=>?_⟩
    have g6:=same_new k6 (.tup [.str "*"])
    refine ⟨small (n:=0) (by decide),fun r7 k7=>?_⟩
    have g7:=same_new k7 (.tup [])
    refine ⟨small (n:=8) (by decide),fun lb kb=>?_⟩
    have gb:=same_new kb (.lst [.ref r0,.ref r1,.ref r2,.ref r3,.ref r4,.ref r5,.ref r6,.ref r7])
    have gg:=(((((((g0.trans g1).trans g2).trans g3).trans g4).trans g5).trans g6).trans g7).trans gb
    have e1:=gb _ _ (g7 _ _ (g6 _ _ (g5 _ _ (g4 _ _ (g3 _ _ (g2 _ _ (upd_same (H:=upd H r0 (.tup [])) (a:=r1) (o:=.tup [.str "or"]))))))))
    have e2:=gb _ _ (g7 _ _ (g6 _ _ (g5 _ _ (g4 _ _ (g3 _ _ (upd_same (a:=r2) (o:=.tup [.str "and"])))))))
    have e3:=gb _ _ (g7 _ _ (g6 _ _ (g5 _ _ (g4 _ _ (upd_same (a:=r3) (o:=.tup []))))))
    have e4:=gb _ _ (g7 _ _ (g6 _ _ (g5 _ _ (upd_same (a:=r4) (o:=.tup (cmpS.map V.str))))))
    have e5:=gb _ _ (g7 _ _ (g6 _ _ (upd_same (a:=r5) (o:=.tup [.str "+",.str "-"]))))
    have e6:=gb _ _ (g7 _ _ (upd_same (a:=r6) (o:=.tup [.str "*"])))
    have e7:=gb _ _ (upd_same (a:=r7) (o:=.tup []))
    have hL:L=1∨L=2∨L=3∨L=4∨L=5∨L=6∨L=7:=by omega
    rcases hL with rfl | rfl | rfl | rfl | rfl | rfl | rfl
    · exact ⟨_,rfl,lb,_,_,_,rfl,rfl,SqL.of upd_same,atI_nat (j:=1) rfl,r1,rfl,gg,e1⟩
    · exact ⟨_,rfl,lb,_,_,_,rfl,rfl,SqL.of upd_same,atI_nat (j:=2) rfl,r2,rfl,gg,e2⟩
    · exact ⟨_,rfl,lb,_,_,_,rfl,rfl,SqL.of upd_same,atI_nat (j:=3) rfl,r3,rfl,gg,e3⟩
    · exact ⟨_,rfl,lb,_,_,_,rfl,rfl,SqL.of upd_same,atI_nat (j:=4) rfl,r4,rfl,gg,e4⟩
    · exact ⟨_,rfl,lb,_,_,_,rfl,rfl,SqL.of upd_same,atI_nat (j:=5) rfl,r5,rfl,gg,e5⟩
    · exact ⟨_,rfl,lb,_,_,_,rfl,rfl,SqL.of upd_same,atI_nat (j:=6) rfl,r6,rfl,gg,e6⟩
    · exact ⟨_,rfl,lb,_,_,_,rfl,rfl,SqL.of upd_same,atI_nat (j:=7) rfl,r7,rfl,gg,e7⟩
  rintro v H1 ⟨rs,rfl,g1,hrs⟩
  have hS1:=hS.same g1
  by_cases h3:L=3
  · subst h3
    have hn':9 * (12 - d)+6≤n+1:=hn
    obtain ⟨p,hx,hp⟩:=hS1.at' hi
    obtain ⟨hKi,hLi⟩:=hK _ (List.mem_of_getElem? (tk_at hi))
    have hfl:=hT.flat hi
    refine ⟨_,rfl,rfl,_,rfl,iteT ?_⟩
    refine ⟨_,rfl,_,rfl,l,_,_,_,rfl,rfl,SqL.of hS1.1,atI_nat hx,?_⟩
    refine ⟨_,rfl,p,_,rfl,SqT.of hp,by unfold HT.sIx;simp,fun u1 hu1=>?_⟩
    rw [hcl]
    have k1:=same_new hu1 (.tup [.str (lkd (tkA ts i).k (tkA ts i).v),(tkA ts i).v])
    refine ⟨small (n:=2) (by decide),fun u2 hu2=>?_⟩
    have k2:=same_new hu2 (.tup [.str "name",.str "not"])
    refine ⟨u1,u2,_,_,rfl,rfl,SqT.of (k2 _ _ upd_same),SqT.of upd_same,rfl,by rw [List.all_cons,List.all_cons,hfl];rfl,rfl,_,rfl,?_⟩
    have g2:=g1.trans (k1.trans k2)
    have eo:(List.zipWith eqV [.str (lkd (tkA ts i).k (tkA ts i).v),(tkA ts i).v] [.str "name",.str "not"]).all id=one1 (tkA ts i) "mark" ["not"]:=by
      rw [← kd_nm hKi (ss:=["not"]) (by decide +kernel)]
      show ((eqV (.str (lkd (tkA ts i).k (tkA ts i).v)) (.str "name"))&&(eqV (tkA ts i).v (.str "not")&&true))=_
      rw [eqV_one,eqV_one,Bool.and_true,str_dec]
      congr 1
      exact inV_one.symm
    have hS2:=hS1.same (k1.trans k2)
    rw [eo]
    refine ite2 (fun c=>?_) (fun c=>?_)
    · have c':one1 (tkA ts i) "mark" ["not"]=true:=c
      have hm:=hT.more hi (by rw [one1_k c'];exact mark_no.1)
      refine ⟨_,rfl,_,_,rfl,rfl,_,rfl,ite2 (fun c2=>?_) (fun c2=>?_)⟩
      · have c2':(d:Int) > 11:=of_decide_eq_true c2
        have hz:pz ts (n+1) .neg d i=.inl (tkA ts i).p:=by rw [pz,if_pos c',if_pos (by omega)]
        refine ⟨_,rfl,small (n:=2) (by decide),fun t2 ht2=>?_⟩
        exact qe _ hz i t2 _ hi rfl (g2.trans (same_new ht2 _)) upd_same
      · have c2':¬ (d:Int) > 11:=fun z=>c2 (decide_eq_true z)
        have hz:pz ts (n+1) .neg d i=(match pz ts n .neg (d+1) (i+1) with
          | .inl p=>.inl p
          | .inr (t,j)=>.inr (.neg t,j)):=by rw [pz,if_pos c',if_neg (by omega)];try rfl
        refine ⟨_,rfl,_,rfl,_,_,rfl,rfl,_,rfl,_,_,rfl,rfl,.inl ⟨l,xs,ts,i+1,d+1,3,rfl,by decide,by decide,hS2,⟨hT,hK,hl,hm,by omega,?_⟩,fun p5 hp5 j r H5 hj hjp g5 hr5=>?_,fun t j hp5 v r H5 g5 hv5 hr5=>?_⟩⟩
        · show 9 * (12 - (d+1))+6≤n
          omega
        · have hp5:pz ts n .neg (d+1) (i+1)=.inl p5:=hp5
          refine ⟨r,[_,_],rfl,SqT.of hr5,rfl,_,[_],rfl,_,[],rfl,rfl,?_⟩
          refine ⟨_,rfl,rfl,_,rfl,iteT ⟨_,rfl,small (n:=2) (by decide),fun t2 ht2=>?_⟩⟩
          exact qe p5 (by show pz ts (n+1) .neg d i=_;rw [hz,hp5]) j t2 _ hj hjp (g2.trans (g5.trans (same_new ht2 _))) upd_same
        · have hp5:pz ts n .neg (d+1) (i+1)=.inr (t,j):=hp5
          obtain ⟨pt,xt,rfl,hpt⟩:=hv5.top
          refine ⟨r,[_,_],rfl,SqT.of hr5,rfl,_,[_],rfl,_,[],rfl,rfl,?_⟩
          refine ⟨_,rfl,rfl,_,rfl,iteF ⟨_,rfl,small (n:=2) (by decide),fun t1 ht1=>⟨_,rfl,small (n:=2) (by decide),fun t2 ht2=>?_⟩⟩⟩
          have g6:=same_new ht1 (.tup [.str "not",.ref pt])
          have g7:=same_new ht2 (.tup [.ref t1,.int ((j:Nat):Int)])
          exact q (.neg t) j (by show pz ts (n+1) .neg d i=_;rw [hz,hp5]) (.ref t1) t2 _ (g2.trans (g5.trans (g6.trans g7))) ⟨t1,.ref pt,rfl,g7 _ _ upd_same,(hv5.same g6).same g7⟩ upd_same
    · have c':¬ one1 (tkA ts i) "mark" ["not"]=true:=c
      have hz:pz ts (n+1) .neg d i=pz ts n (.part 3) d i:=by rw [pz,if_neg c']
      refine ⟨_,rfl,rfl,_,rfl,iteF ⟨_,rfl,rfl,_,rfl,iteT ⟨_,rfl,_,rfl,_,rfl,.inl ⟨l,xs,ts,i,d,4,rfl,by decide,by decide,hS2,⟨hT,hK,hl,hi,hd,?_⟩,fun p5 hp5 j r H5 hj hjp g5 hr5=>?_,fun t j hp5 v r H5 g5 hv5 hr5=>?_⟩⟩⟩⟩
      · show 9 * (12 - d)+5≤n
        omega
      · exact qe p5 (hz.trans hp5) j r _ hj hjp (g2.trans g5) hr5
      · exact q t j (hz.trans hp5) v r _ (g2.trans g5) hv5 hr5
  have hm3:modeL L=.part (L - 1):=if_neg h3
  rw [hm3] at qe q hn
  refine ⟨_,rfl,rfl,_,rfl,ite2 (fun z=>absurd (by have:=of_decide_eq_true z;injection this with this;omega) h3) (fun _=>?_)⟩
  refine ⟨_,rfl,rfl,_,rfl,ite2 (fun z=>?_) (fun z=>?_)⟩
  · have h7:L=7:=by have:=of_decide_eq_true z;injection this with this;omega
    subst h7
    have hn':9 * (12 - d)+2≤n+1:=hn
    have hz:pz ts (n+1) (.part 6) d i=pz ts n .leaf d i:=by rw [pz,if_neg (by decide),if_pos rfl]
    refine ⟨_,rfl,_,rfl,_,rfl,l,xs,ts,i,d,rfl,hS1,⟨hT,hK,hl,hi,hd,?_⟩,fun p5 hp5 j r H5 hj hjp g5 hr5=>?_,fun t j hp5 v r H5 g5 hv5 hr5=>?_⟩
    · show 9 * (12 - d)+1≤n
      omega
    · exact qe p5 (hz.trans hp5) j r _ hj hjp (g1.trans g5) hr5
    · exact q t j (hz.trans hp5) v r _ (g1.trans g5) hv5 hr5
  have h7:L≠7:=fun y=>z (by rw [y];rfl)
  refine ⟨_,rfl,rfl,_,rfl,ite2 (fun z=>absurd (by have:=of_decide_eq_true z;injection this with this;omega) h3) (fun _=>?_)⟩
  have hL:L=1∨L=2∨L=4∨L=5∨L=6:=by omega
  have hn2:need (.part L) d≤n:=by
    have hn':9 * (12 - d)+(if L - 1≤2 then 9 - (L - 1) else 8 - (L - 1))≤n+1:=hn
    show 9 * (12 - d)+(if L≤2 then 9 - L else 8 - L)≤n
    rcases hL with rfl | rfl | rfl | rfl | rfl <;> simp at hn' ⊢ <;> omega
  have hrow:sgL.getD L []=lvRows.getD (L - 1) []:=by rcases hL with rfl | rfl | rfl | rfl | rfl <;> rfl
  rw [hrow] at hrs
  obtain ⟨row,erow⟩:∃ row,row=lvRows.getD (L - 1) []:=⟨_,rfl⟩
  rw [← erow] at hrs
  have hb:∀ s ∈ row,kept s=decide (L < 3):=by
    rw [erow]
    rcases hL with rfl | rfl | rfl | rfl | rfl <;> decide +kernel
  obtain ⟨sub,esub⟩:∃ sub:Nat→PR,sub=fun j=>pz ts n (.part L) d j:=⟨_,rfl⟩
  have hz:pz ts (n+1) (.part (L - 1)) d i=match pz ts n (.part L) d i with
      | .inl p=>.inl p
      | .inr (t,j)=>loopZ ts sub (L - 1) ts.length t j:=by
    rw [pz,if_neg (by omega),if_neg (by omega),show L - 1+1=L by omega,esub];try rfl
  obtain ⟨R,eR⟩:∃ R,R=pz ts (n+1) (.part (L - 1)) d i:=⟨_,rfl⟩
  rw [← eR] at hz qe q
  refine ⟨fun σ' H'=>∃ j fv,σ'=[some (.ref l),some (.int ((j:Nat):Int)),some (.int ((d:Nat):Int)),some (.int ((L:Nat):Int)),some (.ref rs),none,none,some fv,none,none,none]∧Same H1 H'∧j < ts.length ∧
    ((fv=.non∧R=.inl (tkA ts j).p)∨∃ t pt,fv=.ref pt∧TmAt H' (.ref pt) t∧R=loopZ ts sub (L - 1) ts.length t j),?_,?_⟩
  · refine ⟨_,rfl,_,rfl,_,rfl,_,rfl,_,_,rfl,rfl,sub_sp (by omega) (by omega) rfl hS1 ⟨hT,hK,hl,hi,hd,hn2⟩ ⟨fun p5 hp5 j r H5 hj hjp g5 hr5=>?_,fun t j hp5 v r H5 g5 hv5 hr5=>?_⟩⟩
    · refine ⟨r,[_,_],rfl,SqT.of hr5,rfl,_,[_],rfl,_,[],rfl,rfl,?_⟩
      exact ⟨j,.non,rfl,g5,hj,.inl ⟨rfl,by rw [hz,hp5,hjp]⟩⟩
    · obtain ⟨pt,xt,rfl,hpt⟩:=hv5.top
      have hj:=pz_up hT n _ _ _ _ _ hi hp5
      refine ⟨r,[_,_],rfl,SqT.of hr5,rfl,_,[_],rfl,_,[],rfl,rfl,?_⟩
      exact ⟨j,_,rfl,g5,hj.2,.inr ⟨t,pt,rfl,hv5,by rw [hz,hp5]⟩⟩
  rintro σ' H2 ⟨j0,fv0,rfl,g2,hj0,hst⟩
  refine ⟨small (n:=2) (by decide),fun lk hlk=>?_⟩
  have gk:=same_new hlk (.lst [.str "sign",.str "name"])
  have hki:atI ([.str "sign",.str "name"]:List V) (if decide ((L:Int) < 3)=true then (1:Int) else 0)=some (.str (NSg (decide (L < 3)))):=by
    rcases hL with rfl | rfl | rfl | rfl | rfl <;> rfl
  refine ⟨_,rfl,_,_,rfl,rfl,.inr ⟨_,rfl,lk,_,_,_,rfl,rfl,SqL.of upd_same,hki,?_⟩⟩
  have g3:=(g1.trans g2).trans gk
  generalize upd H2 lk (.lst [.str "sign",.str "name"])=H3 at gk g3 ⊢
  have hrs3:H3 rs=some (.tup (row.map V.str)):=gk _ _ (g2 _ _ hrs)
  have hst3:(fv0=.non∧R=.inl (tkA ts j0).p)∨∃ t pt,fv0=.ref pt∧TmAt H3 (.ref pt) t∧R=loopZ ts sub (L - 1) ts.length t j0:=by
    rcases hst with h | ⟨t,pt,e,h,hh⟩
    · exact .inl h
    · exact .inr ⟨t,pt,e,h.same gk,hh⟩
  refine while_by (fun σ H'=>∃ j fv rs' s9 s10,σ=[some (.ref l),some (.int ((j:Nat):Int)),some (.int ((d:Nat):Int)),some (.int ((L:Nat):Int)),some (.ref rs'),none,none,some fv,some (.str (NSg (decide (L < 3)))),s9,s10]∧Same H H'∧j < ts.length ∧
    ((fv=.non∧R=.inl (tkA ts j).p)∨∃ t pt ss,fv=.ref pt∧TmAt H' (.ref pt) t∧H' rs'=some (.tup ((ss:List Str).map V.str)) ∧
      ((ss=row∧∃ m,R=loopZ ts sub (L - 1) m t j∧ts.length≤m+j)∨(ss=[]∧R=.inr (t,j)))))
    (fun σ _=>msr ts.length σ) ⟨j0,fv0,rs,_,_,rfl,g3,hj0,?_⟩ (fun σ H' hP=>?_) (fun σ H' Q Q' hQ h=>?_)
  · rcases hst3 with h | ⟨t,pt,e,h,hh⟩
    · exact .inl h
    · exact .inr ⟨t,pt,row,e,h,hrs3,.inl ⟨rfl,ts.length,hh,Nat.le_add_right _ _⟩⟩
  · obtain ⟨j, fv,rs',s9,s10,rfl,g,hj,hst⟩:=hP
    rcases hst with ⟨rfl,hR⟩ | ⟨t,pt,ss,rfl,ht,hss,hRR⟩
    · refine ⟨_,rfl,rfl,_,rfl,iteF ?_⟩
      refine ⟨_,rfl,_,rfl,small (n:=2) (by decide),fun t2 ht2=>?_⟩
      exact qe _ hR j t2 _ hj rfl (g.trans (same_new ht2 _)) upd_same
    · have hSj := hS.same g
      obtain ⟨p,hx,hp⟩:=hSj.at' hj
      obtain ⟨hKi,hLi⟩:=hK _ (List.mem_of_getElem? (tk_at hj))
      have hfl:=hT.flat hj
      have done:R=.inr (t,j)→∀ t2,H' t2=none→Q (.ref t2) (upd H' t2 (.tup [.ref pt,.int ((j:Nat):Int)])):=fun hR t2 ht2 =>
        q t j hR (.ref pt) t2 _ (g.trans (same_new ht2 _)) (ht.same (same_new ht2 _)) upd_same
      refine ⟨_,rfl,rfl,_,rfl,iteT ?_⟩
      refine ⟨_,rfl,_,rfl,l,_,_,_,rfl,rfl,SqL.of hSj.1,atI_nat hx,p,_,_,_,rfl,rfl,SqT.of hp,atI_nat (j:=1) rfl,_,rfl,rs',_,rfl,.inr (SqT.of hss),hfl,flat_strs ss,_,rfl,?_⟩
      refine ite2 (fun c1=>?_) (fun c1=>?_)
      · rcases hRR with ⟨ess,m,hR,hm⟩ | ⟨ess,hR⟩
        · obtain ⟨m,rfl⟩:∃ m',m=m'+1:=⟨m - 1,by omega⟩
          have ci:inV (tkA ts j).v (row.map V.str)=true:=by rw [← ess];exact c1
          have eo:decide (lkd (tkA ts j).k (tkA ts j).v=NSg (decide (L < 3)))=one1 (tkA ts j) "mark" row:=by
            rw [← kd_law hKi hb,ci,Bool.and_true]
          refine ⟨_,rfl,_,rfl,l,_,_,_,rfl,rfl,SqL.of hSj.1,atI_nat hx,p,_,_,_,rfl,rfl,SqT.of hp,atI_nat (j:=0) rfl,_,rfl,rfl,_,rfl,?_⟩
          rw [str_dec,eo]
          refine ite2 (fun c2=>?_) (fun c2=>?_)
          · have c2':one1 (tkA ts j) "mark" row=true:=c2
            have hm1:=hT.more hj (by rw [one1_k c2'];exact mark_no.1)
            have hv:=hT.str hj (by rw [one1_k c2'];exact mark_no.2.1)
            rw [loopZ,if_pos (by rw [← erow];exact c2')] at hR
            refine ⟨_,rfl,_,rfl,l,_,_,_,rfl,rfl,SqL.of hSj.1,atI_nat hx,p,_,_,_,rfl,rfl,SqT.of hp,atI_nat (j:=1) rfl,?_⟩
            refine ⟨_,rfl,_,rfl,_,_,rfl,rfl,_,rfl,_,rfl,_,_,rfl,rfl,sub_sp (by omega) (by omega) rfl hSj ⟨hT,hK,hl,hm1,hd,hn2⟩ ⟨fun p5 hp5 j2 r H5 hj2 hjp g5 hr5=>?_,fun t2 j2 hp5 v2 r H5 g5 hv5 hr5=>?_⟩⟩
            · refine ⟨r,[_,_],rfl,SqT.of hr5,rfl,_,[_],rfl,_,[],rfl,rfl,?_⟩
              have hR2:R=.inl (tkA ts j2).p:=by
                have e:sub (j+1)=.inl p5:=by rw [esub];exact hp5
                rw [hR,e,hjp]
              refine ⟨_,rfl,rfl,_,rfl,iteT ?_⟩
              refine ⟨_,rfl,rfl,_,rfl,ite2 (fun c4=>?_) (fun c4=>?_)⟩
              · refine ⟨small (n:=0) (by decide),fun u hu'=>?_⟩
                exact ⟨⟨j2,.non,u,_,_,rfl,(g.trans g5).trans (same_new hu' _),hj2,.inl ⟨rfl,hR2⟩⟩,(by show 0 < 1+_;omega)⟩
              · exact ⟨_,rfl,⟨j2,.non,rs',_,_,rfl,g.trans g5,hj2,.inl ⟨rfl,hR2⟩⟩,(by show 0 < 1+_;omega)⟩
            · obtain ⟨p2,x2,rfl,hp2⟩:=hv5.top
              have hj2:=pz_up hT n _ _ _ _ _ hm1 hp5
              have e:sub (j+1)=.inr (t2,j2):=by rw [esub];exact hp5
              rw [e] at hR
              have hR:R=if L - 1=3 then .inr (.bin (sgn (tkA ts j).v) t t2,j2) else loopZ ts sub (L - 1) m (.bin (sgn (tkA ts j).v) t t2) j2:=hR
              refine ⟨r,[_,_],rfl,SqT.of hr5,rfl,_,[_],rfl,_,[],rfl,rfl,?_⟩
              refine ⟨_,rfl,rfl,_,rfl,iteF ⟨_,rfl,_,rfl,_,rfl,small (n:=3) (by decide),fun t3 ht3=>?_⟩⟩
              have g6:=same_new ht3 (.tup [(tkA ts j).v,.ref pt,.ref p2])
              have htm:TmAt (upd H5 t3 (.tup [(tkA ts j).v,.ref pt,.ref p2])) (.ref t3) (.bin (sgn (tkA ts j).v) t t2):=⟨t3,.ref pt,.ref p2,rfl,by rw [← hv];exact upd_same,(ht.same g5).same g6,hv5.same g6⟩
              have hss6:=g6 _ _ (g5 _ _ hss)
              refine ⟨_,rfl,rfl,_,rfl,ite2 (fun c4=>?_) (fun c4=>?_)⟩
              · have h4:L=4:=by have:=of_decide_eq_true c4;injection this with this;omega
                refine ⟨small (n:=0) (by decide),fun u hu'=>?_⟩
                have g7:=same_new hu' (.tup [])
                rw [if_pos (by omega)] at hR
                exact ⟨⟨j2,.ref t3,u,_,_,rfl,(g.trans (g5.trans g6)).trans g7,hj2.2,.inr ⟨_,t3,[],rfl,htm.same g7,upd_same,.inr ⟨rfl,hR⟩⟩⟩,(by show 1+(ts.length - (j2:Int).toNat) < 1+(ts.length - (j:Int).toNat);omega)⟩
              · have h4:¬ L=4:=fun y=>c4 (by rw [y];rfl)
                rw [if_neg (by omega)] at hR
                exact ⟨_,rfl,⟨j2,.ref t3,rs',_,_,rfl,g.trans (g5.trans g6),hj2.2,.inr ⟨_,t3,ss,rfl,htm,hss6,.inl ⟨ess,m,hR,by omega⟩⟩⟩,(by show 1+(ts.length - (j2:Int).toNat) < 1+(ts.length - (j:Int).toNat);omega)⟩
          · have c2':one1 (tkA ts j) "mark" row=false:=Bool.eq_false_iff.mpr c2
            refine ⟨_,rfl,_,rfl,small (n:=2) (by decide),done ?_⟩
            rw [hR,loopZ,if_neg (by rw [← erow,c2'];decide)]
        · rw [ess] at c1
          cases c1
      · refine ⟨_,rfl,_,rfl,small (n:=2) (by decide),done ?_⟩
        rcases hRR with ⟨ess,m,hR,hm⟩ | ⟨ess,hR⟩
        · obtain ⟨m,rfl⟩:∃ m',m=m'+1:=⟨m - 1,by omega⟩
          have e1:one1 (tkA ts j) "mark" row=false:=by
            rw [← kd_law hKi hb]
            have:inV (tkA ts j).v (row.map V.str)=false:=by rw [← ess];simpa using c1
            rw [this,Bool.and_false]
          rw [hR,loopZ,if_neg (by rw [← erow,e1];decide)]
        · exact hR
  · obtain ⟨v1,e1,h1,k,e2,h⟩:=h
    refine ⟨v1,e1,h1,k,e2,?_⟩
    cases k with
    | false=>exact hQ _ _ h
    | true =>
      obtain ⟨w1,f1,w2,f2,p1,x1,i1,y1,f3,f4,f5,f6,p2,x2,i2,y2,f7,f8,f9,f10,w3,f11,p3,x3,f12,f13,f14,f15,k2,f16,h⟩:=h
      refine ⟨w1,f1,w2,f2,p1,x1,i1,y1,f3,f4,f5,f6,p2,x2,i2,y2,f7,f8,f9,f10,w3,f11,p3,x3,f12,f13,f14,f15,k2,f16,?_⟩
      cases k2 with
      | false=>exact hQ _ _ h
      | true =>
        obtain ⟨w1,f1,w2,f2,p1,x1,i1,y1,f3,f4,f5,f6,p2,x2,i2,y2,f7,f8,f9,f10,w3,f11,f12,k3,f13,h⟩:=h
        exact ⟨w1,f1,w2,f2,p1,x1,i1,y1,f3,f4,f5,f6,p2,x2,i2,y2,f7,f8,f9,f10,w3,f11,f12,k3,f13,hQ _ _ h⟩
theorem ok_law_parse (T:Txt K mg a):∀ n,(∀ n',n'≤n→FnOk P w K mg base CX0 (n+4) a.f_parsed a.d_parsed ["_law_things_here","_law_at","_law_deep","_law_level_here"] (spParsed n')) ∧
    (∀ n',n'≤n→FnOk P w K mg base CX0 (n+4) a.f_atom a.d_atom ["_law_things_here","_law_at","_law_deep"] (spAtom n'))
  | 0 => ⟨fun n' hn'=>fn_false fun vs H Q E h=>by
      obtain ⟨_,_,_,_,d,L,_,L1,L7,_,⟨_,_,_,_,_,hn⟩,_⟩:=h
      have:=need_pos (modeL L) d (by
        unfold modeL
        split <;> rename_i hh <;> split at hh <;> first | trivial | cases hh;omega)
      omega,fun n' hn'=>fn_false fun vs H Q E h=>by
      obtain ⟨_,_,_,_,d,_,_,⟨_,_,_,_,_,hn⟩,_⟩:=h
      have:=need_pos .leaf d trivial
      omega⟩
  | n + 1=>by
    obtain ⟨i1,i2⟩:=ok_law_parse T n
    refine ⟨fun n' hn'=>?_,fun n' hn'=>?_⟩
    · by_cases e:n'≤n
      · exact (i1 n' e).mono (by omega)
      · have e:n'=n+1:=by omega
        rw [e]
        exact ok_parsed_succ T n i1 (i2 n (Nat.le_refl _))
    · by_cases e:n'≤n
      · exact (i2 n' e).mono (by omega)
      · have e:n'=n+1:=by omega
        rw [e]
        exact ok_atom_succ T n i1
end
end My
namespace My
open PySem L2
abbrev opS:List Str:=["or","and","not","=","!=","<","<=",">",">=","+","-","*"]
def opk (t:Tok):Nat:=if one1 t "mark" opS=true then 1 else 0
def cum (ts:List Tok):Nat→Nat
  | 0=>0
  | i+1=>cum ts i+opk (tkA ts i)
theorem cum_le {ts:List Tok}:∀ {j i:Nat},i≤j→cum ts i≤cum ts j
  | 0,i,h=>by rw [show i=0 by omega];exact Nat.le_refl _
  | j+1,i,h=>by
    by_cases e:i=j+1
    · rw [e];exact Nat.le_refl _
    · exact Nat.le_trans (cum_le (j:=j) (by omega)) (Nat.le_add_right _ _)
theorem op_row {t:Tok} {lv:Nat} (h:lv < 6) (h1:one1 t "mark" (lvRows.getD lv [])=true):opk t=1:=by
  have hk:=one1_k h1
  unfold one1 at h1
  rw [Bool.and_eq_true] at h1
  obtain ⟨s,hs,e⟩:=inV_of h1.2
  have hin:∀ lv,lv < 6→∀ s ∈ lvRows.getD lv [],s ∈ opS:=by decide +kernel
  have:=in_of (hin lv h s hs)
  unfold opk one1
  rw [e,this,Bool.and_true,h1.1,if_pos rfl]
theorem op_not {t:Tok} (h1:one1 t "mark" ["not"]=true):opk t=1:=op_row (lv:=2) (by decide) h1
theorem loop_deep {ts:List Tok} {sub:Nat→PR} {lv:Nat} (hlv:lv < 6) (hs:∀ i t j,sub i=.inr (t,j)→i≤j∧t.deep+cum ts i≤cum ts j):∀ m t0 i0 t j,loopZ ts sub lv m t0 i0=.inr (t,j)→∀ i,i≤i0→t0.deep+cum ts i≤cum ts i0→i≤j∧t.deep+cum ts i≤cum ts j
  | 0,t0,i0,t,j,e,i,hi,h0=>by cases e;exact ⟨hi,h0⟩
  | m + 1, t0,i0,t,j,e,i,hi,h0=>by
    rw [loopZ] at e
    split at e
    · rename_i h1
      have ho:=op_row hlv h1
      have hc:cum ts (i0+1)=cum ts i0+1:=by
        show cum ts i0+opk (tkA ts i0)=_
        rw [ho]
      split at e
      · cases e
      · rename_i t2 j2 e2
        obtain ⟨a1,a2⟩:=hs _ _ _ e2
        have hb:(Tm.bin (sgn (tkA ts i0).v) t0 t2).deep=max t0.deep t2.deep+1:=rfl
        have hi2:=cum_le (ts:=ts) hi
        have hn:(Tm.bin (sgn (tkA ts i0).v) t0 t2).deep+cum ts i≤cum ts j2:=by rw [hb];omega
        split at e
        · cases e
          exact ⟨by omega,hn⟩
        · exact loop_deep hlv hs m _ _ _ _ e i (by omega) hn
    · cases e;exact ⟨hi,h0⟩
theorem pz_deep {ts : List Tok}:∀ n m d i t j,(match m with | .part lv=>lv≤6 | _=>True)→pz ts n m d i=.inr (t,j)→i≤j∧t.deep+cum ts i≤cum ts j
  | 0,m,d,i,t,j,_,e=>by cases m <;> cases e
  | n + 1, .part lv,d,i,t,j,hm,e=>by
    have hm:lv≤6:=hm
    rw [pz] at e
    split at e
    · exact pz_deep n .neg d i t j trivial e
    · split at e
      · exact pz_deep n .leaf d i t j trivial e
      · split at e
        · cases e
        · rename_i h2 h6 _ t1 j1 e1
          obtain ⟨a1,a2⟩:=pz_deep n (.part (lv+1)) d i t1 j1 (by show lv+1≤6;omega) e1
          exact loop_deep (by omega) (fun i t j h=>pz_deep n (.part (lv+1)) d i t j (by show lv+1≤6;omega) h) _ _ _ _ _ e i a1 a2
  | n + 1, .neg,d,i,t,j,_,e=>by
    rw [pz] at e
    split at e
    · rename_i h1
      have ho:=op_not h1
      have hc:cum ts (i+1)=cum ts i+1:=by
        show cum ts i+opk (tkA ts i)=_
        rw [ho]
      split at e
      · cases e
      · split at e
        · cases e
        · rename_i t1 j1 e1
          cases e
          obtain ⟨a1,a2⟩:=pz_deep n .neg (d+1) (i+1) t1 j trivial e1
          have hb:(Tm.neg t1).deep=t1.deep+1:=rfl
          exact ⟨by omega,by rw [hb];omega⟩
    · exact pz_deep n (.part 3) d i t j (by decide) e
  | n + 1, .leaf, d, i,t,j,_,e=>by
    rw [pz] at e
    have one:∀ {t:Tm},t.deep=0→t.deep+cum ts i≤cum ts (i+1):=fun h=>by
      rw [h,Nat.zero_add];exact cum_le (Nat.le_succ i)
    split at e
    · cases e;exact ⟨Nat.le_succ i,one rfl⟩
    · split at e
      · cases e;exact ⟨Nat.le_succ i,one rfl⟩
      · split at e
        · cases e;exact ⟨Nat.le_succ i,one rfl⟩
        · split at e
          · unfold kindZ at e
            split at e
            · cases e
              have:=cum_le (ts:=ts) (show i≤i+1+1 by omega)
              exact ⟨by omega,by show 0+cum ts i≤_;omega⟩
            · cases e
          · split at e
            · split at e
              · cases e
              · split at e
                · cases e
                · rename_i t1 j1 e1
                  obtain ⟨a1,a2⟩:=pz_deep n (.part 0) (d+1) (i+1) t1 j1 (by decide) e1
                  split at e
                  · cases e
                    have c1:=cum_le (ts:=ts) (show i≤i+1 by omega)
                    have c2:=cum_le (ts:=ts) (show j1≤j1+1 by omega)
                    exact ⟨by omega,by omega⟩
                  · cases e
            · unfold kindZ at e
              split at e
              · cases e;exact ⟨Nat.le_succ i,one rfl⟩
              · cases e
theorem term_deep {ts:List Tok} {t:Tm} (h:termZ ts=.inr t):∃ j,t.deep≤cum ts j:=by
  unfold termZ at h
  split at h
  · cases h
  · rename_i t1 j1 e1
    split at h
    · cases h
      obtain ⟨_,a2⟩:=pz_deep 117 (.part 0) 0 0 t j1 (by decide) e1
      exact ⟨j1,by have:cum ts 0=0:=rfl;omega⟩
    · cases h
theorem cut2 {x:Str} {i:Nat} (hi:i < x.length):(cutN x i (i+2)).cps.toList=(x.cps.toList.drop i).take 2:=by
  have lx:=len_list x
  have z:cutN x i (i+2)=StrLaws.sliceText x (some (i:Int)) (some ((i+2:Nat):Int)):=rfl
  rw [z]
  by_cases h:i+2≤x.length
  · rw [StrLaws.sliceText_plain ⟨by omega,by omega,by omega⟩]
    have h1:((i:Nat):Int).toNat=i:=by omega
    have h2:(((i+2:Nat):Int) - (i:Int)).toNat=2:=by omega
    simp only [h1,h2]
  · have hc:Builtin.Str.strSliceIndices (some (i:Int)) (some ((i+2:Nat):Int)) 1 x.length=Builtin.Str.strSliceIndices (some (i:Int)) (some (x.length:Int)) 1 x.length:=by
      have a:¬ ((x.length:Int) < 0):=by omega
      have b:¬ (((i+2:Nat):Int) < 0):=by omega
      have c:min ((i+2:Nat):Int) (x.length:Int)=min (x.length:Int) (x.length:Int):=by omega
      unfold Builtin.Str.strSliceIndices
      simp only [if_neg a,if_neg b,c,if_pos (show (1:Int) > 0 by decide)]
    have hz:StrLaws.sliceText x (some (i:Int)) (some ((i+2:Nat):Int))=StrLaws.sliceText x (some (i:Int)) (some (x.length:Int)):=by
      unfold StrLaws.sliceText
      rw [hc]
    rw [hz,StrLaws.sliceText_plain ⟨by omega,by omega,by omega⟩]
    have h1:((i:Nat):Int).toNat=i:=by omega
    simp only [h1]
    rw [List.take_of_length_le (by rw [List.length_drop];omega),List.take_of_length_le (by rw [List.length_drop];omega)]
def opc (c:Nat):Bool:=c == 60 || c == 61 || c == 62 || c == 43 || c == 45 || c == 42 || c == 100 || c == 114 || c == 116
def cntS (x:Str):Nat:=x.cps.toList.countP opc
theorem op_cnt:∀ s ∈ opS,1≤cntS s:=by decide +kernel
theorem cum_sum {ts:List Tok}:∀ j,cum ts j≤(ts.map opk).sum
  | j => by
    have g:∀ (us:List Tok) (j:Nat),cum us j≤(us.map opk).sum:=by
      intro us j
      have e0:opk ⟨"end",.str "",0⟩=0:=by decide +kernel
      have h:∀ j,cum us j=((us.take j).map opk).sum:=by
        intro j
        induction j with
        | zero=>rfl
        | succ j ih =>
          show cum us j+opk (tkA us j)=_
          rw [ih,List.take_add_one]
          unfold tkA
          cases hj:us[j]? with
          | none=>simp [e0]
          | some t=>simp
      rw [h j]
      have hs:((us.take j).map opk).sum+((us.drop j).map opk).sum=(us.map opk).sum:=by
        rw [← List.sum_append,← List.map_append,List.take_append_drop]
      omega
    exact g ts j
theorem cut_cnt {x:Str} {i e:Nat} (h1:i≤e) (h2:e≤x.length):cntS (cutN x i e)+(x.cps.toList.drop e).countP opc=(x.cps.toList.drop i).countP opc:=by
  unfold cntS
  rw [cut_list h1 h2]
  have hd:(x.cps.toList.drop i).drop (e - i)=x.cps.toList.drop e:=by rw [List.drop_drop,show i+(e - i)=e by omega]
  rw [← hd,← List.countP_append,List.take_append_drop]
theorem drop_cnt {l:List Nat} {i e:Nat} (h:i≤e):(l.drop e).countP opc≤(l.drop i).countP opc:=by
  have hd:(l.drop i).drop (e - i)=l.drop e:=by rw [List.drop_drop,show i+(e - i)=e by omega]
  rw [← hd]
  exact (List.drop_sublist _ _).countP_le
theorem opk_no {k:Str} {v:V} {p:Nat} (h:k≠"mark"):opk ⟨k,v,p⟩=0:=by
  unfold opk
  rw [if_neg]
  intro z
  exact h (one1_k z)
theorem opk_mark {v:V} {p:Nat}:opk ⟨"mark",v,p⟩≤cntS (sgn v):=by
  unfold opk
  split
  · rename_i h
    unfold one1 at h
    rw [Bool.and_eq_true] at h
    obtain ⟨s,hs,e⟩:=inV_of h.2
    have e:v=.str s:=e
    rw [e]
    exact op_cnt s hs
  · exact Nat.zero_le _
theorem sig_cnt {x:Str} {i:Nat} {k:Str} {v:V} {e:Nat} (hi:i < x.length) (hs:sigAt x i=some (k,v,e)):opk ⟨k,v,i⟩+(x.cps.toList.drop e).countP opc≤(x.cps.toList.drop i).countP opc:=by
  have lx:=len_list x
  have up:=sig_up hi hs
  have n1:("word":Str)≠"mark":=by decide +kernel
  have n2:("number":Str)≠"mark":=by decide +kernel
  have plain:k≠("mark":Str)→opk ⟨k,v,i⟩+(x.cps.toList.drop e).countP opc≤(x.cps.toList.drop i).countP opc:=fun h=>by
    rw [opk_no h,Nat.zero_add]
    exact drop_cnt (by omega)
  by_cases hk:k="mark"
  · have hok : opk ⟨k,v,i⟩≤cntS (sgn v):=by rw [hk];exact opk_mark
    refine Nat.le_trans (Nat.add_le_add_right hok _) ?_
    unfold sigAt at hs
    split at hs
    · cases hs
    · rename_i c hc
      split at hs
      · unfold nameAt at hs
        split at hs
        · cases hs
        · cases hs
          have hle:=runN_le nsg x.cps.toList i (by omega)
          exact Nat.le_of_eq (cut_cnt (by omega) (by omega))
      · split at hs
        · unfold wordAt at hs
          dsimp only at hs
          split at hs
          · cases hs
          · split at hs
            · injection hs with hs;injection hs with hs _;exact absurd (hs.trans hk) n1
            · cases hs
        · split at hs
          · unfold numAt at hs
            split at hs
            · cases hs
            · injection hs with hs;injection hs with hs _;exact absurd (hs.trans hk) n2
          · unfold markAt at hs
            split at hs
            · cases hs
              have z:=cut2 hi
              show (cutN x i (i+2)).cps.toList.countP opc+_≤_
              rw [z]
              have hd:(x.cps.toList.drop i).drop 2=x.cps.toList.drop (i+2):=by rw [List.drop_drop]
              rw [← hd,← List.countP_append,List.take_append_drop]
              exact Nat.le_refl _
            · split at hs
              · cases hs
              · rename_i c2 hc2
                split at hs
                · cases hs
                  have hlt:=(List.getElem?_eq_some_iff.mp hc2).1
                  have hd:=List.drop_eq_getElem_cons hlt
                  have hv:=(List.getElem?_eq_some_iff.mp hc2).2
                  rw [hd,hv,List.countP_cons]
                  show ([c2]:List Nat).countP opc+_≤_
                  rw [List.countP_cons,List.countP_nil]
                  omega
                · cases hs
  · exact plain hk
theorem lex_cnt (x:Str):∀ f i ts,lexN f x i=.inr ts→(ts.map opk).sum≤(x.cps.toList.drop i).countP opc
  | 0,i,ts,h=>by
    have h:Sum.inr [(⟨"end",.str "",x.length⟩:Tok)]=(Sum.inr ts:Sum Nat (List Tok)):=h
    cases h
    have e0:opk ⟨"end",.str "",x.length⟩=0:=opk_no (by decide +kernel)
    simp [e0]
  | f + 1, i,ts,h=>by
    rw [lexN] at h
    split at h
    · cases h
      have e0:opk ⟨"end",.str "",x.length⟩=0:=opk_no (by decide +kernel)
      simp [e0]
    · rename_i c hc
      have hi:i < x.length:=by
        have:=(List.getElem?_eq_some_iff.mp hc).1
        rw [len_list] at this;exact this
      split at h
      · exact Nat.le_trans (lex_cnt x f _ ts h) (drop_cnt (Nat.le_succ i))
      · split at h
        · cases h
        · rename_i k v e hs
          split at h
          · cases h
          · rename_i ts1 h1
            cases h
            have i1:=lex_cnt x f _ ts1 h1
            have i2:=sig_cnt hi hs
            rw [List.map_cons,List.sum_cons]
            omega
end My
namespace My
open PySem L2
def tot (ws:List Str):Nat:=(ws.map (·.length)).sum+ws.length
theorem tot_cons (w:Str) (ws:List Str):tot (w :: ws)=w.length+1+tot ws:=by unfold tot;rw [List.map_cons,List.sum_cons,List.length_cons];omega
theorem tot_append (ws vs:List Str):tot (ws++vs)=tot ws+tot vs:=by unfold tot;rw [List.map_append,List.sum_append,List.length_append];omega
theorem tot_sub:∀ {ms ws:List Str},ms.Sublist ws→tot ms≤tot ws:=by
  intro ms ws h
  induction h with
  | slnil=>exact Nat.le_refl _
  | cons w _ ih=>rw [tot_cons];omega
  | cons_cons w _ ih=>rw [tot_cons,tot_cons];omega
theorem cut_strs (ws:List Str) (lo hi:Option Int):∃ ms:List Str,cutV (ws.map V.str) lo hi=ms.map V.str∧tot ms≤tot ws∧ms.Sublist ws:=by
  unfold cutV
  have hs:=fun k:Nat=>(List.take_sublist (HT.sIx (ws.map V.str).length (ws.map V.str).length hi - k) (ws.drop k)).trans (List.drop_sublist k ws)
  exact ⟨_,by rw [← List.map_drop,← List.map_take],tot_sub (hs _),hs _⟩
theorem join_len1 {y:Str} {d:Nat} (hy:y.cps.toList=[d]) (w:Str) (ws:List Str):(Txt.join y (w :: ws)).length=w.length+(ws.map (·.length)).sum+ws.length:=by
  rw [← len_list,join_list hy]
  unfold joinL
  rw [List.length_append,len_list]
  have:∀ ws:List Str,((ws.map fun r=>r.cps.toList).flatMap fun r=>d :: r).length=(ws.map (·.length)).sum+ws.length:=by
    intro ws
    induction ws with
    | nil=>rfl
    | cons r ws ih =>
      rw [List.map_cons,List.flatMap_cons,List.length_append,ih,List.map_cons,List.sum_cons,List.length_cons,List.length_cons,len_list]
      omega
  rw [this];omega
theorem sp_list:(" ":Str).cps.toList=[32]:=by decide +kernel
theorem join_tot (ws:List Str):(Txt.join " " ws).length≤tot ws:=by
  cases ws with
  | nil => have:(Txt.join " " []).length=0:=by decide +kernel
           omega
  | cons w ws=>rw [join_len1 sp_list,tot_cons];unfold tot;omega
theorem posL_next (d:Nat):∀ (w:List Nat) (i c:Nat) (cs:List Nat),posL d i w=c :: cs→∃ p b,w=p++d :: b∧c=i+p.length∧cs=posL d (c+1) b∧d ∉ p
  | [],i,c,cs,h=>by cases h
  | x :: w,i,c,cs,h=>by
    rw [posL] at h
    split at h
    · rename_i e
      cases h
      exact ⟨[],w,by rw [e];rfl,rfl,rfl,by simp⟩
    · rename_i hne
      obtain ⟨p,b,e1,e2,e3,e4⟩:=posL_next d w (i+1) c cs h
      exact ⟨x :: p,b,by rw [e1];rfl,by rw [List.length_cons];omega,e3,by
        rw [List.mem_cons]
        rintro (z | z)
        · exact hne z.symm
        · exact e4 z⟩
theorem prt_sum (d:Nat) (X:List Nat):∀ (n off:Nat),(X.drop off).length≤n→off≤X.length→((prt X off (posL d off (X.drop off))).map List.length).sum+(prt X off (posL d off (X.drop off))).length=(X.drop off).length+1:=by
  intro n
  induction n with
  | zero =>
    intro off h ho
    have e:X.drop off=[]:=List.length_eq_zero_iff.mp (by omega)
    rw [e]
    show ((prt X off []).map List.length).sum+_=_
    rw [prt_nil,e];rfl
  | succ n ih =>
    intro off h ho
    cases ep:posL d off (X.drop off) with
    | nil=>rw [prt_nil];simp
    | cons c cs =>
      obtain ⟨p,b,e1,e2,e3,_⟩:=posL_next d _ _ _ _ ep
      have hl:(X.drop off).length=p.length+1+b.length:=by rw [e1,List.length_append,List.length_cons];omega
      have hb:X.drop (c+1)=b:=by
        have:X.drop (c+1)=(X.drop off).drop (p.length+1):=by rw [List.drop_drop];congr 1;omega
        rw [this,e1,List.drop_append,List.drop_eq_nil_of_le (Nat.le_succ _)]
        have e0:p.length+1 - p.length=1:=by omega
        rw [e0];rfl
      have hc:c+1≤X.length:=by rw [List.length_drop] at hl;omega
      have z:=ih (c+1) (by rw [hb];omega) hc
      rw [prt_cons,e3,← hb,List.map_cons,List.sum_cons,List.length_cons]
      have e4:((X.drop off).take (c - off)).length=p.length:=by rw [List.length_take];omega
      rw [e4,hl]
      rw [hb] at z ⊢
      omega
theorem split_tot (x:Str):tot (Txt.split x " ")≤x.length+1:=by
  rw [split_cases sp_list (by decide +kernel)]
  by_cases hd:32 ∈ x.cps.toList
  · rw [if_pos hd]
    have z:=prt_sum 32 x.cps.toList _ 0 (Nat.le_refl _) (Nat.zero_le _)
    rw [List.drop_zero,← parts_list,len_list] at z
    unfold tot
    rw [List.map_map,List.length_map] at z
    have e:(Builtin.Str.partsBetween x (posL 32 0 x.cps.toList) 1).map (·.length)=(Builtin.Str.partsBetween x (posL 32 0 x.cps.toList) 1).map (List.length ∘ fun r=>r.cps.toList):=by
      apply List.map_congr_left
      intro r _
      exact (len_list r).symm
    rw [e];omega
  · rw [if_neg hd,tot_cons];simp [tot]
theorem cnt_app (x y:Str):cntS (x++y)=cntS x+cntS y:=by unfold cntS;rw [app_list,List.countP_append]
def cw (ws:List Str):Nat:=(ws.map cntS).sum
theorem cw_cons (w:Str) (ws:List Str):cw (w :: ws)=cntS w+cw ws:=by unfold cw;rw [List.map_cons,List.sum_cons]
theorem cw_app (ws vs:List Str):cw (ws++vs)=cw ws+cw vs:=by unfold cw;rw [List.map_append,List.sum_append]
theorem cw_sub {ms ws:List Str} (h:ms.Sublist ws):cw ms≤cw ws:=by
  induction h with
  | slnil=>exact Nat.le_refl _
  | cons w _ ih=>rw [cw_cons];omega
  | cons_cons w _ ih=>rw [cw_cons,cw_cons];omega
theorem cnt_join (ws:List Str):cntS (Txt.join " " ws)=cw ws:=by
  cases ws with
  | nil=>decide +kernel
  | cons w ws =>
    unfold cntS
    rw [join_list sp_list]
    have g:∀ (vs:List Str) (l:List Nat),(joinL 32 l (vs.map fun r=>r.cps.toList)).countP opc=l.countP opc+cw vs:=by
      intro vs
      induction vs with
      | nil=>intro l;simp [joinL,cw]
      | cons v vs ih =>
        intro l
        have e:∀ (a:List Nat) (b:List (List Nat)),joinL 32 l (a :: b)=l++32 :: joinL 32 a b:=fun a b=>by
          first | rfl | simp [joinL]
        rw [List.map_cons,e,List.countP_append,List.countP_cons,ih,cw_cons]
        have h32:opc 32=false:=by decide
        rw [h32]
        show _+(v.cps.toList.countP opc+cw vs+0)=l.countP opc+(v.cps.toList.countP opc+cw vs)
        omega
    rw [g,cw_cons];rfl
theorem prt_cnt (X:List Nat):∀ (n off:Nat),(X.drop off).length≤n→off≤X.length→((prt X off (posL 32 off (X.drop off))).map (List.countP opc)).sum≤(X.drop off).countP opc:=by
  intro n
  induction n with
  | zero =>
    intro off h ho
    have e:X.drop off=[]:=List.length_eq_zero_iff.mp (by omega)
    rw [e]
    show ((prt X off []).map (List.countP opc)).sum≤_
    rw [prt_nil,e];exact Nat.le_refl _
  | succ n ih =>
    intro off h ho
    cases ep:posL 32 off (X.drop off) with
    | nil=>rw [prt_nil];simp
    | cons c cs =>
      obtain ⟨p,b,e1,e2,e3,_⟩:=posL_next 32 _ _ _ _ ep
      have hl:(X.drop off).length=p.length+1+b.length:=by rw [e1,List.length_append,List.length_cons];omega
      have hb:X.drop (c+1)=b:=by
        have:X.drop (c+1)=(X.drop off).drop (p.length+1):=by rw [List.drop_drop];congr 1;omega
        rw [this,e1,List.drop_append,List.drop_eq_nil_of_le (Nat.le_succ _)]
        have e0:p.length+1 - p.length=1:=by omega
        rw [e0];rfl
      have hc:c+1≤X.length:=by rw [List.length_drop] at hl;omega
      have z:=ih (c+1) (by rw [hb];omega) hc
      rw [prt_cons,e3,← hb,List.map_cons,List.sum_cons]
      have e4:(X.drop off).take (c - off)=p:=by rw [e1,show c - off=p.length by omega,List.take_left]
      have e5:(X.drop off).countP opc=p.countP opc+(X.drop (c+1)).countP opc:=by
        rw [hb,e1,List.countP_append,List.countP_cons]
        have h32:opc 32=false:=by decide
        rw [h32];simp
      rw [e4,e5]
      omega
theorem split_cnt (x:Str):cw (Txt.split x " ")≤cntS x:=by
  rw [split_cases sp_list (by decide +kernel)]
  by_cases hd:32 ∈ x.cps.toList
  · rw [if_pos hd]
    have z:=prt_cnt x.cps.toList _ 0 (Nat.le_refl _) (Nat.zero_le _)
    rw [List.drop_zero,← parts_list,List.map_map] at z
    exact z
  · rw [if_neg hd,cw_cons];simp [cw]
theorem cnt_to {x:Str} {j:Int} (h0:0≤j) (h1:j≤x.length):cntS (Txt.slice x none (some j))≤cntS x:=by
  have z:Txt.slice x none (some j)=StrLaws.sliceText x none (some j):=rfl
  have lx:=len_list x
  unfold cntS
  rw [z,StrLaws.sliceText_to ⟨h0,by omega⟩]
  exact ((List.take_sublist _ _).trans (List.drop_sublist _ _)).countP_le
theorem cnt_from {x:Str} {j:Int} (h0:0≤j):cntS (Txt.slice x (some j) none)≤cntS x:=by
  have lx:=len_list x
  by_cases h1:j≤x.length
  · have z:Txt.slice x (some j) none=StrLaws.sliceText x (some j) none:=rfl
    unfold cntS
    rw [z,StrLaws.sliceText_from ⟨h0,by omega⟩]
    exact ((List.take_sublist _ _).trans (List.drop_sublist _ _)).countP_le
  · rw [PyProof.Rows.slice_beyond (by omega)]
    have:cntS Str.empty=0:=by decide +kernel
    omega
theorem repS_cnt {i:Str} {n:Int}:cntS (repS i n)=n.toNat * cntS i:=by
  have z:∀ (k:Nat) (acc:Array Nat),(((List.replicate k i.cps).foldl (·++·) acc).toList).countP opc=acc.toList.countP opc+k * cntS i:=by
    intro k
    induction k with
    | zero=>intro acc;simp
    | succ k ih =>
      intro acc
      rw [List.replicate_succ,List.foldl_cons,ih,Array.toList_append,List.countP_append,Nat.succ_mul]
      unfold cntS
      omega
  have:=z n.toNat #[]
  rw [show (#[]:Array Nat).toList.countP opc=0 from rfl,Nat.zero_add] at this
  exact this
def resZ (x:Str):Sum Nat Tm:=match lexN (x.length+1) x 0 with
  | .inl p=>.inl p
  | .inr ts=>termZ ts
theorem kd_end {t:Tok} (h:KdOk t):decide (lkd t.k t.v="end")=decide (t.k="end"):=by
  obtain ⟨n1,n2,n3,n4,n5,n6,n7⟩:=kds
  by_cases hk:t.k="mark"
  · have e:lkd t.k t.v=NSg (keptV t.v):=by unfold lkd;rw [hk,if_pos rfl]
    rw [e,hk,decide_eq_false n4.symm]
    exact decide_eq_false (n5 _).2.2
  · have e:lkd t.k t.v=t.k:=by unfold lkd;rw [if_neg hk]
    rw [e]
section
variable {P:Program} {w:World} {K:PySem.W.Frag} {mg:Str→Option Value} {base:Heap} {a:Adr}
def spReadOf:Sp:=fun vs H Q _=>∃ x:Str,vs=[.str x]∧x.length≤10000 ∧
  (∀ p,resZ x=.inl p→∀ r H',Same H H'→H' r=some (.tup [.non,.int ((p:Nat):Int)])→Q (.ref r) H') ∧
  (∀ t,resZ x=.inr t→∀ v r H',Same H H'→TmAt H' v t→H' r=some (.tup [v,.non])→Q (.ref r) H')
theorem ok_read_of (T:Txt K mg a):FnOk P w K mg base CX0 122 a.f_read_of a.d_read_of ["_law_text_here"] spReadOf:=by
  refine T.F_read_of.ok sc_read_of (fun vs H Q E h=>?_) (fun cdv A outer s H vs Q E hr h=>?_)
  · obtain ⟨_,rfl,_⟩:=h;rfl
  obtain ⟨x,rfl,hx,qe,q⟩:=h
  refine ⟨_,(pss_cons (ps_asg (pe_call (ok_things T) (hr.mono (by omega)) rfl T.m_things T.F_things.kp T.b_things .nil pass0 (pa_cons (pv 0) pa_nil)) (pg_tup (n:=2) rfl (pgs_cons (pg_name (i:=1) sc_read_of.nd rfl (by first | exact Or.inl rfl | exact Or.inr rfl)) (pgs_cons (pg_name (i:=2) sc_read_of.nd rfl (by first | exact Or.inl rfl | exact Or.inr rfl)) pgs_nil)))) (pss_cons (ps_if (pt_cmpR op_notN (pv 2) pe_non (nomark _)) (pss_one (ps_ret (pe_tup (pa_cons pe_non (pa_cons (pv 2) pa_nil))))) pss_nil) (pss_cons (ps_asg (pe_call ((ok_law_parse T 117).1 117 (Nat.le_refl _)) (hr.mono (by omega)) rfl T.m_parsed T.F_parsed.kp T.b_parsed .nil pass0 (pa_cons (pv 1) (pa_cons pe_int (pa_cons pe_int (pa_cons pe_int pa_nil))))) (pg_tup (n:=2) rfl (pgs_cons (pg_name (i:=3) sc_read_of.nd rfl (by first | exact Or.inl rfl | exact Or.inr rfl)) (pgs_cons (pg_name (i:=4) sc_read_of.nd rfl (by first | exact Or.inl rfl | exact Or.inr rfl)) pgs_nil)))) (pss_cons (ps_if (pt_cut (PW.pt (pw_or (pt_cmpR op_isN (pv 3) pe_non (nomark _)) (pw_or1 (pt_cmpR op_ne (pe_ix ix_tup (pe_ix ix_list (pv 1) (pv 4) (fun _ _=>rfl)) pe_int (fun _ _=>rfl)) pe_str (nomark _)))))) (pss_one (ps_ret (pe_tup (pa_cons pe_non (pa_cons (pe_ix ix_tup (pe_ix ix_list (pv 1) (pv 4) (fun _ _=>rfl)) pe_int (fun _ _=>rfl)) pa_nil))))) pss_nil) (pss_one (ps_ret (pe_tup (pa_cons (pv 3) (pa_cons pe_non pa_nil))))))))),?_⟩
  refine ⟨_,rfl,x,rfl,hx,fun p hp t l H1 g1 hl ht=>?_,fun ts hts t l xs H1 g1 hl hxs ht=>?_⟩
  · have hz:resZ x=.inl p:=by unfold resZ;rw [hp]
    refine ⟨t,[_,_],rfl,SqT.of ht,rfl,_,[_],rfl,_,[],rfl,rfl,?_⟩
    refine ⟨_,rfl,rfl,_,rfl,iteT ⟨_,rfl,small (n:=2) (by decide),fun t2 ht2=>?_⟩⟩
    exact qe p hz t2 _ (g1.trans (same_new ht2 _)) upd_same
  · have hz:resZ x=termZ ts:=by unfold resZ;rw [hts]
    obtain ⟨b1,b2,b3⟩:=lex_ok x _ _ _ hts
    have hkd:=lex_kd x _ _ _ hts
    have hln:=lex_len x _ _ _ hts
    refine ⟨t,[_,_],rfl,SqT.of ht,rfl,_,[_],rfl,_,[],rfl,rfl,?_⟩
    refine ⟨_,rfl,rfl,_,rfl,iteF ?_⟩
    have hS:LSt H1 l xs ts:=⟨hl,hxs⟩
    refine ⟨_,rfl,l,xs,ts,0,0,1,rfl,by decide,by decide,hS,⟨b1,fun t ht=>⟨hkd t ht,by have:=hln t ht;omega⟩,by omega,b2,by decide,by decide⟩,fun p5 hp5 j r H5 hj hjp g5 hr5=>?_,fun t5 j hp5 v r H5 g5 hv5 hr5=>?_⟩
    · have hp5:pz ts 117 (.part 0) 0 0=.inl p5:=hp5
      have hz2:resZ x=.inl p5:=by rw [hz];unfold termZ;rw [hp5]
      obtain ⟨pe,hxe,hpe⟩:=(hS.same g5).at' hj
      refine ⟨r,[_,_],rfl,SqT.of hr5,rfl,_,[_],rfl,_,[],rfl,rfl,?_⟩
      refine ⟨fun b H6=>Same H5 H6∧b=true,⟨_,rfl,rfl,_,rfl,iteT ⟨Same.refl _,rfl⟩⟩,?_⟩
      rintro b H6 ⟨g6,rfl⟩
      have hS6:=(hS.same g5).same g6
      refine iteT ⟨_,rfl,_,rfl,l,_,_,_,rfl,rfl,SqL.of hS6.1,atI_nat hxe,pe,_,_,_,rfl,rfl,SqT.of (g6 _ _ hpe),atI_nat (j:=2) rfl,small (n:=2) (by decide),fun t2 ht2=>?_⟩
      rw [hjp]
      exact qe p5 hz2 t2 _ (g1.trans (g5.trans (g6.trans (same_new ht2 _)))) upd_same
    · have hp5:pz ts 117 (.part 0) 0 0=.inr (t5,j):=hp5
      have hj:=(pz_up b1 117 _ _ _ _ _ b2 hp5).2
      have hz2:resZ x=if (tkA ts j).k="end" then .inr t5 else .inl (tkA ts j).p:=by rw [hz];unfold termZ;rw [hp5]
      obtain ⟨pe,hxe,hpe⟩:=(hS.same g5).at' hj
      obtain ⟨pt,xt,rfl,hpt⟩:=hv5.top
      have hKe:=hkd _ (List.mem_of_getElem? (tk_at hj))
      refine ⟨r,[_,_],rfl,SqT.of hr5,rfl,_,[_],rfl,_,[],rfl,rfl,?_⟩
      refine ⟨fun b H6=>Same H5 H6∧b=!decide ((tkA ts j).k="end"),?_,?_⟩
      · refine ⟨_,rfl,rfl,_,rfl,iteF ?_⟩
        refine ⟨_,rfl,_,rfl,l,_,_,_,rfl,rfl,SqL.of (hS.same g5).1,atI_nat hxe,pe,_,_,_,rfl,rfl,SqT.of hpe,atI_nat (j:=0) rfl,rfl,_,rfl,Same.refl _,?_⟩
        rw [str_dec,kd_end hKe]
      rintro b H6 ⟨g6,rfl⟩
      have hS6:=(hS.same g5).same g6
      refine ite2 (fun c=>?_) (fun c=>?_)
      · have c':¬ (tkA ts j).k="end":=by simpa using c
        rw [if_neg c'] at hz2
        refine ⟨_,rfl,_,rfl,l,_,_,_,rfl,rfl,SqL.of hS6.1,atI_nat hxe,pe,_,_,_,rfl,rfl,SqT.of (g6 _ _ hpe),atI_nat (j:=2) rfl,small (n:=2) (by decide),fun t2 ht2=>?_⟩
        exact qe _ hz2 t2 _ (g1.trans (g5.trans (g6.trans (same_new ht2 _)))) upd_same
      · have c':(tkA ts j).k="end":=by simpa using c
        rw [if_pos c'] at hz2
        refine ⟨_,rfl,small (n:=2) (by decide),fun t2 ht2=>?_⟩
        exact q t5 hz2 (.ref pt) t2 _ (g1.trans (g5.trans (g6.trans (same_new ht2 _)))) ((hv5.same g6).same (same_new ht2 _)) upd_same
end
theorem repS_len (i:Str) (n:Int):(repS i n).length=n.toNat * i.length:=by
  have z:∀ (k:Nat) (acc:Array Nat),((List.replicate k i.cps).foldl (·++·) acc).size=acc.size+k * i.length:=by
    intro k
    induction k with
    | zero=>intro acc;simp
    | succ k ih =>
      intro acc
      rw [List.replicate_succ,List.foldl_cons,ih,Array.size_append,Nat.succ_mul]
      show acc.size+i.length+_=_
      omega
  have:=z n.toNat #[]
  rw [show (#[]:Array Nat).size=0 from rfl,Nat.zero_add] at this
  exact this
theorem split_okL {z y:Str} {H:Hp} {Q:VK} (h0:(y.length == 0)=false) (hz:z.length≤9000) (q:∀ p,H p=none→Q (.ref p) (upd H p (.lst ((Txt.split z y).map V.str)))):rSplit (.str z) [.str y] H Q :=
  ⟨z,y,rfl,rfl,h0,line_ok (by omega),by rw [parts_len];have:=StrLaws.occ_length_le z y 0 z.length (z.length+1);exact line_ok (by omega),by have:=split_many z y;exact line_ok (by omega),q⟩
theorem Ev.bind {d:Addr} {H H':Hp} (e:Ev d H H') {b:Addr} {u:HO} (h:H b=some u) (hb:b≠d):H' b=some u:=e.same _ _ hb h
theorem lt200m {n:Nat} (h:n≤100000):(n:Int) < 2 ^ 200:=Int.lt_of_le_of_lt (b:=100000) (by omega) (by decide)
section
variable {P:Program} {w:World} {K:PySem.W.Frag} {mg:Str→Option Value} {base:Heap} {a:Adr}
theorem join_ok {H:Hp} {Q:VK} {l:Addr} {ws:List Str} (hl:H l=some (.lst (ws.map V.str))) (ht:tot ws≤1000000) (q:Q (.str (Txt.join " " ws)) H):rJoin K (.str " ") [.ref l] H Q:=by
  refine ⟨" ",l,ws,rfl,rfl,SqL.of hl,?_,q⟩
  have:(" ":Str).length=1:=by decide +kernel
  rw [this]
  unfold tot at ht
  omega
def spBent:Sp:=fun vs H Q _=>∃ (d:Addr) (x:Str),vs=[.ref d,.str x]∧Drw H d∧x.length≤2500∧∀ y H',Ev d H H'→y.length≤2 * x.length+80→cntS y≤2 * cntS x+4→Q (.str y) H'
abbrev some15:List Str:=["and","(",")","not","has","=","-","-5","by","<=","'a'","no","*",",","|"]
abbrev some13:List Str:=["","0","-","'","A"," ","=","_","!","(","@",".","9"]
theorem few_lens:(∀ x ∈ some15,x.length≤3∧cntS x≤2)∧∀ x ∈ some13,x.length≤1∧cntS x≤1:=by decide +kernel
theorem ok_bent (T:Txt K mg a):FnOk P w K mg base CX0 3 a.f_bent a.d_bent ["_law_draw","_law_text_here"] spBent:=by
  refine T.F_bent.ok sc_bent (fun vs H Q E h=>?_) (fun cdv A outer s H vs Q E hr h=>?_)
  · obtain ⟨_,_,rfl,_⟩:=h;rfl
  obtain ⟨d,x,rfl,hD,hx,q⟩:=h
  refine boxE ⟨_,(by exact (bss_cons (bs_set (i:=2) sc_bent.nd rfl (by first | exact Or.inl rfl | exact Or.inr rfl) ⟨(pe_call (ok_take T) (hr.mono (by decide)) rfl T.m_take T.F_take.kp T.b_take .nil pass0 (pa_cons (pv 0) (pa_cons pe_int pa_nil star_con) star_nam))⟩ rfl (by first | exact .inl rfl | exact .inr rfl)) (bss_cons (bs_set (i:=3) sc_bent.nd rfl (by first | exact Or.inl rfl | exact Or.inr rfl) ⟨(pe_bm PySem.F.plainAttrs_str PySem.F.slot_str_split PySem.F.type_str_split mt_split (pv 1) (pa_cons pe_str pa_nil star_con))⟩ rfl (by first | exact .inl rfl | exact .inr rfl)) (bss_cons (bs_set (i:=4) sc_bent.nd rfl (by first | exact Or.inl rfl | exact Or.inr rfl) ⟨(pe_call (ok_take T) (hr.mono (by decide)) rfl T.m_take T.F_take.kp T.b_take .nil pass0 (pa_cons (pv 0) (pa_cons (pe_callB call_len_seq rfl T.n_len PySem.boot_len (pa_cons (pv 3) pa_nil star_nam)) pa_nil star_cal) star_nam))⟩ rfl (by first | exact .inl rfl | exact .inr rfl)) (bss_cons (bs_if ⟨(pt_cmpR op_eq (pv 2) pe_int (nomark _))⟩ (bss_one (bs_ret ⟨(pe_bm PySem.F.plainAttrs_str PySem.F.slot_str_join PySem.F.type_str_join mt_join pe_str (pa_cons (pe_op op_cat (pe_slice sl_list (pv 3) po_none (po_some (pv 4))) (pe_slice sl_list (pv 3) (po_some (pe_op op_add (pv 4) pe_int)) po_none)) pa_nil star_bin))⟩)) bss_nil) (bss_cons (bs_if ⟨(pt_cmpR op_eq (pv 2) pe_int (nomark _))⟩ (bss_one (bs_ret ⟨(pe_bm PySem.F.plainAttrs_str PySem.F.slot_str_join PySem.F.type_str_join mt_join pe_str (pa_cons (pe_op op_cat (pe_slice sl_list (pv 3) po_none (po_some (pe_op op_add (pv 4) pe_int))) (pe_slice sl_list (pv 3) (po_some (pv 4)) po_none)) pa_nil star_bin))⟩)) bss_nil) (bss_cons (bs_if ⟨(pt_cmpR op_lt (pv 2) pe_int (nomark _))⟩ (bss_cons (bs_set (i:=5) sc_bent.nd rfl (by first | exact Or.inl rfl | exact Or.inr rfl) (be_lst (bpa_cons ⟨pe_str⟩ (bpa_cons ⟨pe_str⟩ (bpa_cons ⟨pe_str⟩ (bpa_cons ⟨pe_str⟩ (bpa_cons ⟨pe_str⟩ (bpa_cons ⟨pe_str⟩ (bpa_cons ⟨pe_str⟩ (bpa_cons ⟨pe_str⟩ (bpa_cons ⟨pe_str⟩ (bpa_cons ⟨pe_str⟩ (bpa_cons ⟨pe_str⟩ (bpa_cons ⟨pe_str⟩ (bpa_cons ⟨pe_str⟩ (bpa_cons ⟨pe_str⟩ (bpa_cons ⟨pe_str⟩ bpa_nil star_con) star_con) star_con) star_con) star_con) star_con) star_con) star_con) star_con) star_con) star_con) star_con) star_con) star_con) star_con)) swap_lst (by first | exact .inl rfl | exact .inr rfl)) (bss_cons (bs_set (i:=6) sc_bent.nd rfl (by first | exact Or.inl rfl | exact Or.inr rfl) ⟨(pe_call (ok_of T) (hr.mono (by decide)) rfl T.m_of T.F_of.kp T.b_of .nil pass0 (pa_cons (pv 0) (pa_cons (pv 5) pa_nil star_nam) star_nam))⟩ rfl (by first | exact .inl rfl | exact .inr rfl)) (bss_one (bs_ret ⟨(pe_bm PySem.F.plainAttrs_str PySem.F.slot_str_join PySem.F.type_str_join mt_join pe_str (pa_cons (pe_op op_cat (pe_op op_cat (pe_slice sl_list (pv 3) po_none (po_some (pv 4))) (pe_lst (pa_cons (pv 6) pa_nil star_nam))) (pe_slice sl_list (pv 3) (po_some (pe_op op_add (pv 4) (pe_call (ok_take T) (hr.mono (by decide)) rfl T.m_take T.F_take.kp T.b_take .nil pass0 (pa_cons (pv 0) (pa_cons pe_int pa_nil star_con) star_nam)))) po_none)) pa_nil star_bin))⟩)))) bss_nil) (bss_cons (bs_if ⟨(pt_cmpR op_eq (pv 2) pe_int (nomark _))⟩ (bss_cons (bs_set (i:=7) sc_bent.nd rfl (by first | exact Or.inl rfl | exact Or.inr rfl) (be_op op_add ⟨pe_int⟩ ⟨(pe_call (ok_take T) (hr.mono (by decide)) rfl T.m_take T.F_take.kp T.b_take .nil pass0 (pa_cons (pv 0) (pa_cons pe_int pa_nil star_con) star_nam))⟩) rfl (by first | exact .inl rfl | exact .inr rfl)) (bss_cons (bs_set (i:=8) sc_bent.nd rfl (by first | exact Or.inl rfl | exact Or.inr rfl) ⟨(pe_call (ok_take T) (hr.mono (by decide)) rfl T.m_take T.F_take.kp T.b_take .nil pass0 (pa_cons (pv 0) (pa_cons pe_int pa_nil star_con) star_nam))⟩ rfl (by first | exact .inl rfl | exact .inr rfl)) (bss_one (bs_ret (be_op op_add_str (be_op op_add_str (be_op op_add_str (be_op op_mul_strN ⟨pe_str⟩ ⟨(pv 7)⟩) (be_op op_mul_strN ⟨pe_str⟩ ⟨(pv 8)⟩)) ⟨(pv 1)⟩) (be_op op_mul_strN ⟨pe_str⟩ (be_op op_sub ⟨(pv 7)⟩ ⟨(pe_callTy call_int1 rfl T.n_int (by decide +kernel) (pa_cons (pe_cmpR op_eq (pe_call (ok_take T) (hr.mono (by decide)) rfl T.m_take T.F_take.kp T.b_take .nil pass0 (pa_cons (pv 0) (pa_cons pe_int pa_nil star_con) star_nam)) pe_int (nomark _)) pa_nil))⟩))))))) bss_nil) (bss_cons (bs_if ⟨(pt_cmpR op_eq (pv 2) pe_int (nomark _))⟩ (bss_one (bs_ret ⟨(pe_bm PySem.F.plainAttrs_str PySem.F.slot_str_join PySem.F.type_str_join mt_join pe_str (pa_cons (pe_op op_cat (pe_op op_cat (pe_slice sl_list (pv 3) po_none (po_some (pv 4))) (pe_lst (pa_cons (pe_op op_mul_strN pe_str (pe_op op_add pe_int (pe_call (ok_take T) (hr.mono (by decide)) rfl T.m_take T.F_take.kp T.b_take .nil pass0 (pa_cons (pv 0) (pa_cons pe_int pa_nil star_con) star_nam)))) pa_nil star_bin))) (pe_slice sl_list (pv 3) (po_some (pe_op op_add (pv 4) pe_int)) po_none)) pa_nil star_bin))⟩)) bss_nil) (bss_cons (bs_set (i:=9) sc_bent.nd rfl (by first | exact Or.inl rfl | exact Or.inr rfl) ⟨(pe_call (ok_take T) (hr.mono (by decide)) rfl T.m_take T.F_take.kp T.b_take .nil pass0 (pa_cons (pv 0) (pa_cons (pe_op op_add (pe_callB call_len_str rfl T.n_len PySem.boot_len (pa_cons (pv 1) pa_nil star_nam)) pe_int) pa_nil star_bin) star_nam))⟩ rfl (by first | exact .inl rfl | exact .inr rfl)) (bss_cons (bs_set (i:=10) sc_bent.nd rfl (by first | exact Or.inl rfl | exact Or.inr rfl) (be_call (ok_of T) (hr.mono (by decide)) rfl T.m_of T.F_of.kp T.b_of .nil pass0 (bpa_cons ⟨(pv 0)⟩ (bpa_cons (be_lst (bpa_cons ⟨pe_str⟩ (bpa_cons ⟨pe_str⟩ (bpa_cons ⟨pe_str⟩ (bpa_cons ⟨pe_str⟩ (bpa_cons ⟨pe_str⟩ (bpa_cons ⟨pe_str⟩ (bpa_cons ⟨pe_str⟩ (bpa_cons ⟨pe_str⟩ (bpa_cons ⟨pe_str⟩ (bpa_cons ⟨pe_str⟩ (bpa_cons ⟨pe_str⟩ (bpa_cons ⟨pe_str⟩ (bpa_cons ⟨pe_str⟩ bpa_nil star_con) star_con) star_con) star_con) star_con) star_con) star_con) star_con) star_con) star_con) star_con) star_con) star_con)) bpa_nil star_lst) star_nam)) rfl (by first | exact .inl rfl | exact .inr rfl)) (bss_one (bs_ret (be_op op_add_str (be_op op_add_str ⟨(pe_slice sl_str (pv 1) po_none (po_some (pv 9)))⟩ ⟨(pv 10)⟩) ⟨(pe_slice sl_str (pv 1) (po_some (pe_op op_add (pv 9) (pe_call (ok_take T) (hr.mono (by decide)) rfl T.m_take T.F_take.kp T.b_take .nil pass0 (pa_cons (pv 0) (pa_cons pe_int pa_nil star_con) star_nam)))) po_none)⟩)))))))))))))),?_⟩
  refine ⟨_,rfl,d,_,rfl,hD,by decide,by decide,fun f H1 f0 f1 ev1=>?_⟩
  refine ⟨_,rfl,rfl,?_⟩
  dsimp only [tCons,tC,tNil]
  refine split_okL (by decide +kernel) (by omega) fun l hl=>?_
  have hld:=ev1.drw.ne_of_none hl
  have ev01:=ev1.then (same_new hl (.lst ((Txt.split x " ").map V.str)))
  have hmany:=split_many x " "
  have hne:=split_ne x " "
  have htot:=split_tot x
  have hcw:=split_cnt x
  have hpos:1≤(Txt.split x " ").length:=List.length_pos_iff.mpr hne
  have hl0:(upd H1 l (.lst ((Txt.split x " ").map V.str))) l=some (.lst ((Txt.split x " ").map V.str)):=upd_same
  generalize Txt.split x " "=ws at hmany hne htot hcw hpos hl0 ev01 ⊢
  refine ⟨_,rfl,_,rfl,_,_,rfl,.inl (SqL.of hl0),d,_,rfl,ev01.drw,by rw [List.length_map];omega,by rw [List.length_map];exact lt200m (by omega),fun at' H2 a0 a1 ev2=>?_⟩
  have hl2:=ev2.bind hl0 hld
  have ev:=ev01.trans ev2
  rw [List.length_map] at a1
  refine ⟨_,rfl,rfl,_,rfl,?_⟩
  refine ite2 (fun c=>?_) (fun c=>?_)
  · obtain ⟨m1,em1,t1,sb1⟩:=cut_strs ws none (some at')
    obtain ⟨m2,em2,t2,sb2⟩:=cut_strs ws (some (at'+1)) none
    refine ⟨rfl,_,rfl,_,rfl,_,rfl,l,_,rfl,SqL.of hl2,fun p1 hp1=>?_⟩
    rw [em1]
    have g1:=same_new hp1 (.lst (m1.map V.str))
    refine ⟨_,rfl,_,rfl,_,_,rfl,rfl,_,rfl,l,_,rfl,SqL.of (g1 _ _ hl2),fun p2 hp2=>?_⟩
    rw [em2]
    have g2:=same_new hp2 (.lst (m2.map V.str))
    refine ⟨p1,p2,_,_,rfl,rfl,g2 _ _ upd_same,upd_same,?_,fun p3 hp3=>?_⟩
    · unfold tot at t1 t2 htot
      rw [List.length_map,List.length_map];exact line_ok (by omega)
    have e12:m1.map V.str++m2.map V.str=(m1++m2).map V.str:=by rw [List.map_append]
    rw [e12]
    have g3:=same_new hp3 (.lst ((m1++m2).map V.str))
    have tt:=tot_append m1 m2
    refine join_ok upd_same (by omega) (q _ _ (ev.then (g1.trans (g2.trans g3))) ?_ ?_)
    · have:=join_tot (m1++m2)
      omega
    · have c1:=cw_sub sb1
      have c2:=cw_sub sb2
      rw [cnt_join,cw_app];omega
  refine ⟨_,rfl,rfl,_,rfl,?_⟩
  refine ite2 (fun c=>?_) (fun c=>?_)
  · obtain ⟨m1,em1,t1,sb1⟩:=cut_strs ws none (some (at'+1))
    obtain ⟨m2,em2,t2,sb2⟩:=cut_strs ws (some at') none
    refine ⟨rfl,_,rfl,_,rfl,_,_,rfl,rfl,_,rfl,l,_,rfl,SqL.of hl2,fun p1 hp1=>?_⟩
    rw [em1]
    have g1:=same_new hp1 (.lst (m1.map V.str))
    refine ⟨_,rfl,_,rfl,_,rfl,l,_,rfl,SqL.of (g1 _ _ hl2),fun p2 hp2=>?_⟩
    rw [em2]
    have g2:=same_new hp2 (.lst (m2.map V.str))
    refine ⟨p1,p2,_,_,rfl,rfl,g2 _ _ upd_same,upd_same,?_,fun p3 hp3=>?_⟩
    · unfold tot at t1 t2 htot
      rw [List.length_map,List.length_map];exact line_ok (by omega)
    have e12:m1.map V.str++m2.map V.str=(m1++m2).map V.str:=by rw [List.map_append]
    rw [e12]
    have g3:=same_new hp3 (.lst ((m1++m2).map V.str))
    have tt:=tot_append m1 m2
    refine join_ok upd_same (by omega) (q _ _ (ev.then (g1.trans (g2.trans g3))) ?_ ?_)
    · have:=join_tot (m1++m2)
      omega
    · have c1:=cw_sub sb1
      have c2:=cw_sub sb2
      rw [cnt_join,cw_app];omega
  refine ⟨_,rfl,_,_,rfl,rfl,_,rfl,?_⟩
  refine ite2 (fun c=>?_) (fun c=>?_)
  · refine ⟨small (n:=15) (by decide),fun p0 hp0=>?_⟩
    have hl3:=same_new hp0 (.lst (some15.map V.str)) _ _ hl2
    have ev3:=ev.then (same_new hp0 (.lst (some15.map V.str)))
    refine ⟨_,rfl,_,rfl,d,_,rfl,ev3.drw,.inr ⟨p0,_,rfl,ev.drw.ne_of_none hp0,upd_same,by decide,by decide,fun y0 H5 ev5 hy0=>?_⟩⟩
    have hl5:=ev5.bind hl3 hld
    have ev:=ev3.trans ev5
    obtain ⟨y,rfl,hy,hyc⟩:∃ y:Str,y0=.str y∧y.length≤3∧cntS y≤2:=by
      have h':y0 ∈ some15.map V.str:=hy0
      obtain ⟨y,hy,e⟩:=List.mem_map.mp h'
      exact ⟨y,e.symm,few_lens.1 y hy⟩
    obtain ⟨m1,em1,t1,sb1⟩:=cut_strs ws none (some at')
    refine ⟨rfl,_,rfl,_,rfl,_,rfl,l,_,rfl,SqL.of hl5,fun p1 hp1=>?_⟩
    rw [em1]
    have g1:=same_new hp1 (.lst (m1.map V.str))
    refine ⟨_,rfl,small (n:=1) (by decide),fun p2 hp2=>?_⟩
    have g2:=same_new hp2 (.lst [.str y])
    refine ⟨p1,p2,_,_,rfl,rfl,g2 _ _ upd_same,upd_same,?_,fun p3 hp3=>?_⟩
    · unfold tot at t1 htot
      rw [List.length_map];show m1.length+1≤_;exact line_ok (by omega)
    have g3:=same_new hp3 (.lst (m1.map V.str++[.str y]))
    have ev6:=ev.then (g1.trans (g2.trans g3))
    have hp33:(upd (upd (upd H5 p1 (.lst (m1.map V.str))) p2 (.lst [.str y])) p3 (.lst (m1.map V.str++[.str y]))) p3=some (.lst (m1.map V.str++[.str y])):=upd_same
    have hl6:=g3 _ _ (g2 _ _ (g1 _ _ hl5))
    have hd3:=(ev.then (g1.trans g2)).drw.ne_of_none hp3
    generalize upd (upd (upd H5 p1 (.lst (m1.map V.str))) p2 (.lst [.str y])) p3 (.lst (m1.map V.str++[.str y]))=H6 at hp33 ev6 hl6 ⊢
    refine ⟨_,rfl,_,rfl,_,rfl,d,_,rfl,ev6.drw,by decide,by decide,fun r H7 r0 r1 ev7=>?_⟩
    have hl7:=ev7.bind hl6 hld
    have hp7:=ev7.bind hp33 hd3
    obtain ⟨m2,em2,t2,sb2⟩:=cut_strs ws (some (at'+r)) none
    refine ⟨_,_,rfl,rfl,_,rfl,l,_,rfl,SqL.of hl7,fun p4 hp4=>?_⟩
    rw [em2]
    have g4:=same_new hp4 (.lst (m2.map V.str))
    refine ⟨p3,p4,_,_,rfl,rfl,g4 _ _ hp7,upd_same,?_,fun p5 hp5=>?_⟩
    · unfold tot at t1 t2 htot
      rw [List.length_append,List.length_map,List.length_map];show m1.length+1+m2.length≤_;exact line_ok (by omega)
    have e12:m1.map V.str++[V.str y]++m2.map V.str=(m1++[y]++m2).map V.str:=by simp
    rw [e12]
    have g5:=same_new hp5 (.lst ((m1++[y]++m2).map V.str))
    have tt:=tot_append (m1++[y]) m2
    have tt2:=tot_append m1 [y]
    have ty:tot [y]=y.length+1:=by simp [tot]
    refine join_ok upd_same (by omega) (q _ _ ((ev6.trans ev7).then (g4.trans g5)) ?_ ?_)
    · have:=join_tot (m1++[y]++m2)
      omega
    · have c1:=cw_sub sb1
      have c2:=cw_sub sb2
      have c3:cw [y]=cntS y:=by simp [cw]
      rw [cnt_join,cw_app,cw_app,c3];omega
  refine ⟨_,rfl,rfl,_,rfl,?_⟩
  have lp:("(":Str).length=1:=by decide +kernel
  have rp:(")":Str).length=1:=by decide +kernel
  have np:("not ":Str).length=4:=by decide +kernel
  have ap:("a":Str).length=1:=by decide +kernel
  refine ite2 (fun c=>?_) (fun c=>?_)
  · refine ⟨_,rfl,d,_,rfl,ev.drw,by decide,by decide,fun r H3 r0 r1 ev3=>⟨_,_,rfl,rfl,?_⟩⟩
    have ev:=ev.trans ev3
    refine ⟨_,rfl,d,_,rfl,ev.drw,by decide,by decide,fun n H4 n0 n1 ev4=>?_⟩
    have ev:=ev.trans ev4
    have la:=repS_len "(" (9+r)
    have lb:=repS_len "not " n
    rw [lp] at la
    rw [np] at lb
    have l1:=cat_len (repS "(" (9+r)) (repS "not " n)
    have l2:=cat_len (repS "(" (9+r)++repS "not " n) x
    refine ⟨_,rfl,_,_,rfl,rfl,by omega,by omega,by rw [lp];decide,by rw [lp];decide,_,rfl,_,_,rfl,rfl,by omega,by omega,by rw [np];decide,by rw [np];decide,_,_,rfl,rfl,line_ok (by omega),_,rfl,_,_,rfl,rfl,line_ok (by omega),?_⟩
    refine ⟨_,rfl,_,rfl,d,_,rfl,ev.drw,by decide,by decide,fun r2 H5 r20 r21 ev5=>⟨rfl,.inr ⟨_,rfl,_,_,rfl,rfl,?_⟩⟩⟩
    have ev:=ev.trans ev5
    obtain ⟨k,hk,hk0,hk1⟩:∃ k:Int,(9+r) - (if decide (V.int r2=V.int 0)=true then (1:Int) else 0)=k∧0≤k∧k≤14:=⟨_,rfl,by split <;> omega,by split <;> omega⟩
    have lc:=repS_len ")" k
    rw [rp] at lc
    have l3:=cat_len (repS "(" (9+r)++repS "not " n++x) (repS ")" k)
    refine ⟨_,k,rfl,congrArg V.int hk,by omega,by omega,by rw [rp];decide,by rw [rp];decide,_,_,rfl,rfl,line_ok (by omega),q _ _ ev ?_ ?_⟩
    · omega
    · have k1:cntS "("=0:=by decide +kernel
      have k2:cntS ")"=0:=by decide +kernel
      have k3:cntS "not "=1:=by decide +kernel
      rw [cnt_app,cnt_app,cnt_app,repS_cnt,repS_cnt,repS_cnt,k1,k2,k3]
      omega
  refine ⟨_,rfl,rfl,_,rfl,?_⟩
  refine ite2 (fun c=>?_) (fun c=>?_)
  · obtain ⟨m1,em1,t1,sb1⟩:=cut_strs ws none (some at')
    refine ⟨rfl,_,rfl,_,rfl,_,rfl,l,_,rfl,SqL.of hl2,fun p1 hp1=>?_⟩
    rw [em1]
    have g1:=same_new hp1 (.lst (m1.map V.str))
    have ev3:=ev.then g1
    have hl3:=g1 _ _ hl2
    have hd1:=ev.drw.ne_of_none hp1
    have hp11:(upd H2 p1 (.lst (m1.map V.str))) p1=some (.lst (m1.map V.str)):=upd_same
    generalize upd H2 p1 (.lst (m1.map V.str))=H3 at hp11 ev3 hl3 ⊢
    refine ⟨_,rfl,d,_,rfl,ev3.drw,by decide,by decide,fun r H4 r0 r1 ev4=>⟨_,_,rfl,rfl,_,_,rfl,rfl,by omega,by omega,by rw [ap];decide,by rw [ap];decide,small (n:=1) (by decide),fun p2 hp2=>?_⟩⟩
    have hl4:=ev4.bind hl3 hld
    have hp4:=ev4.bind hp11 hd1
    have la:=repS_len "a" (18+r)
    rw [ap] at la
    have g2:=same_new hp2 (.lst [.str (repS "a" (18+r))])
    refine ⟨p1,p2,_,_,rfl,rfl,g2 _ _ hp4,upd_same,?_,fun p3 hp3=>?_⟩
    · unfold tot at t1 htot
      rw [List.length_map];show m1.length+1≤_;exact line_ok (by omega)
    have g3:=same_new hp3 (.lst (m1.map V.str++[.str (repS "a" (18+r))]))
    obtain ⟨m2,em2,t2,sb2⟩:=cut_strs ws (some (at'+1)) none
    refine ⟨_,rfl,_,rfl,_,_,rfl,rfl,_,rfl,l,_,rfl,SqL.of (g3 _ _ (g2 _ _ hl4)),fun p4 hp4'=>?_⟩
    rw [em2]
    have g4:=same_new hp4' (.lst (m2.map V.str))
    refine ⟨p3,p4,_,_,rfl,rfl,g4 _ _ upd_same,upd_same,?_,fun p5 hp5=>?_⟩
    · unfold tot at t1 t2 htot
      rw [List.length_append,List.length_map,List.length_map];show m1.length+1+m2.length≤_;exact line_ok (by omega)
    have e12:m1.map V.str++[V.str (repS "a" (18+r))]++m2.map V.str=(m1++[repS "a" (18+r)]++m2).map V.str:=by simp
    rw [e12]
    have g5:=same_new hp5 (.lst ((m1++[repS "a" (18+r)]++m2).map V.str))
    have tt:=tot_append (m1++[repS "a" (18+r)]) m2
    have tt2:=tot_append m1 [repS "a" (18+r)]
    have ty:tot [repS "a" (18+r)]=(repS "a" (18+r)).length+1:=by simp [tot]
    refine join_ok upd_same (by omega) (q _ _ ((ev3.trans ev4).then (g2.trans (g3.trans (g4.trans g5)))) ?_ ?_)
    · have:=join_tot (m1++[repS "a" (18+r)]++m2)
      omega
    · have c1:=cw_sub sb1
      have c2:=cw_sub sb2
      have c3:cw [repS "a" (18+r)]=0:=by
        have k1:cntS "a"=0:=by decide +kernel
        simp [cw,repS_cnt,k1]
      rw [cnt_join,cw_app,cw_app,c3];omega
  refine ⟨_,rfl,_,rfl,x,rfl,line_ok (by omega),_,_,rfl,rfl,d,_,rfl,ev.drw,by omega,by have:=lt200m (n:=x.length+1) (by omega);omega,fun pl H3 p0 p1 ev3=>?_⟩
  have ev:=ev.trans ev3
  refine ⟨_,rfl,small (n:=13) (by decide),fun p4 hp4=>?_⟩
  have ev4:=ev.then (same_new hp4 (.lst (some13.map V.str)))
  refine ⟨d,_,rfl,ev4.drw,.inr ⟨p4,_,rfl,ev.drw.ne_of_none hp4,upd_same,by decide,by decide,fun y0 H5 ev5 hy0=>?_⟩⟩
  have ev:=ev4.trans ev5
  obtain ⟨y,rfl,hy,hyc⟩:∃ y:Str,y0=.str y∧y.length≤1∧cntS y≤1:=by
    have h':y0 ∈ some13.map V.str:=hy0
    obtain ⟨y,hy,e⟩:=List.mem_map.mp h'
    exact ⟨y,e.symm,few_lens.2 y hy⟩
  have c1:=slice_len x none (some pl)
  have c3:=cat_len (Txt.slice x none (some pl)) y
  refine ⟨_,rfl,_,rfl,_,rfl,x,rfl,line_ok (by omega),_,rfl,_,_,rfl,rfl,line_ok (by omega),?_⟩
  refine ⟨_,rfl,_,rfl,_,rfl,d,_,rfl,ev.drw,by decide,by decide,fun r H6 r0 r1 ev6=>?_⟩
  have ev:=ev.trans ev6
  have c4:=slice_len x (some (pl+r)) none
  have c5:=cat_len (Txt.slice x none (some pl)++y) (Txt.slice x (some (pl+r)) none)
  refine ⟨_,_,rfl,rfl,_,rfl,x,rfl,line_ok (by omega),_,_,rfl,rfl,line_ok (by omega),q _ _ ev ?_ ?_⟩
  · omega
  · have d1:=cnt_to (x:=x) (j:=pl) p0 (by omega)
    have d2:=cnt_from (x:=x) (j:=pl+r) (by omega)
    rw [cnt_app,cnt_app];omega
end
end My
namespace My
open PySem L2
def Eqv:Nat→Hp→V→V→Prop
  | 0,_,x,y=>flatV x=true∧x=y
  | n+1,H,x,y=>(flatV x=true∧x=y) ∨
    (∃ (p q:Addr) (xs ys:List V),x=.ref p∧y=.ref q∧H p=some (.tup xs)∧H q=some (.tup ys)∧xs.length≤1000∧xs.length=ys.length∧∀ (i:Nat) (u v:V),xs[i]?=some u→ys[i]?=some v→Eqv n H u v)
theorem Eqv.same:∀ {n:Nat} {H H':Hp} {x y:V},Eqv n H x y→Same H H'→Eqv n H' x y
  | 0,H,H',x,y,h,_=>h
  | n+1,H,H',x,y,h,g=>by
    unfold Eqv at h ⊢
    rcases h with h | ⟨p,q,xs,ys,rfl,rfl,h1,h2,h3,h4,h5⟩
    · exact .inl h
    · exact .inr ⟨p,q,xs,ys,rfl,rfl,g _ _ h1,g _ _ h2,h3,h4,fun i u v hu hv=>(h5 i u v hu hv).same g⟩
theorem Eqv.flat {n:Nat} {H:Hp} {x:V} (h:flatV x=true):Eqv n H x x:=by
  cases n with
  | zero=>unfold Eqv;exact ⟨h,rfl⟩
  | succ n=>unfold Eqv;exact .inl ⟨h,rfl⟩
theorem comp_zipT {K:PySem.W.Frag} {p q:Addr} {xs ys:List V} {im:List (Option Nat)} {σ:St} {H:Hp} {Q:VK} {te:TE} (hl:xs.length=ys.length) (hp:H p=some (.tup xs)) (hq:H q=some (.tup ys)) (hz:xs.length≤sizeLine)
    (he:∀ (i:Nat) x y H' (R:VK),xs[i]?=some x→ys[i]?=some y→Same H H'→(∀ H'',Same H' H''→R (.bl true) H'')→te (((inner im σ).set 0 (some x)).set 1 (some y)) H' R)
    (hQ:∀ D H',Same H H'→H' D=none→Q (.ref D) (upd H' D (.lst ((List.replicate xs.length true).map V.bl)))) :
    CompAt im (gTup K 2 (gCons (gName 0) (gCons (gName 1) gNil))) tNoIf te σ Q (ItzT K p q) H:=by
  refine ⟨fun i m zs H'=>m=xs.length - i∧i≤xs.length∧zs=(List.replicate i true).map V.bl∧Same H H',⟨xs.length,by simp,Nat.zero_le _,by simp,Same.refl H⟩,?_⟩
  rintro i m zs H' ⟨rfl,hi,rfl,g⟩
  refine ⟨by rw [List.length_map,List.length_replicate];omega,?_⟩
  by_cases hlt:i < xs.length
  · have hlt2:i < ys.length:=by omega
    refine .inr ⟨⟨xs,ys,xs[i],ys[i],SqT.of (g _ _ hp),SqT.of (g _ _ hq),List.getElem?_eq_getElem hlt,List.getElem?_eq_getElem hlt2⟩,fun u H'' yl=>?_⟩
    obtain ⟨T,rfl,hT,yl⟩:=yl
    obtain ⟨x,y,hx,hy,rfl⟩:=yl xs ys (SqT.of (g _ _ hp)) (SqT.of (g _ _ hq))
    refine ⟨T,[x,y],rfl,SqT.of upd_same,rfl,x,[y],rfl,y,[],rfl,rfl,?_⟩
    have g2:=g.trans (same_new hT (.tup [x,y]))
    refine he i x y _ _ hx hy g2 fun H3 g3=>⟨xs.length - (i+1),by omega,rfl,hlt,?_,g2.trans g3⟩
    rw [List.replicate_succ',List.map_append]
    rfl
  · have e:i=xs.length:=by omega
    subst e
    exact .inl ⟨⟨xs,ys,SqT.of (g _ _ hp),SqT.of (g _ _ hq),hl,rfl⟩,fun D hD=>hQ D H' g hD⟩
theorem iteT2 {c:Bool} {A B:Prop} (h:c=true) (x:A):if c=true then A else B:=by rw [if_pos h];exact x
section
variable {P:Program} {w:World} {K:PySem.W.Frag} {mg:Str→Option Value} {base:Heap} {a:Adr}
def spE (n:Nat):Sp:=fun vs H Q _=>∃ x y,vs=[x,y]∧Eqv n H x y∧∀ H',Same H H'→Q (.bl true) H'
theorem spE_flat {vs:List V} {H:Hp} {Q:VK} {E:XK} {x:V} (h:flatV x=true) (e:vs=[x,x]) (q:∀ H',Same H H'→Q (.bl true) H'):spSameF vs H Q E :=
  ⟨x,x,e,h,h,fun H' g=>by rw [decide_eq_true rfl];exact q H' g⟩
theorem ok_sameE (T:Txt K mg a) (n:Nat):FnOk P w K mg base CX0 (n+1) a.f_same a.d_same ["_law_told","_law_due"] (spE n):=by
  induction n with
  | zero=>exact ((ok_sameF T).mono (by omega)).imp fun vs H Q E ⟨x,y,e,h,q⟩=>by unfold Eqv at h;obtain ⟨h1,h2⟩:=h;subst h2;exact spE_flat h1 e q
  | succ n ih =>
    have U:FnOk P w K mg base CX0 (n+2) a.f_same a.d_same ["_law_told","_law_due"] (fun vs H Q _=>∃ p q xs ys,vs=[.ref p,.ref q]∧H p=some (.tup xs)∧H q=some (.tup ys)∧xs.length≤1000∧xs.length=ys.length∧(∀ (i:Nat) (u v:V),xs[i]?=some u→ys[i]?=some v→Eqv n H u v)∧∀ H',Same H H'→Q (.bl true) H'):=by
      refine T.F_same.ok sc_same (fun vs H Q E h=>?_) (fun cdv A outer s H vs Q E hr h=>?_)
      · obtain ⟨x,y,xs,ys,rfl,_⟩:=h;rfl
      obtain ⟨p,q',xs,ys,rfl,hp,hq,lx,hl,he,q⟩:=h
      have hu:=hr.units0
      refine ⟨_,(pss_cons (ps_if (pt_cmpR op_isN (pv 1) pe_non (nomark _)) (pss_one (ps_ret (pe_cmpR op_isN (pv 0) pe_non (nomark _)))) pss_nil) (pss_cons (ps_if (PW.pt (pw_or (pt_val (pe_callB call_isinst rfl T.n_isinstance (by decide +kernel) (pa_cons (pv 1) (pa_cons (pe_bltn (v:=.ty "bool") (u:=.type "bool") rfl T.n_bool (by decide +kernel) rfl) pa_nil)))) (pw_or1 (pt_val (pe_callB call_isinst rfl T.n_isinstance (by decide +kernel) (pa_cons (pv 0) (pa_cons (pe_bltn (v:=.ty "bool") (u:=.type "bool") rfl T.n_bool (by decide +kernel) rfl) pa_nil))))))) (pss_one (ps_ret (pe_and (pe_callB call_isinst rfl T.n_isinstance (by decide +kernel) (pa_cons (pv 1) (pa_cons (pe_bltn (v:=.ty "bool") (u:=.type "bool") rfl T.n_bool (by decide +kernel) rfl) pa_nil))) (pe_and (pe_callB call_isinst rfl T.n_isinstance (by decide +kernel) (pa_cons (pv 0) (pa_cons (pe_bltn (v:=.ty "bool") (u:=.type "bool") rfl T.n_bool (by decide +kernel) rfl) pa_nil))) (pe_one (pe_cmpR (op_eqT hu) (pv 0) (pv 1) (nomark _))))))) pss_nil) (pss_cons (ps_if (pt_val (pe_callB call_isinstT rfl T.n_isinstance (by decide +kernel) (pa_cons (pv 1) (pa_cons (pe_tup (pa_cons (pe_bltn (v:=.ty "int") (u:=.type "int") rfl T.n_int (by decide +kernel) rfl) (pa_cons (pe_bltn (v:=.ty "str") (u:=.type "str") rfl T.n_str (by decide +kernel) rfl) pa_nil))) pa_nil)))) (pss_one (ps_ret (pe_and (pe_callB call_isinstT rfl T.n_isinstance (by decide +kernel) (pa_cons (pv 0) (pa_cons (pe_tup (pa_cons (pe_bltn (v:=.ty "int") (u:=.type "int") rfl T.n_int (by decide +kernel) rfl) (pa_cons (pe_bltn (v:=.ty "str") (u:=.type "str") rfl T.n_str (by decide +kernel) rfl) pa_nil))) pa_nil))) (pe_and (pe_cmpR op_eq (pe_callB call_isinst rfl T.n_isinstance (by decide +kernel) (pa_cons (pv 0) (pa_cons (pe_bltn (v:=.ty "int") (u:=.type "int") rfl T.n_int (by decide +kernel) rfl) pa_nil))) (pe_callB call_isinst rfl T.n_isinstance (by decide +kernel) (pa_cons (pv 1) (pa_cons (pe_bltn (v:=.ty "int") (u:=.type "int") rfl T.n_int (by decide +kernel) rfl) pa_nil))) (nomark _)) (pe_one (pe_cmpR (op_eqT hu) (pv 0) (pv 1) (nomark _))))))) pss_nil) (pss_cons (ps_if (pt_val (pe_callB call_isinst rfl T.n_isinstance (by decide +kernel) (pa_cons (pv 1) (pa_cons (pe_bltn (v:=.ty "dict") (u:=.type "dict") rfl T.n_dict (by decide +kernel) rfl) pa_nil)))) pss_never pss_nil) (pss_cons (ps_if (PW.pt (pw_or (pt_cmpR op_ne (pe_callB call_isinst rfl T.n_isinstance (by decide +kernel) (pa_cons (pv 1) (pa_cons (pe_bltn (v:=.ty "list") (u:=.type "list") rfl T.n_list (by decide +kernel) rfl) pa_nil))) (pe_callB call_isinst rfl T.n_isinstance (by decide +kernel) (pa_cons (pv 0) (pa_cons (pe_bltn (v:=.ty "list") (u:=.type "list") rfl T.n_list (by decide +kernel) rfl) pa_nil))) (nomark _)) (pw_or1 (pt_cmpR op_ne (pe_callB call_isinst rfl T.n_isinstance (by decide +kernel) (pa_cons (pv 1) (pa_cons (pe_bltn (v:=.ty "tuple") (u:=.type "tuple") rfl T.n_tuple (by decide +kernel) rfl) pa_nil))) (pe_callB call_isinst rfl T.n_isinstance (by decide +kernel) (pa_cons (pv 0) (pa_cons (pe_bltn (v:=.ty "tuple") (u:=.type "tuple") rfl T.n_tuple (by decide +kernel) rfl) pa_nil))) (nomark _))))) (pss_one (ps_ret pe_bl)) pss_nil) (pss_one (ps_ret (pe_and (pe_cmpR op_eq (pe_callB call_len_seq rfl T.n_len PySem.boot_len (pa_cons (pv 0) pa_nil)) (pe_callB call_len_seq rfl T.n_len PySem.boot_len (pa_cons (pv 1) pa_nil)) (nomark _)) (pe_one (pe_callB (call_all rfl) rfl T.n_all (by decide +kernel) (pa_cons (pe_comp (g:=gTup K 2 (gCons (gName 0) (gCons (gName 1) gNil))) ["_law_one","_law_other"] [none,none] (pi_zipT rfl T.n_zip (pa_cons (pv 0) (pa_cons (pv 1) pa_nil))) (fun _ _ _ _ _=>(pg_tup (n:=2) rfl (pgs_cons (pg_name (i:=0) (show List.Nodup (["_law_one","_law_other"]:List Str) from by decide +kernel) rfl (Or.inl rfl) (Or.inr rfl)) (pgs_cons (pg_name (i:=1) (show List.Nodup (["_law_one","_law_other"]:List Str) from by decide +kernel) rfl (Or.inl rfl) (Or.inr rfl)) pgs_nil)))) (fun _ _ _ _ _=>pts_nil) (fun _ _ _ _ _=>(pe_call ih (hr.mono (by omega)) rfl T.m_same T.F_same.kp T.b_same .nil pass0 (pa_cons (pv 0) (pa_cons (pv 1) pa_nil))))) pa_nil))))))))))),?_⟩
      refine ⟨_,rfl,rfl,_,rfl,iteF ⟨_,rfl,_,_,_,false,rfl,.tup hq,rfl,_,rfl,iteF ⟨_,rfl,_,_,_,false,rfl,.tup hp,rfl,_,rfl,iteF ?_⟩⟩⟩
      refine ⟨_,rfl,small (n:=2) (by decide),fun tp htp=>?_⟩
      have g1:=same_new htp (.tup [.ty "int",.ty "str"])
      have hp1:=g1 _ _ hp
      have hq1:=g1 _ _ hq
      refine ⟨_,_,tp,["int","str"],false,rfl,upd_same,.tup hq1,rfl,_,rfl,iteF ?_⟩
      refine ⟨_,rfl,_,_,_,false,rfl,.tup hq1,rfl,_,rfl,iteF ?_⟩
      refine ⟨_,rfl,_,_,_,false,rfl,.tup hq1,rfl,_,rfl,_,_,_,false,rfl,.tup hp1,rfl,rfl,_,rfl,iteF ?_⟩
      refine ⟨_,rfl,_,_,_,true,rfl,.tup hq1,rfl,_,rfl,_,_,_,true,rfl,.tup hp1,rfl,rfl,_,rfl,iteF ?_⟩
      refine ⟨_,rfl,_,_,rfl,.inr (SqT.of hp1),_,rfl,_,_,rfl,.inr (SqT.of hq1),rfl,_,rfl,iteT2 (decide_eq_true (by rw [hl])) ?_⟩
      refine ⟨_,rfl,_,rfl,p,q',rfl,⟨_,SqT.of hp1⟩,⟨_,SqT.of hq1⟩,?_⟩
      refine comp_zipT hl hp1 hq1 (small lx) (fun i x y H' R hx hy g hR=>?_) (fun D H' g hD=>?_)
      · exact ⟨_,rfl,_,rfl,x,y,rfl,(he i x y hx hy).same (g1.trans g),hR⟩
      · refine ⟨D,_,rfl,SqL.of upd_same,?_⟩
        have e1:(List.replicate xs.length true).all id=true:=by simp
        rw [e1]
        exact q _ ((g1.trans g).trans (same_new hD _))
    refine (((ok_sameF T).mono (by omega)).or U).imp fun vs H Q E ⟨x,y,e,h,q⟩=>?_
    unfold Eqv at h
    rcases h with ⟨h1,h2⟩ | ⟨p,q',xs,ys,rfl,rfl,h1,h2,h3,h4,h5⟩
    · subst h2;exact .inl (spE_flat h1 e q)
    · exact .inr ⟨p,q',xs,ys,e,h1,h2,h3,h4,h5,q⟩
end
end My
namespace My
open PySem L2
def spReadR (EC:Addr):Sp:=fun vs H Q E=>∃ x:Str,vs=[.str x]∧x.length≤10000 ∧
  (∀ p,resZ x=.inl p→∀ H' dx,Same H H'→H' dx=some (.xd [("at",.int (p:Int))])→E (.ref EC) (some dx) H') ∧
  (∀ t,resZ x=.inr t→∀ v H',Same H H'→TmAt H' v t→Q v H')
def atR (x:Str):Int:=match resZ x with
  | .inl k=>(k:Int)
  | .inr _=>0 - 1
def fewL:List (Str × Int):=[("a b | c",2),("a b , 'A'",6),("by a |",0),("a | b @ c",2),("(a",2),("",0),("a b up",2)]
theorem few_at:∀ p ∈ fewL,p.1.length≤10000∧atR p.1=p.2:=by decide +kernel
theorem read_deep {x:Str} {t:Tm} (h:resZ x=.inr t):t.deep≤cntS x:=by
  unfold resZ at h
  split at h
  · cases h
  · rename_i ts hts
    obtain ⟨j,hj⟩:=term_deep h
    have h1:=cum_sum (ts:=ts) j
    have h2:=lex_cnt x _ _ _ hts
    rw [List.drop_zero] at h2
    unfold cntS
    omega
def Tm.flatT:Tm→Prop
  | .lit _ v=>flatV v=true
  | .nam _ _=>True
  | .neg t=>t.flatT
  | .bin _ l r=>l.flatT∧r.flatT
theorem tk_flat {ts:List Tok} (h:TsOk ts) (i:Nat):flatV (tkA ts i).v=true:=by
  by_cases hi:i < ts.length
  · exact h.flat hi
  · unfold tkA
    rw [List.getElem?_eq_none (by omega)];rfl
theorem loop_flat {ts:List Tok} {sub:Nat→PR} {lv:Nat} (hs:∀ i t j,sub i=.inr (t,j)→t.flatT):∀ m t0 i0 t j,loopZ ts sub lv m t0 i0=.inr (t,j)→t0.flatT→t.flatT
  | 0,t0,i0,t,j,e,h0=>by cases e;exact h0
  | m + 1,t0,i0,t,j,e,h0=>by
    rw [loopZ] at e
    split at e
    · split at e
      · cases e
      · rename_i t2 j2 e2
        have hn:(Tm.bin (sgn (tkA ts i0).v) t0 t2).flatT:=⟨h0,hs _ _ _ e2⟩
        split at e
        · cases e;exact hn
        · exact loop_flat hs m _ _ _ _ e hn
    · cases e;exact h0
theorem pz_flat {ts : List Tok} (hT:TsOk ts):∀ n m d i t j,pz ts n m d i=.inr (t,j)→t.flatT
  | 0,m,d,i,t,j,e=>by cases m <;> cases e
  | n + 1, .part lv,d,i,t,j,e=>by
    rw [pz] at e
    split at e
    · exact pz_flat hT n .neg d i t j e
    · split at e
      · exact pz_flat hT n .leaf d i t j e
      · split at e
        · cases e
        · rename_i _ t1 j1 e1
          exact loop_flat (fun i t j h=>pz_flat hT n (.part (lv+1)) d i t j h) _ _ _ _ _ e (pz_flat hT n (.part (lv+1)) d i t1 j1 e1)
  | n + 1, .neg,d,i,t,j,e=>by
    rw [pz] at e
    split at e
    · split at e
      · cases e
      · split at e
        · cases e
        · rename_i t1 j1 e1
          cases e
          exact pz_flat hT n .neg (d+1) (i+1) t1 j e1
    · exact pz_flat hT n (.part 3) d i t j e
  | n + 1, .leaf, d, i,t,j,e=>by
    rw [pz] at e
    split at e
    · cases e;exact tk_flat hT i
    · split at e
      · cases e;exact tk_flat hT i
      · split at e
        · cases e;exact (rfl:flatV (.bl _)=true)
        · split at e
          · unfold kindZ at e
            split at e
            · cases e;trivial
            · cases e
          · split at e
            · split at e
              · cases e
              · split at e
                · cases e
                · rename_i t1 j1 e1
                  split at e
                  · cases e
                    exact pz_flat hT n (.part 0) (d+1) (i+1) t j1 e1
                  · cases e
            · unfold kindZ at e
              split at e
              · cases e;trivial
              · cases e
theorem read_flat {x:Str} {t:Tm} (h:resZ x=.inr t):t.flatT:=by
  unfold resZ at h
  split at h
  · cases h
  · rename_i ts hts
    unfold termZ at h
    split at h
    · cases h
    · rename_i t1 j1 e1
      split at h
      · cases h
        exact pz_flat (lex_ok x _ _ _ hts).1 117 (.part 0) 0 0 t j1 e1
      · cases h
theorem num_cnt {i:Int}:cntS (vtx (.int i))≤1:=by
  have hf:∀ l:List Nat,l.all isFig=true→l.countP opc=0:=fun l h=>by
    rw [List.countP_eq_zero]
    intro c hc z
    have:=List.all_eq_true.mp h c hc
    unfold isFig at this
    unfold opc at z
    simp only [Bool.and_eq_true,decide_eq_true_eq] at this
    simp only [Bool.or_eq_true,beq_iff_eq] at z
    omega
  unfold cntS
  cases i with
  | ofNat m =>
    obtain ⟨c,r,e,_,ha,_⟩:=dig_facts m
    have e2:(vtx (.int (Int.ofNat m))).cps.toList=dig m:=pos_list m
    rw [e2,hf _ ha];exact Nat.zero_le _
  | negSucc m =>
    obtain ⟨c,r,e,_,ha,_⟩:=dig_facts (m+1)
    have e2:(vtx (.int (Int.negSucc m))).cps.toList=45 :: dig (m+1):=neg_list m
    rw [e2,List.countP_cons,hf _ ha]
    split <;> omega
theorem cnt_len (x:Str):cntS x≤x.length:=by unfold cntS;rw [← len_list];exact List.countP_le_length
theorem wr_cnt (a b:Int) (x:Str):cntS (wrS a b x)=cntS x:=by
  have h1:cntS "("=0:=by decide +kernel
  have h2:cntS ")"=0:=by decide +kernel
  unfold wrS
  split
  · rw [cnt_app,cnt_app,h1,h2];omega
  · rfl
theorem wt_cnt:∀ {m:Nat} {t:Tm} {z:Str},WT m t z→cntS t.txt+2≤14 * 2 ^ t.deep
  | m, .lit s v,z,h=>by
    show cntS (vtx v)+2≤14 * 2 ^ 0
    rcases h.2 with ⟨_,i,rfl,_⟩ | ⟨_,b,rfl⟩ | ⟨_,x,rfl,hx⟩
    · have:=num_cnt (i:=i);omega
    · cases b
      · have:cntS (vtx (.bl false))=0:=by decide +kernel
        omega
      · have:cntS (vtx (.bl true))=0:=by decide +kernel
        omega
    · have hq:cntS "'"=0:=by decide +kernel
      have h1:=cnt_len x
      have h2:=word_len hx
      show cntS ("'"++x++"'")+2≤14 * 2 ^ 0
      rw [cnt_app,cnt_app,hq];omega
  | m, .nam s x,z,h=>by
    have l3:cntS "has "=0:=by decide +kernel
    have hk:∀ p ∈ kk,p.1.length≤12:=by decide +kernel
    have hx:x.length≤12:=by
      rcases h with ⟨_,h⟩ | ⟨_,_,h⟩
      · exact hk _ (List.mem_of_mem_take h)
      · obtain ⟨p,hp,e⟩:=List.mem_map.mp h
        rw [← e];exact hk _ (List.mem_of_mem_take hp)
    have h1:=cnt_len x
    show cntS (if s="field" then x else "has "++x:Str)+2≤14 * 2 ^ 0
    split
    · omega
    · rw [cnt_app,l3];omega
  | m,.neg t,z,h=>by
    have i:=wt_cnt h.2
    have l2:cntS "not "=1:=by decide +kernel
    have p:2 ^ (t.deep+1)=2 * 2 ^ t.deep:=by rw [Nat.pow_succ];omega
    show cntS ("not "++wrS 3 (lvS t.hd) t.txt)+2≤14 * 2 ^ (t.deep+1)
    rw [cnt_app,l2,wr_cnt,p];omega
  | m, .bin s l r,z,h=>by
    have hok:(Tm.bin s l r).ok:=h.ok
    obtain ⟨i1,i2⟩:cntS l.txt+2≤14 * 2 ^ l.deep∧cntS r.txt+2≤14 * 2 ^ r.deep:=by
      rcases h with ⟨_,_,h1,h2⟩ | ⟨_,_,h1,h2⟩ | ⟨_,_,h1,h2⟩ | ⟨_,_,k,h1,h2⟩ <;> exact ⟨wt_cnt h1,wt_cnt h2⟩
    have hb:∀ s ∈ binS,cntS s≤2:=by decide +kernel
    have b:=hb s hok.1
    have l1:cntS " "=0:=by decide +kernel
    have m1:2 ^ l.deep≤2 ^ max l.deep r.deep:=Nat.pow_le_pow_right (by decide) (Nat.le_max_left _ _)
    have m2:2 ^ r.deep≤2 ^ max l.deep r.deep:=Nat.pow_le_pow_right (by decide) (Nat.le_max_right _ _)
    have p:2 ^ (max l.deep r.deep+1)=2 * 2 ^ max l.deep r.deep:=by rw [Nat.pow_succ];omega
    show cntS (wrS _ _ l.txt++" "++s++" "++wrS _ _ r.txt)+2≤14 * 2 ^ (max l.deep r.deep+1)
    rw [cnt_app,cnt_app,cnt_app,cnt_app,l1,wr_cnt,wr_cnt,p]
    omega
theorem wt_len:∀ {m:Nat} {t:Tm} {z:Str},WT m t z→t.txt.length≤31 * t.size
  | m,.lit s v,z,h=>by
    have:=(vtx_len h.2.good).2.1
    show (vtx v).length≤31 * 1
    omega
  | m, .nam s x,z,h=>by
    have l3:("has ":Str).length=4:=by decide +kernel
    have hk:∀ p ∈ kk,p.1.length≤12:=by decide +kernel
    have hx:x.length≤12:=by
      rcases h with ⟨_,h⟩ | ⟨_,_,h⟩
      · exact hk _ (List.mem_of_mem_take h)
      · obtain ⟨p,hp,e⟩:=List.mem_map.mp h
        rw [← e];exact hk _ (List.mem_of_mem_take hp)
    show (if s="field" then x else "has "++x:Str).length≤31 * 1
    split
    · omega
    · rw [cat_len,l3];omega
  | m,.neg t,z,h=>by
    have i:=wt_len h.2
    have w:=wr_len 3 (lvS t.hd) t.txt
    have l2:("not ":Str).length=4:=by decide +kernel
    show ("not "++wrS 3 (lvS t.hd) t.txt:Str).length≤31 * (t.size+1)
    rw [cat_len,l2];omega
  | m, .bin s l r,z,h=>by
    have hok:(Tm.bin s l r).ok:=h.ok
    obtain ⟨i1,i2⟩:l.txt.length≤31 * l.size∧r.txt.length≤31 * r.size:=by
      rcases h with ⟨_,_,h1,h2⟩ | ⟨_,_,h1,h2⟩ | ⟨_,_,h1,h2⟩ | ⟨_,_,k,h1,h2⟩ <;> exact ⟨wt_len h1,wt_len h2⟩
    have w1:=wr_len (lvS s+(if decide (lvS s=4)=true then 1 else 0)) (lvS l.hd) l.txt
    have w2:=wr_len (lvS s+1) (lvS r.hd) r.txt
    have b:=bin_len s hok.1
    have l1:(" ":Str).length=1:=by decide +kernel
    show (wrS _ _ l.txt++" "++s++" "++wrS _ _ r.txt:Str).length≤31 * (l.size+r.size+1)
    rw [cat_len,cat_len,cat_len,cat_len,l1]
    omega
section
variable {P:Program} {w:World} {K:PySem.W.Frag} {mg:Str→Option Value} {base:Heap} {a:Adr}
theorem ok_read_z (T:Txt K mg a):FnOk P w K mg base (CX1 P w) 240 a.f_read_term a.d_read_term ["text"] (spReadR a.c_BadText) :=
  (ok_read_term T).imp fun vs H Q E ⟨x,e,hx,qe,q⟩=>by
    refine ⟨x,e,hx,fun p hp=>qe p (by unfold resZ;rw [hp]),fun ts hts=>?_⟩
    obtain ⟨b1,b2,b3⟩:=lex_ok x _ _ _ hts
    have hz:resZ x=termZ ts:=by unfold resZ;rw [hts]
    exact ⟨b1,by omega,b2,fun p hp=>qe p (hz.trans hp),fun t ht=>q t (hz.trans ht)⟩
def spRA:Sp:=fun vs H Q _=>∃ x:Str,vs=[.str x]∧x.length≤10000∧∀ H',Same H H'→Q (.int (atR x)) H'
theorem ok_refused_at (T:Txt K mg a):FnOk P w K mg base CX0 241 a.f_refused_at a.d_refused_at ["_law_text_here"] spRA:=by
  refine T.F_refused_at.ok sc_refused_at (fun vs H Q E h=>?_) (fun cdv A outer s H vs Q E hr h=>?_)
  · obtain ⟨x,rfl,_⟩:=h;rfl
  obtain ⟨x,rfl,hx,q⟩:=h
  refine ⟨_,(pss_one (ps_try (j:=1) rfl rfl rfl T.m_LogError T.x_LogError sc_refused_at.nd rfl rfl (fun pn XE E hx=>(pss_cons (ps_expr (pe_call (ok_read_z T) (hr.mono (by omega)) rfl T.m_read_term T.F_read_term.kp T.b_read_term .nil hx (pa_cons (pv 0) pa_nil))) (pss_one (ps_ret (pe_op op_sub pe_int pe_int))))) (fun e=>(pss_one (ps_ret (pe_ifExp (pt_val (pe_callB call_isX rfl T.n_isinstance (by decide +kernel) (pa_cons (pv 1) (pa_cons (pe_glob (v:=.ref a.c_BadText) rfl T.m_BadText rfl) pa_nil)))) (pe_xat (pv 1)) (pe_op op_sub pe_int pe_int))))))),?_⟩
  refine ⟨_,rfl,x,rfl,hx,fun k e H1 dx g1 hdx=>?_,fun t e v H1 g1 hv=>?_⟩
  · refine ⟨a.c_BadText,dx,rfl,rfl,T.y_BadText,fun ea hea=>?_⟩
    have g2:=same_new hea (XC a.c_BadText dx ea)
    have hk:PySem.W.kitOne K (.ref a.c_BadText) (.ref a.c_BadText)=some true:=by unfold PySem.W.kitOne;rw [if_pos (by simp)]
    refine ⟨_,rfl,ea,a.c_BadText,dx,_,.ref a.c_BadText,rfl,upd_same,fun u hu=>hu,hk,_,rfl,iteT ?_⟩
    refine ⟨_,rfl,ea,a.c_BadText,dx,.int k,rfl,upd_same,g2 _ _ hdx,T.x_BadText.get,?_⟩
    have z:=q _ (g1.trans g2)
    unfold atR at z
    rw [e] at z
    exact z
  · have z:=q _ g1
    unfold atR at z
    rw [e] at z
    exact ⟨_,_,rfl,rfl,z⟩
end
theorem flat_two {n:Nat} {H:Hp} {xs:List V} (hf:∀ x ∈ xs,flatV x=true):∀ (i:Nat) (u v:V),xs[i]?=some u→xs[i]?=some v→Eqv n H u v:=fun i u v hu hv=>by
  rw [hu] at hv;cases hv
  exact Eqv.flat (hf u (List.mem_of_getElem? hu))
theorem tm_eqv {H:Hp}:∀ {t:Tm} {u v:V} {n:Nat},t.flatT→TmAt H u t→TmAt H v t→t.deep < n→Eqv n H u v
  | .lit s x,u,v,n,hk,hu,hv,hn=>by
    obtain ⟨n,rfl⟩:∃ m,n=m+1:=⟨n - 1,by omega⟩
    obtain ⟨p,rfl,hp⟩:=hu
    obtain ⟨q,rfl,hq⟩:=hv
    unfold Eqv
    refine .inr ⟨p,q,_,_,rfl,rfl,hp,hq,(by decide:(2:Nat)≤1000),rfl,flat_two fun y hy=>?_⟩
    rcases List.mem_cons.mp hy with rfl | hy
    · rfl
    · rw [List.mem_singleton.mp hy];exact hk
  | .nam s x,u,v,n,hk,hu,hv,hn=>by
    obtain ⟨n,rfl⟩:∃ m,n=m+1:=⟨n - 1,by omega⟩
    obtain ⟨p,rfl,hp⟩:=hu
    obtain ⟨q,rfl,hq⟩:=hv
    unfold Eqv
    refine .inr ⟨p,q,_,_,rfl,rfl,hp,hq,(by decide:(2:Nat)≤1000),rfl,flat_two fun y hy=>?_⟩
    rcases List.mem_cons.mp hy with rfl | hy
    · rfl
    · rw [List.mem_singleton.mp hy];rfl
  | .neg t,u,v,n,hk,hu,hv,hn=>by
    obtain ⟨n,rfl⟩:∃ m,n=m+1:=⟨n - 1,by omega⟩
    obtain ⟨p,w1,rfl,hp,h1⟩:=hu
    obtain ⟨q,w2,rfl,hq,h2⟩:=hv
    have hn:t.deep+1 < n+1:=hn
    unfold Eqv
    refine .inr ⟨p,q,_,_,rfl,rfl,hp,hq,(by decide:(2:Nat)≤1000),rfl,fun i x y hx hy=>?_⟩
    match i,hx,hy with
    | 0,hx,hy=>cases hx;cases hy;exact Eqv.flat rfl
    | 1,hx,hy=>cases hx;cases hy;exact tm_eqv (t:=t) hk h1 h2 (by omega)
  | .bin s l r,u,v,n,hk,hu,hv,hn=>by
    obtain ⟨n,rfl⟩:∃ m,n=m+1:=⟨n - 1,by omega⟩
    obtain ⟨p,w1,z1,rfl,hp,h1,k1⟩:=hu
    obtain ⟨q,w2,z2,rfl,hq,h2,k2⟩:=hv
    have hn:max l.deep r.deep+1 < n+1:=hn
    unfold Eqv
    refine .inr ⟨p,q,_,_,rfl,rfl,hp,hq,(by decide:(3:Nat)≤1000),rfl,fun i x y hx hy=>?_⟩
    match i,hx,hy with
    | 0,hx,hy=>cases hx;cases hy;exact Eqv.flat rfl
    | 1,hx,hy=>cases hx;cases hy;exact tm_eqv hk.1 h1 h2 (by omega)
    | 2,hx,hy=>cases hx;cases hy;exact tm_eqv hk.2 k1 k2 (by omega)
theorem comp_tups {K:PySem.W.Frag} {p:Addr} {ts:List Addr} {ps:List (V × V)} {im:List (Option Nat)} {σ:St} {H:Hp} {Q:VK} {te:TE} (hp:H p=some (.lst (ts.map V.ref))) (hl:ts.length=ps.length) (hz:ps.length≤1000)
    (hT:∀ (j:Nat) (t:Addr) (x:V × V),ts[j]?=some t→ps[j]?=some x→H t=some (.tup [x.1,x.2]))
    (he:∀ x ∈ ps,∀ H' (R:VK),(∀ H'',Same H' H''→R (.bl true) H'')→te (((inner im σ).set 0 (some x.1)).set 1 (some x.2)) H' R)
    (hQ:∀ D H',Same H H'→H' D=none→Q (.ref D) (upd H' D (.lst ((List.replicate ps.length true).map V.bl)))) :
    CompAt im (gTup K 2 (gCons (gName 0) (gCons (gName 1) gNil))) tNoIf te σ Q (Itl K p) H:=by
  refine ⟨fun i m zs H'=>m=ps.length - i∧i≤ps.length∧zs=(List.replicate i true).map V.bl∧Same H H',⟨ps.length,by simp,Nat.zero_le _,rfl,Same.refl H⟩,?_⟩
  rintro i m zs H' ⟨rfl,hi,rfl,g⟩
  refine ⟨by rw [List.length_map,List.length_replicate];exact small (by omega),?_⟩
  have hsq:SqL K H' p (ts.map V.ref):=SqL.of (g _ _ hp)
  by_cases hlt:i < ps.length
  · obtain ⟨t,ht⟩:∃ t,ts[i]?=some t:=⟨_,List.getElem?_eq_getElem (by omega)⟩
    obtain ⟨x,hx⟩:∃ x,ps[i]?=some x:=⟨_,List.getElem?_eq_getElem hlt⟩
    refine .inr ⟨⟨_,.ref t,hsq,by rw [List.getElem?_map,ht];rfl⟩,fun u H'' yl=>?_⟩
    obtain ⟨rfl,yl⟩:=yl
    have hu:=yl _ hsq
    rw [List.getElem?_map,ht] at hu
    obtain rfl:V.ref t=u:=Option.some.inj hu
    refine ⟨t,[x.1,x.2],rfl,SqT.of (g _ _ (hT i t x ht hx)),rfl,x.1,[x.2],rfl,x.2,[],rfl,rfl,?_⟩
    refine he x (List.mem_of_getElem? hx) _ _ fun H3 g3=>⟨ps.length - (i+1),by omega,rfl,hlt,?_,g.trans g3⟩
    rw [List.replicate_succ',List.map_append];rfl
  · have e:i=ps.length:=by omega
    subst e
    exact .inl ⟨⟨_,hsq,by rw [List.length_map];omega⟩,fun D hD=>hQ D H' g hD⟩
end My
namespace My
open PySem L2
section
variable {P:Program} {w:World} {K:PySem.W.Frag} {mg:Str→Option Value} {base:Heap} {a:Adr}
theorem sort4c:∀ s ∈ (["flag","flag","number","word"]:List Str),s="number"∨s="flag"∨s="word":=by decide +kernel
def spLaw (K:PySem.W.Frag):Sp:=fun vs H Q _=>∃ (b:Addr) (ns:List Int),vs=[.ref b]∧SqL K H b (ns.map V.int)∧ns.length≤63∧∀ H',Q (.bl true) H'
theorem ok_law (T:Txt K mg a):FnOk P w K mg base CX0 510 a.f_law a.d_law ["_law_script"] (spLaw K):=by
  refine T.F_law.ok sc_law (fun vs H Q E h=>?_) (fun cdv A outer s H vs Q E hr h=>?_)
  · obtain ⟨x,y,rfl,_⟩:=h;rfl
  obtain ⟨b,ns,rfl,hS,hn,q⟩:=h
  have hu1:=hu_of hr
  refine boxE ⟨_,(by exact (bss_cons (bs_set (i:=1) sc_law.nd rfl (by first | exact Or.inl rfl | exact Or.inr rfl) ⟨(pe_call (ok_begin T) (hr.mono (by omega)) rfl T.m_begin T.F_begin.kp T.b_begin .nil pass0 (pa_cons (pv 0) pa_nil star_nam))⟩ rfl (by first | exact .inl rfl | exact .inr rfl)) (bss_cons (bs_set (i:=2) sc_law.nd rfl (by first | exact Or.inl rfl | exact Or.inr rfl) (be_lst (bpa_cons (be_tup (bpa_cons ⟨pe_str⟩ (bpa_cons ⟨pe_int⟩ bpa_nil star_con) star_con)) (bpa_cons (be_tup (bpa_cons ⟨pe_str⟩ (bpa_cons ⟨pe_int⟩ bpa_nil star_con) star_con)) (bpa_cons (be_tup (bpa_cons ⟨pe_str⟩ (bpa_cons ⟨pe_int⟩ bpa_nil star_con) star_con)) (bpa_cons (be_tup (bpa_cons ⟨pe_str⟩ (bpa_cons ⟨pe_int⟩ bpa_nil star_con) star_con)) (bpa_cons (be_tup (bpa_cons ⟨pe_str⟩ (bpa_cons ⟨pe_int⟩ bpa_nil star_con) star_con)) (bpa_cons (be_tup (bpa_cons ⟨pe_str⟩ (bpa_cons ⟨pe_int⟩ bpa_nil star_con) star_con)) (bpa_cons (be_tup (bpa_cons ⟨pe_str⟩ (bpa_cons ⟨pe_int⟩ bpa_nil star_con) star_con)) bpa_nil star_tup) star_tup) star_tup) star_tup) star_tup) star_tup) star_tup)) swap_lst (by first | exact .inl rfl | exact .inr rfl)) (bss_cons (bs_if ⟨(pt_not (pt_val (pe_callB (call_all rfl) rfl T.n_all (by decide +kernel) (pa_cons (pe_comp (g:=gTup K 2 (gCons (gName 0) (gCons (gName 1) gNil))) ["_law_text_here","_law_at"] [none,none] (pi_list (pv 2)) (fun _ _ _ _ _=>(pg_tup (n:=2) rfl (pgs_cons (pg_name (i:=0) (show List.Nodup (["_law_text_here","_law_at"]:List Str) from by decide +kernel) rfl (Or.inl rfl) (Or.inr rfl)) (pgs_cons (pg_name (i:=1) (show List.Nodup (["_law_text_here","_law_at"]:List Str) from by decide +kernel) rfl (Or.inl rfl) (Or.inr rfl)) pgs_nil)))) (fun _ _ _ _ _=>pts_nil) (fun _ _ _ _ _=>(pe_cmpR op_eq (pe_call (ok_refused_at T) (hr.mono (by omega)) rfl T.m_refused_at T.F_refused_at.kp T.b_refused_at .nil pass0 (pa_cons (pv 0) pa_nil star_nam)) (pv 1) (nomark _)))) pa_nil))))⟩ (bss_one (bs_ret ⟨pe_bl⟩)) bss_nil) (bss_cons (bs_set (i:=3) sc_law.nd rfl (by first | exact Or.inl rfl | exact Or.inr rfl) ⟨(pe_call (ok_kinds T) (hr.mono (by omega)) rfl T.m_kinds T.F_kinds.kp T.b_kinds .nil pass0 (pa_cons (pv 1) pa_nil star_nam))⟩ rfl (by first | exact .inl rfl | exact .inr rfl)) (bss_cons ⟨(ps_for PassesOwn.never rfl (pi_range1 rfl T.n_range (pa_cons pe_int pa_nil star_con)) (pg_name (i:=4) sc_law.nd rfl (by first | exact Or.inl rfl | exact Or.inr rfl)) (pss_cons (ps_set (i:=5) sc_law.nd rfl (by first | exact Or.inl rfl | exact Or.inr rfl) (pe_call (ok_term T 4) (hr.mono (by omega)) rfl T.m_term T.F_term.kp T.b_term .nil pass0 (pa_cons (pv 1) (pa_cons (pv 3) (pa_cons (pe_call (ok_of T) (hr.mono (by omega)) rfl T.m_of T.F_of.kp T.b_of .nil pass0 (pa_cons (pv 1) (pa_cons (pe_lst (pa_cons pe_str (pa_cons pe_str (pa_cons pe_str (pa_cons pe_str pa_nil star_con) star_con) star_con) star_con)) pa_nil star_lst) star_nam)) (pa_cons pe_int pa_nil star_con) star_cal) star_nam) star_nam))) (pss_cons (ps_set (i:=6) sc_law.nd rfl (by first | exact Or.inl rfl | exact Or.inr rfl) (pe_call (ok_bent T) (hr.mono (by omega)) rfl T.m_bent T.F_bent.kp T.b_bent .nil pass0 (pa_cons (pv 1) (pa_cons (pe_call (ok_text T 4) (hr.mono (by omega)) rfl T.m_text T.F_text.kp T.b_text .nil pass0 (pa_cons (pv 5) pa_nil star_nam)) pa_nil star_cal) star_nam))) (pss_cons (ps_cut (ps_if (pt_cmpR op_eq (pe_call (ok_take T) (hr.mono (by omega)) rfl T.m_take T.F_take.kp T.b_take .nil pass0 (pa_cons (pv 1) (pa_cons pe_int pa_nil star_con) star_nam)) pe_int (nomark _)) (pss_one (ps_set (i:=6) sc_law.nd rfl (by first | exact Or.inl rfl | exact Or.inr rfl) (pe_call (ok_bent T) (hr.mono (by omega)) rfl T.m_bent T.F_bent.kp T.b_bent .nil pass0 (pa_cons (pv 1) (pa_cons (pv 6) pa_nil star_nam) star_nam)))) pss_nil)) (pss_cons (ps_asg (pe_call (ok_read_of T) (hr.mono (by omega)) rfl T.m_read_of T.F_read_of.kp T.b_read_of .nil pass0 (pa_cons (pv 6) pa_nil star_nam)) (pg_tup (n:=2) rfl (pgs_cons (pg_name (i:=7) sc_law.nd rfl (by first | exact Or.inl rfl | exact Or.inr rfl)) (pgs_cons (pg_name (i:=8) sc_law.nd rfl (by first | exact Or.inl rfl | exact Or.inr rfl)) pgs_nil)))) (pss_cons (ps_set (i:=9) sc_law.nd rfl (by first | exact Or.inl rfl | exact Or.inr rfl) pe_non) (pss_cons (ps_set (i:=10) sc_law.nd rfl (by first | exact Or.inl rfl | exact Or.inr rfl) pe_non) (pss_cons (ps_cut (ps_tryO (j:=11) rfl rfl rfl T.m_LogError T.x_LogError sc_law.nd rfl rfl (fun pn XE E σ0 hx=>(pss_one (ps_set (i:=9) sc_law.nd rfl (by first | exact Or.inl rfl | exact Or.inr rfl) (pe_callA (ok_read_z T) (hr.mono (by omega)) rfl T.m_read_term T.F_read_term.kp T.b_read_term .nil hx (pa_cons (pv 6) pa_nil star_nam))))) (fun e=>(pss_one (ps_set (i:=10) sc_law.nd rfl (by first | exact Or.inl rfl | exact Or.inr rfl) (pe_ifExp (pt_val (pe_callB call_isXo rfl T.n_isinstance (by decide +kernel) (pa_cons (pv 11) (pa_cons (pe_glob (v:=.ref a.c_BadText) rfl T.m_BadText rfl) pa_nil star_nam) star_nam))) (pe_xat (pv 11)) (pe_op op_sub pe_int pe_int))))))) (pss_one (ps_if (PW.pt (pw_or (pt_not (pt_val (pe_call (ok_sameE T 500) (hr.mono (by omega)) rfl T.m_same T.F_same.kp T.b_same .nil pass0 (pa_cons (pv 9) (pa_cons (pv 7) pa_nil star_nam) star_nam)))) (pw_or1 (pt_not (pt_val (pe_call (ok_sameE T 500) (hr.mono (by omega)) rfl T.m_same T.F_same.kp T.b_same .nil pass0 (pa_cons (pv 10) (pa_cons (pv 8) pa_nil star_nam) star_nam))))))) (pss_one (ps_ret pe_bl)) pss_nil))))))))))⟩ (bss_one (bs_ret ⟨pe_bl⟩)))))))),?_⟩
  refine ⟨_,rfl,b,ns,rfl,hS,hn,fun dd H1 hdn g1 hD=>?_⟩
  refine ⟨small (n:=2) (by decide),fun t0 h0=>?_⟩
  have g0:=same_new h0 (.tup [.str "a b | c",.int 2])
  refine ⟨small (n:=2) (by decide),fun t1 h1=>?_⟩
  have g1:=same_new h1 (.tup [.str "a b , 'A'",.int 6])
  refine ⟨small (n:=2) (by decide),fun t2 h2=>?_⟩
  have g2:=same_new h2 (.tup [.str "by a |",.int 0])
  refine ⟨small (n:=2) (by decide),fun t3 h3=>?_⟩
  have g3:=same_new h3 (.tup [.str "a | b @ c",.int 2])
  refine ⟨small (n:=2) (by decide),fun t4 h4=>?_⟩
  have g4:=same_new h4 (.tup [.str "(a",.int 2])
  refine ⟨small (n:=2) (by decide),fun t5 h5=>?_⟩
  have g5:=same_new h5 (.tup [.str "",.int 0])
  refine ⟨small (n:=2) (by decide),fun t6 h6=>?_⟩
  have g6:=same_new h6 (.tup [.str "a b up",.int 2])
  refine ⟨small (n:=7) (by decide),fun l3 hl3=>?_⟩
  have gl3:=same_new hl3 (.lst [.ref t0,.ref t1,.ref t2,.ref t3,.ref t4,.ref t5,.ref t6])
  have T0:=gl3 _ _ (g6 _ _ (g5 _ _ (g4 _ _ (g3 _ _ (g2 _ _ (g1 _ _ (upd_same (H:=H1) (a:=t0) (o:=.tup [.str "a b | c",.int 2]))))))))
  have T1:=gl3 _ _ (g6 _ _ (g5 _ _ (g4 _ _ (g3 _ _ (g2 _ _ (upd_same (a:=t1) (o:=.tup [.str "a b , 'A'",.int 6])))))))
  have T2:=gl3 _ _ (g6 _ _ (g5 _ _ (g4 _ _ (g3 _ _ (upd_same (a:=t2) (o:=.tup [.str "by a |",.int 0]))))))
  have T3:=gl3 _ _ (g6 _ _ (g5 _ _ (g4 _ _ (upd_same (a:=t3) (o:=.tup [.str "a | b @ c",.int 2])))))
  have T4:=gl3 _ _ (g6 _ _ (g5 _ _ (upd_same (a:=t4) (o:=.tup [.str "(a",.int 2]))))
  have T5:=gl3 _ _ (g6 _ _ (upd_same (a:=t5) (o:=.tup [.str "",.int 0])))
  have T6:=gl3 _ _ (upd_same (a:=t6) (o:=.tup [.str "a b up",.int 2]))
  refine ⟨_,rfl,l3,rfl,⟨_,SqL.of upd_same⟩,?_⟩
  refine comp_tups (ts:=[t0,t1,t2,t3,t4,t5,t6]) (ps:=fewL.map fun p=>(V.str p.1,V.int p.2)) upd_same rfl (by decide) (fun j t x ht hx=>?_) (fun x hx H' R hR=>?_) (fun D H' g hD'=>?_)
  · match j,ht,hx with
    | 0,ht,hx=>cases ht;cases hx;exact T0
    | 1,ht,hx=>cases ht;cases hx;exact T1
    | 2,ht,hx=>cases ht;cases hx;exact T2
    | 3,ht,hx=>cases ht;cases hx;exact T3
    | 4,ht,hx=>cases ht;cases hx;exact T4
    | 5,ht,hx=>cases ht;cases hx;exact T5
    | 6,ht,hx=>cases ht;cases hx;exact T6
  · obtain ⟨p,hp,rfl⟩:=List.mem_map.mp hx
    obtain ⟨a1,a2⟩:=few_at p hp
    refine ⟨_,rfl,p.1,rfl,a1,fun H3 g3=>⟨_,rfl,rfl,?_⟩⟩
    rw [a2,decide_eq_true rfl]
    exact hR H3 g3
  refine ⟨D,_,rfl,SqL.of upd_same,?_⟩
  have e1:(List.replicate (fewL.map fun p=>(V.str p.1,V.int p.2)).length true).all id=true:=by simp
  rw [e1]
  refine ⟨_,rfl,iteF ?_⟩
  have hD2:=hD.keep (((((((((g0.trans g1).trans g2).trans g3).trans g4).trans g5).trans g6).trans gl3).trans g).trans (same_new hD' (.lst ((List.replicate (fewL.map fun p=>(V.str p.1,V.int p.2)).length true).map V.bl))))
  refine ⟨_,rfl,dd,rfl,hD2,fun kd m H3 m1 m2 hkd ev3 hk3=>?_⟩
  have K3:Kd H3 dd kd m:=⟨ev3.drw,hk3,m1,m2⟩
  refine ⟨14,rfl,by decide,by decide,for_range (n:=14) (lo:=0) (fun i σ H=>∃ s4 s5 s6 s7 s8 s9 s10 s11,σ=[some (.ref b),some (.ref dd),some (.ref l3),some (.ref kd),s4,s5,s6,s7,s8,s9,s10,s11]∧Kd H dd kd m) ⟨_,_,_,_,_,_,_,_,rfl,K3⟩ (fun i σ H4 hi hP=>?_) (fun σ H4 hP=>?_)⟩
  · obtain ⟨s4,s5,s6,s7,s8,s9,s10,s11,rfl,K4⟩:=hP
    refine ⟨_,rfl,_,rfl,_,rfl,small (n:=4) (by decide),fun lb hlb=>?_⟩
    dsimp only [tCons,tNil]
    refine of_disp ["flag","flag","number","word"] K4.drw hlb (by decide) (by decide) fun z H5 hz ev5=>?_
    refine ⟨dd,kd,m,z,3,rfl,K4.ev ev5,sort4c z hz,by decide,by decide,fun v t H6 ev6 ht wt dt=>?_⟩
    have ev:=ev5.trans ev6
    have hok:=wt.ok
    have hlen:=wt_len wt
    have hcnt:=wt_cnt wt
    have hp8:2 ^ t.deep≤8:=Nat.le_trans (Nat.pow_le_pow_right (by decide) (show t.deep≤3 by omega)) (by decide)
    have hdp:t.deep < 4:=by omega
    have hsz:t.size≤16:=by
      have:=t.size_le
      have m:2 ^ (t.deep+1)≤2 ^ 4:=Nat.pow_le_pow_right (by decide) (by omega)
      have e:2 ^ 4=16:=by decide
      omega
    refine ⟨_,rfl,_,rfl,v,t,rfl,ht,hok,hdp,by decide,fun H7 g7=>?_⟩
    have ev:=ev.then g7
    refine ⟨dd,t.txt,rfl,ev.drw,by omega,fun y H8 ev8 hy hyc=>?_⟩
    have ev:=ev.trans ev8
    refine ⟨fun σ' H'=>∃ y2,σ'=[some (.ref b),some (.ref dd),some (.ref l3),some (.ref kd),some (.int (0+(i:Int))),some v,some (.str y2),s7,s8,s9,s10,s11]∧Ev dd H4 H'∧(y2:Str).length≤10000∧cntS y2≤460,?_,?_⟩
    · refine ⟨_,rfl,dd,_,rfl,ev.drw,by decide,by decide,fun r H9 r0 r1 ev9=>⟨rfl,_,rfl,?_⟩⟩
      refine ite2 (fun c=>?_) (fun c=>?_)
      · refine ⟨_,rfl,_,rfl,dd,y,rfl,(ev.trans ev9).drw,by omega,fun y2 H10 ev10 hy2 hyc2=>?_⟩
        exact ⟨y2,rfl,(ev.trans ev9).trans ev10,by omega,by omega⟩
      · exact ⟨y,rfl,ev.trans ev9,by omega,by omega⟩
    rintro σ' H9 ⟨y2,rfl,ev,hy2,hc2⟩
    refine ⟨_,rfl,y2,rfl,hy2,fun p ez r H10 g10 hr'=>?_,fun t2 ez v2 r H10 g10 hv2 hr'=>?_⟩
    · have ev10:=ev.then g10
      refine ⟨r,[_,_],rfl,SqT.of hr',rfl,_,[_],rfl,_,[],rfl,rfl,?_⟩
      refine ⟨fun σ' H'=>∃ s11,σ'=[some (.ref b),some (.ref dd),some (.ref l3),some (.ref kd),some (.int (0+(i:Int))),some v,some (.str y2),some .non,some (.int (p:Int)),some .non,some (.int (p:Int)),s11]∧Ev dd H4 H',?_,?_⟩
      · refine ⟨rfl,_,rfl,y2,rfl,hy2,fun k' ek' H12 dx g12 hdx=>?_,fun t' ek'=>?_⟩
        · rw [ez] at ek'
          cases ek'
          refine ⟨a.c_BadText,rfl,T.y_BadText,fun ea hea=>?_⟩
          have g13:=same_new hea (XCo a.c_BadText (some dx) ea)
          have hk:PySem.W.kitOne K (.ref a.c_BadText) (.ref a.c_BadText)=some true:=by unfold PySem.W.kitOne;rw [if_pos (by simp)]
          refine ⟨_,rfl,ea,a.c_BadText,some dx,_,.ref a.c_BadText,rfl,upd_same,fun u hu=>hu,hk,_,rfl,iteT ?_⟩
          refine ⟨_,rfl,ea,a.c_BadText,dx,.int p,rfl,upd_same,g13 _ _ hdx,T.x_BadText.get,?_⟩
          exact ⟨_,rfl,ev10.then (g12.trans g13)⟩
        · rw [ez] at ek';cases ek'
      · rintro σ' H12 ⟨s11,rfl,ev12⟩
        refine ⟨_,rfl,_,rfl,_,_,rfl,Eqv.flat rfl,fun H13 g13=>⟨_,rfl,iteF ?_⟩⟩
        refine ⟨_,rfl,_,rfl,_,_,rfl,Eqv.flat rfl,fun H14 g14=>⟨_,rfl,iteF ?_⟩⟩
        exact ⟨_,_,_,_,_,_,_,_,rfl,K4.ev (ev12.then (g13.trans g14))⟩
    · have ev10:=ev.then g10
      refine ⟨r,[_,_],rfl,SqT.of hr',rfl,_,[_],rfl,_,[],rfl,rfl,?_⟩
      refine ⟨fun σ' H'=>∃ v3 s11,σ'=[some (.ref b),some (.ref dd),some (.ref l3),some (.ref kd),some (.int (0+(i:Int))),some v,some (.str y2),some v2,some .non,some v3,some .non,s11]∧Ev dd H4 H'∧TmAt H' v2 t2∧TmAt H' v3 t2,?_,?_⟩
      · refine ⟨rfl,_,rfl,y2,rfl,hy2,fun k' ek'=>?_,fun t' ek' v3 H12 g12 hv3=>?_⟩
        · rw [ez] at ek';cases ek'
        · rw [ez] at ek';cases ek'
          exact ⟨v3,_,rfl,ev10.then g12,hv2.same g12,hv3⟩
      · rintro σ' H12 ⟨v3,s11,rfl,ev12,hv2,hv3⟩
        refine ⟨_,rfl,_,rfl,_,_,rfl,tm_eqv (read_flat ez) hv3 hv2 (by have:=read_deep ez;omega),fun H13 g13=>⟨_,rfl,iteF ?_⟩⟩
        refine ⟨_,rfl,_,rfl,_,_,rfl,Eqv.flat rfl,fun H14 g14=>⟨_,rfl,iteF ?_⟩⟩
        exact ⟨_,_,_,_,_,_,_,_,rfl,K4.ev (ev12.then (g13.trans g14))⟩
  · exact q _
end
end My
namespace My
open PySem L2
theorem mk_txt {K:PySem.W.Frag} {h:Heap} {mg:Str→Option Value} {C_Reader:Addr} {f0:Addr} {od0 an0:Option Addr} {sl0:Array (Option Value)} {oc0 kV0 dc0 pm0 cd0 ct0:Value} {f1:Addr} {od1 an1:Option Addr} {sl1:Array (Option Value)} {oc1 kV1 dc1 pm1 cd1 ct1:Value} {f2:Addr} {od2 an2:Option Addr} {sl2:Array (Option Value)} {oc2 kV2 dc2 pm2 cd2 ct2:Value} {f3:Addr} {od3 an3:Option Addr} {sl3:Array (Option Value)} {oc3 kV3 dc3 pm3 cd3 ct3:Value} {f4:Addr} {od4 an4:Option Addr} {sl4:Array (Option Value)} {oc4 kV4 dc4 pm4 cd4 ct4:Value} {f5:Addr} {od5 an5:Option Addr} {sl5:Array (Option Value)} {oc5 kV5 dc5 pm5 cd5 ct5:Value} {f6:Addr} {od6 an6:Option Addr} {sl6:Array (Option Value)} {oc6 kV6 dc6 pm6 cd6 ct6:Value} {f7:Addr} {od7 an7:Option Addr} {sl7:Array (Option Value)} {oc7 kV7 dc7 pm7 cd7 ct7:Value} {f8:Addr} {od8 an8:Option Addr} {sl8:Array (Option Value)} {oc8 kV8 dc8 pm8 cd8 ct8:Value} {f9:Addr} {od9 an9:Option Addr} {sl9:Array (Option Value)} {oc9 kV9 dc9 pm9 cd9 ct9:Value} {f10:Addr} {od10 an10:Option Addr} {sl10:Array (Option Value)} {oc10 kV10 dc10 pm10 cd10 ct10:Value} {f11:Addr} {od11 an11:Option Addr} {sl11:Array (Option Value)} {oc11 kV11 dc11 pm11 cd11 ct11:Value} {f12:Addr} {od12 an12:Option Addr} {sl12:Array (Option Value)} {oc12 kV12 dc12 pm12 cd12 ct12:Value} {f13:Addr} {od13 an13:Option Addr} {sl13:Array (Option Value)} {oc13 kV13 dc13 pm13 cd13 ct13:Value} {f14:Addr} {od14 an14:Option Addr} {sl14:Array (Option Value)} {oc14 kV14 dc14 pm14 cd14 ct14:Value} {f15:Addr} {od15 an15:Option Addr} {sl15:Array (Option Value)} {oc15 kV15 dc15 pm15 cd15 ct15:Value} {f16:Addr} {od16 an16:Option Addr} {sl16:Array (Option Value)} {oc16 kV16 dc16 pm16 cd16 ct16:Value} {f17:Addr} {od17 an17:Option Addr} {sl17:Array (Option Value)} {oc17 kV17 dc17 pm17 cd17 ct17:Value} {f18:Addr} {od18 an18:Option Addr} {sl18:Array (Option Value)} {oc18 kV18 dc18 pm18 cd18 ct18:Value} {f19:Addr} {od19 an19:Option Addr} {sl19:Array (Option Value)} {oc19 kV19 dc19 pm19 cd19 ct19:Value} {f20:Addr} {od20 an20:Option Addr} {sl20:Array (Option Value)} {oc20 kV20 dc20 pm20 cd20 ct20:Value} {f21:Addr} {od21 an21:Option Addr} {sl21:Array (Option Value)} {oc21 kV21 dc21 pm21 cd21 ct21:Value} {f22:Addr} {od22 an22:Option Addr} {sl22:Array (Option Value)} {oc22 kV22 dc22 pm22 cd22 ct22:Value} {f23:Addr} {od23 an23:Option Addr} {sl23:Array (Option Value)} {oc23 kV23 dc23 pm23 cd23 ct23:Value} {f24:Addr} {od24 an24:Option Addr} {sl24:Array (Option Value)} {oc24 kV24 dc24 pm24 cd24 ct24:Value} {f25:Addr} {od25 an25:Option Addr} {sl25:Array (Option Value)} {oc25 kV25 dc25 pm25 cd25 ct25:Value} {f26:Addr} {od26 an26:Option Addr} {sl26:Array (Option Value)} {oc26 kV26 dc26 pm26 cd26 ct26:Value} {f27:Addr} {od27 an27:Option Addr} {sl27:Array (Option Value)} {oc27 kV27 dc27 pm27 cd27 ct27:Value} {f28:Addr} {od28 an28:Option Addr} {sl28:Array (Option Value)} {oc28 kV28 dc28 pm28 cd28 ct28:Value} {f29:Addr} {od29 an29:Option Addr} {sl29:Array (Option Value)} {oc29 kV29 dc29 pm29 cd29 ct29:Value} {f30:Addr} {od30 an30:Option Addr} {sl30:Array (Option Value)} {oc30 kV30 dc30 pm30 cd30 ct30:Value} {f31:Addr} {od31 an31:Option Addr} {sl31:Array (Option Value)} {oc31 kV31 dc31 pm31 cd31 ct31:Value} {f32:Addr} {od32 an32:Option Addr} {sl32:Array (Option Value)} {oc32 kV32 dc32 pm32 cd32 ct32:Value} {f33:Addr} {od33 an33:Option Addr} {sl33:Array (Option Value)} {oc33 kV33 dc33 pm33 cd33 ct33:Value} {f34:Addr} {od34 an34:Option Addr} {sl34:Array (Option Value)} {oc34 kV34 dc34 pm34 cd34 ct34:Value} {f35:Addr} {od35 an35:Option Addr} {sl35:Array (Option Value)} {oc35 kV35 dc35 pm35 cd35 ct35:Value} {f36:Addr} {od36 an36:Option Addr} {sl36:Array (Option Value)} {oc36 kV36 dc36 pm36 cd36 ct36:Value} {f37:Addr} {od37 an37:Option Addr} {sl37:Array (Option Value)} {oc37 kV37 dc37 pm37 cd37 ct37:Value} {f38:Addr} {od38 an38:Option Addr} {sl38:Array (Option Value)} {oc38 kV38 dc38 pm38 cd38 ct38:Value} {f39:Addr} {od39 an39:Option Addr} {sl39:Array (Option Value)} {oc39 kV39 dc39 pm39 cd39 ct39:Value} {f40:Addr} {od40 an40:Option Addr} {sl40:Array (Option Value)} {oc40 kV40 dc40 pm40 cd40 ct40:Value} {f41:Addr} {od41 an41:Option Addr} {sl41:Array (Option Value)} {oc41 kV41 dc41 pm41 cd41 ct41:Value} {f42:Addr} {od42 an42:Option Addr} {sl42:Array (Option Value)} {oc42 kV42 dc42 pm42 cd42 ct42:Value} {f43:Addr} {od43 an43:Option Addr} {sl43:Array (Option Value)} {oc43 kV43 dc43 pm43 cd43 ct43:Value} {f44:Addr} {od44 an44:Option Addr} {sl44:Array (Option Value)} {oc44 kV44 dc44 pm44 cd44 ct44:Value} {f45:Addr} {od45 an45:Option Addr} {sl45:Array (Option Value)} {oc45 kV45 dc45 pm45 cd45 ct45:Value} {f46:Addr} {od46 an46:Option Addr} {sl46:Array (Option Value)} {oc46 kV46 dc46 pm46 cd46 ct46:Value} {f47:Addr} {od47 an47:Option Addr} {sl47:Array (Option Value)} {oc47 kV47 dc47 pm47 cd47 ct47:Value} {f48:Addr} {od48 an48:Option Addr} {sl48:Array (Option Value)} {oc48 kV48 dc48 pm48 cd48 ct48:Value} {f49:Addr} {od49 an49:Option Addr} {sl49:Array (Option Value)} {oc49 kV49 dc49 pm49 cd49 ct49:Value} {tc0:PySem.Tok} {tc1:PySem.Tok} {tc2:PySem.Tok} {tc3:PySem.Tok} {tc4:PySem.Tok} {tc5:PySem.Tok} {tc6:PySem.Tok} {tc7:PySem.Tok} {tc8:PySem.Tok} {tc9:PySem.Tok} {tc10:PySem.Tok} {tc11:PySem.Tok} {tc12:PySem.Tok} {tc13:PySem.Tok} {tc14:PySem.Tok} {tc15:PySem.Tok} {tc16:PySem.Tok} {tc17:PySem.Tok} {ta0:Addr} {td0:Option Addr} {tn0:Nat} {ts0:Array (Option Value)} {tt0_0 tt0_1 tt0_2 tt0_3 tt0_4 tt0_5 tt0_6 tt0_7 tt0_8 tt0_9 tt0_10 tt0_11 tt0_12 tt0_13 tt0_14 tt0_15:PySem.Tok} {ta1:Addr} {td1:Option Addr} {tn1:Nat} {ts1:Array (Option Value)} {tt1_0 tt1_1 tt1_2:PySem.Tok} {na0:Addr} {nd0:Option Addr} {nn0:Nat} {ns0:Array (Option Value)} {na0_0:Addr} {nd0_0:Option Addr} {nn0_0:Nat} {ns0_0:Array (Option Value)} {nt0_0_0:PySem.Tok} {na0_1:Addr} {nd0_1:Option Addr} {nn0_1:Nat} {ns0_1:Array (Option Value)} {nt0_1_0:PySem.Tok} {na0_2:Addr} {nd0_2:Option Addr} {nn0_2:Nat} {ns0_2:Array (Option Value)} {nt0_2_0:PySem.Tok} {na0_3:Addr} {nd0_3:Option Addr} {nn0_3:Nat} {ns0_3:Array (Option Value)} {nt0_3_0 nt0_3_1 nt0_3_2 nt0_3_3 nt0_3_4 nt0_3_5:PySem.Tok} {na0_4:Addr} {nd0_4:Option Addr} {nn0_4:Nat} {ns0_4:Array (Option Value)} {nt0_4_0 nt0_4_1:PySem.Tok} {na0_5:Addr} {nd0_5:Option Addr} {nn0_5:Nat} {ns0_5:Array (Option Value)} {nt0_5_0:PySem.Tok} {bL0 bN0:Addr} {bd0 be0:Option Addr} {bs0:Array (Option Value)} {bo0:Value} {bE0:Array DictEntry} {bn0:Nat} {b1_0 b2_0:Str} {b3_0:List Value} {b4_0:Bool} {b5_0:List Str} {b6_0:List Value} {b7_0:Bool} {b8_0:Option Bool} {b9_0 ba_0 bb_0 bc_0 bf_0:Option Value} {bi0:String} {xC0 xN0 xf0 xT0:Addr} {xt0:Option Addr} {xu0:Array (Option Value)} {xw0:Nat} {xy0 xv0:Value} {xd0 xo0 xa0:Option Addr} {xs0:Array (Option Value)} {xc0 xk0 xm0 xp0 xq0 xr0:Value} {x1_0 x2_0:Str} {x3_0:List Value} {x5_0:List Str} {x6_0:List Value} {x7_0:Bool} {x8_0:Option Bool} {x9_0 xa_0 xb_0 xc_0 xe_0:Option Value} (X:K.In h) (G:h.Ns mainGlobals mg)
    (cA_Reader:PySem.W.nsIn K mainGlobals "Reader"=some (some (.ref C_Reader)))
    (cB_Reader:PySem.W.plainGet K C_Reader Str.empty=true) (cC_Reader:PySem.W.hasDictIn K C_Reader=true) (cD_Reader:PySem.W.plainOver K C_Reader=true) (cE_Reader:PySem.W.findIn K (.ref C_Reader) "__setattr__"=some (some (.builtin "object.__setattr__"))) (cF_Reader:PySem.W.makesIn K C_Reader=true) (cG_Reader:PySem.W.keepIn K (.ref C_Reader)=true)
    (cN_Reader_signs:PySem.W.findIn K (.ref C_Reader) "signs"=some none)
    (cN_Reader_passed:PySem.W.findIn K (.ref C_Reader) "passed"=some none)
    (a0:PySem.W.nsIn K mainGlobals "is_word"=some (some (.ref f0)))
    (l0:K.lookup f0=some ⟨oc0,od0,.func (PySem.W.fnOf "is_word" "is_word" (defArgs (top 14)) (defBody (top 14)) (defScope (top 14)) .none kV0 dc0 pm0 an0 cd0 ct0),sl0⟩)
    (c0:PySem.W.codeIn K cd0 "is_word"=true) (k0:PySem.W.keepIn K (.ref f0)=true)
    (a1:PySem.W.nsIn K mainGlobals "begins_with_letter"=some (some (.ref f1)))
    (l1:K.lookup f1=some ⟨oc1,od1,.func (PySem.W.fnOf "begins_with_letter" "begins_with_letter" (defArgs (top 15)) (defBody (top 15)) (defScope (top 15)) .none kV1 dc1 pm1 an1 cd1 ct1),sl1⟩)
    (c1:PySem.W.codeIn K cd1 "begins_with_letter"=true) (k1:PySem.W.keepIn K (.ref f1)=true)
    (a2:PySem.W.nsIn K mainGlobals "has_only"=some (some (.ref f2)))
    (l2:K.lookup f2=some ⟨oc2,od2,.func (PySem.W.fnOf "has_only" "has_only" (defArgs (top 16)) (defBody (top 16)) (defScope (top 16)) .none kV2 dc2 pm2 an2 cd2 ct2),sl2⟩)
    (c2:PySem.W.codeIn K cd2 "has_only"=true) (k2:PySem.W.keepIn K (.ref f2)=true)
    (a3:PySem.W.nsIn K mainGlobals "number_in"=some (some (.ref f3)))
    (l3:K.lookup f3=some ⟨oc3,od3,.func (PySem.W.fnOf "number_in" "number_in" (defArgs (top 17)) (defBody (top 17)) (defScope (top 17)) .none kV3 dc3 pm3 an3 cd3 ct3),sl3⟩)
    (c3:PySem.W.codeIn K cd3 "number_in"=true) (k3:PySem.W.keepIn K (.ref f3)=true)
    (a4:PySem.W.nsIn K mainGlobals "signs_in"=some (some (.ref f4)))
    (l4:K.lookup f4=some ⟨oc4,od4,.func (PySem.W.fnOf "signs_in" "signs_in" (defArgs (top 26)) (defBody (top 26)) (defScope (top 26)) .none kV4 dc4 pm4 an4 cd4 ct4),sl4⟩)
    (c4:PySem.W.codeIn K cd4 "signs_in"=true) (k4:PySem.W.keepIn K (.ref f4)=true)
    (a5:PySem.W.nsIn K mainGlobals "sign_at"=some (some (.ref f5)))
    (l5:K.lookup f5=some ⟨oc5,od5,.func (PySem.W.fnOf "sign_at" "sign_at" (defArgs (top 27)) (defBody (top 27)) (defScope (top 27)) .none kV5 dc5 pm5 an5 cd5 ct5),sl5⟩)
    (c5:PySem.W.codeIn K cd5 "sign_at"=true) (k5:PySem.W.keepIn K (.ref f5)=true)
    (a6:PySem.W.nsIn K mainGlobals "is_figure_at"=some (some (.ref f6)))
    (l6:K.lookup f6=some ⟨oc6,od6,.func (PySem.W.fnOf "is_figure_at" "is_figure_at" (defArgs (top 28)) (defBody (top 28)) (defScope (top 28)) .none kV6 dc6 pm6 an6 cd6 ct6),sl6⟩)
    (c6:PySem.W.codeIn K cd6 "is_figure_at"=true) (k6:PySem.W.keepIn K (.ref f6)=true)
    (a7:PySem.W.nsIn K mainGlobals "end_of_run"=some (some (.ref f7)))
    (l7:K.lookup f7=some ⟨oc7,od7,.func (PySem.W.fnOf "end_of_run" "end_of_run" (defArgs (top 29)) (defBody (top 29)) (defScope (top 29)) .none kV7 dc7 pm7 an7 cd7 ct7),sl7⟩)
    (c7:PySem.W.codeIn K cd7 "end_of_run"=true) (k7:PySem.W.keepIn K (.ref f7)=true)
    (a8:PySem.W.nsIn K mainGlobals "name_at"=some (some (.ref f8)))
    (l8:K.lookup f8=some ⟨oc8,od8,.func (PySem.W.fnOf "name_at" "name_at" (defArgs (top 30)) (defBody (top 30)) (defScope (top 30)) .none kV8 dc8 pm8 an8 cd8 ct8),sl8⟩)
    (c8:PySem.W.codeIn K cd8 "name_at"=true) (k8:PySem.W.keepIn K (.ref f8)=true)
    (a9:PySem.W.nsIn K mainGlobals "word_at"=some (some (.ref f9)))
    (l9:K.lookup f9=some ⟨oc9,od9,.func (PySem.W.fnOf "word_at" "word_at" (defArgs (top 31)) (defBody (top 31)) (defScope (top 31)) .none kV9 dc9 pm9 an9 cd9 ct9),sl9⟩)
    (c9:PySem.W.codeIn K cd9 "word_at"=true) (k9:PySem.W.keepIn K (.ref f9)=true)
    (a10:PySem.W.nsIn K mainGlobals "number_at"=some (some (.ref f10)))
    (l10:K.lookup f10=some ⟨oc10,od10,.func (PySem.W.fnOf "number_at" "number_at" (defArgs (top 32)) (defBody (top 32)) (defScope (top 32)) .none kV10 dc10 pm10 an10 cd10 ct10),sl10⟩)
    (c10:PySem.W.codeIn K cd10 "number_at"=true) (k10:PySem.W.keepIn K (.ref f10)=true)
    (a11:PySem.W.nsIn K mainGlobals "mark_at"=some (some (.ref f11)))
    (l11:K.lookup f11=some ⟨oc11,od11,.func (PySem.W.fnOf "mark_at" "mark_at" (defArgs (top 33)) (defBody (top 33)) (defScope (top 33)) .none kV11 dc11 pm11 an11 cd11 ct11),sl11⟩)
    (c11:PySem.W.codeIn K cd11 "mark_at"=true) (k11:PySem.W.keepIn K (.ref f11)=true)
    (a12:PySem.W.nsIn K mainGlobals "read_term"=some (some (.ref f12)))
    (l12:K.lookup f12=some ⟨oc12,od12,.func (PySem.W.fnOf "read_term" "read_term" (defArgs (top 41)) (defBody (top 41)) (defScope (top 41)) .none kV12 dc12 pm12 an12 cd12 ct12),sl12⟩)
    (c12:PySem.W.codeIn K cd12 "read_term"=true) (k12:PySem.W.keepIn K (.ref f12)=true)
    (a13:PySem.W.nsIn K mainGlobals "take_term"=some (some (.ref f13)))
    (l13:K.lookup f13=some ⟨oc13,od13,.func (PySem.W.fnOf "take_term" "take_term" (defArgs (top 42)) (defBody (top 42)) (defScope (top 42)) .none kV13 dc13 pm13 an13 cd13 ct13),sl13⟩)
    (c13:PySem.W.codeIn K cd13 "take_term"=true) (k13:PySem.W.keepIn K (.ref f13)=true)
    (a14:PySem.W.nsIn K mainGlobals "take_part"=some (some (.ref f14)))
    (l14:K.lookup f14=some ⟨oc14,od14,.func (PySem.W.fnOf "take_part" "take_part" (defArgs (top 43)) (defBody (top 43)) (defScope (top 43)) .none kV14 dc14 pm14 an14 cd14 ct14),sl14⟩)
    (c14:PySem.W.codeIn K cd14 "take_part"=true) (k14:PySem.W.keepIn K (.ref f14)=true)
    (a15:PySem.W.nsIn K mainGlobals "take_negation"=some (some (.ref f15)))
    (l15:K.lookup f15=some ⟨oc15,od15,.func (PySem.W.fnOf "take_negation" "take_negation" (defArgs (top 44)) (defBody (top 44)) (defScope (top 44)) .none kV15 dc15 pm15 an15 cd15 ct15),sl15⟩)
    (c15:PySem.W.codeIn K cd15 "take_negation"=true) (k15:PySem.W.keepIn K (.ref f15)=true)
    (a16:PySem.W.nsIn K mainGlobals "take_deeper"=some (some (.ref f16)))
    (l16:K.lookup f16=some ⟨oc16,od16,.func (PySem.W.fnOf "take_deeper" "take_deeper" (defArgs (top 45)) (defBody (top 45)) (defScope (top 45)) .none kV16 dc16 pm16 an16 cd16 ct16),sl16⟩)
    (c16:PySem.W.codeIn K cd16 "take_deeper"=true) (k16:PySem.W.keepIn K (.ref f16)=true)
    (a17:PySem.W.nsIn K mainGlobals "take_leaf"=some (some (.ref f17)))
    (l17:K.lookup f17=some ⟨oc17,od17,.func (PySem.W.fnOf "take_leaf" "take_leaf" (defArgs (top 46)) (defBody (top 46)) (defScope (top 46)) .none kV17 dc17 pm17 an17 cd17 ct17),sl17⟩)
    (c17:PySem.W.codeIn K cd17 "take_leaf"=true) (k17:PySem.W.keepIn K (.ref f17)=true)
    (a18:PySem.W.nsIn K mainGlobals "_law_begin"=some (some (.ref f18)))
    (l18:K.lookup f18=some ⟨oc18,od18,.func (PySem.W.fnOf "_law_begin" "_law_begin" (defArgs (top 48)) (defBody (top 48)) (defScope (top 48)) .none kV18 dc18 pm18 an18 cd18 ct18),sl18⟩)
    (c18:PySem.W.codeIn K cd18 "_law_begin"=true) (k18:PySem.W.keepIn K (.ref f18)=true)
    (a19:PySem.W.nsIn K mainGlobals "_law_take"=some (some (.ref f19)))
    (l19:K.lookup f19=some ⟨oc19,od19,.func (PySem.W.fnOf "_law_take" "_law_take" (defArgs (top 49)) (defBody (top 49)) (defScope (top 49)) .none kV19 dc19 pm19 an19 cd19 ct19),sl19⟩)
    (c19:PySem.W.codeIn K cd19 "_law_take"=true) (k19:PySem.W.keepIn K (.ref f19)=true)
    (a20:PySem.W.nsIn K mainGlobals "_law_of"=some (some (.ref f20)))
    (l20:K.lookup f20=some ⟨oc20,od20,.func (PySem.W.fnOf "_law_of" "_law_of" (defArgs (top 50)) (defBody (top 50)) (defScope (top 50)) .none kV20 dc20 pm20 an20 cd20 ct20),sl20⟩)
    (c20:PySem.W.codeIn K cd20 "_law_of"=true) (k20:PySem.W.keepIn K (.ref f20)=true)
    (a21:PySem.W.nsIn K mainGlobals "_law_same"=some (some (.ref f21)))
    (l21:K.lookup f21=some ⟨oc21,od21,.func (PySem.W.fnOf "_law_same" "_law_same" (defArgs (top 51)) (defBody (top 51)) (defScope (top 51)) .none kV21 dc21 pm21 an21 cd21 ct21),sl21⟩)
    (c21:PySem.W.codeIn K cd21 "_law_same"=true) (k21:PySem.W.keepIn K (.ref f21)=true)
    (a22:PySem.W.nsIn K mainGlobals "_law_kept_word"=some (some (.ref f22)))
    (l22:K.lookup f22=some ⟨oc22,od22,.func (PySem.W.fnOf "_law_kept_word" "_law_kept_word" (defArgs (top 52)) (defBody (top 52)) (defScope (top 52)) .none kV22 dc22 pm22 an22 cd22 ct22),sl22⟩)
    (c22:PySem.W.codeIn K cd22 "_law_kept_word"=true) (k22:PySem.W.keepIn K (.ref f22)=true)
    (a23:PySem.W.nsIn K mainGlobals "_law_letters"=some (some (.ref f23)))
    (l23:K.lookup f23=some ⟨oc23,od23,.func (PySem.W.fnOf "_law_letters" "_law_letters" (defArgs (top 53)) (defBody (top 53)) (defScope (top 53)) .none kV23 dc23 pm23 an23 cd23 ct23),sl23⟩)
    (c23:PySem.W.codeIn K cd23 "_law_letters"=true) (k23:PySem.W.keepIn K (.ref f23)=true)
    (a24:PySem.W.nsIn K mainGlobals "_law_drawn_word"=some (some (.ref f24)))
    (l24:K.lookup f24=some ⟨oc24,od24,.func (PySem.W.fnOf "_law_drawn_word" "_law_drawn_word" (defArgs (top 54)) (defBody (top 54)) (defScope (top 54)) .none kV24 dc24 pm24 an24 cd24 ct24),sl24⟩)
    (c24:PySem.W.codeIn K cd24 "_law_drawn_word"=true) (k24:PySem.W.keepIn K (.ref f24)=true)
    (a25:PySem.W.nsIn K mainGlobals "_law_number"=some (some (.ref f25)))
    (l25:K.lookup f25=some ⟨oc25,od25,.func (PySem.W.fnOf "_law_number" "_law_number" (defArgs (top 55)) (defBody (top 55)) (defScope (top 55)) .none kV25 dc25 pm25 an25 cd25 ct25),sl25⟩)
    (c25:PySem.W.codeIn K cd25 "_law_number"=true) (k25:PySem.W.keepIn K (.ref f25)=true)
    (a26:PySem.W.nsIn K mainGlobals "_law_value"=some (some (.ref f26)))
    (l26:K.lookup f26=some ⟨oc26,od26,.func (PySem.W.fnOf "_law_value" "_law_value" (defArgs (top 56)) (defBody (top 56)) (defScope (top 56)) .none kV26 dc26 pm26 an26 cd26 ct26),sl26⟩)
    (c26:PySem.W.codeIn K cd26 "_law_value"=true) (k26:PySem.W.keepIn K (.ref f26)=true)
    (a27:PySem.W.nsIn K mainGlobals "_law_value_text"=some (some (.ref f27)))
    (l27:K.lookup f27=some ⟨oc27,od27,.func (PySem.W.fnOf "_law_value_text" "_law_value_text" (defArgs (top 57)) (defBody (top 57)) (defScope (top 57)) .none kV27 dc27 pm27 an27 cd27 ct27),sl27⟩)
    (c27:PySem.W.codeIn K cd27 "_law_value_text"=true) (k27:PySem.W.keepIn K (.ref f27)=true)
    (a28:PySem.W.nsIn K mainGlobals "_law_kinds"=some (some (.ref f28)))
    (l28:K.lookup f28=some ⟨oc28,od28,.func (PySem.W.fnOf "_law_kinds" "_law_kinds" (defArgs (top 58)) (defBody (top 58)) (defScope (top 58)) .none kV28 dc28 pm28 an28 cd28 ct28),sl28⟩)
    (c28:PySem.W.codeIn K cd28 "_law_kinds"=true) (k28:PySem.W.keepIn K (.ref f28)=true)
    (a29:PySem.W.nsIn K mainGlobals "_law_leaf"=some (some (.ref f29)))
    (l29:K.lookup f29=some ⟨oc29,od29,.func (PySem.W.fnOf "_law_leaf" "_law_leaf" (defArgs (top 59)) (defBody (top 59)) (defScope (top 59)) .none kV29 dc29 pm29 an29 cd29 ct29),sl29⟩)
    (c29:PySem.W.codeIn K cd29 "_law_leaf"=true) (k29:PySem.W.keepIn K (.ref f29)=true)
    (a30:PySem.W.nsIn K mainGlobals "_law_term"=some (some (.ref f30)))
    (l30:K.lookup f30=some ⟨oc30,od30,.func (PySem.W.fnOf "_law_term" "_law_term" (defArgs (top 60)) (defBody (top 60)) (defScope (top 60)) .none kV30 dc30 pm30 an30 cd30 ct30),sl30⟩)
    (c30:PySem.W.codeIn K cd30 "_law_term"=true) (k30:PySem.W.keepIn K (.ref f30)=true)
    (a31:PySem.W.nsIn K mainGlobals "_law_two_parts"=some (some (.ref f31)))
    (l31:K.lookup f31=some ⟨oc31,od31,.func (PySem.W.fnOf "_law_two_parts" "_law_two_parts" (defArgs (top 61)) (defBody (top 61)) (defScope (top 61)) .none kV31 dc31 pm31 an31 cd31 ct31),sl31⟩)
    (c31:PySem.W.codeIn K cd31 "_law_two_parts"=true) (k31:PySem.W.keepIn K (.ref f31)=true)
    (a32:PySem.W.nsIn K mainGlobals "_law_level"=some (some (.ref f32)))
    (l32:K.lookup f32=some ⟨oc32,od32,.func (PySem.W.fnOf "_law_level" "_law_level" (defArgs (top 62)) (defBody (top 62)) (defScope (top 62)) .none kV32 dc32 pm32 an32 cd32 ct32),sl32⟩)
    (c32:PySem.W.codeIn K cd32 "_law_level"=true) (k32:PySem.W.keepIn K (.ref f32)=true)
    (a33:PySem.W.nsIn K mainGlobals "_law_wrapped"=some (some (.ref f33)))
    (l33:K.lookup f33=some ⟨oc33,od33,.func (PySem.W.fnOf "_law_wrapped" "_law_wrapped" (defArgs (top 63)) (defBody (top 63)) (defScope (top 63)) .none kV33 dc33 pm33 an33 cd33 ct33),sl33⟩)
    (c33:PySem.W.codeIn K cd33 "_law_wrapped"=true) (k33:PySem.W.keepIn K (.ref f33)=true)
    (a34:PySem.W.nsIn K mainGlobals "_law_text"=some (some (.ref f34)))
    (l34:K.lookup f34=some ⟨oc34,od34,.func (PySem.W.fnOf "_law_text" "_law_text" (defArgs (top 64)) (defBody (top 64)) (defScope (top 64)) .none kV34 dc34 pm34 an34 cd34 ct34),sl34⟩)
    (c34:PySem.W.codeIn K cd34 "_law_text"=true) (k34:PySem.W.keepIn K (.ref f34)=true)
    (a35:PySem.W.nsIn K mainGlobals "_law_thing"=some (some (.ref f35)))
    (l35:K.lookup f35=some ⟨oc35,od35,.func (PySem.W.fnOf "_law_thing" "_law_thing" (defArgs (top 65)) (defBody (top 65)) (defScope (top 65)) .none kV35 dc35 pm35 an35 cd35 ct35),sl35⟩)
    (c35:PySem.W.codeIn K cd35 "_law_thing"=true) (k35:PySem.W.keepIn K (.ref f35)=true)
    (a36:PySem.W.nsIn K mainGlobals "_law_things"=some (some (.ref f36)))
    (l36:K.lookup f36=some ⟨oc36,od36,.func (PySem.W.fnOf "_law_things" "_law_things" (defArgs (top 66)) (defBody (top 66)) (defScope (top 66)) .none kV36 dc36 pm36 an36 cd36 ct36),sl36⟩)
    (c36:PySem.W.codeIn K cd36 "_law_things"=true) (k36:PySem.W.keepIn K (.ref f36)=true)
    (a37:PySem.W.nsIn K mainGlobals "_law_atom"=some (some (.ref f37)))
    (l37:K.lookup f37=some ⟨oc37,od37,.func (PySem.W.fnOf "_law_atom" "_law_atom" (defArgs (top 67)) (defBody (top 67)) (defScope (top 67)) .none kV37 dc37 pm37 an37 cd37 ct37),sl37⟩)
    (c37:PySem.W.codeIn K cd37 "_law_atom"=true) (k37:PySem.W.keepIn K (.ref f37)=true)
    (a38:PySem.W.nsIn K mainGlobals "_law_parsed"=some (some (.ref f38)))
    (l38:K.lookup f38=some ⟨oc38,od38,.func (PySem.W.fnOf "_law_parsed" "_law_parsed" (defArgs (top 68)) (defBody (top 68)) (defScope (top 68)) .none kV38 dc38 pm38 an38 cd38 ct38),sl38⟩)
    (c38:PySem.W.codeIn K cd38 "_law_parsed"=true) (k38:PySem.W.keepIn K (.ref f38)=true)
    (a39:PySem.W.nsIn K mainGlobals "_law_read_of"=some (some (.ref f39)))
    (l39:K.lookup f39=some ⟨oc39,od39,.func (PySem.W.fnOf "_law_read_of" "_law_read_of" (defArgs (top 69)) (defBody (top 69)) (defScope (top 69)) .none kV39 dc39 pm39 an39 cd39 ct39),sl39⟩)
    (c39:PySem.W.codeIn K cd39 "_law_read_of"=true) (k39:PySem.W.keepIn K (.ref f39)=true)
    (a40:PySem.W.nsIn K mainGlobals "_law_bent"=some (some (.ref f40)))
    (l40:K.lookup f40=some ⟨oc40,od40,.func (PySem.W.fnOf "_law_bent" "_law_bent" (defArgs (top 70)) (defBody (top 70)) (defScope (top 70)) .none kV40 dc40 pm40 an40 cd40 ct40),sl40⟩)
    (c40:PySem.W.codeIn K cd40 "_law_bent"=true) (k40:PySem.W.keepIn K (.ref f40)=true)
    (a41:PySem.W.nsIn K mainGlobals "_law_refused_at"=some (some (.ref f41)))
    (l41:K.lookup f41=some ⟨oc41,od41,.func (PySem.W.fnOf "_law_refused_at" "_law_refused_at" (defArgs (top 71)) (defBody (top 71)) (defScope (top 71)) .none kV41 dc41 pm41 an41 cd41 ct41),sl41⟩)
    (c41:PySem.W.codeIn K cd41 "_law_refused_at"=true) (k41:PySem.W.keepIn K (.ref f41)=true)
    (a42:PySem.W.nsIn K mainGlobals "law"=some (some (.ref f42)))
    (l42:K.lookup f42=some ⟨oc42,od42,.func (PySem.W.fnOf "law" "law" (defArgs (top 72)) (defBody (top 72)) (defScope (top 72)) .none kV42 dc42 pm42 an42 cd42 ct42),sl42⟩)
    (c42:PySem.W.codeIn K cd42 "law"=true) (k42:PySem.W.keepIn K (.ref f42)=true)
    (a43:PySem.W.findIn K (.ref C_Reader) "__init__"=some (some (.ref f43))) (i43:PySem.W.isFn K (.ref f43)=true)
    (l43:K.lookup f43=some ⟨oc43,od43,.func (PySem.W.fnOf "__init__" "Reader.__init__" (defArgs (inClass (top 25) 0)) (defBody (inClass (top 25) 0)) (defScope (inClass (top 25) 0)) .none kV43 dc43 pm43 an43 cd43 ct43),sl43⟩)
    (c43:PySem.W.codeIn K cd43 "Reader.__init__"=true) (k43:PySem.W.keepIn K (.ref f43)=true)
    (a44:PySem.W.findIn K (.ref C_Reader) "place"=some (some (.ref f44))) (i44:PySem.W.isFn K (.ref f44)=true)
    (l44:K.lookup f44=some ⟨oc44,od44,.func (PySem.W.fnOf "place" "Reader.place" (defArgs (inClass (top 25) 1)) (defBody (inClass (top 25) 1)) (defScope (inClass (top 25) 1)) .none kV44 dc44 pm44 an44 cd44 ct44),sl44⟩)
    (c44:PySem.W.codeIn K cd44 "Reader.place"=true) (k44:PySem.W.keepIn K (.ref f44)=true)
    (a45:PySem.W.findIn K (.ref C_Reader) "sees"=some (some (.ref f45))) (i45:PySem.W.isFn K (.ref f45)=true)
    (l45:K.lookup f45=some ⟨oc45,od45,.func (PySem.W.fnOf "sees" "Reader.sees" (defArgs (inClass (top 25) 2)) (defBody (inClass (top 25) 2)) (defScope (inClass (top 25) 2)) .none kV45 dc45 pm45 an45 cd45 ct45),sl45⟩)
    (c45:PySem.W.codeIn K cd45 "Reader.sees"=true) (k45:PySem.W.keepIn K (.ref f45)=true)
    (a46:PySem.W.findIn K (.ref C_Reader) "sees_one"=some (some (.ref f46))) (i46:PySem.W.isFn K (.ref f46)=true)
    (l46:K.lookup f46=some ⟨oc46,od46,.func (PySem.W.fnOf "sees_one" "Reader.sees_one" (defArgs (inClass (top 25) 3)) (defBody (inClass (top 25) 3)) (defScope (inClass (top 25) 3)) .none kV46 dc46 pm46 an46 cd46 ct46),sl46⟩)
    (c46:PySem.W.codeIn K cd46 "Reader.sees_one"=true) (k46:PySem.W.keepIn K (.ref f46)=true)
    (a47:PySem.W.findIn K (.ref C_Reader) "take"=some (some (.ref f47))) (i47:PySem.W.isFn K (.ref f47)=true)
    (l47:K.lookup f47=some ⟨oc47,od47,.func (PySem.W.fnOf "take" "Reader.take" (defArgs (inClass (top 25) 4)) (defBody (inClass (top 25) 4)) (defScope (inClass (top 25) 4)) .none kV47 dc47 pm47 an47 cd47 ct47),sl47⟩)
    (c47:PySem.W.codeIn K cd47 "Reader.take"=true) (k47:PySem.W.keepIn K (.ref f47)=true)
    (a48:PySem.W.findIn K (.ref C_Reader) "take_kind"=some (some (.ref f48))) (i48:PySem.W.isFn K (.ref f48)=true)
    (l48:K.lookup f48=some ⟨oc48,od48,.func (PySem.W.fnOf "take_kind" "Reader.take_kind" (defArgs (inClass (top 25) 5)) (defBody (inClass (top 25) 5)) (defScope (inClass (top 25) 5)) .none kV48 dc48 pm48 an48 cd48 ct48),sl48⟩)
    (c48:PySem.W.codeIn K cd48 "Reader.take_kind"=true) (k48:PySem.W.keepIn K (.ref f48)=true)
    (a49:PySem.W.findIn K (.ref C_Reader) "take_one"=some (some (.ref f49))) (i49:PySem.W.isFn K (.ref f49)=true)
    (l49:K.lookup f49=some ⟨oc49,od49,.func (PySem.W.fnOf "take_one" "Reader.take_one" (defArgs (inClass (top 25) 6)) (defBody (inClass (top 25) 6)) (defScope (inClass (top 25) 6)) .none kV49 dc49 pm49 an49 cd49 ct49),sl49⟩)
    (c49:PySem.W.codeIn K cd49 "Reader.take_one"=true) (k49:PySem.W.keepIn K (.ref f49)=true)
    (gc0:PySem.W.nsIn K mainGlobals "NUMBER"=some (some (.str "number" tc0)))
    (gc1:PySem.W.nsIn K mainGlobals "WORD"=some (some (.str "word" tc1)))
    (gc2:PySem.W.nsIn K mainGlobals "FLAG"=some (some (.str "flag" tc2)))
    (gc3:PySem.W.nsIn K mainGlobals "LETTERS"=some (some (.str "abcdefghijklmnopqrstuvwxyz" tc3)))
    (gc4:PySem.W.nsIn K mainGlobals "FIGURES"=some (some (.str "0123456789" tc4)))
    (gc5:PySem.W.nsIn K mainGlobals "NAME_SIGNS"=some (some (.str "abcdefghijklmnopqrstuvwxyz_" tc5)))
    (gc6:PySem.W.nsIn K mainGlobals "WORD_SIGNS"=some (some (.str "abcdefghijklmnopqrstuvwxyz0123456789" tc6)))
    (gc7:PySem.W.nsIn K mainGlobals "NAME"=some (some (.str "name" tc7)))
    (gc8:PySem.W.nsIn K mainGlobals "MARK"=some (some (.str "mark" tc8)))
    (gc9:PySem.W.nsIn K mainGlobals "END"=some (some (.str "end" tc9)))
    (gc10:PySem.W.nsIn K mainGlobals "SHORT_MARKS"=some (some (.str "=<>+-*()|,@" tc10)))
    (gc11:PySem.W.nsIn K mainGlobals "MOST_SIGNS"=some (some (.int 12 tc11)))
    (gc12:PySem.W.nsIn K mainGlobals "MOST_FIGURES"=some (some (.int 30 tc12)))
    (gc13:PySem.W.nsIn K mainGlobals "MOST_NAME_SIGNS"=some (some (.int 20 tc13)))
    (gc14:PySem.W.nsIn K mainGlobals "NOT_LEVEL"=some (some (.int 2 tc14)))
    (gc15:PySem.W.nsIn K mainGlobals "COMPARISON_LEVEL"=some (some (.int 3 tc15)))
    (gc16:PySem.W.nsIn K mainGlobals "LEAF_LEVEL"=some (some (.int 6 tc16)))
    (gc17:PySem.W.nsIn K mainGlobals "MOST_DEEP"=some (some (.int 12 tc17)))
    (ta0_g:PySem.W.nsIn K mainGlobals "KEPT_WORDS"=some (some (.ref ta0)))
    (tl0:K.lookup ta0=some ⟨.type "tuple",td0,.seq #[.str "and" tt0_0,.str "or" tt0_1,.str "not" tt0_2,.str "has" tt0_3,.str "yes" tt0_4,.str "no" tt0_5,.str "by" tt0_6,.str "up" tt0_7,.str "down" tt0_8,.str "count" tt0_9,.str "sum" tt0_10,.str "least" tt0_11,.str "most" tt0_12,.str "unlike" tt0_13,.str "all" tt0_14,.str "within" tt0_15] tn0,ts0⟩)
    (ta1_g:PySem.W.nsIn K mainGlobals "LONG_MARKS"=some (some (.ref ta1)))
    (tl1:K.lookup ta1=some ⟨.type "tuple",td1,.seq #[.str "!=" tt1_0,.str "<=" tt1_1,.str ">=" tt1_2] tn1,ts1⟩)
    (na0_g:PySem.W.nsIn K mainGlobals "LEVELS"=some (some (.ref na0)))
    (nl0:K.lookup na0=some ⟨.type "tuple",nd0,.seq #[.ref na0_0,.ref na0_1,.ref na0_2,.ref na0_3,.ref na0_4,.ref na0_5] nn0,ns0⟩)
    (nl0_0:K.lookup na0_0=some ⟨.type "tuple",nd0_0,.seq #[.str "or" nt0_0_0] nn0_0,ns0_0⟩)
    (nl0_1:K.lookup na0_1=some ⟨.type "tuple",nd0_1,.seq #[.str "and" nt0_1_0] nn0_1,ns0_1⟩)
    (nl0_2:K.lookup na0_2=some ⟨.type "tuple",nd0_2,.seq #[.str "not" nt0_2_0] nn0_2,ns0_2⟩)
    (nl0_3:K.lookup na0_3=some ⟨.type "tuple",nd0_3,.seq #[.str "=" nt0_3_0,.str "!=" nt0_3_1,.str "<" nt0_3_2,.str "<=" nt0_3_3,.str ">" nt0_3_4,.str ">=" nt0_3_5] nn0_3,ns0_3⟩)
    (nl0_4:K.lookup na0_4=some ⟨.type "tuple",nd0_4,.seq #[.str "+" nt0_4_0,.str "-" nt0_4_1] nn0_4,ns0_4⟩)
    (nl0_5:K.lookup na0_5=some ⟨.type "tuple",nd0_5,.seq #[.str "*" nt0_5_0] nn0_5,ns0_5⟩)
    (z_len:PySem.W.nsIn K mainGlobals "len"=some none)
    (z_all:PySem.W.nsIn K mainGlobals "all"=some none)
    (z_isinstance:PySem.W.nsIn K mainGlobals "isinstance"=some none)
    (z_bool:PySem.W.nsIn K mainGlobals "bool"=some none)
    (z_int:PySem.W.nsIn K mainGlobals "int"=some none)
    (z_str:PySem.W.nsIn K mainGlobals "str"=some none)
    (z_list:PySem.W.nsIn K mainGlobals "list"=some none)
    (z_dict:PySem.W.nsIn K mainGlobals "dict"=some none)
    (z_tuple:PySem.W.nsIn K mainGlobals "tuple"=some none)
    (z_range:PySem.W.nsIn K mainGlobals "range"=some none)
    (z_zip:PySem.W.nsIn K mainGlobals "zip"=some none)
    (z_sorted:PySem.W.nsIn K mainGlobals "sorted"=some none)
    (z_enumerate:PySem.W.nsIn K mainGlobals "enumerate"=some none)
    (bg0:PySem.W.nsIn K mainGlobals "LogError"=some (some (.ref bL0)))
    (bh0:K.lookup bL0=some (excClassObj b1_0 b2_0 bL0 bN0 b3_0 vErr b4_0 b5_0 b6_0 b7_0 b8_0 bd0 b9_0 ba_0 bb_0 bc_0 bf_0 bi0))
    (bk0:K.lookup bN0=some ⟨bo0,be0,.dict bE0 bn0,bs0⟩)
    (bl0:(bE0.toList.all fun e=>match e.key with | .str _ _=>true | _=>false)=true)
    (bm0:PySem.W.nsIn K bN0 "__init__"=some none)
    (ea0:PySem.W.nsIn K mainGlobals "BadText"=some (some (.ref xC0)))
    (eb0:K.lookup xC0=some (excClassObj x1_0 x2_0 xC0 xN0 x3_0 (.ref bL0 :: vErr) true x5_0 x6_0 x7_0 x8_0 xd0 x9_0 xa_0 xb_0 xc_0 xe_0 "ValueError.__new__"))
    (ec0:PySem.W.findIn K (.ref xC0) "__init__"=some (some (.ref xf0)))
    (ed0:PySem.W.typeIn K (.ref xf0)=some (.type "function"))
    (ee0:K.lookup xf0=some ⟨xc0,xo0,.func (PySem.W.fnOf "__init__" "BadText.__init__" (defArgs (meth 2)) (defBody (meth 2)) (defScope (meth 2)) (.ref xT0) xk0 xm0 xp0 xa0 xq0 xr0),xs0⟩)
    (ef0:PySem.W.codeIn K xq0 "BadText.__init__"=true)
    (eg0:PySem.W.findIn K (.ref xC0) "__setattr__"=some (some (.builtin "object.__setattr__")))
    (eh0:PySem.W.findIn K (.ref xC0) "__getattribute__"=some (some (.builtin "BaseException.__getattribute__")))
    (ei0:PySem.W.findIn K (.ref xC0) "__getattr__"=some none)
    (ej0:PySem.W.findIn K (.ref xC0) "at"=some none)
    (ek0:PySem.W.takerIn K xC0 "at"=some none)
    (el0:PySem.W.keepIn K (.ref xC0)=true)
    (em0:PySem.W.hasDictIn K xC0=true)
    (en0:PySem.W.mroIn K xC0 (.type "BaseException")=some true)
    (eo0:PySem.W.subIn K (.ref xC0) (.type "ValueError")=some true)
    (eq0:K.lookup xT0=some ⟨xy0,xt0,.seq #[xv0] xw0,xu0⟩)
    (ep0:PySem.W.mroIn K xC0 (.ref bL0)=some true) :
    ∃ a,Txt K mg a:=by
  have F0:=fun_mk (st:=(top 14)) l0 c0 k0
  have F1:=fun_mk (st:=(top 15)) l1 c1 k1
  have F2:=fun_mk (st:=(top 16)) l2 c2 k2
  have F3:=fun_mk (st:=(top 17)) l3 c3 k3
  have F4:=fun_mk (st:=(top 26)) l4 c4 k4
  have F5:=fun_mk (st:=(top 27)) l5 c5 k5
  have F6:=fun_mk (st:=(top 28)) l6 c6 k6
  have F7:=fun_mk (st:=(top 29)) l7 c7 k7
  have F8:=fun_mk (st:=(top 30)) l8 c8 k8
  have F9:=fun_mk (st:=(top 31)) l9 c9 k9
  have F10:=fun_mk (st:=(top 32)) l10 c10 k10
  have F11:=fun_mk (st:=(top 33)) l11 c11 k11
  have F12:=fun_mk (st:=(top 41)) l12 c12 k12
  have F13:=fun_mk (st:=(top 42)) l13 c13 k13
  have F14:=fun_mk (st:=(top 43)) l14 c14 k14
  have F15:=fun_mk (st:=(top 44)) l15 c15 k15
  have F16:=fun_mk (st:=(top 45)) l16 c16 k16
  have F17:=fun_mk (st:=(top 46)) l17 c17 k17
  have F18:=fun_mk (st:=(top 48)) l18 c18 k18
  have F19:=fun_mk (st:=(top 49)) l19 c19 k19
  have F20:=fun_mk (st:=(top 50)) l20 c20 k20
  have F21:=fun_mk (st:=(top 51)) l21 c21 k21
  have F22:=fun_mk (st:=(top 52)) l22 c22 k22
  have F23:=fun_mk (st:=(top 53)) l23 c23 k23
  have F24:=fun_mk (st:=(top 54)) l24 c24 k24
  have F25:=fun_mk (st:=(top 55)) l25 c25 k25
  have F26:=fun_mk (st:=(top 56)) l26 c26 k26
  have F27:=fun_mk (st:=(top 57)) l27 c27 k27
  have F28:=fun_mk (st:=(top 58)) l28 c28 k28
  have F29:=fun_mk (st:=(top 59)) l29 c29 k29
  have F30:=fun_mk (st:=(top 60)) l30 c30 k30
  have F31:=fun_mk (st:=(top 61)) l31 c31 k31
  have F32:=fun_mk (st:=(top 62)) l32 c32 k32
  have F33:=fun_mk (st:=(top 63)) l33 c33 k33
  have F34:=fun_mk (st:=(top 64)) l34 c34 k34
  have F35:=fun_mk (st:=(top 65)) l35 c35 k35
  have F36:=fun_mk (st:=(top 66)) l36 c36 k36
  have F37:=fun_mk (st:=(top 67)) l37 c37 k37
  have F38:=fun_mk (st:=(top 68)) l38 c38 k38
  have F39:=fun_mk (st:=(top 69)) l39 c39 k39
  have F40:=fun_mk (st:=(top 70)) l40 c40 k40
  have F41:=fun_mk (st:=(top 71)) l41 c41 k41
  have F42:=fun_mk (st:=(top 72)) l42 c42 k42
  have F43:=fun_mk (st:=(inClass (top 25) 0)) l43 c43 k43
  have F44:=fun_mk (st:=(inClass (top 25) 1)) l44 c44 k44
  have F45:=fun_mk (st:=(inClass (top 25) 2)) l45 c45 k45
  have F46:=fun_mk (st:=(inClass (top 25) 3)) l46 c46 k46
  have F47:=fun_mk (st:=(inClass (top 25) 4)) l47 c47 k47
  have F48:=fun_mk (st:=(inClass (top 25) 5)) l48 c48 k48
  have F49:=fun_mk (st:=(inClass (top 25) 6)) l49 c49 k49
  have E0:=xtx_mk (n:="at") (st:=meth 2) eb0 bh0 bk0 bl0 bm0 ec0 ed0 ee0 ef0 eg0 eh0 ei0 ej0 ek0 el0 em0 en0 eo0 (fun s us kin hl=>match us,hl with | [_,_],_=>BindsTo.of_defaults (T:=xT0) rfl (kin _ _ eq0) rfl rfl rfl)
  exact ⟨⟨f0,_,f1,_,f2,_,f3,_,f4,_,f5,_,f6,_,f7,_,f8,_,f9,_,f10,_,f11,_,f12,_,f13,_,f14,_,f15,_,f16,_,f17,_,f18,_,f19,_,f20,_,f21,_,f22,_,f23,_,f24,_,f25,_,f26,_,f27,_,f28,_,f29,_,f30,_,f31,_,f32,_,f33,_,f34,_,f35,_,f36,_,f37,_,f38,_,f39,_,f40,_,f41,_,f42,_,f43,_,f44,_,f45,_,f46,_,f47,_,f48,_,f49,_,C_Reader,_,_,_,_,_,_,_,_,_,_,_,_,_,_,_,_,_,_,ta0,ta1,na0,na0_0,na0_1,na0_2,na0_3,na0_4,na0_5,bL0,xC0,xf0,_⟩,⟨F0,
    PySem.W.mg_of X G a0,
    F0.binds fun _ _ _ _ _ _ us hl=>match us,hl with | [_],_=>rfl,
    F1,
    PySem.W.mg_of X G a1,
    F1.binds fun _ _ _ _ _ _ us hl=>match us,hl with | [_],_=>rfl,
    F2,
    PySem.W.mg_of X G a2,
    F2.binds fun _ _ _ _ _ _ us hl=>match us,hl with | [_,_,_],_=>rfl,
    F3,
    PySem.W.mg_of X G a3,
    F3.binds fun _ _ _ _ _ _ us hl=>match us,hl with | [_],_=>rfl,
    F4,
    PySem.W.mg_of X G a4,
    F4.binds fun _ _ _ _ _ _ us hl=>match us,hl with | [_],_=>rfl,
    F5,
    PySem.W.mg_of X G a5,
    F5.binds fun _ _ _ _ _ _ us hl=>match us,hl with | [_,_],_=>rfl,
    F6,
    PySem.W.mg_of X G a6,
    F6.binds fun _ _ _ _ _ _ us hl=>match us,hl with | [_,_],_=>rfl,
    F7,
    PySem.W.mg_of X G a7,
    F7.binds fun _ _ _ _ _ _ us hl=>match us,hl with | [_,_,_],_=>rfl,
    F8,
    PySem.W.mg_of X G a8,
    F8.binds fun _ _ _ _ _ _ us hl=>match us,hl with | [_,_],_=>rfl,
    F9,
    PySem.W.mg_of X G a9,
    F9.binds fun _ _ _ _ _ _ us hl=>match us,hl with | [_,_],_=>rfl,
    F10,
    PySem.W.mg_of X G a10,
    F10.binds fun _ _ _ _ _ _ us hl=>match us,hl with | [_,_],_=>rfl,
    F11,
    PySem.W.mg_of X G a11,
    F11.binds fun _ _ _ _ _ _ us hl=>match us,hl with | [_,_],_=>rfl,
    F12,
    PySem.W.mg_of X G a12,
    F12.binds fun _ _ _ _ _ _ us hl=>match us,hl with | [_],_=>rfl,
    F13,
    PySem.W.mg_of X G a13,
    F13.binds fun _ _ _ _ _ _ us hl=>match us,hl with | [_,_],_=>rfl,
    F14,
    PySem.W.mg_of X G a14,
    F14.binds fun _ _ _ _ _ _ us hl=>match us,hl with | [_,_,_],_=>rfl,
    F15,
    PySem.W.mg_of X G a15,
    F15.binds fun _ _ _ _ _ _ us hl=>match us,hl with | [_,_],_=>rfl,
    F16,
    PySem.W.mg_of X G a16,
    F16.binds fun _ _ _ _ _ _ us hl=>match us,hl with | [_,_],_=>rfl,
    F17,
    PySem.W.mg_of X G a17,
    F17.binds fun _ _ _ _ _ _ us hl=>match us,hl with | [_,_],_=>rfl,
    F18,
    PySem.W.mg_of X G a18,
    F18.binds fun _ _ _ _ _ _ us hl=>match us,hl with | [_],_=>rfl,
    F19,
    PySem.W.mg_of X G a19,
    F19.binds fun _ _ _ _ _ _ us hl=>match us,hl with | [_,_],_=>rfl,
    F20,
    PySem.W.mg_of X G a20,
    F20.binds fun _ _ _ _ _ _ us hl=>match us,hl with | [_,_],_=>rfl,
    F21,
    PySem.W.mg_of X G a21,
    F21.binds fun _ _ _ _ _ _ us hl=>match us,hl with | [_,_],_=>rfl,
    F22,
    PySem.W.mg_of X G a22,
    F22.binds fun _ _ _ _ _ _ us hl=>match us,hl with | [_],_=>rfl,
    F23,
    PySem.W.mg_of X G a23,
    F23.binds fun _ _ _ _ _ _ us hl=>match us,hl with | [_,_,_],_=>rfl,
    F24,
    PySem.W.mg_of X G a24,
    F24.binds fun _ _ _ _ _ _ us hl=>match us,hl with | [_],_=>rfl,
    F25,
    PySem.W.mg_of X G a25,
    F25.binds fun _ _ _ _ _ _ us hl=>match us,hl with | [_],_=>rfl,
    F26,
    PySem.W.mg_of X G a26,
    F26.binds fun _ _ _ _ _ _ us hl=>match us,hl with | [_,_],_=>rfl,
    F27,
    PySem.W.mg_of X G a27,
    F27.binds fun _ _ _ _ _ _ us hl=>match us,hl with | [_],_=>rfl,
    F28,
    PySem.W.mg_of X G a28,
    F28.binds fun _ _ _ _ _ _ us hl=>match us,hl with | [_],_=>rfl,
    F29,
    PySem.W.mg_of X G a29,
    F29.binds fun _ _ _ _ _ _ us hl=>match us,hl with | [_,_,_],_=>rfl,
    F30,
    PySem.W.mg_of X G a30,
    F30.binds fun _ _ _ _ _ _ us hl=>match us,hl with | [_,_,_,_],_=>rfl,
    F31,
    PySem.W.mg_of X G a31,
    F31.binds fun _ _ _ _ _ _ us hl=>match us,hl with | [_,_,_,_,_],_=>rfl,
    F32,
    PySem.W.mg_of X G a32,
    F32.binds fun _ _ _ _ _ _ us hl=>match us,hl with | [_],_=>rfl,
    F33,
    PySem.W.mg_of X G a33,
    F33.binds fun _ _ _ _ _ _ us hl=>match us,hl with | [_,_],_=>rfl,
    F34,
    PySem.W.mg_of X G a34,
    F34.binds fun _ _ _ _ _ _ us hl=>match us,hl with | [_],_=>rfl,
    F35,
    PySem.W.mg_of X G a35,
    F35.binds fun _ _ _ _ _ _ us hl=>match us,hl with | [_,_],_=>rfl,
    F36,
    PySem.W.mg_of X G a36,
    F36.binds fun _ _ _ _ _ _ us hl=>match us,hl with | [_],_=>rfl,
    F37,
    PySem.W.mg_of X G a37,
    F37.binds fun _ _ _ _ _ _ us hl=>match us,hl with | [_,_,_],_=>rfl,
    F38,
    PySem.W.mg_of X G a38,
    F38.binds fun _ _ _ _ _ _ us hl=>match us,hl with | [_,_,_,_],_=>rfl,
    F39,
    PySem.W.mg_of X G a39,
    F39.binds fun _ _ _ _ _ _ us hl=>match us,hl with | [_],_=>rfl,
    F40,
    PySem.W.mg_of X G a40,
    F40.binds fun _ _ _ _ _ _ us hl=>match us,hl with | [_,_],_=>rfl,
    F41,
    PySem.W.mg_of X G a41,
    F41.binds fun _ _ _ _ _ _ us hl=>match us,hl with | [_],_=>rfl,
    F42,
    PySem.W.mg_of X G a42,
    F42.binds fun _ _ _ _ _ _ us hl=>match us,hl with | [_],_=>rfl,
    F43,
    ⟨cF_Reader,a43,i43,cG_Reader⟩,
    F43.binds fun _ _ _ _ _ _ us hl=>match us,hl with | [_,_],_=>rfl,
    F44,
    ⟨a44,i44,k44⟩,
    F44.binds fun _ _ _ _ _ _ us hl=>match us,hl with | [_],_=>rfl,
    F45,
    ⟨a45,i45,k45⟩,
    F45.binds fun _ _ _ _ _ _ us hl=>match us,hl with | [_,_],_=>rfl,
    F46,
    ⟨a46,i46,k46⟩,
    F46.binds fun _ _ _ _ _ _ us hl=>match us,hl with | [_,_,_],_=>rfl,
    F47,
    ⟨a47,i47,k47⟩,
    F47.binds fun _ _ _ _ _ _ us hl=>match us,hl with | [_],_=>rfl,
    F48,
    ⟨a48,i48,k48⟩,
    F48.binds fun _ _ _ _ _ _ us hl=>match us,hl with | [_,_],_=>rfl,
    F49,
    ⟨a49,i49,k49⟩,
    F49.binds fun _ _ _ _ _ _ us hl=>match us,hl with | [_,_,_],_=>rfl,
    ⟨cB_Reader,cC_Reader,cD_Reader,cE_Reader⟩,
    PySem.W.mg_of X G cA_Reader,
    cN_Reader_signs,
    cN_Reader_passed,
    ⟨PySem.W.mg_of X G gc0,⟨_,rfl⟩⟩,
    ⟨PySem.W.mg_of X G gc1,⟨_,rfl⟩⟩,
    ⟨PySem.W.mg_of X G gc2,⟨_,rfl⟩⟩,
    ⟨PySem.W.mg_of X G gc3,⟨_,rfl⟩⟩,
    ⟨PySem.W.mg_of X G gc4,⟨_,rfl⟩⟩,
    ⟨PySem.W.mg_of X G gc5,⟨_,rfl⟩⟩,
    ⟨PySem.W.mg_of X G gc6,⟨_,rfl⟩⟩,
    ⟨PySem.W.mg_of X G gc7,⟨_,rfl⟩⟩,
    ⟨PySem.W.mg_of X G gc8,⟨_,rfl⟩⟩,
    ⟨PySem.W.mg_of X G gc9,⟨_,rfl⟩⟩,
    ⟨PySem.W.mg_of X G gc10,⟨_,rfl⟩⟩,
    ⟨PySem.W.mg_of X G gc11,⟨_,rfl⟩⟩,
    ⟨PySem.W.mg_of X G gc12,⟨_,rfl⟩⟩,
    ⟨PySem.W.mg_of X G gc13,⟨_,rfl⟩⟩,
    ⟨PySem.W.mg_of X G gc14,⟨_,rfl⟩⟩,
    ⟨PySem.W.mg_of X G gc15,⟨_,rfl⟩⟩,
    ⟨PySem.W.mg_of X G gc16,⟨_,rfl⟩⟩,
    ⟨PySem.W.mg_of X G gc17,⟨_,rfl⟩⟩,
    ⟨PySem.W.mg_of X G ta0_g,rfl⟩,
    fun H=>.inr ⟨_,_,_,tl0,rfl,rfl,(by show 16≤sizeLine;rw [sizeLine_eq];decide),(.cons ⟨_,rfl⟩ (.cons ⟨_,rfl⟩ (.cons ⟨_,rfl⟩ (.cons ⟨_,rfl⟩ (.cons ⟨_,rfl⟩ (.cons ⟨_,rfl⟩ (.cons ⟨_,rfl⟩ (.cons ⟨_,rfl⟩ (.cons ⟨_,rfl⟩ (.cons ⟨_,rfl⟩ (.cons ⟨_,rfl⟩ (.cons ⟨_,rfl⟩ (.cons ⟨_,rfl⟩ (.cons ⟨_,rfl⟩ (.cons ⟨_,rfl⟩ (.cons ⟨_,rfl⟩ .nil))))))))))))))))⟩,
    ⟨PySem.W.mg_of X G ta1_g,rfl⟩,
    fun H=>.inr ⟨_,_,_,tl1,rfl,rfl,(by show 3≤sizeLine;rw [sizeLine_eq];decide),(.cons ⟨_,rfl⟩ (.cons ⟨_,rfl⟩ (.cons ⟨_,rfl⟩ .nil)))⟩,
    ⟨PySem.W.mg_of X G na0_g,rfl⟩,
    fun H=>.inr ⟨_,_,_,nl0,rfl,rfl,(by show 6≤sizeLine;rw [sizeLine_eq];decide),(.cons rfl (.cons rfl (.cons rfl (.cons rfl (.cons rfl (.cons rfl .nil))))))⟩,
    fun H=>.inr ⟨_,_,_,nl0_0,rfl,rfl,(by show 1≤sizeLine;rw [sizeLine_eq];decide),(.cons ⟨_,rfl⟩ .nil)⟩,
    fun H=>.inr ⟨_,_,_,nl0_1,rfl,rfl,(by show 1≤sizeLine;rw [sizeLine_eq];decide),(.cons ⟨_,rfl⟩ .nil)⟩,
    fun H=>.inr ⟨_,_,_,nl0_2,rfl,rfl,(by show 1≤sizeLine;rw [sizeLine_eq];decide),(.cons ⟨_,rfl⟩ .nil)⟩,
    fun H=>.inr ⟨_,_,_,nl0_3,rfl,rfl,(by show 6≤sizeLine;rw [sizeLine_eq];decide),(.cons ⟨_,rfl⟩ (.cons ⟨_,rfl⟩ (.cons ⟨_,rfl⟩ (.cons ⟨_,rfl⟩ (.cons ⟨_,rfl⟩ (.cons ⟨_,rfl⟩ .nil))))))⟩,
    fun H=>.inr ⟨_,_,_,nl0_4,rfl,rfl,(by show 2≤sizeLine;rw [sizeLine_eq];decide),(.cons ⟨_,rfl⟩ (.cons ⟨_,rfl⟩ .nil))⟩,
    fun H=>.inr ⟨_,_,_,nl0_5,rfl,rfl,(by show 1≤sizeLine;rw [sizeLine_eq];decide),(.cons ⟨_,rfl⟩ .nil)⟩,
    PySem.W.mg_none_of X G z_len,
    PySem.W.mg_none_of X G z_all,
    PySem.W.mg_none_of X G z_isinstance,
    PySem.W.mg_none_of X G z_bool,
    PySem.W.mg_none_of X G z_int,
    PySem.W.mg_none_of X G z_str,
    PySem.W.mg_none_of X G z_list,
    PySem.W.mg_none_of X G z_dict,
    PySem.W.mg_none_of X G z_tuple,
    PySem.W.mg_none_of X G z_range,
    PySem.W.mg_none_of X G z_zip,
    PySem.W.mg_none_of X G z_sorted,
    PySem.W.mg_none_of X G z_enumerate,
    PySem.W.mg_of X G bg0,
    E0.2,
    PySem.W.mg_of X G ea0,
    E0.1,
    ep0⟩⟩
theorem walk {l:PySem.W.OpenLaw} {q:Program} {loose:List Str} {XP:(Str→Option Value)→Heap→Prop} {YP:World→Heap→Prop} {d:DefRec} {K:Params→PySem.W.Frag} (hn:l.most=some 63) (hdf:d.params.defaults=[])
    (hY:∀ (w:World) (h:Heap),YP w h→(K w.params).In h)
    (F:∀ (w:World) (mg:Str→Option Value) (fa:Addr) (h:Heap),(K w.params).In h→h.Ns mainGlobals mg→mg d.name=some (.ref fa) →
      ∃ fd:FuncData,(∀ (s:Shared) (u:Value),BindsTo s fd ⟨[u],[]⟩ [("_law_script",u)])∧∀ base:Heap,(K w.params).In base→base.Ns mainGlobals mg→FnOk l.prog w (K w.params) mg base CX0 510 fa fd ["_law_script"] (spLaw (K w.params))) :
    PySem.W.WalkO q loose XP YP l.row.toRowW d [] (fun f vs=>PySem.call f vs) :=
  L2.walk_of (n:=63) (k:=510) (x:="_law_script") (CX:=fun _=>CX0) (sp:=fun w=>spLaw (K w.params)) hn (by decide) hdf ⟨rfl,by decide,by decide,rfl⟩ hY F (fun _ _ a ns hl _ hS=>⟨a,ns,rfl,hS,hl,fun _=>rfl⟩) fun _ _ _ _ _ z=>z
theorem law_mk {l:PySem.W.OpenLaw} {w:World} {K:PySem.W.Frag} {h:Heap} {mg:Str→Option Value} {fa:Addr} (hfa:mg "law"=some (.ref fa)) (T:∃ a,Txt K mg a) :
    ∃ fd:FuncData,(∀ (s:Shared) (v:Value),BindsTo s fd ⟨[v],[]⟩ [("_law_script",v)])∧∀ base:Heap,K.In base→base.Ns mainGlobals mg→FnOk l.prog w K mg base CX0 510 fa fd ["_law_script"] (spLaw K):=by
  obtain ⟨a,T⟩:=T
  have e:=hfa.symm.trans T.m_law
  cases e
  obtain ⟨oc,od,kV,doc,pm,an,cdv,ct,osl,hfd,lk,hcd⟩:=T.F_law.ex
  refine ⟨a.d_law,fun s v=>?_,fun base _ _=>ok_law T⟩
  rw [hfd]
  exact .of_eq rfl
end My
theorem PySem.W.Fast.tw14354029645553635016 : True := trivial
theorem PySem.W.Fast.tw11349899909633075822 : True := trivial
theorem PySem.W.Fast.tw10854687495541663757 : True := trivial
theorem PySem.W.Fast.tw3929888401508151559 : True := trivial
theorem PySem.W.Fast.tw13578393885964213676 : True := trivial
theorem PySem.W.Fast.tw17578691517302877441 : True := trivial
theorem PySem.W.Fast.tw12795873165414431433 : True := trivial
theorem PySem.W.Fast.tw13760689545174072285 : True := trivial
theorem PySem.W.Fast.tw7983641628016593434 : True := trivial
theorem PySem.W.Fast.tw12464570080229515220 : True := trivial
theorem PySem.W.Fast.tw18152162048758708126 : True := trivial
theorem PySem.W.Fast.tw16825715826599647354 : True := trivial
theorem PySem.W.Fast.tw11455316702828872662 : True := trivial
theorem PySem.W.Fast.tw11334714779152579563 : True := trivial
theorem PySem.W.Fast.tw10972141579337173298 : True := trivial
theorem PySem.W.Fast.tw9543888646047140224 : True := trivial
theorem PySem.W.Fast.tw15659666540026568812 : True := trivial
theorem PySem.W.Fast.tw6068654030202445530 : True := trivial
theorem PySem.W.Fast.tw9265028214217691610 : True := trivial
theorem PySem.W.Fast.tw9551546661056145108 : True := trivial
theorem PySem.W.Fast.tw15495834476829100650 : True := trivial
theorem PySem.W.Fast.tw9740864493236611010 : True := trivial
theorem PySem.W.Fast.tw7482121791525440581 : True := trivial
theorem PySem.W.Fast.tw12795583932830394178 : True := trivial
theorem PySem.W.Fast.tw15922854834400118101 : True := trivial
theorem PySem.W.Fast.tw346893924248693130 : True := trivial
theorem PySem.W.Fast.tw10465611445194951216 : True := trivial
theorem PySem.W.Fast.tw2739723987504789182 : True := trivial
theorem PySem.W.Fast.tw1203898745659384477 : True := trivial
theorem PySem.W.Fast.tw15456377966214713453 : True := trivial
theorem PySem.W.Fast.tw1885415563471855315 : True := trivial
theorem PySem.W.Fast.tw3075805257330788314 : True := trivial
theorem PySem.W.Fast.tw16880595406450996997 : True := trivial
theorem PySem.W.Fast.tw4713170185603808509 : True := trivial
theorem PySem.W.Fast.tw12306390689343054914 : True := trivial
theorem PySem.W.Fast.tw4217504467918477112 : True := trivial
theorem PySem.W.Fast.tw17580977096742749046 : True := trivial
theorem PySem.W.Fast.tw4373959342432867702 : True := trivial
theorem PySem.W.Fast.tw9609500279428806940 : True := trivial
theorem PySem.W.Fast.tw18251234269907822827 : True := trivial
theorem PySem.W.Fast.tw5382823951946674575 : True := trivial
theorem PySem.W.Fast.tw9910794368038144060 : True := trivial
theorem PySem.W.Fast.tw10757003380813072260 : True := trivial
theorem PySem.W.Fast.tw4329705664377934938 : True := trivial
theorem PySem.W.Fast.tw450850534494288257 : True := trivial
theorem PySem.W.Fast.tw874983167355185871 : True := trivial
theorem PySem.W.Fast.tw9494095452941640550 : True := trivial
theorem PySem.W.Fast.tw7652861543353123719 : True := trivial
theorem PySem.W.Fast.tw13658873317410331262 : True := trivial
theorem PySem.W.Fast.tw13311359389571409797 : True := trivial
theorem PySem.W.Fast.tw5621393393915151339 : True := trivial
theorem PySem.W.Fast.tw5018516039881979355 : True := trivial
theorem PySem.W.Fast.tw12601934451823049684 : True := trivial
theorem PySem.W.Fast.tw8137341410284204237 : True := trivial
theorem PySem.W.Fast.tw10252197515840177955 : True := trivial
theorem PySem.W.Fast.tw1168877563971617990 : True := trivial
theorem PySem.W.Fast.tw1761558132192977196 : True := trivial
theorem PySem.W.Fast.tw9765476933734743864 : True := trivial
theorem PySem.W.Fast.tw7536257462959705072 : True := trivial
theorem PySem.W.Fast.tw2338234923487904089 : True := trivial
open PySem PySem.W PyProof.Rows
set_option maxRecDepth 100000 in
set_option maxHeartbeats 0 in
theorem PySem.Challenge.cw_logdelve_k07_terms_misread_holds : PySem.Challenge.rw_logdelve_k07_terms_misread.Holds := by
  w_on;o_law;k_head;(case hw=>w_witness2)
  k_fill
  refine My.walk (l:=PySem.Challenge.rw_logdelve_k07_terms_misread) rfl rfl (fun w h Y=>PySem.W.kIn_of Y) ?F
  case F =>
    intro w mg fa h KX G hmg
    have T:∃ a,My.Txt (L2.KOf KX) mg a:=by
      dsimp only [L2.KOf]
      refine' My.mk_txt KX G ?cA_Reader ?cB_Reader ?cC_Reader ?cD_Reader ?cE_Reader ?cF_Reader ?cG_Reader ?cN_Reader_signs ?cN_Reader_passed ?a0 ?l0 ?c0 ?k0 ?a1 ?l1 ?c1 ?k1 ?a2 ?l2 ?c2 ?k2 ?a3 ?l3 ?c3 ?k3 ?a4 ?l4 ?c4 ?k4 ?a5 ?l5 ?c5 ?k5 ?a6 ?l6 ?c6 ?k6 ?a7 ?l7 ?c7 ?k7 ?a8 ?l8 ?c8 ?k8 ?a9 ?l9 ?c9 ?k9 ?a10 ?l10 ?c10 ?k10 ?a11 ?l11 ?c11 ?k11 ?a12 ?l12 ?c12 ?k12 ?a13 ?l13 ?c13 ?k13 ?a14 ?l14 ?c14 ?k14 ?a15 ?l15 ?c15 ?k15 ?a16 ?l16 ?c16 ?k16 ?a17 ?l17 ?c17 ?k17 ?a18 ?l18 ?c18 ?k18 ?a19 ?l19 ?c19 ?k19 ?a20 ?l20 ?c20 ?k20 ?a21 ?l21 ?c21 ?k21 ?a22 ?l22 ?c22 ?k22 ?a23 ?l23 ?c23 ?k23 ?a24 ?l24 ?c24 ?k24 ?a25 ?l25 ?c25 ?k25 ?a26 ?l26 ?c26 ?k26 ?a27 ?l27 ?c27 ?k27 ?a28 ?l28 ?c28 ?k28 ?a29 ?l29 ?c29 ?k29 ?a30 ?l30 ?c30 ?k30 ?a31 ?l31 ?c31 ?k31 ?a32 ?l32 ?c32 ?k32 ?a33 ?l33 ?c33 ?k33 ?a34 ?l34 ?c34 ?k34 ?a35 ?l35 ?c35 ?k35 ?a36 ?l36 ?c36 ?k36 ?a37 ?l37 ?c37 ?k37 ?a38 ?l38 ?c38 ?k38 ?a39 ?l39 ?c39 ?k39 ?a40 ?l40 ?c40 ?k40 ?a41 ?l41 ?c41 ?k41 ?a42 ?l42 ?c42 ?k42 ?a43 ?i43 ?l43 ?c43 ?k43 ?a44 ?i44 ?l44 ?c44 ?k44 ?a45 ?i45 ?l45 ?c45 ?k45 ?a46 ?i46 ?l46 ?c46 ?k46 ?a47 ?i47 ?l47 ?c47 ?k47 ?a48 ?i48 ?l48 ?c48 ?k48 ?a49 ?i49 ?l49 ?c49 ?k49 ?gc0 ?gc1 ?gc2 ?gc3 ?gc4 ?gc5 ?gc6 ?gc7 ?gc8 ?gc9 ?gc10 ?gc11 ?gc12 ?gc13 ?gc14 ?gc15 ?gc16 ?gc17 ?ta0_g ?tl0 ?ta1_g ?tl1 ?na0_g ?nl0 ?nl0_0 ?nl0_1 ?nl0_2 ?nl0_3 ?nl0_4 ?nl0_5 ?z_len ?z_all ?z_isinstance ?z_bool ?z_int ?z_str ?z_list ?z_dict ?z_tuple ?z_range ?z_zip ?z_sorted ?z_enumerate ?bg0 ?bh0 ?bk0 ?bl0 ?bm0 ?ea0 ?eb0 ?ec0 ?ed0 ?ee0 ?ef0 ?eg0 ?eh0 ?ei0 ?ej0 ?ek0 ?el0 ?em0 ?en0 ?eo0 ?eq0 ?ep0
      (case cA_Reader=>k_is)
      (case cB_Reader=>k_is)
      (case cC_Reader=>k_is)
      (case cD_Reader=>k_is)
      (case cE_Reader=>k_is)
      (case cF_Reader=>k_is)
      (case cG_Reader=>k_is)
      (case cN_Reader_signs=>k_is)
      (case cN_Reader_passed=>k_is)
      (case a0=>k_is)
      (case l0=>k_is)
      (case c0=>k_is)
      (case k0=>k_is)
      (case a1=>k_is)
      (case l1=>k_is)
      (case c1=>k_is)
      (case k1=>k_is)
      (case a2=>k_is)
      (case l2=>k_is)
      (case c2=>k_is)
      (case k2=>k_is)
      (case a3=>k_is)
      (case l3=>k_is)
      (case c3=>k_is)
      (case k3=>k_is)
      (case a4=>k_is)
      (case l4=>k_is)
      (case c4=>k_is)
      (case k4=>k_is)
      (case a5=>k_is)
      (case l5=>k_is)
      (case c5=>k_is)
      (case k5=>k_is)
      (case a6=>k_is)
      (case l6=>k_is)
      (case c6=>k_is)
      (case k6=>k_is)
      (case a7=>k_is)
      (case l7=>k_is)
      (case c7=>k_is)
      (case k7=>k_is)
      (case a8=>k_is)
      (case l8=>k_is)
      (case c8=>k_is)
      (case k8=>k_is)
      (case a9=>k_is)
      (case l9=>k_is)
      (case c9=>k_is)
      (case k9=>k_is)
      (case a10=>k_is)
      (case l10=>k_is)
      (case c10=>k_is)
      (case k10=>k_is)
      (case a11=>k_is)
      (case l11=>k_is)
      (case c11=>k_is)
      (case k11=>k_is)
      (case a12=>k_is)
      (case l12=>k_is)
      (case c12=>k_is)
      (case k12=>k_is)
      (case a13=>k_is)
      (case l13=>k_is)
      (case c13=>k_is)
      (case k13=>k_is)
      (case a14=>k_is)
      (case l14=>k_is)
      (case c14=>k_is)
      (case k14=>k_is)
      (case a15=>k_is)
      (case l15=>k_is)
      (case c15=>k_is)
      (case k15=>k_is)
      (case a16=>k_is)
      (case l16=>k_is)
      (case c16=>k_is)
      (case k16=>k_is)
      (case a17=>k_is)
      (case l17=>k_is)
      (case c17=>k_is)
      (case k17=>k_is)
      (case a18=>k_is)
      (case l18=>k_is)
      (case c18=>k_is)
      (case k18=>k_is)
      (case a19=>k_is)
      (case l19=>k_is)
      (case c19=>k_is)
      (case k19=>k_is)
      (case a20=>k_is)
      (case l20=>k_is)
      (case c20=>k_is)
      (case k20=>k_is)
      (case a21=>k_is)
      (case l21=>k_is)
      (case c21=>k_is)
      (case k21=>k_is)
      (case a22=>k_is)
      (case l22=>k_is)
      (case c22=>k_is)
      (case k22=>k_is)
      (case a23=>k_is)
      (case l23=>k_is)
      (case c23=>k_is)
      (case k23=>k_is)
      (case a24=>k_is)
      (case l24=>k_is)
      (case c24=>k_is)
      (case k24=>k_is)
      (case a25=>k_is)
      (case l25=>k_is)
      (case c25=>k_is)
      (case k25=>k_is)
      (case a26=>k_is)
      (case l26=>k_is)
      (case c26=>k_is)
      (case k26=>k_is)
      (case a27=>k_is)
      (case l27=>k_is)
      (case c27=>k_is)
      (case k27=>k_is)
      (case a28=>k_is)
      (case l28=>k_is)
      (case c28=>k_is)
      (case k28=>k_is)
      (case a29=>k_is)
      (case l29=>k_is)
      (case c29=>k_is)
      (case k29=>k_is)
      (case a30=>k_is)
      (case l30=>k_is)
      (case c30=>k_is)
      (case k30=>k_is)
      (case a31=>k_is)
      (case l31=>k_is)
      (case c31=>k_is)
      (case k31=>k_is)
      (case a32=>k_is)
      (case l32=>k_is)
      (case c32=>k_is)
      (case k32=>k_is)
      (case a33=>k_is)
      (case l33=>k_is)
      (case c33=>k_is)
      (case k33=>k_is)
      (case a34=>k_is)
      (case l34=>k_is)
      (case c34=>k_is)
      (case k34=>k_is)
      (case a35=>k_is)
      (case l35=>k_is)
      (case c35=>k_is)
      (case k35=>k_is)
      (case a36=>k_is)
      (case l36=>k_is)
      (case c36=>k_is)
      (case k36=>k_is)
      (case a37=>k_is)
      (case l37=>k_is)
      (case c37=>k_is)
      (case k37=>k_is)
      (case a38=>k_is)
      (case l38=>k_is)
      (case c38=>k_is)
      (case k38=>k_is)
      (case a39=>k_is)
      (case l39=>k_is)
      (case c39=>k_is)
      (case k39=>k_is)
      (case a40=>k_is)
      (case l40=>k_is)
      (case c40=>k_is)
      (case k40=>k_is)
      (case a41=>k_is)
      (case l41=>k_is)
      (case c41=>k_is)
      (case k41=>k_is)
      (case a42=>k_is)
      (case l42=>k_is)
      (case c42=>k_is)
      (case k42=>k_is)
      (case a43=>k_is)
      (case i43=>k_is)
      (case l43=>k_is)
      (case c43=>k_is)
      (case k43=>k_is)
      (case a44=>k_is)
      (case i44=>k_is)
      (case l44=>k_is)
      (case c44=>k_is)
      (case k44=>k_is)
      (case a45=>k_is)
      (case i45=>k_is)
      (case l45=>k_is)
      (case c45=>k_is)
      (case k45=>k_is)
      (case a46=>k_is)
      (case i46=>k_is)
      (case l46=>k_is)
      (case c46=>k_is)
      (case k46=>k_is)
      (case a47=>k_is)
      (case i47=>k_is)
      (case l47=>k_is)
      (case c47=>k_is)
      (case k47=>k_is)
      (case a48=>k_is)
      (case i48=>k_is)
      (case l48=>k_is)
      (case c48=>k_is)
      (case k48=>k_is)
      (case a49=>k_is)
      (case i49=>k_is)
      (case l49=>k_is)
      (case c49=>k_is)
      (case k49=>k_is)
      (case gc0=>k_is)
      (case gc1=>k_is)
      (case gc2=>k_is)
      (case gc3=>k_is)
      (case gc4=>k_is)
      (case gc5=>k_is)
      (case gc6=>k_is)
      (case gc7=>k_is)
      (case gc8=>k_is)
      (case gc9=>k_is)
      (case gc10=>k_is)
      (case gc11=>k_is)
      (case gc12=>k_is)
      (case gc13=>k_is)
      (case gc14=>k_is)
      (case gc15=>k_is)
      (case gc16=>k_is)
      (case gc17=>k_is)
      (case ta0_g=>k_is)
      (case tl0=>k_is)
      (case ta1_g=>k_is)
      (case tl1=>k_is)
      (case na0_g=>k_is)
      (case nl0=>k_is)
      (case nl0_0=>k_is)
      (case nl0_1=>k_is)
      (case nl0_2=>k_is)
      (case nl0_3=>k_is)
      (case nl0_4=>k_is)
      (case nl0_5=>k_is)
      (case z_len=>k_is)
      (case z_all=>k_is)
      (case z_isinstance=>k_is)
      (case z_bool=>k_is)
      (case z_int=>k_is)
      (case z_str=>k_is)
      (case z_list=>k_is)
      (case z_dict=>k_is)
      (case z_tuple=>k_is)
      (case z_range=>k_is)
      (case z_zip=>k_is)
      (case z_sorted=>k_is)
      (case z_enumerate=>k_is)
      (case bg0=>k_is)
      (case bh0=>k_is)
      (case bk0=>k_is)
      (case bl0=>rfl)
      (case bm0=>k_is)
      (case ea0=>k_is)
      (case eb0=>k_is)
      (case ec0=>k_is)
      (case ed0=>k_is)
      (case ee0=>k_is)
      (case ef0=>k_is)
      (case eg0=>k_is)
      (case eh0=>k_is)
      (case ei0=>k_is)
      (case ej0=>k_is)
      (case ek0=>k_is)
      (case el0=>k_is)
      (case em0=>k_is)
      (case en0=>k_is)
      (case eo0=>k_is)
      (case eq0=>k_is)
      (case ep0=>k_is)
    exact My.law_mk (h:=h) hmg T
