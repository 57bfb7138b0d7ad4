import PyProof.Rows.All
import Wide.All
import OpenK.AllK
import Wide.FinOn
import Lean
import PyProof.EqAt
import PyProof.EqKinds
import PyProof.TupleCall
import PyProof.NeKinds
import KE.KIntText
import PyProof.ExcAttrAll.ValueError
import KE.KDictList
import KE.KDictOf
import PyProof.AttrMissHeap
import PyProof.Rows.SortStr
import KE.KRevSl
import PyProof.Draws
import PyProof.EnumMake
import KE.KNest
import KE.KLam
import KE.KNestM
import PyProof.FitsBits
import PyProof.ReprRoads
import PyProof.StrLawsRepr
import PyProof.Rows.StrNews2
import PyProof.DictUpdate
import PyProof.DictTable
import PyProof.StrOps2
import KE.KTab
import KE.KStar
import KE.KUnpackStar
import PyProof.TupleKey
import PyProof.DictRoadsH
import PyProof.TupleOfStr
import PySem.Challenge.RW_logdelve_k14_questions_misread
set_option Elab.async false
set_option linter.all false
set_option maxRecDepth 100000
namespace L2
open PySem PySem.Spec PyProof.Rows
abbrev Key:=Sum Int Str
def keyIs:Key→Value→Bool
  | .inl k,v=>Value.isInt k v
  | .inr x,v=>Value.isStrOf x v
def keyH (w:World):Key→Int
  | .inl k=>hashInt k
  | .inr x=>hashStr w x
theorem keyIs_shape:∀ {k:Key} {v:Value},keyIs k v=true→(∃ i t,k=Sum.inl i∧v=Value.int i t)∨(∃ x t,k=Sum.inr x∧v=Value.str x t)
  | .inl i,v,h=>by
    obtain ⟨t,e⟩:=Value.isInt_shape (k:=i) (v:=v) h
    exact .inl ⟨i,t,rfl,e⟩
  | .inr x,v,h=>by
    obtain ⟨t,e⟩:=Value.isStrOf_shape (x:=x) (v:=v) h
    exact .inr ⟨x,t,rfl,e⟩
theorem keyIs_int (i:Int) (t:Tok):keyIs (.inl i) (.int i t)=true:=by simp [keyIs,Value.isInt]
theorem keyIs_str (x:Str) (t:Tok):keyIs (.inr x) (.str x t)=true:=by simp [keyIs,Value.isStrOf]
theorem key_ll (a b:Int):decide ((Sum.inl a:Key)=Sum.inl b)=(a == b):=by
  by_cases e:a=b
  · subst e;simp
  · have h:¬ (Sum.inl a:Key)=Sum.inl b:=fun q=>e (Sum.inl.inj q)
    rw [decide_eq_false h]
    exact (beq_eq_false_iff_ne.mpr e).symm
theorem key_rr (a b:Str):decide ((Sum.inr a:Key)=Sum.inr b)=decide (a=b):=by
  by_cases e:a=b
  · subst e;simp
  · have h:¬ (Sum.inr a:Key)=Sum.inr b:=fun q=>e (Sum.inr.inj q)
    rw [decide_eq_false h,decide_eq_false e]
theorem key_lr (a:Int) (b:Str):decide ((Sum.inl a:Key)=Sum.inr b)=false:=decide_eq_false (fun q=>nomatch q)
theorem key_rl (a:Str) (b:Int):decide ((Sum.inr a:Key)=Sum.inl b)=false:=decide_eq_false (fun q=>nomatch q)
def mixKind (prog:Program) (w:World):PySem.KeyKind prog w Key where
  is:=keyIs
  hash:=keyH w
  inj := fun v a b ha hb=>by
    rcases keyIs_shape ha with ⟨i,t,rfl,rfl⟩ | ⟨x,t,rfl,rfl⟩
    · rcases keyIs_shape hb with ⟨j,u,rfl,e⟩ | ⟨y,u,rfl,e⟩
      · injection e with e1 _;rw [e1]
      · exact nomatch e
    · rcases keyIs_shape hb with ⟨j,u,rfl,e⟩ | ⟨y,u,rfl,e⟩
      · exact nomatch e
      · injection e with e1 _;rw [e1]
  byValue:=fun k v h=>by
    rcases keyIs_shape h with ⟨i,t,rfl,rfl⟩ | ⟨x,t,rfl,rfl⟩ <;> rfl
  pyHash:=fun hv h=>by
    rcases keyIs_shape hv with ⟨i,t,rfl,rfl⟩ | ⟨x,t,rfl,rfl⟩
    · exact wpAny_pyHash_int h
    · exact wpAny_pyHash_str h
  eqBool:=fun hu hv h=>by
    rcases keyIs_shape hu with ⟨i,t,rfl,rfl⟩ | ⟨x,t,rfl,rfl⟩
    · rcases keyIs_shape hv with ⟨j,u,rfl,rfl⟩ | ⟨y,u,rfl,rfl⟩
      · rw [key_ll] at h;exact wpAny_eqBool_int h
      · rw [key_lr] at h;exact SeqAt.EqAt.int_str i t y u _ _ _ _ h
    · rcases keyIs_shape hv with ⟨j,u,rfl,rfl⟩ | ⟨y,u,rfl,rfl⟩
      · rw [key_rl] at h;exact SeqAt.EqAt.str_int x t j u _ _ _ _ h
      · rw [key_rr] at h;exact wpAny_eqBool_str h
  «strs»:=fun k x t v h=>by
    rcases keyIs_shape h with ⟨i,u,rfl,e⟩ | ⟨y,u,rfl,e⟩
    · exact nomatch e
    · injection e with e1 _
      subst e1
      cases v <;> rfl
theorem mixKind_int (prog:Program) (w:World) (i:Int) (t:Tok):(mixKind prog w).is (.inl i) (.int i t)=true:=keyIs_int i t
theorem mixKind_str (prog:Program) (w:World) (x:Str) (t:Tok):(mixKind prog w).is (.inr x) (.str x t)=true:=keyIs_str x t
end L2
namespace L2
open PySem PySem.Spec PyProof.Rows
inductive V where
  | non | bl (b:Bool) | int (i:Int) | str (x:Str) | byt (b:Array UInt8) | flt (b:UInt64) | ref (a:Addr) | ty (n:String)
  deriving DecidableEq
def RelV:V→Value→Prop
  | .non,u=>u=Value.none
  | .bl b,u=>u=Value.bool b
  | .int i,u=>∃ t,u=Value.int i t
  | .str x,u=>∃ t,u=Value.str x t
  | .byt b,u=>∃ t,u=Value.bytes b t
  | .flt b,u=>∃ t,u=Value.float b t
  | .ref a,u=>u=Value.ref a
  | .ty n,u=>u=Value.type n
abbrev Vals:List V→List Value→Prop:=Paired RelV
theorem Vals.length {xs:List V} {us:List Value} (r:Vals xs us):xs.length=us.length:=Paired.length r
theorem Vals.get:∀ {xs:List V} {us:List Value} {i:Nat} {x:V},Vals xs us→xs[i]?=some x→∃ u,us[i]?=some u∧RelV x u
  | _,_,_,_,.nil,e=>by simp at e
  | _,_,0,_,.cons r _,e=>by simp at e;subst e;exact ⟨_,rfl,r⟩
  | _,_,i+1,x,.cons _ t,e=>by
    obtain ⟨u,h1,h2⟩:=Vals.get (i:=i) (x:=x) t (by simpa using e)
    exact ⟨u,by simpa using h1,h2⟩
theorem Vals.set {x:V} {u:Value} (r:RelV x u):∀ {xs:List V} {us:List Value} (i:Nat),Vals xs us→Vals (xs.set i x) (us.set i u)
  | _,_,_,.nil=>.nil
  | _,_,0,.cons _ t=>.cons r t
  | _,_,i+1,.cons q t=>.cons q (Vals.set r i t)
theorem Vals.append:∀ {xs ys:List V} {us ws:List Value},Vals xs us→Vals ys ws→Vals (xs++ys) (us++ws)
  | _,_,_,_,.nil,s=>s
  | _,_,_,_,.cons r t,s=>.cons r (Vals.append t s)
theorem Vals.take:∀ {xs:List V} {us:List Value} (n:Nat),Vals xs us→Vals (xs.take n) (us.take n)
  | _,_,0,_=>.nil
  | _,_,_+1,.nil=>.nil
  | _,_,n+1,.cons r t=>.cons r (Vals.take n t)
theorem Vals.drop:∀ {xs:List V} {us:List Value} (n:Nat),Vals xs us→Vals (xs.drop n) (us.drop n)
  | _,_,0,r=>r
  | _,_,_+1,.nil=>.nil
  | _,_,n+1,.cons _ t=>Vals.drop n t
def RelO:Option V→Option Value→Prop
  | some v,some u=>RelV v u
  | none,none=>True
  | _,_=>False
def KV {κ:Type}:List (κ × V)→List (κ × Value)→Prop:=Paired fun (p:κ × V) (q:κ × Value)=>p.1=q.1∧RelV p.2 q.2
def kV:Key→V
  | .inl i=>.int i
  | .inr x=>.str x
inductive HO where
    | lst (xs:List V)
    | tup (xs:List V)
    | dK (kvs:List (Key × V)) | dT (kvs:List (List Key × V))
    | set (S:Int→Bool) (n:Nat)
    | ins (C dx:Addr) (fs:List (Str × V))
    | own (x:Addr)
    | xd (fs:List (Str × V))
    | met (f x:Addr)
    | rng (lo hi:Int)
    | frz (o:Obj) (u:HO)
    | tbl (ps:Array Value)
    | ext (φ:Heap→Prop)
abbrev Hp:=Addr→Option HO
def upd (H:Hp) (a:Addr) (o:HO):Hp:=fun b=>if b=a then some o else H b
theorem uS_ {H:Hp} {a:Addr} {o:HO}:upd H a o a=some o:=by unfold upd;rw [if_pos rfl]
theorem upd_ne {H:Hp} {a b:Addr} {o:HO} (h:b≠a):upd H a o b=H b:=by unfold upd;rw [if_neg h]
theorem upd_upd {H:Hp} {a:Addr} {o u:HO}:upd (upd H a o) a u=upd H a u:=by
  funext b;unfold upd;split <;> rfl
theorem ne_of {H:Hp} {a b:Addr} {o u:HO} (h:H a=some o) (h':H b=some u) (d:o≠u):a≠b:=by
  intro e;subst e;rw [h] at h';exact d (Option.some.inj h')
theorem ne_of_none {H:Hp} {a b:Addr} {o:HO} (h:H a=some o) (h':H b=none):a≠b:=by
  intro e;subst e;rw [h] at h';cases h'
section
variable (P:Program) (w:World)
def ObjOk (H:Hp) (h:Heap) (a:Addr):HO→Prop
  | .lst xs=>xs.length≤sizeLine∧∃ (its:List Value) (n:Nat),Vals xs its∧h.get? a=some { cls:=.type "list",data:=.seq its.toArray n }
  | .tup xs=>xs.length≤sizeLine∧∃ its:List Value,Vals xs its∧IsTup h a its.toArray
  | .dK kvs=>kvs.length≤sizeLine∧(a == sysModules)=false∧∃ vs,KV kvs vs∧h.DictOf (mixKind P w) a vs
  | .dT kvs=>kvs.length≤sizeLine∧(a == sysModules)=false∧∃ xs:List (List Key × Addr × Value),
      Paired (fun (p:List Key × V) (q:List Key × Addr × Value)=>p.1=q.1∧H q.2.1=some (.tup (p.1.map kV))∧RelV p.2 q.2.2) kvs xs ∧
      ∃ o es ep,h.get? a=some o∧o.ExactDict∧o.data=.dict es ep∧es.toList=xs.map (entryOfKey (tupleKind (mixKind P w)))∧(xs.map (·.1)).Nodup
  | .set S n=>h.SetOf (intKind P w) a S n
  | .ins C dx fs=>H dx=some (.own a)∧fs.length≤1000∧dx≠a∧h.get? a=some (PySem.W.instObj C dx) ∧
      ∃ mA,h.Ns1 dx mA∧(∀ f,RelO (fs.lookup f) (mA f))∧PySem.Within mA (fs.map (·.1))
  | .own _=>∃ o,h.get? a=some o
  | .xd fs=>∃ mA,h.Ns1 a mA∧∀ f,RelO (fs.lookup f) (mA f)
  | .rng lo hi=>∃ t u v,h.get? a=some { cls:=.type "range",data:=.fields #[.int lo t,.int hi u,.int 1 v] }
  | .frz o u=>h.get? a=some o∧ObjOk H h a u
  | .tbl ps=>h.get? a=some { cls:=.none,data:=.fields ps }
  | .met f x=>h.get? a=some (PySem.W.methodObj (.ref f) (.ref x))
  | .ext φ=>φ h∧(∃ o,h.get? a=some o)∧∀ h1 h2:Heap,φ h1→(∀ o,h1.get? a=some o→h2.get? a=some o)→φ h2
def HOk (H:Hp) (h:Heap):Prop:=∀ a o,H a=some o→ObjOk P w H h a o
end
section
variable {P:Program} {w:World} {H H':Hp} {h h':Heap} {a:Addr} {o:HO}
theorem ObjOk.lt (x:ObjOk P w H h a o):a < h.objs.size:=by
  cases o with
  | lst xs=>obtain ⟨_,_,_,_,e⟩:=x;exact Heap.lt_size e
  | tup xs=>obtain ⟨_,_,_,p⟩:=x;exact p.lt
  | dK kvs=>obtain ⟨_,_,_,_,o,_,_,e,_⟩:=x;exact Heap.lt_size e
  | dT kvs=>obtain ⟨_,_,_,_,o,_,_,e,_⟩:=x;exact Heap.lt_size e
  | set S n=>obtain ⟨o,_,_,_,e,_⟩:=x;exact Heap.lt_size e
  | ins C dx fs=>obtain ⟨_,_,_,e,_⟩:=x;exact Heap.lt_size e
  | own y=>obtain ⟨_,e⟩:=x;exact Heap.lt_size e
  | xd fs=>obtain ⟨_,⟨_,_,_,e,_⟩,_⟩:=x;exact Heap.lt_size e
  | rng lo hi=>obtain ⟨_,_,_,e⟩:=x;exact Heap.lt_size e
  | frz ob u=>obtain ⟨e,_⟩:=x;exact Heap.lt_size e
  | tbl ps=>exact Heap.lt_size (show h.get? a=some _ from x)
  | met f y=>exact Heap.lt_size (show h.get? a=some _ from x)
  | ext φ=>obtain ⟨_,⟨_,e⟩,_⟩:=x;exact Heap.lt_size e
theorem Paired.mapP {α β:Type} {F G:α→β→Prop}:∀ {l₁:List α} {l₂:List β},Paired F l₁ l₂→(∀ a b,F a b→G a b)→Paired G l₁ l₂
  | _,_,.nil,_=>.nil
  | _,_,.cons r t,f=>.cons (f _ _ r) (Paired.mapP t f)
theorem ObjOk.stay (x:ObjOk P w H h a o) (k:∀ b u,(b=a∨H b=some (.own a))→h.get? b=some u→h'.get? b=some u)
    (ho:∀ b,H b=some (.own a)→H' b=some (.own a)) (ht:∀ b xs,H b=some (.tup xs)→H' b=some (.tup xs)):ObjOk P w H' h' a o:=by
  induction o with
  | lst xs=>obtain ⟨z,its,n,r,e⟩:=x;exact ⟨z,its,n,r,k _ _ (.inl rfl) e⟩
  | tup xs=>obtain ⟨z,its,r,ob,e,c⟩:=x;exact ⟨z,its,r,ob,k _ _ (.inl rfl) e,c⟩
  | dK kvs=>obtain ⟨z,y,vs,r,ob,es,ep,e,c⟩:=x;exact ⟨z,y,vs,r,ob,es,ep,k _ _ (.inl rfl) e,c⟩
  | dT kvs =>
    obtain ⟨z,y,xs,r,ob,es,ep,e,c⟩:=x
    exact ⟨z,y,xs,Paired.mapP r fun p q z=>⟨z.1,ht _ _ z.2.1,z.2.2⟩,ob,es,ep,k _ _ (.inl rfl) e,c⟩
  | set S n=>obtain ⟨ob,es,ep,t,e,c⟩:=x;exact ⟨ob,es,ep,t,k _ _ (.inl rfl) e,c⟩
  | ins C dx fs =>
    obtain ⟨d,z,ne,e,mA,⟨od,es,ep,e2,c⟩,r⟩:=x
    exact ⟨ho _ d,z,ne,k _ _ (.inl rfl) e,mA,⟨od,es,ep,k _ _ (.inr d) e2,c⟩,r⟩
  | own y=>obtain ⟨ob,e⟩:=x;exact ⟨ob,k _ _ (.inl rfl) e⟩
  | xd fs=>obtain ⟨mA,⟨od,es,ep,e,c⟩,r⟩:=x;exact ⟨mA,⟨od,es,ep,k _ _ (.inl rfl) e,c⟩,r⟩
  | rng lo hi=>obtain ⟨t,u,v,e⟩:=x;exact ⟨t,u,v,k _ _ (.inl rfl) e⟩
  | frz ob u ih=>obtain ⟨e,q⟩:=x;exact ⟨k _ _ (.inl rfl) e,ih q⟩
  | tbl ps =>
    have e:h.get? a=some { cls:=.none,data:=.fields ps }:=x
    show h'.get? a=some { cls:=.none,data:=.fields ps }
    exact k a _ (.inl rfl) e
  | met f y =>
    have e:h.get? a=some (PySem.W.methodObj (.ref f) (.ref y)):=x
    show h'.get? a=some (PySem.W.methodObj (.ref f) (.ref y))
    exact k a _ (.inl rfl) e
  | ext φ=>obtain ⟨p,⟨o,e⟩,st⟩:=x;exact ⟨st _ _ p fun o q=>k _ _ (.inl rfl) q,⟨o,k _ _ (.inl rfl) e⟩,st⟩
theorem HOk.lt (x:HOk P w H h) (e:H a=some o):a < h.objs.size:=(x a o e).lt
theorem HOk.fresh (x:HOk P w H h) (e:h.objs.size≤a):H a=none:=by
  cases q:H a with
  | none=>rfl
  | some u=>exact absurd (Nat.lt_of_lt_of_le (x.lt q) e) (Nat.lt_irrefl _)
theorem HOk.kept (x:HOk P w H h) (k:∀ b u,h.get? b=some u→h'.get? b=some u):HOk P w H h':=fun a o e =>
  (x a o e).stay (fun b u _ q=>k b u q) (fun _ q=>q) fun _ _ q=>q
theorem HOk.laid (x:HOk P w H h) (k:∀ b u,h.get? b=some u→h'.get? b=some u) (hp:h.objs.size≤a) (new:ObjOk P w (upd H a o) h' a o):HOk P w (upd H a o) h':=fun b u e=>by
  have hn:=x.fresh hp
  by_cases hb:b=a
  · subst hb;rw [uS_] at e;cases e;exact new
  · rw [upd_ne hb] at e
    exact (x b u e).stay (fun c v _ q=>k c v q) (fun c q=>by rw [upd_ne (ne_of_none q hn)];exact q) fun c xs q=>by rw [upd_ne (ne_of_none q hn)];exact q
end
def Rd (H:Hp) (a:Addr) (u:HO):Prop:=H a=some u∨∃ o,H a=some (.frz o u)
theorem Rd.ok {P:Program} {w:World} {H:Hp} {h:Heap} {a:Addr} {u:HO} (r:Rd H a u) (x:HOk P w H h):ObjOk P w H h a u:=by
  rcases r with r | ⟨o,r⟩
  · exact x a u r
  · obtain ⟨_,q⟩:=x a _ r
    exact q
def Mut:Option HO→Prop
  | some (.lst _)=>True
  | some (.dK _)=>True
  | some (.dT _)=>True
  | some (.set _ _)=>True
  | some (.ins _ _ _)=>True
  | some (.ext _)=>True
  | _=>False
section
variable {P:Program} {w:World} {H:Hp} {h h':Heap} {x e:Addr} {o':HO}
theorem HOk.write (ok:HOk P w H h) (mu:Mut (H x)) (he:e=x∨H e=some (.own x)) (k:∀ b u,b≠e→h.get? b=some u→h'.get? b=some u) (heo:∃ u,h'.get? e=some u)
    (new:ObjOk P w (upd H x o') h' x o'):HOk P w (upd H x o') h':=fun b u q=>by
  have nown:∀ c y,H c=some (.own y)→c≠x:=fun c y r z=>by subst z;rw [r] at mu;exact mu
  have ntup:∀ c xs,H c=some (.tup xs)→c≠x:=fun c xs r z=>by subst z;rw [r] at mu;exact mu
  by_cases hb:b=x
  · subst hb;rw [uS_] at q;cases q;exact new
  · rw [upd_ne hb] at q
    by_cases hbe:b=e
    · have q':H b=some (.own x):=by
        rcases he with z | z
        · exact absurd (hbe.trans z) hb
        · rw [hbe];exact z
      rw [q] at q';cases q'
      obtain ⟨v,hv⟩:=heo
      exact ⟨v,by rw [hbe];exact hv⟩
    · refine (ok b u q).stay (fun c v hc r=>k c v ?_ r) (fun c r=>by rw [upd_ne (nown c b r)];exact r) fun c xs r=>by rw [upd_ne (ntup c xs r)];exact r
      rcases hc with rfl | hc
      · exact hbe
      · rintro rfl
        rcases he with z | z
        · exact nown c b hc z
        · rw [hc] at z;cases z;exact hb rfl
end
structure Un (fs ex:List Addr) (H H':Hp) (h h':Heap):Prop where
  keep:∀ b o,h.get? b=some o→H b=none→b ∉ fs→b ∉ ex→h'.get? b=some o
  slot:∀ b o,h.get? b=some o→H b=none→b ∈ fs→b ∉ ex→∃ sl,h'.get? b=some { o with slots:=sl }
  free:∀ b o,h.get? b=some o→H b=none→b ∉ ex→H' b=none
  there:∀ b o,h.get? b=some o→b ∉ ex→∃ o',h'.get? b=some o'
  tups:∀ b xs,H b=some (.tup xs)→H' b=some (.tup xs)
  frzs:∀ b o u,H b=some (.frz o u)→H' b=some (.frz o u)
  tbls:∀ b ps,H b=some (.tbl ps)→∃ more,H' b=some (.tbl (ps++more))
section
variable {fs fs' ex ex':List Addr} {H H1 H2:Hp} {h h1 h2 h':Heap} {a x e:Addr} {o:HO}
theorem Un.any (u:Un fs ex H H1 h h1) {b:Addr} {ob:Obj} (q:h.get? b=some ob) (n:H b=none) (hx:b ∉ ex):∃ sl,h1.get? b=some { ob with slots:=sl }:=by
  by_cases hb:b ∈ fs
  · exact u.slot b ob q n hb hx
  · exact ⟨ob.slots,u.keep b ob q n hb hx⟩
theorem Un.kept (k:∀ b u,h.get? b=some u→h'.get? b=some u):Un fs ex H H h h' :=
  ⟨fun b ob q _ _ _=>k b ob q,fun b ob q _ _ _=>⟨ob.slots,k b ob q⟩,fun _ _ _ n _=>n,fun b ob q _=>⟨ob,k b ob q⟩,fun _ _ q=>q,fun _ _ _ q=>q,fun _ ps q=>⟨#[],by rw [q];simp⟩⟩
theorem Un.refl:Un fs ex H H h h:=Un.kept fun _ _ q=>q
theorem Un.laid (k:∀ b u,h.get? b=some u→h'.get? b=some u) (hp:h.objs.size≤a) (hn:H a=none):Un fs ex H (upd H a o) h h' where
  keep:=fun b u q _ _ _=>k b u q
  slot:=fun b u q _ _ _=>⟨u.slots,k b u q⟩
  free:=fun b u q n _=>by rw [upd_ne (Nat.ne_of_lt (Nat.lt_of_lt_of_le (Heap.lt_size q) hp))];exact n
  there:=fun b u q _=>⟨u,k b u q⟩
  tups:=fun b xs q=>by rw [upd_ne (ne_of_none q hn)];exact q
  frzs:=fun b u xs q=>by rw [upd_ne (ne_of_none q hn)];exact q
  tbls:=fun b ps q=>⟨#[],by rw [upd_ne (ne_of_none q hn),q];simp⟩
theorem Un.write (mu:Mut (H x)) (he:e=x∨H e=some (.own x)) (k:∀ b u,b≠e→h.get? b=some u→h'.get? b=some u) (heo:∃ u,h'.get? e=some u):Un fs ex H (upd H x o) h h':=by
  have hx:∀ b,H b=none→b≠x:=fun b n z=>by subst z;rw [n] at mu;exact mu
  have hb:∀ b,H b=none→b≠e:=fun b n z=>by
    subst z
    rcases he with r | r
    · exact hx b n r
    · rw [n] at r;cases r
  have hm:∀ b u,H b=some u→¬ Mut (some u)→b≠x:=fun b u q nm z=>by subst z;rw [q] at mu;exact nm mu
  refine ⟨fun b u q n _ _=>k b u (hb b n) q,fun b u q n _ _=>⟨u.slots,k b u (hb b n) q⟩,fun b u q n _=>by rw [upd_ne (hx b n)];exact n,fun b u q _=>?_,
    fun b xs q=>by rw [upd_ne (hm b _ q fun z=>z)];exact q,fun b u xs q=>by rw [upd_ne (hm b _ q fun z=>z)];exact q,fun b ps q=>⟨#[],by rw [upd_ne (hm b _ q fun z=>z),q];simp⟩⟩
  by_cases hbe:b=e
  · subst hbe;exact heo
  · exact ⟨u,k b u hbe q⟩
end
def trk (h:Heap) (H:Hp):List Addr:=(List.range h.objs.size).filter fun a=>(H a).isSome
def hidT (h:Heap) (H:Hp):Heap:=PySem.W.hideAll h (trk h H)
theorem hidT_size (h:Heap) (H:Hp):(hidT h H).objs.size=h.objs.size:=PySem.W.hideAll_size _ _
theorem hidT_get {h:Heap} {H:Hp} {b:Addr} {o:Obj} (e:h.get? b=some o) (n:H b=none):(hidT h H).get? b=some o :=
  PySem.W.hideAll_get _ e fun hm=>by
    have q:(H b).isSome=true:=(List.mem_filter.mp hm).2
    rw [n] at q;simp at q
theorem of_hidT {h:Heap} {H:Hp} {b:Addr} {o:Obj} (e:(hidT h H).get? b=some o):h.get? b=some o∧H b=none:=by
  have e':h.get? b=some o:=PySem.W.of_hideAll (trk h H) e
  refine ⟨e',?_⟩
  cases q:H b with
  | none=>rfl
  | some x =>
    have hm:b ∈ trk h H:=List.mem_filter.mpr ⟨List.mem_range.mpr (Heap.lt_size e'),by simp [q]⟩
    have z:(hidT h H).get? b=none:=PySem.W.hideAll_none (trk h H) hm
    rw [z] at e;cases e
end L2
namespace L2
open PySem PySem.Spec PyProof.Rows
structure Mod (K:PySem.W.Frag) (mg:Str→Option Value) (base:Heap):Prop where
  kin:K.In base
  glob:base.Ns mainGlobals mg
  blt:∃ mb,base.Ns builtinsNs mb∧∀ x:Str,x≠"__name__"→mb x=bootBuiltins x
  nolimit:base.NoLimit
structure Cx where
  prog:Program
  w:World
  K:PySem.W.Frag
  mg:Str→Option Value
  base:Heap
  A:Around
  N:List Str
  s₀:Shared
  H₀:Hp
  env:Env
  outer:List Env
  stack:List Env
  ex:List Addr
  fn:Str→Bool
  calm:Bool
  pn:List (Addr × Obj)
  xe:Value→Shared→Prop
def frs (l:List Env):List Addr:=l.filterMap (·.frame)
abbrev Cx.fs (X:Cx):List Addr:=frs X.outer
def Vis (sc:Scope) (x:Str):Prop:=sc.names.lookup x=some .local∨sc.names.lookup x=some .cell∨sc.names.lookup x=some .free
def Loc (sc:Scope) (x:Str):Prop:=sc.names.lookup x=some .local∨sc.names.lookup x=some .cell
def Look (env:Env) (h:Heap) (m:Str→Option Value) (x:Str) (u:Value):Prop :=
  (env.kindOf x=some .local∧m x=some u)∨((env.kindOf x=some .cell∨env.kindOf x=some .free)∧∃ c,env.cells.lookup x=some c∧h.IsCell c (some u))
structure Cx.Ok (X:Cx):Prop where
  mod:Mod X.K X.mg X.base
  kind:X.env.scope.kind=.function
  glob:X.env.globals=mainGlobals
  blt:X.env.builtins=builtinsNs
  above:X.s₀.heap.objs.size≤X.env.locals
  inj:∀ x y c,X.env.cells.lookup x=some c→X.env.cells.lookup y=some c→x=y
  has:∀ x,(X.env.kindOf x=some .cell∨X.env.kindOf x=some .free)→∃ c,X.env.cells.lookup x=some c
  cab:∀ x c,X.fn x=true→X.env.cells.lookup x=some c→X.s₀.heap.objs.size≤c
  hd:X.calm=true→X.A.handled=none
  frames:X.A.frames=some X.stack
  stk:X.stack=X.outer∨(X.stack=X.env :: X.outer∧X.env.frame=some X.env.locals)
  exf:∀ b ∈ X.ex,b≠X.env.locals∧∀ x c,X.env.cells.lookup x=some c→c≠b
  bs:∀ b o,X.base.get? b=some o→X.s₀.heap.get? b=some o∧X.H₀ b=none
  bsz:X.base.objs.size≤X.s₀.heap.objs.size
  noex:∀ b o,X.base.get? b=some o→b ∉ X.ex
  exfs:∀ b ∈ X.ex,b ∉ X.fs
  funs:X.s₀.heap.FunFrames X.base X.outer
  frf:∀ b ∈ X.fs,X.H₀ b=none
structure Inv (X:Cx) (pins:List (Addr × Obj)) (σ:List (Option V)) (H:Hp) (s:Shared):Prop where
  ok:X.Ok
  os:s.os=X.s₀.os
  bare:AllBare s.gens
  base:Un X.fs X.ex X.H₀ H X.s₀.heap s.heap
  loc:∃ m,s.heap.Ns X.env.locals m∧∀ (i:Nat) (x:Str) (v:V),X.N[i]?=some x→σ[i]?=some (some v)→Vis X.env.scope x→∃ u,RelV v u∧Look X.env s.heap m x u
  cell:∀ x c,X.env.cells.lookup x=some c→∃ v,s.heap.IsCell c v
  free:H X.env.locals=none
  freeC:∀ x c,X.env.cells.lookup x=some c→H c=none
  pin:∀ p ∈ X.pn++pins,s.heap.get? p.1=some p.2∧H p.1=none∧p.1≠X.env.locals∧p.1 ∉ X.fs∧∀ v,p.2.data≠.cell v
  hok:HOk X.prog X.w H s.heap
  len:σ.length=X.N.length
section
variable {X:Cx} {pins:List (Addr × Obj)} {σ:List (Option V)} {H H':Hp} {s:Shared} {h':Heap}
theorem Cx.Ok.nofr (ok:X.Ok) {b:Addr} {o:Obj} (e:X.base.get? b=some o):b ∉ X.fs:=fun hb=>by
  have:=(ok.funs.mem hb).1
  rw [e] at this;cases this
theorem Inv.bs (I:Inv X pins σ H s):∀ b o,X.base.get? b=some o→s.heap.get? b=some o∧H b=none:=fun b o e =>
  ⟨I.base.keep b o (I.ok.bs b o e).1 (I.ok.bs b o e).2 (I.ok.nofr e) (I.ok.noex b o e),I.base.free b o (I.ok.bs b o e).1 (I.ok.bs b o e).2 (I.ok.noex b o e)⟩
theorem Inv.bk (I:Inv X pins σ H s):∀ b o,X.base.get? b=some o→s.heap.get? b=some o:=fun b o e=>(I.bs b o e).1
theorem Inv.mod (I:Inv X pins σ H s):Mod X.K X.mg X.base:=I.ok.mod
theorem Inv.kIn (I:Inv X pins σ H s):X.K.In s.heap:=I.ok.mod.kin.keeps I.bk
theorem Inv.lt (I:Inv X pins σ H s):X.env.locals < s.heap.objs.size:=let ⟨_,hn,_⟩:=I.loc;hn.lt
theorem Inv.sz (I:Inv X pins σ H s):X.s₀.heap.objs.size≤s.heap.objs.size:=Nat.le_trans I.ok.above (Nat.le_of_lt I.lt)
theorem Inv.nofs (I:Inv X pins σ H s) {a:Addr} (h:s.heap.objs.size≤a):a ∉ X.fs:=fun hb=>by
  obtain ⟨_,o,ho,_⟩:=I.ok.funs.mem hb
  exact absurd (Nat.lt_of_lt_of_le (Heap.lt_size ho) (Nat.le_trans I.sz h)) (Nat.lt_irrefl _)
theorem Inv.cne (I:Inv X pins σ H s):∀ x c,X.env.cells.lookup x=some c→c≠X.env.locals:=fun x c e z=>by
  obtain ⟨v,o,ho,hd⟩:=I.cell x c e
  obtain ⟨m,⟨o',es,ep,ho',hd',_⟩,_⟩:=I.loc
  rw [z,ho'] at ho;cases ho;rw [hd'] at hd;cases hd
theorem Inv.funs (I:Inv X pins σ H s):s.heap.FunFrames X.base X.outer:=by
  have all:∀ (l:List Env),(∀ b ∈ frs l,b ∈ X.fs)→X.s₀.heap.FunFrames X.base l→s.heap.FunFrames X.base l:=by
    intro l
    induction l with
    | nil=>intro _ _;trivial
    | cons env r ih =>
      intro hs hl
      obtain ⟨hk,⟨L,o,hf,hn,ho,hd⟩,hr⟩:=hl
      have hL:L ∈ X.fs:=hs L (by unfold frs;rw [List.filterMap_cons,hf];exact List.mem_cons_self)
      obtain ⟨sl,e⟩:=I.base.slot L o ho (I.ok.frf L hL) hL fun z=>I.ok.exfs L z hL
      exact ⟨hk,⟨L,_,hf,hn,e,hd⟩,ih (fun b hb=>hs b (by unfold frs;rw [List.filterMap_cons,hf];exact List.mem_cons_of_mem _ hb)) hr⟩
  exact all X.outer (fun _ hb=>hb) I.ok.funs
theorem Inv.stack (I:Inv X pins σ H s):s.heap.FunFrames X.base X.stack:=by
  rcases I.ok.stk with e | ⟨e,hf⟩
  · rw [e];exact I.funs
  · rw [e]
    obtain ⟨m,hn,_⟩:=I.loc
    refine .cons (by rw [I.ok.kind];decide) hf hn ?_ I.funs
    exact Heap.get?_none_of_le (Nat.le_trans I.ok.bsz I.ok.above)
theorem Inv.stkSub (I:Inv X pins σ H s):∀ b ∈ frs X.stack,b ∈ X.env.locals :: X.fs:=fun b hb=>by
  rcases I.ok.stk with e | ⟨e,hf⟩
  · rw [e] at hb;exact List.mem_cons_of_mem _ hb
  · rw [e] at hb
    unfold frs at hb
    rw [List.filterMap_cons,hf] at hb
    exact hb
theorem Inv.stkFree (I:Inv X pins σ H s):∀ b ∈ frs X.stack,H b=none:=fun b hb=>by
  rcases List.mem_cons.mp (I.stkSub b hb) with e | hb
  · rw [e];exact I.free
  · obtain ⟨_,o,ho,_⟩:=I.ok.funs.mem hb
    exact I.base.free b o ho (I.ok.frf b hb) fun z=>I.ok.exfs b z hb
theorem Inv.step {g':Array GenState} {t':Nat} {d':Drawn} {ch:List Addr} (I:Inv X pins σ H s)
    (hch:∀ b ∈ ch,(b ∈ X.ex∨X.s₀.heap.objs.size≤b)∧b≠X.env.locals∧(∀ x c,X.env.cells.lookup x=some c→c≠b)∧∀ p ∈ X.pn++pins,p.1≠b)
    (keep:∀ b o,b≠X.env.locals→b ∉ X.fs→b ∉ ch→s.heap.get? b=some o→H b=none→h'.get? b=some o)
    (slot:∀ b o,b≠X.env.locals→b ∈ X.fs→b ∉ ch→s.heap.get? b=some o→H b=none→∃ sl,h'.get? b=some { o with slots:=sl }) (free:∀ b o,b ∉ ch→s.heap.get? b=some o→H b=none→H' b=none)
    (there:∀ b o,b ∉ ch→s.heap.get? b=some o→∃ o',h'.get? b=some o')
    (tups:∀ b xs,H b=some (.tup xs)→H' b=some (.tup xs)) (frzs:∀ b o u,H b=some (.frz o u)→H' b=some (.frz o u)) (tbls:∀ b ps,H b=some (.tbl ps)→∃ more,H' b=some (.tbl (ps++more)))
    (ns:∀ m,s.heap.Ns X.env.locals m→h'.Ns X.env.locals m) (hok:HOk X.prog X.w H' h') (hg:AllBare g') :
    Inv X pins σ H' { s with heap:=h',gens:=g',drawn:=d',toks:=t' }:=by
  have neL:∀ b o,X.s₀.heap.get? b=some o→b≠X.env.locals:=fun b o e=>Nat.ne_of_lt (Nat.lt_of_lt_of_le (Heap.lt_size e) I.ok.above)
  have neC:∀ b o,X.s₀.heap.get? b=some o→b ∉ X.ex→b ∉ ch:=fun b o e hx hb=>by
    rcases (hch b hb).1 with z | z
    · exact hx z
    · exact absurd (Nat.lt_of_lt_of_le (Heap.lt_size e) z) (Nat.lt_irrefl _)
  have cellK:∀ x c,X.env.cells.lookup x=some c→∀ v,s.heap.IsCell c v→h'.IsCell c v:=fun x c e v ⟨o,ho,hd⟩=>by
    have nch:c ∉ ch:=fun z=>(hch c z).2.2.1 x c e rfl
    by_cases hc:c ∈ X.fs
    · obtain ⟨sl,q⟩:=slot c o (I.cne x c e) hc nch ho (I.freeC x c e)
      exact ⟨_,q,hd⟩
    · exact ⟨o,keep c o (I.cne x c e) hc nch ho (I.freeC x c e),hd⟩
  refine ⟨I.ok,I.os,hg,⟨fun b o e n hb hx=>?_,fun b o e n hb hx=>?_,fun b o e n hx=>?_,fun b o e hx=>?_,fun b xs e=>tups b xs (I.base.tups b xs e),fun b o xs e=>frzs b o xs (I.base.frzs b o xs e),fun b ps e=>?_⟩,?_,fun x c e=>?_,?_,fun x c e=>?_,fun p hp=>?_,hok,I.len⟩
  · exact keep b o (neL b o e) hb (neC b o e hx) (I.base.keep b o e n hb hx) (I.base.free b o e n hx)
  · obtain ⟨sl,e1⟩:=I.base.slot b o e n hb hx
    obtain ⟨sl',e2⟩:=slot b _ (neL b o e) hb (neC b o e hx) e1 (I.base.free b o e n hx)
    exact ⟨sl',e2⟩
  · obtain ⟨o',e1⟩:=I.base.there b o e hx
    exact free b o' (neC b o e hx) e1 (I.base.free b o e n hx)
  · obtain ⟨o',e1⟩:=I.base.there b o e hx
    exact there b o' (neC b o e hx) e1
  · obtain ⟨m1,e1⟩:=I.base.tbls b ps e
    obtain ⟨m2,e2⟩:=tbls b _ e1
    exact ⟨m1++m2,by rw [e2,Array.append_assoc]⟩
  · obtain ⟨m,hn,hl⟩:=I.loc
    refine ⟨m,ns m hn,fun i x v e1 e2 e3=>?_⟩
    obtain ⟨u,r,l⟩:=hl i x v e1 e2 e3
    refine ⟨u,r,?_⟩
    rcases l with l | ⟨k,c,e,z⟩
    · exact .inl l
    · exact .inr ⟨k,c,e,cellK x c e _ z⟩
  · obtain ⟨v,z⟩:=I.cell x c e
    exact ⟨v,cellK x c e v z⟩
  · obtain ⟨m,⟨o,_,_,ho,_⟩,_⟩:=I.loc
    exact free _ o (fun z=>(hch _ z).2.1 rfl) ho I.free
  · obtain ⟨v,o,ho,hd⟩:=I.cell x c e
    exact free c o (fun z=>(hch c z).2.2.1 x c e rfl) ho (I.freeC x c e)
  · obtain ⟨e,n,ne,nf,d⟩:=I.pin p hp
    have nch:p.1 ∉ ch:=fun z=>(hch p.1 z).2.2.2 p hp rfl
    exact ⟨keep p.1 p.2 ne nf nch e n,free p.1 p.2 nch e n,ne,nf,d⟩
theorem Inv.un {t':Nat} (I:Inv X pins σ H s) (u:Un X.fs [] H H' s.heap h') (hok:HOk X.prog X.w H' h'):Inv X pins σ H' { s with heap:=h',toks:=t' }:=by
  obtain ⟨m,⟨o,es,ep,ho,r⟩,_⟩:=id I.loc
  obtain ⟨sl,hL⟩:=u.any ho I.free (by simp)
  exact I.step (g':=s.gens) (d':=s.drawn) (ch:=[]) (fun _ z=>nomatch z) (fun b o _ hb _ e n=>u.keep b o e n hb (by simp)) (fun b o _ hb _ e n=>u.slot b o e n hb (by simp)) (fun b o _ e n=>u.free b o e n (by simp)) (fun b o _ e=>u.there b o e (by simp)) u.tups u.frzs u.tbls (fun m' hm=>by
    obtain ⟨o',es',ep',ho',r'⟩:=hm
    rw [ho] at ho';cases ho'
    exact ⟨_,es',ep',hL,r'⟩) hok I.bare
theorem Inv.call {g':Array GenState} {t':Nat} {d':Drawn} {ch:List Addr} (I:Inv X pins σ H s) (u:Un (frs X.stack) ch H H' s.heap h') (hok:HOk X.prog X.w H' h') (hg:AllBare g')
    (hch:∀ b ∈ ch,(b ∈ X.ex∨X.s₀.heap.objs.size≤b)∧b≠X.env.locals∧(∀ x c,X.env.cells.lookup x=some c→c≠b)∧∀ p ∈ X.pn++pins,p.1≠b) :
    Inv X pins σ H' { s with heap:=h',gens:=g',drawn:=d',toks:=t' }:=by
  obtain ⟨m,⟨o,es,ep,ho,r⟩,_⟩:=id I.loc
  obtain ⟨sl,hL⟩:=u.any ho I.free fun z=>(hch _ z).2.1 rfl
  exact I.step (ch:=ch) hch (fun b o hL hb hc e n=>u.keep b o e n (fun z=>(List.mem_cons.mp (I.stkSub b z)).elim hL hb) hc) (fun b o _ _ hc e n=>u.any e n hc) (fun b o hc e n=>u.free b o e n hc) (fun b o hc e=>u.there b o e hc) u.tups u.frzs u.tbls (fun m' hm=>by
    obtain ⟨o',es',ep',ho',r'⟩:=hm
    rw [ho] at ho';cases ho'
    exact ⟨_,es',ep',hL,r'⟩) hok hg
theorem Inv.turned {t':Nat} {it:Addr} (I:Inv X pins σ H s) (k:∀ b o,b≠it→s.heap.get? b=some o→h'.get? b=some o) (hn:H it=none) (hL:it≠X.env.locals)
    (h1:it ∈ X.ex∨X.s₀.heap.objs.size≤it) (h2:∀ x c,X.env.cells.lookup x=some c→c≠it) (h3:∀ p ∈ X.pn++pins,p.1≠it):Inv X pins σ H { s with heap:=h',toks:=t' }:=by
  have nit:∀ b u,H b=some u→b≠it:=fun b u e z=>by rw [z,hn] at e;cases e
  refine I.step (g':=s.gens) (d':=s.drawn) (ch:=[it]) (fun b hb=>?_) (fun b o _ _ hc e _=>k b o (fun z=>hc (by simp [z])) e) (fun b o _ _ hc e _=>⟨o.slots,k b o (fun z=>hc (by simp [z])) e⟩) (fun _ _ _ _ n=>n)
    (fun b o hc e=>⟨o,k b o (fun z=>hc (by simp [z])) e⟩) (fun _ _ e=>e) (fun _ _ _ e=>e) (fun b ps e=>⟨#[],by rw [e];simp⟩) (fun m hm=>?_) (fun b u e=>?_) I.bare
  · have e:b=it:=by simpa using hb
    subst e
    exact ⟨h1,hL,h2,h3⟩
  · obtain ⟨o,es,ep,ho,r⟩:=hm
    exact ⟨o,es,ep,k _ o (Ne.symm hL) ho,r⟩
  · refine (I.hok b u e).stay (fun c v hc q=>k c v ?_ q) (fun _ q=>q) fun _ _ q=>q
    rcases hc with z | z
    · rw [z];exact nit b u e
    · exact nit c _ z
theorem Inv.tok (I:Inv X pins σ H s) (t:Nat):Inv X pins σ H { s with toks:=t }:=I.un (h':=s.heap) (t':=t) Un.refl I.hok
theorem Inv.kept {t':Nat} (I:Inv X pins σ H s) (k:∀ b u,s.heap.get? b=some u→h'.get? b=some u):Inv X pins σ H { s with heap:=h',toks:=t' }:=I.un (Un.kept k) (I.hok.kept k)
theorem Inv.laid {a:Addr} {o:HO} {t':Nat} (I:Inv X pins σ H s) (k:∀ b u,s.heap.get? b=some u→h'.get? b=some u) (hp:s.heap.objs.size≤a) (new:ObjOk X.prog X.w (upd H a o) h' a o) :
    Inv X pins σ (upd H a o) { s with heap:=h',toks:=t' }:=I.un (Un.laid k hp (I.hok.fresh hp)) (I.hok.laid k hp new)
theorem Inv.write {x e:Addr} {o:HO} {t':Nat} (I:Inv X pins σ H s) (mu:Mut (H x)) (he:e=x∨H e=some (.own x)) (k:∀ b u,b≠e→s.heap.get? b=some u→h'.get? b=some u) (heo:∃ u,h'.get? e=some u)
    (new:ObjOk X.prog X.w (upd H x o) h' x o):Inv X pins σ (upd H x o) { s with heap:=h',toks:=t' }:=I.un (Un.write mu he k heo) (I.hok.write mu he k heo new)
theorem Inv.pins_of {pins':List (Addr × Obj)} (I:Inv X pins σ H s) (h:∀ p ∈ pins',s.heap.get? p.1=some p.2∧H p.1=none∧p.1≠X.env.locals∧p.1 ∉ X.fs∧∀ v,p.2.data≠.cell v):Inv X pins' σ H s :=
  ⟨I.ok,I.os,I.bare,I.base,I.loc,I.cell,I.free,I.freeC,fun p hp=>(List.mem_append.mp hp).elim (fun z=>I.pin p (List.mem_append_left _ z)) (h p),I.hok,I.len⟩
theorem nodup_ix {N:List Str} (hN:N.Nodup) {i j:Nat} {x:Str} (a:N[i]?=some x) (b:N[j]?=some x):i=j:=by
  obtain ⟨h1,e1⟩:=List.getElem?_eq_some_iff.mp a
  obtain ⟨h2,e2⟩:=List.getElem?_eq_some_iff.mp b
  exact (List.getElem_inj hN).mp (e1.trans e2.symm)
theorem store_ok2 {M:Model} {A:Around} {E:Value→Shared→Prop} {i:Nat} {x:Str} {v:V} {u:Value} {Q:Unit→Shared→Prop} (I:Inv X pins σ H s) (hN:X.N.Nodup) (hi:X.N[i]?=some x) (hx:Loc X.env.scope x) (r:RelV v u)
    (h:∀ s',Inv X pins (σ.set i (some v)) H s'→(∃ a,Heap.SameBut a s.heap s'.heap∧(a=X.env.locals∨X.env.cells.lookup x=some a))→Q () s') (hf:X.fn x=true∨X.env.scope.names.lookup x=some .local:=by first | exact .inl rfl | exact .inr rfl | assumption):wpAny M A (storeName X.env x u) Q E s:=by
  obtain ⟨m,hn,hl⟩:=id I.loc
  have hcls:(X.env.scope.kind == .class || (X.env.scope.kind == .module&&X.env.locals != X.env.globals))=false:=by rw [I.ok.kind];rfl
  have hiσ:i < σ.length:=by rw [I.len];exact (List.getElem?_eq_some_iff.mp hi).1
  have cne:=I.cne
  have tracked:∀ {a:Addr} {h':Heap},(∃ o,s.heap.get? a=some o∧H a=none)→Heap.SameBut a s.heap h'→HOk X.prog X.w H h':=fun {a h'} ha hs b ob e=>by
    obtain ⟨_,_,hfree⟩:=ha
    refine (I.hok b ob e).stay (fun c w' hc q=>(hs.2 c ?_).trans q) (fun _ q=>q) fun _ _ q=>q
    rintro rfl
    rcases hc with rfl | hc
    · rw [hfree] at e;cases e
    · rw [hfree] at hc;cases hc
  rcases hx with hk | hk
  · refine wpAny_storeName_local hk hn (fun h' hn' hs=>?_) hcls
    obtain ⟨oL,_,_,hoL,_⟩:=id hn
    refine h _ ⟨I.ok,I.os,I.bare,⟨fun b o e n hb hx=>?_,fun b o e n hb hx=>?_,I.base.free,fun b o e hx=>?_,I.base.tups,I.base.frzs,I.base.tbls⟩,⟨_,hn',fun j y v' e1 e2 e3=>?_⟩,fun y c e=>?_,I.free,I.freeC,fun p hp=>?_,tracked ⟨oL,hoL,I.free⟩ hs,by simpa using I.len⟩ ⟨_,hs,.inl rfl⟩
    · exact (hs.2 b (Nat.ne_of_lt (Nat.lt_of_lt_of_le (Heap.lt_size e) I.ok.above))).trans (I.base.keep b o e n hb hx)
    · obtain ⟨sl,e1⟩:=I.base.slot b o e n hb hx
      exact ⟨sl,(hs.2 b (Nat.ne_of_lt (Nat.lt_of_lt_of_le (Heap.lt_size e) I.ok.above))).trans e1⟩
    · obtain ⟨o',e1⟩:=I.base.there b o e hx
      exact ⟨o',(hs.2 b (Nat.ne_of_lt (Nat.lt_of_lt_of_le (Heap.lt_size e) I.ok.above))).trans e1⟩
    · by_cases hj:j=i
      · subst hj
        rw [hi] at e1;cases e1
        rw [List.getElem?_set_self hiσ] at e2
        cases e2
        exact ⟨u,r,.inl ⟨hk,by simp⟩⟩
      · rw [List.getElem?_set_ne (Ne.symm hj)] at e2
        obtain ⟨u',r',q⟩:=hl j y v' e1 e2 e3
        refine ⟨u',r',?_⟩
        rcases q with ⟨k,e⟩ | ⟨k,c,e,z⟩
        · refine .inl ⟨k,?_⟩
          have:y≠x:=fun e=>hj (nodup_ix hN e1 (e ▸ hi))
          simp [this,e]
        · exact .inr ⟨k,c,e,z.sameBut hs (cne y c e)⟩
    · obtain ⟨w',z⟩:=I.cell y c e
      exact ⟨w',z.sameBut hs (cne y c e)⟩
    · obtain ⟨e,n,ne,nf,d⟩:=I.pin p hp
      exact ⟨(hs.2 p.1 ne).trans e,n,ne,nf,d⟩
  · have hfn:X.fn x=true:=by
      rcases hf with z | z
      · exact z
      · rw [z] at hk;cases hk
    obtain ⟨c,hc⟩:=I.ok.has x (.inl hk)
    obtain ⟨w',z⟩:=I.cell x c hc
    refine wpAny_storeName_cell I.ok.kind hk hc z (fun h' hc' hs=>?_)
    obtain ⟨oc,hoc,hocd⟩:=id z
    refine h { s with heap:=h' } ⟨I.ok,I.os,I.bare,⟨fun b o e n hb hx=>?_,fun b o e n hb hx=>?_,I.base.free,fun b o e hx=>?_,I.base.tups,I.base.frzs,I.base.tbls⟩,⟨m,hn.sameBut hs (Ne.symm (cne x c hc)),fun j y v' e1 e2 e3=>?_⟩,fun y c' e=>?_,I.free,I.freeC,fun p hp=>?_,tracked ⟨oc,hoc,I.freeC x c hc⟩ hs,by simpa using I.len⟩ ⟨c,hs,.inr hc⟩
    · exact (hs.2 b (Nat.ne_of_lt (Nat.lt_of_lt_of_le (Heap.lt_size e) (I.ok.cab x c hfn hc)))).trans (I.base.keep b o e n hb hx)
    · obtain ⟨sl,e1⟩:=I.base.slot b o e n hb hx
      exact ⟨sl,(hs.2 b (Nat.ne_of_lt (Nat.lt_of_lt_of_le (Heap.lt_size e) (I.ok.cab x c hfn hc)))).trans e1⟩
    · obtain ⟨o',e1⟩:=I.base.there b o e hx
      exact ⟨o',(hs.2 b (Nat.ne_of_lt (Nat.lt_of_lt_of_le (Heap.lt_size e) (I.ok.cab x c hfn hc)))).trans e1⟩
    · by_cases hj:j=i
      · subst hj
        rw [hi] at e1;cases e1
        rw [List.getElem?_set_self hiσ] at e2
        cases e2
        exact ⟨u,r,.inr ⟨.inl hk,c,hc,hc'⟩⟩
      · rw [List.getElem?_set_ne (Ne.symm hj)] at e2
        obtain ⟨u',r',q⟩:=hl j y v' e1 e2 e3
        refine ⟨u',r',?_⟩
        rcases q with q | ⟨k,c',e,z'⟩
        · exact .inl q
        · refine .inr ⟨k,c',e,z'.sameBut hs ?_⟩
          rintro rfl
          exact hj (nodup_ix hN e1 (I.ok.inj _ _ _ e hc ▸ hi))
    · by_cases hcc:c'=c
      · subst hcc;exact ⟨_,hc'⟩
      · obtain ⟨w2,z2⟩:=I.cell y c' e
        exact ⟨w2,z2.sameBut hs hcc⟩
    · obtain ⟨e,n,ne,nf,d⟩:=I.pin p hp
      refine ⟨(hs.2 p.1 ?_).trans e,n,ne,nf,d⟩
      intro q
      rw [q,hoc] at e
      have q':oc=p.2:=Option.some.inj e
      exact d w' (by rw [← q'];exact hocd)
theorem store_ok {M:Model} {A:Around} {E:Value→Shared→Prop} {i:Nat} {x:Str} {v:V} {u:Value} {Q:Unit→Shared→Prop} (I:Inv X pins σ H s) (hN:X.N.Nodup) (hi:X.N[i]?=some x) (hx:Loc X.env.scope x) (r:RelV v u)
    (h:∀ s',Inv X pins (σ.set i (some v)) H s'→Q () s') (hf:X.fn x=true∨X.env.scope.names.lookup x=some .local:=by first | exact .inl rfl | exact .inr rfl | assumption):wpAny M A (storeName X.env x u) Q E s :=
  store_ok2 I hN hi hx r (fun s' I' _=>h s' I') hf
theorem Inv.call' {s':Shared} {ch:List Addr} (I:Inv X pins σ H s) (ho:s'.os=s.os) (u:Un (frs X.stack) ch H H' s.heap s'.heap) (hok:HOk X.prog X.w H' s'.heap) (hg:AllBare s'.gens)
    (hch:∀ b ∈ ch,(b ∈ X.ex∨X.s₀.heap.objs.size≤b)∧b≠X.env.locals∧(∀ x c,X.env.cells.lookup x=some c→c≠b)∧∀ p ∈ X.pn++pins,p.1≠b):Inv X pins σ H' s':=by
  obtain ⟨h',g',d',t',o'⟩:=s'
  have e:o'=s.os:=ho
  subst e
  exact I.call (g':=g') (t':=t') (d':=d') u hok hg hch
end
abbrev XK:=Value→Option Addr→Hp→Prop
abbrev St:=List (Option V)
abbrev VK:=V→Hp→Prop
abbrev TE:=St→Hp→VK→Prop
abbrev TT:=St→Hp→(Bool→Hp→Prop)→Prop
abbrev TA:=St→Hp→(List V→Hp→Prop)→Prop
structure Ends where
  nx:St→Hp→Prop
  rt:VK
  bk:St→Hp→Prop:=fun _ _=>False
  ct:St→Hp→Prop:=fun _ _=>False
abbrev TS:=Ends→St→Hp→Prop
def EP (X:Cx) (pins:List (Addr × Obj)) (σ:St) (Q:VK) (u:Value) (s':Shared):Prop:=∃ v H',Inv X pins σ H' s'∧RelV v u∧Q v H'
def TP (X:Cx) (pins:List (Addr × Obj)) (σ:St) (Q:Bool→Hp→Prop) (b:Bool) (s':Shared):Prop:=∃ H',Inv X pins σ H' s'∧Q b H'
def AP (X:Cx) (pins:List (Addr × Obj)) (σ:St) (Q:List V→Hp→Prop) (us:List Value) (s':Shared):Prop:=∃ vs H',Inv X pins σ H' s'∧Vals vs us∧Q vs H'
def SP (X:Cx) (pins:List (Addr × Obj)) (D:Ends) (f:Flow) (s':Shared):Prop :=
  match f with
  | .next=>∃ σ' H',Inv X pins σ' H' s'∧D.nx σ' H'
  | .brk=>∃ σ' H',Inv X pins σ' H' s'∧D.bk σ' H'
  | .cont=>∃ σ' H',Inv X pins σ' H' s'∧D.ct σ' H'
  | .ret u=>∃ v σ' H',Inv X pins σ' H' s'∧RelV v u∧D.rt v H'
def PE (X:Cx) (e:Expr) (t:TE):Prop :=
  ∀ (pins:List (Addr × Obj)) (s:Shared) (σ:St) (H:Hp) (Q:VK),Inv X pins σ H s→t σ H Q→wpAny (model X.prog X.w) X.A (eval e X.env) (EP X pins σ Q) X.xe s
def PT (X:Cx) (e:Expr) (t:TT):Prop :=
  ∀ (pins:List (Addr × Obj)) (s:Shared) (σ:St) (H:Hp) (Q:Bool→Hp→Prop),Inv X pins σ H s→t σ H Q→wpAny (model X.prog X.w) X.A (isTrue e X.env (eval e X.env)) (TP X pins σ Q) X.xe s
def PW (X:Cx) (e:Expr) (t:TT):Prop :=
  ∀ (whole:Sem Value) (pins:List (Addr × Obj)) (s:Shared) (σ:St) (H:Hp) (Q:Bool→Hp→Prop),Inv X pins σ H s→t σ H Q→wpAny (model X.prog X.w) X.A (isTrue e X.env whole) (TP X pins σ Q) X.xe s
theorem PW.pt {X:Cx} {e:Expr} {t:TT} (h:PW X e t):PT X e t:=h _
def PA (X:Cx) (es:List Expr) (t:TA):Prop :=
  ∀ (pos:Pos) (pins:List (Addr × Obj)) (s:Shared) (σ:St) (H:Hp) (Q:List V→Hp→Prop),Inv X pins σ H s→t σ H Q→wpAny (model X.prog X.w) X.A (spliced (backTo pos (starEach es X.env))) (AP X pins σ Q) X.xe s
def PS (X:Cx) (st:Stmt) (t:TS):Prop :=
  ∀ (pins:List (Addr × Obj)) (s:Shared) (σ:St) (H:Hp) (D:Ends),Inv X pins σ H s→t D σ H→wpAny (model X.prog X.w) X.A (exec st X.env) (SP X pins D) X.xe s
def PSs (X:Cx) (st:List Stmt) (t:TS):Prop :=
  ∀ (pins:List (Addr × Obj)) (s:Shared) (σ:St) (H:Hp) (D:Ends),Inv X pins σ H s→t D σ H→wpAny (model X.prog X.w) X.A (execs st X.env) (SP X pins D) X.xe s
theorem thn {α:Type} {t:Sem α} {Q Q':α→Shared→Prop} {M:Model} {A:Around} {E:Value→Shared→Prop} {s:Shared} (h:wpAny M A t Q E s) (hQ:∀ a s,Q a s→Q' a s):wpAny M A t Q' E s:=wpAny_mono h hQ fun _ _ x=>x
end L2
namespace L2
open PySem PySem.Spec PyProof.Rows
section
variable {X:Cx}
def tVar (i:Nat):TE:=fun σ H Q=>∃ v,σ[i]?=some (some v)∧Q v H
def tC (v:V):TE:=fun _ H Q=>Q v H
theorem pe_var {i:Nat} {x:Str} {pos:Pos} (hN:X.N[i]?=some x) (hv:Vis X.env.scope x) (hd:(x == ("__debug__":Str))=false:=by decide) (hcd:(x == ("__classdict__":Str))=false:=by decide):PE X (.Name x pos) (tVar i):=by
  intro pins s σ H Q I h
  obtain ⟨v,e,h⟩:=h
  obtain ⟨m,hn,hl⟩:=I.loc
  obtain ⟨u,r,l⟩:=hl i x v hN e hv
  have fin:EP X pins σ Q u s:=⟨v,H,I,r,h⟩
  rcases l with ⟨hk,hm⟩ | ⟨hk,c,hc,hcell⟩
  · exact wpAny_Name (wpAny_loadName_local I.ok.kind hk hn hm fin) hd
  · rcases hk with hk | hk
    · exact wpAny_Name (wpAny_loadName_cell I.ok.kind hk hc hcell fin) hd
    · exact wpAny_Name (wpAny_loadName_free I.ok.kind hk hc hcell fin hcd) hd
theorem pI_ {i j pos}:PE X (.Constant (.int i) j pos) (tC (.int i)):=fun _ _ _ H _ I h=>wpAny_Constant_int ⟨.int i,H,I.tok _,⟨_,rfl⟩,h⟩
theorem pe_bl {b j pos}:PE X (.Constant (.bool b) j pos) (tC (.bl b)):=fun _ _ _ H _ I h=>Constant_bool ⟨.bl b,H,I,rfl,h⟩
theorem pe_non {j pos}:PE X (.Constant .none j pos) (tC .non):=fun _ _ _ H _ I h=>Constant_none ⟨.non,H,I,rfl,h⟩
theorem pS_ {x j pos}:PE X (.Constant (.str x) j pos) (tC (.str x)):=fun _ _ _ H _ I h=>Calls.Constant_str ⟨.str x,H,I.tok _,⟨_,rfl⟩,h⟩
def Gl (X:Cx) (x:Str):Prop:=X.env.kindOf x=some .globalImplicit
theorem ld_glob {E:Value→Shared→Prop} {pins:List (Addr × Obj)} {s:Shared} {σ:St} {H:Hp} {x:Str} {u:Value} {pos:Pos} {Q:Value→Shared→Prop} (I:Inv X pins σ H s) (hg:Gl X x) (hm:X.mg x=some u) (h:Q u s)
    (hd:(x == ("__debug__":Str))=false:=by decide):wpAny (model X.prog X.w) X.A (eval (.Name x pos) X.env) Q E s :=
  Calls.Name_function_global I.ok.kind hg (Calls.loadGlobal_global (by rw [I.ok.glob];exact I.mod.glob.keeps I.bk) hm h) hd
theorem ld_blt {E:Value→Shared→Prop} {pins:List (Addr × Obj)} {s:Shared} {σ:St} {H:Hp} {x:Str} {u:Value} {pos:Pos} {Q:Value→Shared→Prop} (I:Inv X pins σ H s) (hg:Gl X x) (hm:X.mg x=none) (hv:bootBuiltins x=some u) (h:Q u s)
    (hn:x≠"__name__":=by decide) (hd:(x == ("__debug__":Str))=false:=by decide):wpAny (model X.prog X.w) X.A (eval (.Name x pos) X.env) Q E s:=by
  obtain ⟨mb,h1,h2⟩:=I.mod.blt
  exact Calls.Name_function_global I.ok.kind hg (Calls.loadGlobal_builtin (by rw [I.ok.glob];exact I.mod.glob.keeps I.bk) hm (by rw [I.ok.blt];exact h1.keeps I.bk) ((h2 x hn).trans hv) h) hd
theorem pe_glob {x:Str} {v:V} {u:Value} {pos:Pos} (hg:Gl X x) (hm:X.mg x=some u) (r:RelV v u) (hd:(x == ("__debug__":Str))=false:=by decide):PE X (.Name x pos) (tC v) :=
  fun _ _ _ H _ I h=>ld_glob I hg hm ⟨v,H,I,r,h⟩ hd
variable {a b:Expr} {ta tb:TE} {pos:Pos}
def tB (t:TE):TT:=fun σ H Q=>t σ H fun x H1=>∃ c,x=.bl c∧Q c H1
theorem pt_val {e:Expr} {t:TE} (h:PE X e t) (he:∀ whole,isTrue e X.env whole=(do let v ← whole;standAt e.pos;holding [v] (truthy v)):=by intro _;rfl):PT X e (tB t):=by
  intro pins s σ H Q I hw
  refine isTrue_plain (thn (h pins s σ H _ I hw) fun v s1 ⟨x,H1,I1,r1,q1⟩=>?_) (he _)
  obtain ⟨d,rfl,q⟩:=q1
  cases r1
  exact wpAny_truthy_bool ⟨H1,I1,q⟩
variable {tA tB':TT} {rest:List Expr}
def tAnd (t u:TT):TT:=fun σ H Q=>t σ H fun c H1=>if c=true then u σ H1 Q else Q false H1
def tOr (t u:TT):TT:=fun σ H Q=>t σ H fun c H1=>if c=true then Q true H1 else u σ H1 Q
def tNot (t:TT):TT:=fun σ H Q=>t σ H fun c H1=>Q (!c) H1
theorem pw_and1 (ha:PT X a tA):PW X (.BoolOp .And [a] pos) tA:=by
  intro wh pins s σ H Q I h
  refine isTrue_and (thn (ha pins s σ H Q I h) fun c s1 e=>?_)
  cases c with
  | true=>exact isTrue_and_nil e
  | false=>exact e
theorem pw_or1 (ha:PT X a tA):PW X (.BoolOp .Or [a] pos) tA:=by
  intro wh pins s σ H Q I h
  refine isTrue_or (thn (ha pins s σ H Q I h) fun c s1 e=>?_)
  cases c with
  | false=>exact isTrue_or_nil e
  | true=>exact e
theorem pw_and (ha:PT X a tA) (hb:PW X (.BoolOp .And (b :: rest) pos) tB'):PW X (.BoolOp .And (a :: b :: rest) pos) (tAnd tA tB'):=by
  intro wh pins s σ H Q I h
  refine isTrue_and (thn (ha pins s σ H _ I h) fun c s1 ⟨H1,I1,q1⟩=>?_)
  cases c with
  | true=>exact hb wh pins s1 σ H1 Q I1 q1
  | false=>exact ⟨H1,I1,q1⟩
theorem pw_or (ha:PT X a tA) (hb:PW X (.BoolOp .Or (b :: rest) pos) tB'):PW X (.BoolOp .Or (a :: b :: rest) pos) (tOr tA tB'):=by
  intro wh pins s σ H Q I h
  refine isTrue_or (thn (ha pins s σ H _ I h) fun c s1 ⟨H1,I1,q1⟩=>?_)
  cases c with
  | true=>exact ⟨H1,I1,q1⟩
  | false=>exact hb wh pins s1 σ H1 Q I1 q1
theorem pt_not (ha:PT X a tA):PT X (.UnaryOp .Not a pos) (tNot tA):=by
  intro pins s σ H Q I h
  exact isTrue_not (ha pins s σ H (fun c H1=>Q (!c) H1) I h)
def tAndV (ta tb:TE):TE:=fun σ H Q=>ta σ H fun x H1=>∃ c,x=.bl c∧if c=true then tb σ H1 Q else Q (.bl false) H1
def tOrV (ta tb:TE):TE:=fun σ H Q=>ta σ H fun x H1=>∃ c,x=.bl c∧if c=true then Q (.bl true) H1 else tb σ H1 Q
def tNotV (ta:TE):TE:=fun σ H Q=>ta σ H fun x H1=>∃ c,x=.bl c∧Q (.bl (!c)) H1
theorem pe_one {op} {t:TE} (h:PE X a t):PE X (.BoolOp op [a] pos) t:=fun pins s σ H Q I hw=>BoolOp_one (h pins s σ H Q I hw)
theorem pe_and (ha:PE X a ta) (hb:PE X (.BoolOp .And (b :: rest) pos) tb):PE X (.BoolOp .And (a :: b :: rest) pos) (tAndV ta tb):=by
  intro pins s σ H Q I h
  refine BoolOp_and (thn (ha pins s σ H _ I h) fun v s1 ⟨x,H1,I1,r1,q1⟩=>?_)
  obtain ⟨c,rfl,q1⟩:=q1
  cases r1
  refine wpAny_truthy_bool ?_
  cases c with
  | true=>exact hb pins s1 σ H1 Q I1 q1
  | false=>exact ⟨.bl false,H1,I1,rfl,q1⟩
theorem pe_or (ha:PE X a ta) (hb:PE X (.BoolOp .Or (b :: rest) pos) tb):PE X (.BoolOp .Or (a :: b :: rest) pos) (tOrV ta tb):=by
  intro pins s σ H Q I h
  refine BoolOp_or (thn (ha pins s σ H _ I h) fun v s1 ⟨x,H1,I1,r1,q1⟩=>?_)
  obtain ⟨c,rfl,q1⟩:=q1
  cases r1
  refine wpAny_truthy_bool ?_
  cases c with
  | false=>exact hb pins s1 σ H1 Q I1 q1
  | true=>exact ⟨.bl true,H1,I1,rfl,q1⟩
theorem pe_not (ha:PE X a ta):PE X (.UnaryOp .Not a pos) (tNotV ta):=by
  intro pins s σ H Q I h
  refine UnaryOp_ (thn (ha pins s σ H _ I h) fun v s1 ⟨x,H1,I1,r1,q1⟩=>?_)
  obtain ⟨c,rfl,q1⟩:=q1
  cases r1
  exact not_of (wpAny_truthy_bool ⟨.bl (!c),H1,I1,rfl,q1⟩)
def tIf (t:TT) (ta tb:TE):TE:=fun σ H Q=>t σ H fun c H1=>if c=true then ta σ H1 Q else tb σ H1 Q
theorem pe_ifExp {c:Expr} (hc:PT X c tA) (ha:PE X a ta) (hb:PE X b tb):PE X (.IfExp c a b pos) (tIf tA ta tb):=by
  intro pins s σ H Q I h
  refine wpAny_IfExp (thn (hc pins s σ H _ I h) fun d s1 ⟨H1,I1,q1⟩=>?_)
  cases d with
  | true=>exact ha pins s1 σ H1 Q I1 q1
  | false=>exact hb pins s1 σ H1 Q I1 q1
end
end L2
namespace L2
open PySem PySem.Spec PyProof.Rows
def SqL (K:PySem.W.Frag) (H:Hp) (a:Addr) (xs:List V):Prop :=
  Rd H a (.lst xs) ∨
    ∃ (o:Obj) (its:Array Value) (n:Nat),K.lookup a=some o∧o.cls=.type "list"∧o.dict=none∧o.data=.seq its n∧its.size≤sizeLine∧Vals xs its.toList
def SqT (K:PySem.W.Frag) (H:Hp) (a:Addr) (xs:List V):Prop :=
  Rd H a (.tup xs) ∨
    ∃ (o:Obj) (its:Array Value) (n:Nat),K.lookup a=some o∧o.cls=.type "tuple"∧o.data=.seq its n∧its.size≤sizeLine∧Vals xs its.toList
def absV:Value→Option V
  | .none=>some .non
  | .bool b=>some (.bl b)
  | .int i _=>some (.int i)
  | .str x _=>some (.str x)
  | .bytes b _=>some (.byt b)
  | .float b _=>some (.flt b)
  | .ref a=>some (.ref a)
  | .type n=>some (.ty n)
  | _=>none
theorem RelV.abs {x:V} {u:Value} (r:RelV x u):absV u=some x:=by
  cases x with
  | non=>cases r;rfl
  | bl _=>cases r;rfl
  | int _=>obtain ⟨t,rfl⟩:=r;rfl
  | str _=>obtain ⟨t,rfl⟩:=r;rfl
  | byt _=>obtain ⟨t,rfl⟩:=r;rfl
  | flt _=>obtain ⟨t,rfl⟩:=r;rfl
  | ref _=>cases r;rfl
  | ty _=>cases r;rfl
theorem RelV.inj {x y:V} {u:Value} (r:RelV x u) (q:RelV y u):x=y:=Option.some.inj (r.abs.symm.trans q.abs)
theorem Vals.inj:∀ {xs ys:List V} {us:List Value},Vals xs us→Vals ys us→xs=ys
  | _,_,_,.nil,.nil=>rfl
  | _,_,_,.cons r t,.cons r' t'=>by rw [r.inj r',Vals.inj t t']
section
variable {X:Cx} {pins:List (Addr × Obj)} {σ:St} {H:Hp} {s:Shared} {a:Addr} {xs ys:List V}
theorem SqL.of {K:PySem.W.Frag} (h:H a=some (.lst xs)):SqL K H a xs:=.inl (.inl h)
theorem SqT.of {K:PySem.W.Frag} (h:H a=some (.tup xs)):SqT K H a xs:=.inl (.inl h)
theorem Inv.list (I:Inv X pins σ H s) (h:SqL X.K H a xs):∃ its:List Value,Vals xs its∧PlainL s.heap a its.toArray∧xs.length≤sizeLine:=by
  rcases h with h | ⟨o,its,n,hk,hc,hd,hs,hz,r⟩
  · obtain ⟨z,its,n,r,e⟩:=h.ok I.hok
    exact ⟨its,r,⟨_,n,e,rfl,rfl,rfl⟩,z⟩
  · refine ⟨its.toList,r,⟨o,n,I.kIn a o hk,hc,hd,by simpa using hs⟩,?_⟩
    have e:=r.length
    simp only [Array.length_toList] at e
    omega
theorem Inv.tuple (I:Inv X pins σ H s) (h:SqT X.K H a xs):∃ its:List Value,Vals xs its∧IsTup s.heap a its.toArray∧xs.length≤sizeLine:=by
  rcases h with h | ⟨o,its,n,hk,hc,hs,hz,r⟩
  · obtain ⟨z,its,r,p⟩:=h.ok I.hok
    exact ⟨its,r,p,z⟩
  · refine ⟨its.toList,r,⟨o,I.kIn a o hk,hc,n,by simpa using hs⟩,?_⟩
    have e:=r.length
    simp only [Array.length_toList] at e
    omega
theorem Inv.list_inj (I:Inv X pins σ H s) (h:SqL X.K H a xs) (h':SqL X.K H a ys):xs=ys:=by
  obtain ⟨its,r,⟨o,n,e,_,_,d⟩,_⟩:=I.list h
  obtain ⟨its',r',⟨o',n',e',_,_,d'⟩,_⟩:=I.list h'
  rw [e] at e';cases e'
  rw [d] at d'
  injection d' with d1 _
  have:its=its':=by simpa using congrArg Array.toList d1
  subst this
  exact r.inj r'
theorem Inv.tuple_inj (I:Inv X pins σ H s) (h:SqT X.K H a xs) (h':SqT X.K H a ys):xs=ys:=by
  obtain ⟨its,r,⟨o,e,_,n,d⟩,_⟩:=I.tuple h
  obtain ⟨its',r',⟨o',e',_,n',d'⟩,_⟩:=I.tuple h'
  rw [e] at e';cases e'
  rw [d] at d'
  injection d' with d1 _
  have:its=its':=by simpa using congrArg Array.toList d1
  subst this
  exact r.inj r'
end
abbrev Cx.wish (X:Cx) (E:Value→Shared→Prop):Cx:={ X with xe:=E }
abbrev Cx.nox (X:Cx):Cx:=X.wish fun _ _=>False
theorem Cx.Ok.wish {X:Cx} (ok:X.Ok) (E:Value→Shared→Prop):(X.wish E).Ok :=
  ⟨ok.mod,ok.kind,ok.glob,ok.blt,ok.above,ok.inj,ok.has,ok.cab,ok.hd,ok.frames,ok.stk,ok.exf,ok.bs,ok.bsz,ok.noex,ok.exfs,ok.funs,ok.frf⟩
theorem Cx.Ok.unwish {X:Cx} {E:Value→Shared→Prop} (ok:(X.wish E).Ok):X.Ok :=
  ⟨ok.mod,ok.kind,ok.glob,ok.blt,ok.above,ok.inj,ok.has,ok.cab,ok.hd,ok.frames,ok.stk,ok.exf,ok.bs,ok.bsz,ok.noex,ok.exfs,ok.funs,ok.frf⟩
section
variable {X:Cx} {pins:List (Addr × Obj)} {σ:St} {H:Hp} {s:Shared} {E:Value→Shared→Prop}
theorem Inv.wish (I:Inv X pins σ H s) (E:Value→Shared→Prop):Inv (X.wish E) pins σ H s:=⟨I.ok.wish E,I.os,I.bare,I.base,I.loc,I.cell,I.free,I.freeC,I.pin,I.hok,I.len⟩
theorem Inv.unwish (I:Inv (X.wish E) pins σ H s):Inv X pins σ H s:=⟨I.ok.unwish,I.os,I.bare,I.base,I.loc,I.cell,I.free,I.freeC,I.pin,I.hok,I.len⟩
theorem SP.unwish {D:Ends} {f:Flow} {s':Shared} (h:SP (X.wish E) pins D f s'):SP X pins D f s':=by
  cases f with
  | next=>obtain ⟨σ',H',I,q⟩:=h;exact ⟨σ',H',I.unwish,q⟩
  | brk=>obtain ⟨σ',H',I,q⟩:=h;exact ⟨σ',H',I.unwish,q⟩
  | cont=>obtain ⟨σ',H',I,q⟩:=h;exact ⟨σ',H',I.unwish,q⟩
  | ret u=>obtain ⟨v,σ',H',I,r,q⟩:=h;exact ⟨v,σ',H',I.unwish,r,q⟩
theorem PSs.nox {st:List Stmt} {t:TS} (h:PSs X.nox st t):PSs X st t:=fun pins s σ H D I hw =>
  wpAny_mono (h pins s σ H D (I.wish _) hw) (fun _ _ q=>q.unwish) fun _ _ z=>False.elim z
end
section
variable {X:Cx} {st:Stmt} {rest:List Stmt} {t u:TS} {e:Expr} {te:TE} {pos:Pos}
def tNext:TS:=fun D σ H=>D.nx σ H
def tSeq (t u:TS):TS:=fun D σ H=>t { D with nx:=u D } σ H
theorem pss_nil:PSs X [] tNext:=fun _ _ σ H _ I h=>wpAny_execs_nil ⟨σ,H,I,h⟩
theorem sC_ (h1:PS X st t) (h2:PSs X rest u):PSs X (st :: rest) (tSeq t u):=by
  intro pins s σ H D I h
  refine wpAny_execs_cons (thn (h1 pins s σ H { D with nx:=u D } I h) fun f s1 q=>?_)
  cases f with
  | next =>
    obtain ⟨σ',H',I',q⟩:=q
    exact h2 pins s1 σ' H' D I' q
  | ret v=>exact q
  | brk=>exact q
  | cont=>exact q
theorem sO_ (h1:PS X st t):PSs X [st] t:=by
  intro pins s σ H D I h
  refine wpAny_execs_cons (thn (h1 pins s σ H D I h) fun f s1 q=>?_)
  cases f with
  | next=>exact wpAny_execs_nil q
  | ret v=>exact q
  | brk=>exact q
  | cont=>exact q
theorem Inv.quiet {pins:List (Addr × Obj)} {σ:St} {H:Hp} {s:Shared} (I:Inv X pins σ H s):interactive X.env=false:=by simp [interactive,I.ok.kind]
def tDrop (te:TE):TS:=fun D σ H=>te σ H fun _ H1=>D.nx σ H1
theorem ps_expr (he:PE X e te) (hs:swapsWith e none pos.line X.env=pure false:=by rfl):PS X (.Expr e pos) (tDrop te):=by
  intro pins s σ H D I h
  exact wpAny_Expr_any (thn (he pins s σ H _ I h) fun v s1 ⟨x,H1,I1,r1,q1⟩=>⟨σ,H1,I1,q1⟩) I.quiet hs
def tRet (te:TE):TS:=fun D σ H=>te σ H D.rt
theorem ps_ret (he:PE X e te):PS X (.Return (some e) pos) (tRet te):=by
  intro pins s σ H D I h
  exact wpAny_Return_some (thn (he pins s σ H _ I h) fun v s1 ⟨x,H1,I1,r1,q1⟩=>⟨x,σ,H1,I1,r1,q1⟩)
def tIfS (c:TT) (t u:TS):TS:=fun D σ H=>c σ H fun b H1=>if b=true then t D σ H1 else u D σ H1
theorem ps_if {c:Expr} {a b:List Stmt} {tc:TT} (hc:PT X c tc) (ha:PSs X a t) (hb:PSs X b u):PS X (.If c a b pos) (tIfS tc t u):=by
  intro pins s σ H D I h
  refine wpAny_If (thn (hc pins s σ H _ I h) fun d s1 ⟨H1,I1,q1⟩=>?_)
  cases d with
  | true=>exact ha pins s1 σ H1 D I1 q1
  | false=>exact hb pins s1 σ H1 D I1 q1
end
abbrev TG:=V→St→Hp→(St→Hp→Prop)→Prop
abbrev TGs:=List V→St→Hp→(St→Hp→Prop)→Prop
def PG (X:Cx) (target:Expr) (t:TG):Prop :=
  ∀ (pins:List (Addr × Obj)) (s:Shared) (σ:St) (H:Hp) (v:V) (u:Value) (Q:St→Hp→Prop),Inv X pins σ H s→RelV v u→t v σ H Q →
    wpAny (model X.prog X.w) X.A (assign target X.env u) (fun _ s'=>∃ σ' H',Inv X pins σ' H' s'∧Q σ' H') X.xe s
def PGs (X:Cx) (ts:List Expr) (t:TGs):Prop :=
  ∀ (pins:List (Addr × Obj)) (s:Shared) (σ:St) (H:Hp) (vs:List V) (us:List Value) (Q:St→Hp→Prop),Inv X pins σ H s→Vals vs us→t vs σ H Q →
    wpAny (model X.prog X.w) X.A (assignInOrder ((assignEach ts X.env).map (·.2)) us) (fun _ s'=>∃ σ' H',Inv X pins σ' H' s'∧Q σ' H') X.xe s
abbrev TSet:=V→V→V→Hp→(Hp→Prop)→Prop
def PSet (X:Cx) (t:TSet):Prop :=
  ∀ (pins:List (Addr × Obj)) (s:Shared) (σ:St) (H:Hp) (o i v:V) (ov iv u:Value) (Q:Hp→Prop),Inv X pins σ H s→RelV o ov→RelV i iv→RelV v u→t o i v H Q →
    wpAny (model X.prog X.w) X.A (setItem ov iv u) (fun _ s'=>∃ H',Inv X pins σ H' s'∧Q H') X.xe s
abbrev TIp:=V→V→Hp→VK→Prop
def PIp (X:Cx) (op:Operator) (t:TIp):Prop :=
  ∀ (pins:List (Addr × Obj)) (s:Shared) (σ:St) (H:Hp) (x y:V) (v u:Value) (Q:VK),Inv X pins σ H s→RelV x v→RelV y u→t x y H Q →
    wpAny (model X.prog X.w) X.A (inplaceOp op v u) (EP X pins σ Q) X.xe s
section
variable {X:Cx} {pos:Pos}
def gName (i:Nat):TG:=fun v σ H Q=>Q (σ.set i (some v)) H
theorem pg_name {i:Nat} {x:Str} (hN:X.N.Nodup) (hi:X.N[i]?=some x) (hx:Loc X.env.scope x) (hf:X.fn x=true∨X.env.scope.names.lookup x=some .local:=by first | exact .inl rfl | exact .inr rfl | assumption):PG X (.Name x pos) (gName i):=by
  intro pins s σ H v u Q I r h
  exact wpAny_assign_Name (store_ok I hN hi hx r (fun s' I'=>⟨_,H,I',h⟩) hf)
def gNil:TGs:=fun vs σ H Q=>vs=[]∧Q σ H
def gCons (t:TG) (u:TGs):TGs:=fun vs σ H Q=>∃ v r,vs=v :: r∧t v σ H fun σ' H'=>u r σ' H' Q
theorem pgs_nil:PGs X [] gNil:=by
  intro pins s σ H vs us Q I r h
  obtain ⟨e,h⟩:=h
  subst e
  cases r
  exact assignInOrder_nil ⟨σ,H,I,h⟩
theorem pgs_cons {e:Expr} {es:List Expr} {t:TG} {u:TGs} (h1:PG X e t) (h2:PGs X es u)
    (hs:(assignEach (e :: es) X.env).map (·.2)=assign e X.env :: (assignEach es X.env).map (·.2):=by rfl):PGs X (e :: es) (gCons t u):=by
  intro pins s σ H vs us Q I r h
  obtain ⟨v,vr,e1,h⟩:=h
  subst e1
  cases r with
  | cons r rr =>
    rw [hs]
    refine assignInOrder_cons (thn (h1 pins s σ H _ _ _ I r h) fun _ s1 ⟨σ1,H1,I1,q1⟩=>?_)
    exact h2 pins s1 σ1 H1 _ _ Q I1 rr q1
def gTup (K:PySem.W.Frag) (n:Nat) (t:TGs):TG:=fun v σ H Q=>∃ a xs,v=.ref a∧SqT K H a xs∧xs.length=n∧t xs σ H Q
theorem pg_tup {es:List Expr} {k:Nat} {t:TGs} {n:Nat} (hc:X.calm=true) (h:PGs X es t)
    (hn:(assignEach es X.env).length=n:=by rfl) (hst:(assignEach es X.env).findIdx? (·.1)=none:=by rfl):PG X (.Tuple es k pos) (gTup X.K n t):=by
  intro pins s σ H v u Q I r hw
  obtain ⟨a,xs,e1,hq,hl,hw⟩:=hw
  subst e1
  cases r
  obtain ⟨its,rv,ht,hz⟩:=I.tuple hq
  refine assign_Tuple_tuple (I.ok.hd hc) ht (by simp [hn,← hl,rv.length]) hst fun h' hx=>?_
  have I1:Inv X pins σ H { s with heap:=h' }:=I.kept (t':=s.toks) fun b o e=>hx b o (Nat.ne_of_lt (Heap.lt_size e)) e
  exact h pins _ σ H xs _ Q I1 (by simpa using rv) hw
def gSub (to ti:TE) (t:TSet):TG:=fun v σ H Q=>to σ H fun o H1=>ti σ H1 fun i H2=>t o i v H2 fun H3=>Q σ H3
theorem pg_sub {o i:Expr} {to ti:TE} {t:TSet} (ho:PE X o to) (hi:PE X i ti) (hs:PSet X t)
    (ha:∀ v,assign (.Subscript o i pos) X.env v=(do
      let ov ← holding [v] (eval o X.env)
      let iv ← holding [v,ov] (eval i X.env)
      standAt pos
      holding [v,ov,iv] (setItem ov iv v)
      release [v,ov,iv] []):=by intro _;rfl):PG X (.Subscript o i pos) (gSub to ti t):=by
  intro pins s σ H v u Q I r h
  rw [ha]
  refine wpAny_bind (wpAny_holding (thn (ho pins s σ H _ I h) fun ov s1 ⟨x,H1,I1,r1,q1⟩=>?_))
  refine wpAny_bind (wpAny_holding (thn (hi pins s1 σ H1 _ I1 q1) fun iv s2 ⟨y,H2,I2,r2,q2⟩=>?_))
  refine wpAny_bind (wpAny_standAt (wpAny_bind (wpAny_holding (thn (hs pins s2 σ H2 x y v ov iv u _ I2 r1 r2 r q2) fun _ s3 ⟨H3,I3,q3⟩=>?_))))
  exact wpAny_release ⟨σ,H3,I3,q3⟩
def tAsg (te:TE) (g:TG):TS:=fun D σ H=>te σ H fun x H1=>g x σ H1 D.nx
theorem ps_asg {tg e:Expr} {te:TE} {g:TG} (he:PE X e te) (hg:PG X tg g) (hs:swapsWithSole [tg] e pos.line X.env=pure false:=by rfl) (hw:swappedStores [tg] e X.env=pure none:=by rfl)
    (h1:(assignEach [tg] X.env).map (·.2)=[assign tg X.env]:=by rfl):PS X (.Assign [tg] e pos) (tAsg te g):=by
  intro pins s σ H D I h
  refine wpAny_Assign_stores (thn (he pins s σ H _ I h) fun v s1 ⟨x,H1,I1,r1,q1⟩=>?_) hs hw
  rw [h1]
  exact thn (hg pins s1 σ H1 x v _ I1 r1 q1) fun _ s2 q=>q
theorem zS_ {i:Nat} {x:Str} {e:Expr} {te:TE} {pos':Pos} (hN:X.N.Nodup) (hi:X.N[i]?=some x) (hx:Loc X.env.scope x) (he:PE X e te) (hs:swapsWith e (some (.Name x pos')) pos.line X.env=pure false:=by rfl) (hf:X.fn x=true∨X.env.scope.names.lookup x=some .local:=by first | exact .inl rfl | exact .inr rfl | assumption) :
    PS X (.Assign [.Name x pos'] e pos) (tAsg te (gName i)):=by
  intro pins s σ H D I h
  refine wpAny_Assign_Name (thn (he pins s σ H _ I h) fun v s1 ⟨y,H1,I1,r1,q1⟩=>?_) hs
  exact store_ok I1 hN hi hx r1 (fun s2 I2=>⟨_,H1,I2,q1⟩) hf
def tAug (i:Nat) (te:TE) (ti:TIp):TS:=fun D σ H=>∃ x,σ[i]?=some (some x)∧te σ H fun y H1=>ti x y H1 fun z H2=>D.nx (σ.set i (some z)) H2
theorem ps_aug {i:Nat} {x:Str} {e:Expr} {te:TE} {op:Operator} {ti:TIp} {pos':Pos} (hN:X.N.Nodup) (hi:X.N[i]?=some x) (hx:Loc X.env.scope x) (he:PE X e te) (ho:PIp X op ti) (hf:X.fn x=true∨X.env.scope.names.lookup x=some .local:=by first | exact .inl rfl | exact .inr rfl | assumption) :
    PS X (.AugAssign (.Name x pos') op e pos) (tAug i te ti):=by
  intro pins s σ H D I h
  obtain ⟨v,e1,h⟩:=h
  obtain ⟨m,hn,hl⟩:=I.loc
  have vis:Vis X.env.scope x:=by rcases hx with k | k;exact .inl k;exact .inr (.inl k)
  obtain ⟨u,r,l⟩:=hl i x v hi e1 vis
  refine wpAny_AugAssign_Name ?_
  have go:wpAny (model X.prog X.w) X.A (eval e X.env) (fun w s₂=>wpAny (model X.prog X.w) X.A (inplaceOp op u w) (fun r s₃=>wpAny (model X.prog X.w) X.A (storeName X.env x r) (fun _=>SP X pins D .next) X.xe s₃) X.xe s₂) X.xe s:=by
    refine thn (he pins s σ H _ I h) fun w s1 ⟨y,H1,I1,r1,q1⟩=>?_
    refine thn (ho pins s1 σ H1 v y u w _ I1 r r1 q1) fun z s2 ⟨zv,H2,I2,r2,q2⟩=>?_
    exact store_ok I2 hN hi hx r2 (fun s3 I3=>⟨_,H2,I3,q2⟩) hf
  rcases l with ⟨hk,hm⟩ | ⟨hk,c,hc,hcell⟩
  · exact wpAny_loadName_local I.ok.kind hk hn hm go
  · rcases hk with hk | hk
    · exact wpAny_loadName_cell I.ok.kind hk hc hcell go
    · rcases hx with k | k
      · have:X.env.scope.names.lookup x=some .free:=hk
        rw [k] at this;cases this
      · have:X.env.scope.names.lookup x=some .free:=hk
        rw [k] at this;cases this
def ipI (f:Int→Int→Int):TIp:=fun x y H Q=>∃ i j,x=.int i∧y=.int j∧Q (.int (f i j)) H
theorem ip_add:PIp X .Add (ipI fun i j=>i+j):=by
  intro pins s σ H x y v u Q I r1 r2 h
  obtain ⟨i,j,e1,e2,q⟩:=h
  subst e1;subst e2
  obtain ⟨t,rfl⟩:=r1
  obtain ⟨t',rfl⟩:=r2
  exact iadd_int ⟨.int _,H,I.tok _,⟨_,rfl⟩,q⟩
end
section
variable {X:Cx} {pos:Pos}
def tWhile (c:TT) (tb:TS):TS:=fun D σ H=>∃ W:Nat→St→Hp→Prop,(∃ m,W m σ H)∧∀ m σ H,W m σ H →
  c σ H fun b H1=>if b=true then ∃ N:St→Hp→Prop,(∀ σ' H',N σ' H'→∃ m',m' < m∧W m' σ' H')∧tb { D with nx:=N,ct:=N,bk:=D.nx } σ H1 else D.nx σ H1
theorem ps_while {c:Expr} {body:List Stmt} {tc:TT} {tb:TS} (hp:PassesOwn (model X.prog X.w) X.A X.env X.xe) (hc:PT X c tc) (hb:PSs X body tb):PS X (.While c body [] pos) (tWhile tc tb):=by
  intro pins s σ H D I h
  obtain ⟨W,⟨m0,w0⟩,turn⟩:=h
  refine wpAny_While (codeAny_whileLoop (fun n s'=>∃ σ' H',Inv X pins σ' H' s'∧W n σ' H') ?_ m0 ⟨σ,H,I,w0⟩)
  rintro n s1 ⟨σ1,H1,I1,w1⟩
  refine wpAny_passesOwn hp (thn (hc pins s1 σ1 H1 _ I1 (turn n σ1 H1 w1)) fun b s2 ⟨H2,I2,q2⟩=>?_)
  cases b with
  | true =>
    obtain ⟨N,hN,q2⟩:=q2
    rw [if_pos rfl]
    refine wpAny_passesOwn hp (thn (hb pins s2 σ1 H2 _ I2 q2) fun f s3 q3=>?_)
    cases f with
    | next =>
      obtain ⟨σ3,H3,I3,n3⟩:=q3
      obtain ⟨m',hm,w3⟩:=hN σ3 H3 n3
      exact ⟨m',hm,σ3,H3,I3,w3⟩
    | cont =>
      obtain ⟨σ3,H3,I3,n3⟩:=q3
      obtain ⟨m',hm,w3⟩:=hN σ3 H3 n3
      exact ⟨m',hm,σ3,H3,I3,w3⟩
    | brk=>exact q3
    | ret v=>exact q3
  | false =>
    rw [if_neg Bool.false_ne_true]
    exact wpAny_execs_nil ⟨σ1,H2,I2,q2⟩
end
structure It where
  go:Nat→Hp→Prop
  yld:Nat→Hp→V→Hp→Prop
  stop:Nat→Hp→Prop
def FpOk (X:Cx) (pins:List (Addr × Obj)) (H:Hp) (b:Addr):Prop :=
  H b=none∧b≠X.env.locals∧b ∉ X.fs∧(b ∈ X.ex∨X.s₀.heap.objs.size≤b)∧(∀ x c,X.env.cells.lookup x=some c→c≠b)∧∀ p ∈ X.pn++pins,p.1≠b
theorem Inv.fpOk {X:Cx} {pins:List (Addr × Obj)} {σ:St} {H H':Hp} {s:Shared} {b:Addr} (I:Inv X pins σ H s) (hb:s.heap.objs.size≤b) (hn:H' b=none):FpOk X pins H' b:=by
  refine ⟨hn,Nat.ne_of_gt (Nat.lt_of_lt_of_le I.lt hb),I.nofs hb,.inr (Nat.le_trans I.sz hb),fun x c e z=>?_,fun p hp z=>?_⟩
  · obtain ⟨v,q⟩:=I.cell x c e
    exact absurd (Nat.lt_of_lt_of_le q.lt (by rw [z];exact hb)) (Nat.lt_irrefl _)
  · exact absurd (Nat.lt_of_lt_of_le (Heap.lt_size (I.pin p hp).1) (by rw [z];exact hb)) (Nat.lt_irrefl _)
structure Turn (P:Program) (w:World) (K:PySem.W.Frag) (tg:Expr) (J:It) (fp:List Addr) (it:Addr) (tn:Nat→Heap→Prop):Prop where
  mem:it ∈ fp
  obj:∀ i h,tn i h→∀ b ∈ fp,∃ o,h.get? b=some o∧∀ v,o.data≠.cell v
  keep:∀ i h h',tn i h→(∀ b ∈ fp,∀ o,h.get? b=some o→h'.get? b=some o)→tn i h'
  item:∀ (X:Cx),X.prog=P→X.w=w→X.K=K→X.calm=true→∀ (i:Nat) (pins:List (Addr × Obj)) (s:Shared) (σ:St) (H:Hp) (E:Value→Shared→Prop),Inv X pins σ H s→(∀ b ∈ fp,FpOk X pins H b)→tn i s.heap→J.go i H →
    wpAny (model P w) X.A (pyNext (.ref it)) (fun r s1=>∃ u,r=some u ∧
      wpAny (model P w) X.A (letOwnedTupleGo tg (.ref it) u) (fun _ s2=>∃ x H',Inv X pins σ H' s2∧RelV x u∧J.yld i H x H'∧tn (i+1) s2.heap∧∀ b ∈ fp,H' b=none) E s1) E s
  done:∀ (X:Cx),X.prog=P→X.w=w→X.K=K→X.calm=true→∀ (i:Nat) (pins:List (Addr × Obj)) (s:Shared) (σ:St) (H:Hp) (E:Value→Shared→Prop),Inv X pins σ H s→(∀ b ∈ fp,FpOk X pins H b)→tn i s.heap→J.stop i H →
    wpAny (model P w) X.A (pyNext (.ref it)) (fun r s1=>r=none∧Inv X pins σ H s1) E s
  self:∀ (A:Around) (i:Nat) (s:Shared) (Q:Value→Shared→Prop) (E:Value→Shared→Prop),tn i s.heap→Q (.ref it) s→wpAny (model P w) A (pyIter (.ref it)) Q E s
abbrev TI:=St→Hp→(It→Hp→Prop)→Prop
def PIE (X:Cx) (pins:List (Addr × Obj)) (σ:St) (tg:Expr) (R:It→Hp→Prop) (itv:Value) (s2:Shared):Prop :=
  ∃ (it:Addr) (fp:List Addr) (tn:Nat→Heap→Prop) (J:It) (H':Hp),itv=.ref it∧Inv X pins σ H' s2∧Turn X.prog X.w X.K tg J fp it tn∧tn 0 s2.heap∧(∀ b ∈ fp,FpOk X pins H' b)∧R J H'
def PI (X:Cx) (tg iter:Expr) (wi:TI):Prop :=
  ∀ (pins:List (Addr × Obj)) (s:Shared) (σ:St) (H:Hp) (R:It→Hp→Prop),Inv X pins σ H s→wi σ H R →
    wpAny (model X.prog X.w) X.A (eval iter X.env) (fun v s1=>wpAny (model X.prog X.w) X.A (pyIter v) (PIE X pins σ tg R) X.xe s1) X.xe s
theorem go_of {M:Model} {A:Around} {E:Value→Shared→Prop} {s:Shared} {tg:Expr} {it:Addr} {u:Value} {o:Obj} {n:String} {vs:Array Value} {Q:Unit→Shared→Prop} (ho:s.heap.get? it=some o) (hc:o.cls=.type n) (hd:o.data=.fields vs)
    (hn:["enumerate","zip","dict_itemiterator","dict_reverseitemiterator","odict_iterator","itertools.zip_longest","itertools.pairwise"].contains n=false) (hQ:Q () s):wpAny M A (letOwnedTupleGo tg (.ref it) u) Q E s:=by
  unfold letOwnedTupleGo
  cases tg <;> first
    | exact wpAny_pure hQ
    | (cases u <;> first
        | exact wpAny_pure hQ
        | (refine wpAny_bind (wpAny_load ho ?_)
           rw [hc,hd]
           show wpAny M A (if (["enumerate","zip","dict_itemiterator","dict_reverseitemiterator","odict_iterator","itertools.zip_longest","itertools.pairwise"].contains n&&vs[0]? == some (rawInt _))=true then _ else _) Q E s
           rw [if_neg (by intro h;rw [hn,Bool.false_and] at h;cases h)]
           exact wpAny_pure hQ))
def Itl (K:PySem.W.Frag) (a:Addr):It :=
  ⟨fun i H=>∃ xs x,SqL K H a xs∧xs[i]?=some x,fun i H x H'=>H'=H∧∀ xs,SqL K H a xs→xs[i]?=some x,fun i H=>∃ xs,SqL K H a xs∧xs.length≤i⟩
def Itt (K:PySem.W.Frag) (a:Addr):It :=
  ⟨fun i H=>∃ xs x,SqT K H a xs∧xs[i]?=some x,fun i H x H'=>H'=H∧∀ xs,SqT K H a xs→xs[i]?=some x,fun i H=>∃ xs,SqT K H a xs∧xs.length≤i⟩
def Itr (lo:Int) (n:Nat):It:=⟨fun i _=>i < n,fun i H x H'=>H'=H∧x=.int (lo+i),fun i _=>n≤i⟩
theorem turn_list {P:Program} {w:World} {K:PySem.W.Frag} {tg:Expr} (a it:Addr):Turn P w K tg (Itl K a) [it] it (fun i h=>h.IsListIter it a i) where
  mem:=by simp
  obj:=fun i h st b hb=>by
    have e:b=it:=by simpa using hb
    subst e
    obtain ⟨o,e,c,d⟩:=st
    exact ⟨o,e,fun v z=>by rw [d] at z;cases z⟩
  keep:=fun i h h' st k=>st.at fun o e=>k it (by simp) o e
  item:=by
    intro X hP hw hK hc i pins s σ H E I hf st hg
    subst hP hw hK
    obtain ⟨xs,x,hq,hx⟩:=hg
    obtain ⟨its,rv,p,hz⟩:=I.list hq
    obtain ⟨u,hu,ru⟩:=rv.get hx
    obtain ⟨f0,f1,f2,f3,f4,f5⟩:=hf it (by simp)
    refine wpAny_pyNext_list_item st p.isList (x:=u) (by simpa using hu) fun h' st' sb=>?_
    have I1:Inv X pins σ H { s with heap:=h' }:=I.turned (t':=s.toks) (fun b o hb e=>(sb.2 b hb).trans e) f0 f1 f3 f4 f5
    obtain ⟨o,e,c,d⟩:=id st'
    exact ⟨u,rfl,go_of (s:={ s with heap:=h' }) e c d (by decide) ⟨x,H,I1,ru,⟨rfl,fun ys hy=>by rw [I.list_inj hy hq];exact hx⟩,st',fun b hb=>(hf b hb).1⟩⟩
  done:=by
    intro X hP hw hK hc i pins s σ H E I hf st hg
    subst hP hw hK
    obtain ⟨xs,hq,hx⟩:=hg
    obtain ⟨its,rv,p,hz⟩:=I.list hq
    obtain ⟨f0,f1,f2,f3,f4,f5⟩:=hf it (by simp)
    have hl:=rv.length
    exact wpAny_pyNext_list_end (I.ok.hd hc) st p.isList (by simp;omega) fun h' eb=>⟨rfl,I.turned (t':=s.toks) (fun b o hb e=>eb b o hb e) f0 f1 f3 f4 f5⟩
  self:=fun _ _ _ _ _ st h=>wpAny_pyIter_listiter st h
theorem turn_tuple {P:Program} {w:World} {K:PySem.W.Frag} {tg:Expr} (a it:Addr):Turn P w K tg (Itt K a) [it] it (fun i h=>h.IsTupleIter it a i) where
  mem:=by simp
  obj:=fun i h st b hb=>by
    have e:b=it:=by simpa using hb
    subst e
    obtain ⟨o,e,c,d⟩:=st
    exact ⟨o,e,fun v z=>by rw [d] at z;cases z⟩
  keep:=fun i h h' st k=>st.at fun o e=>k it (by simp) o e
  item:=by
    intro X hP hw hK hc i pins s σ H E I hf st hg
    subst hP hw hK
    obtain ⟨xs,x,hq,hx⟩:=hg
    obtain ⟨its,rv,p,hz⟩:=I.tuple hq
    obtain ⟨u,hu,ru⟩:=rv.get hx
    obtain ⟨f0,f1,f2,f3,f4,f5⟩:=hf it (by simp)
    refine wpAny_pyNext_tuple_item st (show s.heap.IsTuple a its.toArray from p) (x:=u) (by simpa using hu) fun h' st' sb=>?_
    have I1:Inv X pins σ H { s with heap:=h' }:=I.turned (t':=s.toks) (fun b o hb e=>(sb.2 b hb).trans e) f0 f1 f3 f4 f5
    obtain ⟨o,e,c,d⟩:=id st'
    exact ⟨u,rfl,go_of (s:={ s with heap:=h' }) e c d (by decide) ⟨x,H,I1,ru,⟨rfl,fun ys hy=>by rw [I.tuple_inj hy hq];exact hx⟩,st',fun b hb=>(hf b hb).1⟩⟩
  done:=by
    intro X hP hw hK hc i pins s σ H E I hf st hg
    subst hP hw hK
    obtain ⟨xs,hq,hx⟩:=hg
    obtain ⟨its,rv,p,hz⟩:=I.tuple hq
    obtain ⟨f0,f1,f2,f3,f4,f5⟩:=hf it (by simp)
    have hl:=rv.length
    exact wpAny_pyNext_tuple_end (I.ok.hd hc) st (show s.heap.IsTuple a its.toArray from p) (by simp;omega) fun h' eb=>⟨rfl,I.turned (t':=s.toks) (fun b o hb e=>eb b o hb e) f0 f1 f3 f4 f5⟩
  self:=fun _ _ _ _ _ st h=>wpAny_pyIter_tupleiter st h
theorem turn_range {P:Program} {w:World} {K:PySem.W.Frag} {tg:Expr} (it:Addr) (lo:Int) (n:Nat):Turn P w K tg (Itr lo n) [it] it (fun i h=>IsRangeIter h it (lo+(i:Nat) * 1) ((n:Int) - (i:Nat)) 1) where
  mem:=by simp
  obj := fun i h st b hb=>by
    have e:b=it:=by simpa using hb
    subst e
    exact ⟨_,st,fun v z=>by
      have z':Data.fields _=Data.cell v:=z
      cases z'⟩
  keep:=fun i h h' st k=>k it (by simp) _ st
  item:=by
    intro X hP hw hK hc i pins s σ H E I hf st hg
    subst hP hw hK
    obtain ⟨f0,f1,f2,f3,f4,f5⟩:=hf it (by simp)
    have W:=Walks.range (prog:=X.prog) (w:=X.w) (I.ok.hd hc) it lo 1 n
    refine W.item i s _ _ hg st fun v h' tk hv st' kk=>?_
    obtain ⟨t,rfl⟩:=hv
    have I1:Inv X pins σ H { s with heap:=h',toks:=tk }:=I.turned (fun b o hb e=>kk b o (by simpa using hb) e) f0 f1 f3 f4 f5
    refine ⟨_,rfl,go_of (s:={ s with heap:=h',toks:=tk }) (n:="range_iterator") st' rfl rfl (by decide) ⟨.int (lo+i),H,I1,⟨t,?_⟩,⟨rfl,rfl⟩,st',fun b hb=>(hf b hb).1⟩⟩
    rw [Int.mul_one]
  done:=by
    intro X hP hw hK hc i pins s σ H E I hf st hg
    subst hP hw hK
    obtain ⟨f0,f1,f2,f3,f4,f5⟩:=hf it (by simp)
    exact wpAny_pyNext_range_end (I.ok.hd hc) st (by have:n≤i:=hg;omega) fun h' eb=>⟨rfl,I.turned (t':=s.toks) (fun b o hb e=>eb b o hb e) f0 f1 f3 f4 f5⟩
  self:=fun _ _ _ _ _ st h=>wpAny_pyIter_rangeiter st h
end L2
namespace L2
open PySem PySem.Spec PyProof.Rows
section
variable {X:Cx} {tg:Expr}
def iList (K:PySem.W.Frag) (tl:TE):TI:=fun σ H R=>tl σ H fun x H1=>∃ a,x=.ref a∧(∃ xs,SqL K H1 a xs)∧R (Itl K a) H1
def iTup (K:PySem.W.Frag) (tl:TE):TI:=fun σ H R=>tl σ H fun x H1=>∃ a,x=.ref a∧(∃ xs,SqT K H1 a xs)∧R (Itt K a) H1
theorem pi_list {l:Expr} {tl:TE} (hl:PE X l tl):PI X tg l (iList X.K tl):=by
  intro pins s σ H R I h
  refine thn (hl pins s σ H _ I h) fun v s1 ⟨x,H1,I1,r1,q1⟩=>?_
  obtain ⟨a,e,⟨xs,hq⟩,q⟩:=q1
  subst e
  cases r1
  obtain ⟨its,rv,p,hz⟩:=I1.list hq
  refine wpAny_pyIter_list p.isList ?_
  refine ⟨s1.heap.objs.size,[s1.heap.objs.size],_,_,H1,rfl,I1.kept (t':=s1.toks) fun b o e=>Heap.get?_push_of_some _ e,turn_list a _,⟨_,Heap.get?_push_size _ rfl,rfl,rfl⟩,fun b hb=>?_,q⟩
  have e:b=s1.heap.objs.size:=by simpa using hb
  subst e
  exact I1.fpOk (Nat.le_refl _) (I1.hok.fresh (Nat.le_refl _))
theorem pi_tup {l:Expr} {tl:TE} (hl:PE X l tl):PI X tg l (iTup X.K tl):=by
  intro pins s σ H R I h
  refine thn (hl pins s σ H _ I h) fun v s1 ⟨x,H1,I1,r1,q1⟩=>?_
  obtain ⟨a,e,⟨xs,hq⟩,q⟩:=q1
  subst e
  cases r1
  obtain ⟨its,rv,p,hz⟩:=I1.tuple hq
  refine wpAny_pyIter_tuple (show s1.heap.IsTuple a its.toArray from p) ?_
  refine ⟨s1.heap.objs.size,[s1.heap.objs.size],_,_,H1,rfl,I1.kept (t':=s1.toks) fun b o e=>Heap.get?_push_of_some _ e,turn_tuple a _,⟨_,Heap.get?_push_size _ rfl,rfl,rfl⟩,fun b hb=>?_,q⟩
  have e:b=s1.heap.objs.size:=by simpa using hb
  subst e
  exact I1.fpOk (Nat.le_refl _) (I1.hok.fresh (Nat.le_refl _))
theorem range_it {pins:List (Addr × Obj)} {σ:St} {H:Hp} {s:Shared} {R:It→Hp→Prop} {E:Value→Shared→Prop} {lo hi:Int} {t u v:Tok} {tk:Nat} (I:Inv X pins σ H s) (h1:-(2 ^ 62)≤lo) (h2:lo < 2 ^ 62) (h3:-(2 ^ 62)≤hi) (h4:hi < 2 ^ 62)
    (q:R (Itr lo (hi - lo).toNat) H):wpAny (model X.prog X.w) X.A (pyIter (.ref s.heap.objs.size)) (PIE X pins σ tg R) E { s with heap:=s.heap.push { cls:=.type "range",data:=.fields #[.int lo t,.int hi u,.int 1 v] },toks:=tk }:=by
  refine wpAny_pyIter_range (IsRange.new ..) (small_one h1 h2 h3 h4) ?_
  have I1:Inv X pins σ H { s with heap:=s.heap.push { cls:=.type "range",data:=.fields #[.int lo t,.int hi u,.int 1 v] },toks:=tk }:=I.kept fun b o e=>Heap.get?_push_of_some _ e
  refine ⟨(s.heap.push { cls:=.type "range",data:=.fields #[.int lo t,.int hi u,.int 1 v] }).objs.size,[(s.heap.push { cls:=.type "range",data:=.fields #[.int lo t,.int hi u,.int 1 v] }).objs.size],_,_,H,rfl,
    I1.kept (t':=tk) fun b o e=>Heap.get?_push_of_some _ e,turn_range _ lo (hi - lo).toNat,?_,fun b hb=>?_,q⟩
  · have e1:lo+((0:Nat):Int) * 1=lo:=by simp
    have e2:(((hi - lo).toNat:Nat):Int) - ((0:Nat):Int)=Builtin.Range.rangeSize lo hi 1:=by rw [rangeSize_one];split <;> omega
    show IsRangeIter _ _ (lo+((0:Nat):Int) * 1) ((((hi - lo).toNat:Nat):Int) - ((0:Nat):Int)) 1
    rw [e1,e2]
    exact Heap.get?_push_size _ rfl
  · have e:b=(s.heap.push { cls:=.type "range",data:=.fields #[.int lo t,.int hi u,.int 1 v] }).objs.size:=by simpa using hb
    subst e
    exact I1.fpOk (Nat.le_refl _) (I1.hok.fresh (Nat.le_refl _))
def iRng1 (ta:TA):TI:=fun σ H R=>ta σ H fun vs H1=>∃ j:Int,vs=[.int j]∧-(2 ^ 62)≤j∧j < 2 ^ 62∧R (Itr 0 j.toNat) H1
theorem pi_range1 {a:Expr} {ta:TA} {p pos:Pos} (hg:Gl X "range") (hm:X.mg "range"=none) (ha:PA X [a] ta) (hs:starEach [a] X.env=[(false,eval a X.env)]:=by rfl):PI X tg (.Call (.Name "range" p) [a] [] pos) (iRng1 ta):=by
  intro pins s σ H R I h
  refine Call_ (ld_blt I hg hm boot_range (PyProof.Rows.callWith_type1 (thn (ha pos pins s σ H _ I h) fun us s1 ⟨vs,H1,I1,r1,q1⟩=>?_) hs rfl))
  obtain ⟨j,e,q1,q2,q⟩:=q1
  subst e
  cases r1 with
  | cons r rr =>
    cases rr
    obtain ⟨t,rfl⟩:=r
    exact call_range_1 (range_it I1 (by omega) (by omega) q1 q2 (by simpa using q))
def tFor (wi:TI) (g:TG) (tb:TS):TS:=fun D σ H=>wi σ H fun J H1=>∃ W:Nat→Nat→St→Hp→Prop,(∃ m,W 0 m σ H1)∧∀ i m σ H,W i m σ H →
  (J.stop i H∧D.nx σ H)∨(J.go i H∧∃ N:St→Hp→Prop,(∀ σ' H',N σ' H'→∃ m',m' < m∧W (i+1) m' σ' H')∧∀ x H',J.yld i H x H'→g x σ H' fun σ2 H2=>tb { D with nx:=N,ct:=N,bk:=D.nx } σ2 H2)
def pinsAt (fp:List Addr) (h:Heap):List (Addr × Obj):=fp.filterMap fun b=>(h.get? b).map fun o=>(b,o)
theorem mem_pinsAt {fp:List Addr} {h:Heap} {b:Addr} {o:Obj} (hb:b ∈ fp) (e:h.get? b=some o):(b,o) ∈ pinsAt fp h:=List.mem_filterMap.mpr ⟨b,hb,by rw [e];rfl⟩
theorem of_pinsAt {fp:List Addr} {h:Heap} {p:Addr × Obj} (hp:p ∈ pinsAt fp h):p.1 ∈ fp∧h.get? p.1=some p.2:=by
  obtain ⟨b,hb,e⟩:=List.mem_filterMap.mp hp
  cases q:h.get? b with
  | none=>rw [q] at e;cases e
  | some o =>
    rw [q] at e
    have e':(b,o)=p:=Option.some.inj e
    subst e'
    exact ⟨hb,q⟩
theorem Inv.pinned {pins:List (Addr × Obj)} {σ:St} {H:Hp} {s:Shared} {fp:List Addr} (I:Inv X pins σ H s) (hf:∀ b ∈ fp,FpOk X pins H b) (ho:∀ b ∈ fp,∃ o,s.heap.get? b=some o∧∀ v,o.data≠.cell v):Inv X (pins++pinsAt fp s.heap) σ H s :=
  I.pins_of fun p hp=>(List.mem_append.mp hp).elim (fun z=>I.pin p (List.mem_append_right _ z)) fun z=>by
    obtain ⟨hb,e⟩:=of_pinsAt z
    obtain ⟨f0,f1,f2,_⟩:=hf p.1 hb
    obtain ⟨o,e',d⟩:=ho p.1 hb
    rw [e] at e';cases e'
    exact ⟨e,f0,f1,f2,d⟩
theorem Inv.unpinned {pins pl:List (Addr × Obj)} {σ:St} {H:Hp} {s:Shared} (I:Inv X (pins++pl) σ H s):Inv X pins σ H s:=I.pins_of fun p hp=>I.pin p (List.mem_append_right _ (List.mem_append_left _ hp))
theorem ps_for {iter:Expr} {body:List Stmt} {wi:TI} {g:TG} {tb:TS} {pos:Pos} (hp:PassesOwn (model X.prog X.w) X.A X.env X.xe) (hc:X.calm=true) (hi:PI X tg iter wi) (hg:PG X tg g) (hb:PSs X body tb)
    (hs:∀ x,foldedSetIterable iter X.env x=pure x:=by intro _;rfl):PS X (.For tg iter body [] pos) (tFor wi g tb):=by
  intro pins s σ H D I h
  refine wpAny_For (thn (hi pins s σ H _ I h) fun v s1 h1=>thn h1 fun itv s2 h2=>?_) hs
  obtain ⟨it,fp,tn,J,H2,e,I2,T,st2,f2,W,⟨m0,w0⟩,turn⟩:=h2
  subst e
  have stat:∀ {H':Hp},(∀ b ∈ fp,H' b=none)→∀ b ∈ fp,FpOk X pins H' b:=fun hn b hb=>⟨hn b hb,(f2 b hb).2⟩
  refine codeAny_forLoop_any (fun n s'=>∃ i σ' H',Inv X pins σ' H' s'∧tn i s'.heap∧(∀ b ∈ fp,H' b=none)∧W i n σ' H') ?_ m0 ⟨0,σ,H2,I2,st2,fun b hb=>(f2 b hb).1,w0⟩
  rintro n s3 ⟨i,σ3,H3,I3,st3,fr3,w3⟩
  rcases turn i n σ3 H3 w3 with ⟨stop,qn⟩ | ⟨go,N,hN,step⟩
  · refine wpAny_passesOwn hp (thn (T.done X rfl rfl rfl hc i pins s3 σ3 H3 X.xe I3 (stat fr3) st3 stop) fun r s4 ⟨hr,I4⟩=>?_)
    subst hr
    exact wpAny_execs_nil ⟨σ3,H3,I4,qn⟩
  · refine wpAny_passesOwn hp (thn (T.item X rfl rfl rfl hc i pins s3 σ3 H3 X.xe I3 (stat fr3) st3 go) fun r s4 ⟨u,hr,h4⟩=>?_)
    subst hr
    refine wpAny_passesOwn hp (thn h4 fun _ s5 ⟨x,H5,I5,r5,y5,st5,fr5⟩=>?_)
    have I5':=I5.pinned (stat fr5) (T.obj _ _ st5)
    refine wpAny_passesOwn hp (thn (hg _ s5 σ3 H5 x u _ I5' r5 (step x H5 y5)) fun _ s6 ⟨σ6,H6,I6,q6⟩=>?_)
    refine wpAny_passesOwn hp (thn (hb _ s6 σ6 H6 _ I6 q6) fun f s7 q7=>?_)
    have again:∀ {σ7:St} {H7:Hp},Inv X (pins++pinsAt fp s5.heap) σ7 H7 s7→N σ7 H7→∃ m,m < n∧∃ i σ' H',Inv X pins σ' H' s7∧tn i s7.heap∧(∀ b ∈ fp,H' b=none)∧W i m σ' H':=fun {σ7 H7} I7 n7=>by
      obtain ⟨m',hm,w7⟩:=hN σ7 H7 n7
      refine ⟨m',hm,i+1,σ7,H7,I7.unpinned,T.keep _ _ _ st5 fun b hb o e=>(I7.pin (b,o) (List.mem_append_right _ (List.mem_append_right _ (mem_pinsAt hb e)))).1,fun b hb=>?_,w7⟩
      obtain ⟨o,e,d⟩:=T.obj _ _ st5 b hb
      exact (I7.pin (b,o) (List.mem_append_right _ (List.mem_append_right _ (mem_pinsAt hb e)))).2.1
    cases f with
    | next=>obtain ⟨σ7,H7,I7,n7⟩:=q7;exact again I7 n7
    | cont=>obtain ⟨σ7,H7,I7,n7⟩:=q7;exact again I7 n7
    | brk=>obtain ⟨σ7,H7,I7,q7⟩:=q7;exact ⟨σ7,H7,I7.unpinned,q7⟩
    | ret v=>obtain ⟨x7,σ7,H7,I7,r7,q7⟩:=q7;exact ⟨x7,σ7,H7,I7.unpinned,r7,q7⟩
end
theorem for_list {K:PySem.W.Frag} {a:Addr} {xs:List V} {g:TG} {tb:TS} {D:Ends} {σ:St} {H:Hp} (Pv:Nat→St→Hp→Prop) (h0:Pv 0 σ H) (hl:∀ i σ H,i≤xs.length→Pv i σ H→SqL K H a xs)
    (hs:∀ i x σ H,xs[i]?=some x→Pv i σ H→g x σ H fun σ2 H2=>tb { D with nx:=Pv (i+1),ct:=Pv (i+1),bk:=D.nx } σ2 H2) (hd:∀ σ H,Pv xs.length σ H→D.nx σ H) :
    ∃ W:Nat→Nat→St→Hp→Prop,(∃ m,W 0 m σ H)∧∀ i m σ H,W i m σ H →
      ((Itl K a).stop i H∧D.nx σ H)∨((Itl K a).go i H∧∃ N:St→Hp→Prop,(∀ σ' H',N σ' H'→∃ m',m' < m∧W (i+1) m' σ' H')∧∀ x H',(Itl K a).yld i H x H'→g x σ H' fun σ2 H2=>tb { D with nx:=N,ct:=N,bk:=D.nx } σ2 H2):=by
  refine ⟨fun i m σ H=>m=xs.length - i∧i≤xs.length∧Pv i σ H,⟨xs.length,by simp,Nat.zero_le _,h0⟩,?_⟩
  rintro i m σ H ⟨rfl,hi,p⟩
  have q:=hl i σ H hi p
  by_cases hlt:i < xs.length
  · refine .inr ⟨⟨xs,xs[i],q,by simp [hlt]⟩,Pv (i+1),fun σ' H' p'=>⟨xs.length - (i+1),by omega,rfl,hlt,p'⟩,fun x H' y=>?_⟩
    obtain ⟨e,y⟩:=y
    subst e
    exact hs i x σ _ (y xs q) p
  · have e:i=xs.length:=by omega
    subst e
    exact .inl ⟨⟨xs,q,Nat.le_refl _⟩,hd σ H p⟩
theorem for_range {lo:Int} {n:Nat} {g:TG} {tb:TS} {D:Ends} {σ:St} {H:Hp} (Pv:Nat→St→Hp→Prop) (h0:Pv 0 σ H)
    (hs:∀ i σ H,i < n→Pv i σ H→g (.int (lo+i)) σ H fun σ2 H2=>tb { D with nx:=Pv (i+1),ct:=Pv (i+1),bk:=D.nx } σ2 H2) (hd:∀ σ H,Pv n σ H→D.nx σ H) :
    ∃ W:Nat→Nat→St→Hp→Prop,(∃ m,W 0 m σ H)∧∀ i m σ H,W i m σ H →
      ((Itr lo n).stop i H∧D.nx σ H)∨((Itr lo n).go i H∧∃ N:St→Hp→Prop,(∀ σ' H',N σ' H'→∃ m',m' < m∧W (i+1) m' σ' H')∧∀ x H',(Itr lo n).yld i H x H'→g x σ H' fun σ2 H2=>tb { D with nx:=N,ct:=N,bk:=D.nx } σ2 H2):=by
  refine ⟨fun i m σ H=>m=n - i∧i≤n∧Pv i σ H,⟨n,by simp,Nat.zero_le _,h0⟩,?_⟩
  rintro i m σ H ⟨rfl,hi,p⟩
  by_cases hlt:i < n
  · refine .inr ⟨hlt,Pv (i+1),fun σ' H' p'=>⟨n - (i+1),by omega,rfl,hlt,p'⟩,fun x H' y=>?_⟩
    obtain ⟨e,y⟩:=y
    subst e y
    exact hs i σ _ hlt p
  · have e:i=n:=by omega
    subst e
    exact .inl ⟨Nat.le_refl _,hd σ H p⟩
theorem while_by {c:TT} {tb:TS} {D:Ends} {σ:St} {H:Hp} (Pv:St→Hp→Prop) (μ:St→Hp→Nat) (h0:Pv σ H)
    (hs:∀ σ H,Pv σ H→c σ H fun b H1=>if b=true then tb { D with nx:=fun σ' H'=>Pv σ' H'∧μ σ' H' < μ σ H,ct:=fun σ' H'=>Pv σ' H'∧μ σ' H' < μ σ H,bk:=D.nx } σ H1 else D.nx σ H1)
    (mono:∀ σ H Q Q',(∀ b H1,Q b H1→Q' b H1)→c σ H Q→c σ H Q'):tWhile c tb D σ H:=by
  refine ⟨fun m σ H=>m=μ σ H∧Pv σ H,⟨_,rfl,h0⟩,?_⟩
  rintro m σ H ⟨rfl,p⟩
  refine mono σ H _ _ (fun b H1 q=>?_) (hs σ H p)
  cases b with
  | true=>exact ⟨_,fun σ' H' ⟨p',l⟩=>⟨_,l,rfl,p'⟩,q⟩
  | false=>exact q
end L2
namespace L2
open PySem PySem.Spec PyProof.Rows
abbrev R2:=V→V→Hp→VK→Prop
def OpR (X:Cx) (f:Value→Value→Sem Value) (r:R2):Prop :=
  ∀ (pins:List (Addr × Obj)) (s:Shared) (σ:St) (H:Hp) (x y:V) (v u:Value) (Q:VK),Inv X pins σ H s→RelV x v→RelV y u→r x y H Q →
    wpAny (model X.prog X.w) X.A (f v u) (EP X pins σ Q) X.xe s
def UnR (X:Cx) (f:Value→Sem Value) (r:V→Hp→VK→Prop):Prop :=
  ∀ (pins:List (Addr × Obj)) (s:Shared) (σ:St) (H:Hp) (x:V) (v:Value) (Q:VK),Inv X pins σ H s→RelV x v→r x H Q →
    wpAny (model X.prog X.w) X.A (f v) (EP X pins σ Q) X.xe s
def CallR (X:Cx) (f:Value) (r:List V→Hp→VK→Prop):Prop :=
  ∀ (pins:List (Addr × Obj)) (s:Shared) (σ:St) (H:Hp) (xs:List V) (us:List Value) (Q:VK),Inv X pins σ H s→Vals xs us→r xs H Q →
    wpAny (model X.prog X.w) X.A (call f us) (EP X pins σ Q) X.xe s
def TruR (X:Cx) (r:V→Hp→(Bool→Hp→Prop)→Prop):Prop :=
  ∀ (pins:List (Addr × Obj)) (s:Shared) (σ:St) (H:Hp) (x:V) (v:Value) (Q:Bool→Hp→Prop),Inv X pins σ H s→RelV x v→r x H Q →
    wpAny (model X.prog X.w) X.A (truthy v) (TP X pins σ Q) X.xe s
def tOp (r:R2) (ta tb:TE):TE:=fun σ H Q=>ta σ H fun x H1=>tb σ H1 fun y H2=>r x y H2 Q
def tUn (r:V→Hp→VK→Prop) (ta:TE):TE:=fun σ H Q=>ta σ H fun x H1=>r x H1 Q
def rI (C:Int→Int→Prop) (g:Int→Int→V):R2:=fun x y H Q=>∃ i j,x=.int i∧y=.int j∧C i j∧Q (g i j) H
def rI0 (g:Int→Int→V):R2:=fun x y H Q=>∃ i j,x=.int i∧y=.int j∧Q (g i j) H
def rU (g:Int→V):V→Hp→VK→Prop:=fun x H Q=>∃ i,x=.int i∧Q (g i) H
section
variable {X:Cx} {a b c:Expr} {ta tb tc:TE} {pos:Pos}
theorem binT (ha:PE X a ta) (hb:PE X b tb) {pins:List (Addr × Obj)} {s:Shared} {σ:St} {H:Hp} {R:V→V→Hp→Prop} (I:Inv X pins σ H s)
    (h:ta σ H fun x H1=>tb σ H1 fun y H2=>R x y H2) {Q:Value→Shared→Prop} {f:Value→Value→Sem Value}
    (hf:∀ v u s2 x y H2,Inv X pins σ H2 s2→RelV x v→RelV y u→R x y H2→wpAny (model X.prog X.w) X.A (f v u) Q X.xe s2) :
    wpAny (model X.prog X.w) X.A (eval a X.env) (fun v s₁=>wpAny (model X.prog X.w) X.A (eval b X.env) (fun u s₂=>wpAny (model X.prog X.w) X.A (f v u) Q X.xe s₂) X.xe s₁) X.xe s:=by
  refine thn (ha pins s σ H _ I h) fun v s1 ⟨x,H1,I1,r1,q1⟩=>?_
  refine thn (hb pins s1 σ H1 _ I1 q1) fun u s2 ⟨y,H2,I2,r2,q2⟩=>?_
  exact hf v u s2 x y H2 I2 r1 r2 q2
theorem pO_ {op:Operator} {r:R2} (ho:OpR X (binaryOp op) r) (ha:PE X a ta) (hb:PE X b tb):PE X (.BinOp a op b pos) (tOp r ta tb):=by
  intro pins s σ H Q I h
  exact wpAny_BinOp (binT ha hb I h fun v u s2 x y H2 I2 rx ry q=>ho pins s2 σ H2 x y v u Q I2 rx ry q)
theorem pe_un {op:UnaryOp} {r:V→Hp→VK→Prop} (ho:UnR X (unaryOp op) r) (ha:PE X a ta):PE X (.UnaryOp op a pos) (tUn r ta):=by
  intro pins s σ H Q I h
  exact UnaryOp_ (thn (ha pins s σ H _ I h) fun v s1 ⟨x,H1,I1,r1,q1⟩=>ho pins s1 σ H1 x v Q I1 r1 q1)
theorem opI {f:Value→Value→Sem Value} {C:Int→Int→Prop} {g:Int→Int→Int}
    (rule:∀ (i j:Int) (t u:Tok) (s:Shared) (Q:Value→Shared→Prop) (E:Value→Shared→Prop),C i j→Q (.int (g i j) s.toks) { s with toks:=s.toks+1 }→wpAny (model X.prog X.w) X.A (f (.int i t) (.int j u)) Q E s) :
    OpR X f (rI C fun i j=>.int (g i j)):=by
  intro pins s σ H x y v u Q I rx ry h
  obtain ⟨i,j,rfl,rfl,hc,q⟩:=h
  obtain ⟨t,rfl⟩:=rx
  obtain ⟨t',rfl⟩:=ry
  exact rule i j t t' s _ _ hc ⟨.int (g i j),H,I.tok _,⟨_,rfl⟩,q⟩
theorem opI0 {f:Value→Value→Sem Value} {g:Int→Int→Int}
    (rule:∀ (i j:Int) (t u:Tok) (s:Shared) (Q:Value→Shared→Prop) (E:Value→Shared→Prop),Q (.int (g i j) s.toks) { s with toks:=s.toks+1 }→wpAny (model X.prog X.w) X.A (f (.int i t) (.int j u)) Q E s) :
    OpR X f (rI0 fun i j=>.int (g i j)):=by
  intro pins s σ H x y v u Q I rx ry h
  obtain ⟨i,j,rfl,rfl,q⟩:=h
  obtain ⟨t,rfl⟩:=rx
  obtain ⟨t',rfl⟩:=ry
  exact rule i j t t' s _ _ ⟨.int (g i j),H,I.tok _,⟨_,rfl⟩,q⟩
theorem opB0 {f:Value→Value→Sem Value} {g:Int→Int→Bool}
    (rule:∀ (i j:Int) (t u:Tok) (s:Shared) (Q:Value→Shared→Prop) (E:Value→Shared→Prop),Q (.bool (g i j)) s→wpAny (model X.prog X.w) X.A (f (.int i t) (.int j u)) Q E s) :
    OpR X f (rI0 fun i j=>.bl (g i j)):=by
  intro pins s σ H x y v u Q I rx ry h
  obtain ⟨i,j,rfl,rfl,q⟩:=h
  obtain ⟨t,rfl⟩:=rx
  obtain ⟨t',rfl⟩:=ry
  exact rule i j t t' s _ _ ⟨.bl (g i j),H,I,rfl,q⟩
def CPow (i j:Int):Prop:=0≤j∧j≤1000000∧i.natAbs < 2 ^ 64
def CMul (i j:Int):Prop:=(-(2 ^ 64) < i∧i < 2 ^ 64)∨(-(2 ^ 64) < j∧j < 2 ^ 64)
theorem CMul.ok {i j:Int} (h:CMul i j):IntMulOk i j:=by
  rcases h with ⟨h1,h2⟩ | ⟨h1,h2⟩
  · exact .of_left (intBits_le_64 h1 h2)
  · exact .of_right (intBits_le_64 h1 h2)
theorem op_add:OpR X (binaryOp .Add) (rI0 fun i j=>.int (i+j)):=opI0 fun _ _ _ _ _ _ _ q=>add_int q
theorem op_sub:OpR X (binaryOp .Sub) (rI0 fun i j=>.int (i - j)):=opI0 fun _ _ _ _ _ _ _ q=>sub_int q
theorem op_mul:OpR X (binaryOp .Mult) (rI CMul fun i j=>.int (i * j)):=opI fun _ _ _ _ _ _ _ hc q=>mul_int q hc.ok
theorem op_mod:OpR X (binaryOp .Mod) (rI (fun _ j=>0 < j) fun i j=>.int (i % j)):=opI fun i j _ _ _ _ _ hc q=>by
  have h1:(0:Int) < j:=hc
  exact mod_int' (by omega) (by rw [Int.fmod_eq_emod_of_nonneg i (by omega)];exact q)
theorem op_pow:OpR X (binaryOp .Pow) (rI CPow fun i j=>.int (i ^ j.toNat)):=opI fun _ _ _ _ _ _ _ hc q=>pow_int_small hc.1 hc.2.1 hc.2.2 q
theorem unI {f:Value→Sem Value} {g:Int→Int}
    (rule:∀ (i:Int) (t:Tok) (s:Shared) (Q:Value→Shared→Prop) (E:Value→Shared→Prop),Q (.int (g i) s.toks) { s with toks:=s.toks+1 }→wpAny (model X.prog X.w) X.A (f (.int i t)) Q E s) :
    UnR X f (rU fun i=>.int (g i)):=by
  intro pins s σ H x v Q I rx h
  obtain ⟨i,rfl,q⟩:=h
  obtain ⟨t,rfl⟩:=rx
  exact rule i t s _ _ ⟨.int (g i),H,I.tok _,⟨_,rfl⟩,q⟩
theorem un_neg:UnR X (unaryOp .USub) (rU fun i=>.int (-i)):=unI fun _ _ _ _ _ q=>neg_int q
end
def scal:V→V→Bool
  | .non,.non=>true | .non,.int _=>true | .int _,.non=>true | .non,.bl _=>true | .bl _,.non=>true | .non,.str _=>true | .str _,.non=>true
  | .int _,.int _=>true | .bl _,.bl _=>true | .str _,.str _=>true | .byt _,.byt _=>true
  | .int _,.str _=>true | .str _,.int _=>true | .bl _,.str _=>true | .str _,.bl _=>true
  | _,_=>false
def rEq:R2:=fun x y H Q=>scal x y=true∧Q (.bl (decide (x=y))) H
def rNe:R2:=fun x y H Q=>scal x y=true∧Q (.bl (!decide (x=y))) H
theorem dec_int {i j:Int}:decide (V.int i=V.int j)=(i == j):=by
  rw [Bool.eq_iff_iff]
  simp
theorem dec_bl {i j:Bool}:decide (V.bl i=V.bl j)=(i == j):=by
  rw [Bool.eq_iff_iff]
  simp
theorem dec_str {i j:Str}:decide (V.str i=V.str j)=(i == j):=by
  rw [Bool.eq_iff_iff]
  simp
theorem dec_byt {i j:Array UInt8}:decide (V.byt i=V.byt j)=(i.toList == j.toList):=by
  rw [Bool.eq_iff_iff]
  cases i
  cases j
  simp
section
variable {X:Cx} {a b c:Expr} {ta tb tc:TE} {pos:Pos}
theorem fin_bl {pins:List (Addr × Obj)} {σ:St} {H:Hp} {s:Shared} {Q:VK} {k k':Bool} (I:Inv X pins σ H s) (q:Q (.bl k) H) (e:k=k'):EP X pins σ Q (.bool k') s:=by
  subst e
  exact ⟨.bl k,H,I,rfl,q⟩
theorem op_eq:OpR X (compareOp .Eq) rEq:=by
  intro pins s σ H x y v u Q I rx ry h
  obtain ⟨hs,q⟩:=h
  cases x with
  | non =>
    cases rx
    cases y with
    | non=>cases ry;exact PySem.EqNone.eq_none_none (fin_bl I q (by simp))
    | bl j=>cases ry;exact PySem.EqNone.eq_none_bool (fin_bl I q (by simp))
    | int j=>obtain ⟨t',rfl⟩:=ry;exact PySem.EqNone.eq_none_int (fin_bl I q (by simp))
    | str j=>obtain ⟨t',rfl⟩:=ry;exact PySem.EqNone.eq_none_str (fin_bl I q (by simp))
    | _=>exact absurd (show false=true from hs) Bool.false_ne_true
  | bl i =>
    cases rx
    cases y with
    | non=>cases ry;exact PySem.EqNone.eq_bool_none (fin_bl I q (by simp))
    | bl j=>cases ry;exact eq_bool (fin_bl I q dec_bl)
    | str j=>obtain ⟨t',rfl⟩:=ry;exact PySem.EqMixed.eq_bool_str (fin_bl I q (by simp))
    | _=>exact absurd (show false=true from hs) Bool.false_ne_true
  | int i =>
    obtain ⟨t,rfl⟩:=rx
    cases y with
    | non=>cases ry;exact PySem.EqNone.eq_int_none (fin_bl I q (by simp))
    | int j=>obtain ⟨t',rfl⟩:=ry;exact eq_int (fin_bl I q dec_int)
    | str j=>obtain ⟨t',rfl⟩:=ry;exact PySem.EqMixed.eq_int_str (fin_bl I q (by simp))
    | _=>exact absurd (show false=true from hs) Bool.false_ne_true
  | str i =>
    obtain ⟨t,rfl⟩:=rx
    cases y with
    | non=>cases ry;exact PySem.EqNone.eq_str_none (fin_bl I q (by simp))
    | bl j=>cases ry;exact PySem.EqMixed.eq_str_bool (fin_bl I q (by simp))
    | int j=>obtain ⟨t',rfl⟩:=ry;exact PySem.EqMixed.eq_str_int (fin_bl I q (by simp))
    | str j=>obtain ⟨t',rfl⟩:=ry;exact eq_str (fin_bl I q dec_str)
    | _=>exact absurd (show false=true from hs) Bool.false_ne_true
  | byt i =>
    obtain ⟨t,rfl⟩:=rx
    cases y with
    | byt j=>obtain ⟨t',rfl⟩:=ry;exact PySem.W.eq_bytes (fin_bl I q dec_byt)
    | _=>exact absurd (show false=true from hs) Bool.false_ne_true
  | _=>cases y <;> exact absurd (show false=true from hs) Bool.false_ne_true
theorem op_ne:OpR X (compareOp .NotEq) rNe:=by
  intro pins s σ H x y v u Q I rx ry h
  obtain ⟨hs,q⟩:=h
  cases x with
  | non =>
    cases rx
    cases y with
    | non=>cases ry;exact PySem.EqNone.ne_none_none (fin_bl I q (by simp))
    | bl j=>cases ry;exact PySem.EqNone.ne_none_bool (fin_bl I q (by simp))
    | int j=>obtain ⟨t',rfl⟩:=ry;exact PySem.EqNone.ne_none_int (fin_bl I q (by simp))
    | str j=>obtain ⟨t',rfl⟩:=ry;exact PySem.EqNone.ne_none_str (fin_bl I q (by simp))
    | _=>exact absurd (show false=true from hs) Bool.false_ne_true
  | bl i =>
    cases rx
    cases y with
    | non=>cases ry;exact PySem.EqNone.ne_bool_none (fin_bl I q (by simp))
    | bl j=>cases ry;exact ne_bool (fin_bl I q (congrArg not dec_bl))
    | str j=>obtain ⟨t',rfl⟩:=ry;exact PySem.EqMixed.ne_bool_str (fin_bl I q (by simp))
    | _=>exact absurd (show false=true from hs) Bool.false_ne_true
  | int i =>
    obtain ⟨t,rfl⟩:=rx
    cases y with
    | non=>cases ry;exact PySem.EqNone.ne_int_none (fin_bl I q (by simp))
    | int j=>obtain ⟨t',rfl⟩:=ry;exact ne_int (fin_bl I q (congrArg not dec_int))
    | str j=>obtain ⟨t',rfl⟩:=ry;exact PySem.EqMixed.ne_int_str (fin_bl I q (by simp))
    | _=>exact absurd (show false=true from hs) Bool.false_ne_true
  | str i =>
    obtain ⟨t,rfl⟩:=rx
    cases y with
    | non=>cases ry;exact PySem.EqNone.ne_str_none (fin_bl I q (by simp))
    | bl j=>cases ry;exact PySem.EqMixed.ne_str_bool (fin_bl I q (by simp))
    | int j=>obtain ⟨t',rfl⟩:=ry;exact PySem.EqMixed.ne_str_int (fin_bl I q (by simp))
    | str j=>obtain ⟨t',rfl⟩:=ry;exact ne_str (fin_bl I q (congrArg not dec_str))
    | _=>exact absurd (show false=true from hs) Bool.false_ne_true
  | byt i =>
    obtain ⟨t,rfl⟩:=rx
    cases y with
    | byt j=>obtain ⟨t',rfl⟩:=ry;exact PySem.W.ne_bytes (fin_bl I q (congrArg not dec_byt))
    | _=>exact absurd (show false=true from hs) Bool.false_ne_true
  | _=>cases y <;> exact absurd (show false=true from hs) Bool.false_ne_true
theorem op_lt:OpR X (compareOp .Lt) (rI0 fun i j=>.bl (decide (i < j))):=opB0 fun _ _ _ _ _ _ _ q=>lt_int q
theorem op_le:OpR X (compareOp .LtE) (rI0 fun i j=>.bl (decide (i≤j))):=opB0 fun _ _ _ _ _ _ _ q=>le_int q
theorem op_gt:OpR X (compareOp .Gt) (rI0 fun i j=>.bl (decide (j < i))):=opB0 fun _ _ _ _ _ _ _ q=>gt_int q
theorem op_ge:OpR X (compareOp .GtE) (rI0 fun i j=>.bl (decide (j≤i))):=opB0 fun _ _ _ _ _ _ _ q=>ge_int q
theorem op_in_str:OpR X (compareOp .In) (fun x y H Q=>∃ i j,x=.str i∧y=.str j∧Q (.bl (!(Builtin.Str.occurrences j i 0 j.length 1).isEmpty)) H):=by
  intro pins s σ H x y v u Q I rx ry h
  obtain ⟨i,j,rfl,rfl,q⟩:=h
  obtain ⟨t,rfl⟩:=rx
  obtain ⟨t',rfl⟩:=ry
  exact in_str (fin_bl I q rfl)
theorem op_isN:OpR X (compareOp .Is) (fun x y H Q=>y=.non∧Q (.bl (decide (x=.non))) H):=by
  intro pins s σ H x y v u Q I rx ry h
  obtain ⟨rfl,q⟩:=h
  cases ry
  refine is_none_gen (fin_bl I q ?_)
  cases x <;> first
    | (cases rx;rfl)
    | (obtain ⟨t,rfl⟩:=rx;rfl)
theorem nM_ (b:Expr) {op:CmpOp} (h:op≠.In:=by decide) (h2:op≠.NotIn:=by decide):behindInMarks op b=false:=by
  have e1:(op == CmpOp.In)=false:=by cases op <;> first | rfl | exact absurd rfl h
  have e2:(op == CmpOp.NotIn)=false:=by cases op <;> first | rfl | exact absurd rfl h2
  cases b <;> simp [behindInMarks,e1,e2]
theorem pR_ {op:CmpOp} {r:R2} (ho:OpR X (compareOp op) r) (ha:PE X a ta) (hb:PE X b tb) (hm:behindInMarks op b=false):PE X (.Compare a [op] [b] pos) (tOp r ta tb):=by
  intro pins s σ H Q I h
  exact wpAny_Compare1 (binT ha hb I h fun v u s2 x y H2 I2 rx ry q=>ho pins s2 σ H2 x y v u Q I2 rx ry q) hm
def tTest (t:TE):TT:=fun σ H Q=>t σ H fun x H'=>∃ k,x=.bl k∧Q k H'
theorem tR_ {op:CmpOp} {r:R2} (ho:OpR X (compareOp op) r) (ha:PE X a ta) (hb:PE X b tb) (hm:behindInMarks op b=false):PT X (.Compare a [op] [b] pos) (tTest (tOp r ta tb)):=by
  intro pins s σ H Q I h
  refine wpAny_isTrue_Compare1 (thn (ha pins s σ H _ I h) fun v s1 ⟨x,H1,I1,r1,q1⟩=>thn (hb pins s1 σ H1 _ I1 q1) fun u s2 ⟨y,H2,I2,r2,q2⟩ =>
    thn (ho pins s2 σ H2 x y v u _ I2 r1 r2 q2) fun c s3 ⟨z,H3,I3,r3,k,e,q3⟩=>?_) hm
  subst e
  cases r3
  exact wpAny_truthy_bool ⟨H3,I3,q3⟩
def tChain (r r':R2) (ta tb tc:TE):TE:=fun σ H Q=>ta σ H fun x H1=>tb σ H1 fun y H2=>r x y H2 fun z H3=>∃ k,z=.bl k ∧
  (if k=true then tc σ H3 fun w' H4=>r' y w' H4 Q else Q (.bl false) H3)
theorem pe_chain {op op':CmpOp} {r r':R2} (ho:OpR X (compareOp op) r) (ho':OpR X (compareOp op') r') (ha:PE X a ta) (hb:PE X b tb) (hc:PE X c tc)
    (hm:lastMarks [op,op'] [b,c]=false:=by with_unfolding_all rfl):PE X (.Compare a [op,op'] [b,c] pos) (tChain r r' ta tb tc):=by
  intro pins s σ H Q I h
  refine Compare_chain (thn (ha pins s σ H _ I h) fun v s1 ⟨x,H1,I1,r1,q1⟩=>chain_link (thn (hb pins s1 σ H1 _ I1 q1) fun u s2 ⟨y,H2,I2,r2,q2⟩ =>
    thn (ho pins s2 σ H2 x y v u _ I2 r1 r2 q2) fun d s3 ⟨z,H3,I3,r3,k,e,q3⟩=>?_)) hm
  subst e
  cases r3
  refine wpAny_truthy_bool ?_
  cases k with
  | false=>exact ite_ff ⟨.bl false,H3,I3,rfl,q3⟩
  | true=>exact ite_tt (chain_last (thn (hc pins s3 σ H3 _ I3 q3) fun w' s4 ⟨z',H4,I4,r4,q4⟩=>ho' pins s4 σ H4 y z' u w' Q I4 r2 r4 q4))
def TruV (K:PySem.W.Frag) (x:V) (H:Hp) (k:Bool):Prop :=
  match x with
  | .non=>k=false
  | .bl b=>k=b
  | .int i=>k=(i != 0)
  | .str y=>y.length≤sizeLine∧k=((y.length:Int) != 0)
  | .byt y=>y.size≤sizeLine∧k=((y.size:Int) != 0)
  | .ref p=>(∃ xs,SqL K H p xs∧k=!xs.isEmpty)∨(∃ xs,SqT K H p xs∧k=!xs.isEmpty)∨∃ kvs,H p=some (.dK kvs)∧k=!kvs.isEmpty
  | _=>False
theorem isEmpty_kv {κ:Type} {kvs:List (κ × V)} {vs:List (κ × Value)} (r:KV kvs vs):(!vs.isEmpty)=!kvs.isEmpty:=by
  cases r <;> rfl
theorem isEmpty_of {xs:List V} {its:List Value} (r:Vals xs its):(!its.toArray.isEmpty)=!xs.isEmpty:=by
  cases r <;> simp
theorem line63:(sizeLine:Nat) < 2 ^ 63:=by rw [sizeLine_eq];decide
theorem tru_ok:TruR X (fun x H Q=>∃ k,TruV X.K x H k∧Q k H):=by
  intro pins s σ H x v Q I rx h
  obtain ⟨k,e,q⟩:=h
  have hl:=line63
  have hs:sizeLine=16777216:=sizeLine_eq
  cases x with
  | non =>
    cases rx
    have e':k=false:=e
    subst e'
    exact truthy_none ⟨H,I,q⟩
  | bl b =>
    cases rx
    have e':k=b:=e
    subst e'
    exact wpAny_truthy_bool ⟨H,I,q⟩
  | int i =>
    obtain ⟨t,rfl⟩:=rx
    have e':k=(i != 0):=e
    subst e'
    exact PySem.P.truthy_int ⟨H,I,q⟩
  | str y =>
    obtain ⟨t,rfl⟩:=rx
    obtain ⟨hy,e'⟩:y.length≤sizeLine∧k=((y.length:Int) != 0):=e
    subst e'
    exact PySem.P.truthy_str (by omega) ⟨H,I.tok _,q⟩
  | byt y =>
    obtain ⟨t,rfl⟩:=rx
    obtain ⟨hy,e'⟩:y.size≤sizeLine∧k=((y.size:Int) != 0):=e
    subst e'
    exact PySem.W.truthy_bytes (by omega) ⟨H,I.tok _,q⟩
  | ref p =>
    cases rx
    have e':(∃ xs,SqL X.K H p xs∧k=!xs.isEmpty)∨(∃ xs,SqT X.K H p xs∧k=!xs.isEmpty)∨∃ kvs,H p=some (.dK kvs)∧k=!kvs.isEmpty:=e
    rcases e' with ⟨xs,hx,e'⟩ | ⟨xs,hx,e'⟩ | ⟨kvs,hx,e'⟩
    · subst e'
      obtain ⟨its,r,pl,hz⟩:=I.list hx
      have hlen:=r.length
      exact wpAny_truthy_list pl.isList (by simp only [List.size_toArray];omega) ⟨H,I.tok _,by rw [isEmpty_of r];exact q⟩
    · subst e'
      obtain ⟨its,r,pl,hz⟩:=I.tuple hx
      have hlen:=r.length
      exact truthy_tuple pl (by simp only [List.size_toArray];omega) ⟨H,I.tok _,by rw [isEmpty_of r];exact q⟩
    · subst e'
      obtain ⟨hz,hS,vs,r,m⟩:kvs.length≤sizeLine∧(p == sysModules)=false∧∃ vs,KV kvs vs∧s.heap.DictOf (mixKind X.prog X.w) p vs:=I.hok p _ hx
      have hlen:kvs.length=vs.length:=Paired.length r
      exact wpAny_truthy_dict hS m (by omega) ⟨H,I.tok _,by rw [isEmpty_kv r];exact q⟩
  | _=>exact (show False from e).elim
theorem pt_truth (ha:PE X a ta) (he:∀ whole,isTrue a X.env whole=(do let v ← whole;standAt a.pos;holding [v] (truthy v))) :
    PT X a (fun σ H Q=>ta σ H fun x H'=>∃ k,TruV X.K x H' k∧Q k H'):=by
  intro pins s σ H Q I h
  exact isTrue_plain (thn (ha pins s σ H _ I h) fun v s1 ⟨x,H1,I1,r1,q1⟩=>tru_ok pins s1 σ H1 x v Q I1 r1 q1) (he _)
theorem op_add_str:OpR X (binaryOp .Add) (fun x y H Q=>∃ i j,x=.str i∧y=.str j∧i.length+j.length≤sizeLine∧Q (.str (i++j)) H):=by
  intro pins s σ H x y v u Q I rx ry h
  obtain ⟨i,j,rfl,rfl,hz,q⟩:=h
  obtain ⟨t,rfl⟩:=rx
  obtain ⟨t',rfl⟩:=ry
  exact add_str (fun t' tk=>⟨.str (i++j),H,I.tok _,⟨_,rfl⟩,q⟩) hz
theorem vals1 {x:V} {us:List Value} (r:Vals [x] us):∃ u,us=[u]∧RelV x u:=by
  cases r with
  | cons r1 r2=>cases r2;exact ⟨_,rfl,r1⟩
theorem vals2 {x y:V} {us:List Value} (r:Vals [x,y] us):∃ u w',us=[u,w']∧RelV x u∧RelV y w':=by
  cases r with
  | cons r1 r2 =>
    cases r2 with
    | cons r3 r4=>cases r4;exact ⟨_,_,rfl,r1,r3⟩
theorem call_int1:CallR X (.type "int") (fun xs H Q=>(∃ i,xs=[.int i]∧Q (.int i) H)∨∃ k,xs=[.bl k]∧Q (.int (if k then 1 else 0)) H):=by
  intro pins s σ H xs us Q I r h
  rcases h with ⟨i,rfl,q⟩ | ⟨k,rfl,q⟩
  · obtain ⟨u,rfl,t,rfl⟩:=vals1 r
    exact call_int_int ⟨.int i,H,I,⟨_,rfl⟩,q⟩
  · obtain ⟨u,rfl,r1⟩:=vals1 r
    cases r1
    exact call_int_bool ⟨.int (if k then 1 else 0),H,I.tok _,⟨_,rfl⟩,q⟩
theorem call_str_int:CallR X (.type "str") (fun xs H Q=>∃ i,xs=[.int i]∧i.natAbs.log2 < 1920∧Q (.str (toString i)) H):=by
  intro pins s σ H xs us Q I r h
  obtain ⟨i,rfl,hz,q⟩:=h
  obtain ⟨u,rfl,t,rfl⟩:=vals1 r
  exact PySem.P.str_of_int hz ⟨.str _,H,I.tok _,⟨_,rfl⟩,q⟩
def LenV (K:PySem.W.Frag) (x:V) (H:Hp) (n:Nat):Prop :=
  match x with
  | .str y=>y.length≤sizeLine∧n=y.length
  | .byt y=>y.size≤sizeLine∧n=y.size
  | .ref p=>(∃ xs,SqL K H p xs∧n=xs.length)∨∃ xs,SqT K H p xs∧n=xs.length
  | _=>False
theorem call_len:CallR X (.builtin "len") (fun xs H Q=>∃ x n,xs=[x]∧LenV X.K x H n∧Q (.int n) H):=by
  intro pins s σ H xs us Q I r h
  obtain ⟨x,n,rfl,e,q⟩:=h
  obtain ⟨u,rfl,rx⟩:=vals1 r
  have hl:=line63
  have hs:sizeLine=16777216:=sizeLine_eq
  cases x with
  | str y =>
    obtain ⟨t,rfl⟩:=rx
    obtain ⟨hy,e'⟩:y.length≤sizeLine∧n=y.length:=e
    subst e'
    exact len_str (by omega) ⟨.int _,H,I.tok _,⟨_,rfl⟩,q⟩
  | byt y =>
    obtain ⟨t,rfl⟩:=rx
    obtain ⟨hy,e'⟩:y.size≤sizeLine∧n=y.size:=e
    subst e'
    exact PySem.W.len_bytes (by omega) ⟨.int _,H,I.tok _,⟨_,rfl⟩,q⟩
  | ref p =>
    cases rx
    have e':(∃ xs,SqL X.K H p xs∧n=xs.length)∨∃ xs,SqT X.K H p xs∧n=xs.length:=e
    rcases e' with ⟨xs,hx,e'⟩ | ⟨xs,hx,e'⟩
    · subst e'
      obtain ⟨its,r',pl,hz⟩:=I.list hx
      have hlen:=r'.length
      exact Calls.call_len_list pl.isList (by simp only [List.size_toArray];omega) ⟨.int xs.length,H,I.tok _,⟨_,by simp only [List.size_toArray];rw [hlen]⟩,q⟩
    · subst e'
      obtain ⟨its,r',pl,hz⟩:=I.tuple hx
      have hlen:=r'.length
      exact len_tuple pl (by simp only [List.size_toArray];omega) ⟨.int xs.length,H,I.tok _,⟨_,by simp only [List.size_toArray];rw [hlen]⟩,q⟩
  | _=>exact (show False from e).elim
end
end L2
namespace L2
open PySem PySem.Spec PyProof.Rows
structure ObjM (h:Heap) (x dx C:Addr) (mA:Str→Option Value):Prop where
  obj:h.get? x=some (PySem.W.instObj C dx)
  ns:h.Ns1 dx mA
  ne:dx≠x
theorem lookIn_ns {h:Heap} {dx:Addr} {mA:Str→Option Value} (n:h.Ns1 dx mA):∃ od,h.get? dx=some od∧∀ name,PySem.W.lookIn name od=some (mA name):=by
  obtain ⟨o,es,ep,ho,hd,hk,_,hm⟩:=n
  refine ⟨o,ho,fun name=>?_⟩
  have e:=hm name
  unfold nsFind findBy at e
  rw [← Array.find?_toList] at e
  unfold PySem.W.lookIn
  rw [hd]
  dsimp only
  split
  · rename_i y q
    rw [q] at e
    exact congrArg some e
  · rename_i q
    rw [q] at e
    have a:es.toList.any (·.refKey)=false:=by
      rw [List.any_eq_false]
      intro y hy
      obtain ⟨z,t,hkey⟩:=hk y (Array.mem_toList_iff.mp hy)
      simp [DictEntry.refKey,hkey]
    have a':¬ es.toList.any (·.refKey)=true:=by rw [a];exact Bool.false_ne_true
    rw [if_neg a']
    exact congrArg some e
theorem ObjM.look {h:Heap} {x dx C:Addr} {mA:Str→Option Value} (I:ObjM h x dx C mA):∃ od,PySem.W.InstAt h x (PySem.W.instObj C dx) C (some od)∧∀ name,PySem.W.lookIn name od=some (mA name) :=
  let ⟨od,ho,hl⟩:=lookIn_ns I.ns
  ⟨od,⟨I.obj,rfl,rfl,ho⟩,hl⟩
section
variable {prog:Program} {w:World} {A:Around} {E:Value→Shared→Prop} {s:Shared} {K:PySem.W.Frag} {x dx C f:Addr} {mA:Str→Option Value} {name:Str} {v:Value}
theorem get_map {expr:Bool} {Q:Value→Shared→Prop} (X:K.In s.heap) (I:ObjM s.heap x dx C mA) (hg:PySem.W.plainGet K C name=true) (hh:PySem.W.hasDictIn K C=true)
    (ha:PySem.W.findIn K (.ref C) name=some none) (hv:mA name=some v) (hv':PySem.W.handedIn v=true) (h:Q v { s with toks:=s.toks+1 }) :
    wpAny (model prog w) A (getAttr (.ref x) name expr) Q E s:=by
  obtain ⟨od,J,hl⟩:=I.look
  exact PySem.W.get_value X J (PySem.W.plainGet_of hg).1 (PySem.W.findObj_own hh ha rfl (by rw [hl,hv])) hv' h
theorem get_meth {pl:Sem Bool} {Q:Value × List Value→Shared→Prop} (X:K.In s.heap) (I:ObjM s.heap x dx C mA) (hg:PySem.W.plainGet K C name=true)
    (hf:PySem.W.findIn K (.ref C) name=some (some (.ref f))) (ht:PySem.W.isFn K (.ref f)=true) (hv:mA name=none) (h:Q (.ref f,[.ref x]) s) :
    wpAny (model prog w) A (getMethod (.ref x) name pl) Q E s:=by
  obtain ⟨od,J,hl⟩:=I.look
  exact PySem.W.method_fn X J (PySem.W.plainGet_of hg).1 (PySem.W.plainGet_of hg).2 hf (beq_iff_eq.mp ht) (by show (PySem.W.lookIn name od).map (·.isSome)=some false;rw [hl,hv];rfl) h
theorem set_map {ns:List Str} {Q:Unit→Shared→Prop} (X:K.In s.heap) (I:ObjM s.heap x dx C mA)
    (hs:PySem.W.findIn K (.ref C) "__setattr__"=some (some (.builtin "object.__setattr__"))) (hp:PySem.W.plainOver K C=true) (ht:PySem.W.takerIn K C name=some none) (hh:PySem.W.hasDictIn K C=true)
    (hw:PySem.Within mA ns) (hsz:ns.length≤sizeLine)
    (h:∀ h',ObjM h' x dx C (fun y=>if y=name then some v else mA y)→Heap.SameBut dx s.heap h'→Q () { s with heap:=h',toks:=s.toks+2 }) :
    wpAny (model prog w) A (setAttr (.ref x) name v) Q E s:=by
  obtain ⟨od,J,hl⟩:=I.look
  refine PySem.W.set_plain X J hs (PySem.W.osa_open (s:={ s with toks:=s.toks+1 }) (r:=none) X J hp ht fun b=>?_)
  obtain ⟨cd,hc,hd'⟩:=PySem.W.any_some hh
  have hx:s.heap.get? x=some ⟨.ref C,some dx,.plain,#[]⟩:=I.obj
  refine wpAny_bind (wpAny_pure (wpAny_bind (wpAny_bind (wpAny_loadPart hx (wpAny_bind (PySem.W.Looks.here (s:={ s with toks:=s.toks+1 }) (PySem.W.looks_clsIn X hc) ?_))))))
  rw [hd']
  refine wpAny_pure (a:=some dx) (wpAny_bind (wpAny_pure (wpAny_bind ?_)))
  refine wpAny_nsSet1 (s:={ s with toks:=s.toks+1 }) I.ns fun h' hn2 hs2=>?_
  obtain ⟨oD,esD,epD,hoD,hdD,hcD⟩:=hn2.count (PySem.Within.cons name v hw)
  refine wpAny_bind (wpAny_lookBehind hoD (by rw [hdD];exact pastItsLine_dict (Nat.le_trans hcD (by rw [List.length_cons];omega))) ?_)
  exact wpAny_pure (h _ ⟨(hs2.2 _ (Ne.symm I.ne)).trans I.obj,hn2,I.ne⟩ hs2)
theorem make_map {R:Result→Shared→Prop} {vs:List Value} {kw:List (Str × Value)} (X:K.In s.heap) (hm:PySem.W.makesIn K C=true)
    (hi:PySem.W.findIn K (.ref C) "__init__"=some (some (.ref f))) (hf:PySem.W.typeIn K (.ref f)=some (.type "function"))
    (h:codeAny (model prog w) (A.under (.builtin "type.__call__" ⟨.ref C :: vs,kw⟩)) (.call (.ref f) ⟨.ref (s.heap.objs.size+1) :: vs,kw⟩) (PySem.W.InitBack (s.heap.objs.size+1) R)
      { s with heap:=(s.heap.push PySem.W.emptyDict).push (PySem.W.instObj C s.heap.objs.size) }) :
    codeAny (model prog w) A (.call (.ref C) ⟨vs,kw⟩) R s:=by
  obtain ⟨hh,g,d,t,os⟩:=s
  exact PySem.W.make_core (PySem.W.makes_of X hm) (PySem.W.looks_findIn X hi) (fun self=>PySem.W.bind_fn X self hf) (.inl rfl) h
end
def putF (f:Str) (v:V):List (Str × V)→List (Str × V)
  | []=>[(f,v)]
  | (g,x) :: r=>if g=f then (g,v) :: r else (g,x) :: putF f v r
theorem lookup_putF (f g:Str) (v:V):∀ fs:List (Str × V),(putF f v fs).lookup g=if g=f then some v else fs.lookup g
  | []=>by
    show List.lookup g [(f,v)]=_
    by_cases h:g=f
    · have hb:(g == f)=true:=beq_iff_eq.mpr h
      simp only [List.lookup,hb,if_pos h]
    · have hb:(g == f)=false:=beq_eq_false_iff_ne.mpr h
      simp only [List.lookup,hb,if_neg h]
  | (k, x) :: r=>by
    have ih:=lookup_putF f g v r
    rw [show putF f v ((k,x) :: r)=(if k=f then (k,v) :: r else (k,x) :: putF f v r) from rfl]
    by_cases hk:k=f
    · rw [if_pos hk]
      by_cases h:g=k
      · have hb:(g == k)=true:=beq_iff_eq.mpr h
        simp only [List.lookup,hb,if_pos (h.trans hk)]
      · have hb:(g == k)=false:=beq_eq_false_iff_ne.mpr h
        simp only [List.lookup,hb,if_neg (fun e:g=f=>h (e.trans hk.symm))]
    · rw [if_neg hk]
      by_cases h:g=k
      · have hb:(g == k)=true:=beq_iff_eq.mpr h
        simp only [List.lookup,hb,if_neg (fun e:g=f=>hk (h.symm.trans e))]
      · have hb:(g == k)=false:=beq_eq_false_iff_ne.mpr h
        simp only [List.lookup,hb]
        exact ih
theorem keys_putF (f:Str) (v:V):∀ fs:List (Str × V),f ∈ (putF f v fs).map (·.1)∧∀ g,g ∈ fs.map (·.1)→g ∈ (putF f v fs).map (·.1)
  | []=>⟨by simp [putF],fun g h=>by simp at h⟩
  | (k, x) :: r=>by
    obtain ⟨i1,i2⟩:=keys_putF f v r
    rw [show putF f v ((k,x) :: r)=(if k=f then (k,v) :: r else (k,x) :: putF f v r) from rfl]
    by_cases hk:k=f
    · rw [if_pos hk]
      subst hk
      exact ⟨by simp,fun g h=>by simpa using h⟩
    · rw [if_neg hk]
      refine ⟨?_,fun g h=>?_⟩
      · rw [List.map_cons]
        exact List.mem_cons_of_mem _ i1
      · rw [List.map_cons] at h ⊢
        rcases List.mem_cons.mp h with e | e
        · exact List.mem_cons.mpr (.inl e)
        · exact List.mem_cons_of_mem _ (i2 g e)
theorem length_putF (f:Str) (v:V):∀ fs:List (Str × V),(putF f v fs).length≤fs.length+1
  | []=>by simp [putF]
  | (k,x) :: r=>by
    have ih:=length_putF f v r
    rw [show putF f v ((k,x) :: r)=(if k=f then (k,v) :: r else (k,x) :: putF f v r) from rfl]
    by_cases hk:k=f
    · rw [if_pos hk,List.length_cons,List.length_cons];omega
    · rw [if_neg hk,List.length_cons,List.length_cons];omega
theorem RelO.some_of {v:V} {o:Option Value} (r:RelO (some v) o):∃ u,o=some u∧RelV v u:=by
  cases o with
  | none=>exact (show False from r).elim
  | some u=>exact ⟨u,rfl,r⟩
theorem RelO.none_of {o:Option Value} (r:RelO none o):o=none:=by
  cases o with
  | none=>rfl
  | some u=>exact (show False from r).elim
theorem handed_of {v:V} {u:Value} (r:RelV v u):PySem.W.handedIn u=true:=by
  cases v with
  | non=>cases (show u=Value.none from r);rfl
  | bl b=>cases (show u=Value.bool b from r);rfl
  | int i=>obtain ⟨t,e⟩:=(show ∃ t,u=Value.int i t from r);cases e;rfl
  | str x=>obtain ⟨t,e⟩:=(show ∃ t,u=Value.str x t from r);cases e;rfl
  | byt b=>obtain ⟨t,e⟩:=(show ∃ t,u=Value.bytes b t from r);cases e;rfl
  | flt b=>obtain ⟨t,e⟩:=(show ∃ t,u=Value.float b t from r);cases e;rfl
  | ref a=>cases (show u=Value.ref a from r);rfl
  | ty n=>cases (show u=Value.type n from r);rfl
section
variable {P:Program} {w:World} {H H':Hp} {h h':Heap} {a C dx:Addr} {fs fs':List (Str × V)}
theorem ins_get (hok:HOk P w H h) (e:H a=some (.ins C dx fs)):∃ mA,ObjM h a dx C mA∧(∀ f,RelO (fs.lookup f) (mA f))∧PySem.Within mA (fs.map (·.1))∧fs.length≤1000∧H dx=some (.own a):=by
  obtain ⟨d,z,ne,ob,mA,n,r,q⟩:=(show ObjOk P w H h a (.ins C dx fs) from hok a _ e)
  exact ⟨mA,⟨ob,n,ne⟩,r,q,z,d⟩
end
structure Cls (K:PySem.W.Frag) (C:Addr):Prop where
  pg:PySem.W.plainGet K C Str.empty=true
  hd:PySem.W.hasDictIn K C=true
  po:PySem.W.plainOver K C=true
  sa:PySem.W.findIn K (.ref C) "__setattr__"=some (some (.builtin "object.__setattr__"))
theorem Cls.get {K:PySem.W.Frag} {C:Addr} (c:Cls K C) (f:Str):PySem.W.plainGet K C f=true:=c.pg
def NoAttr (K:PySem.W.Frag) (C:Addr) (f:Str):Prop:=PySem.W.findIn K (.ref C) f=some none
theorem NoAttr.taker {K:PySem.W.Frag} {C:Addr} {f:Str} (n:NoAttr K C f):PySem.W.takerIn K C f=some none:=by
  unfold PySem.W.takerIn
  rw [show PySem.W.findIn K (.ref C) f=some none from n]
  rfl
structure Meth (K:PySem.W.Frag) (C:Addr) (m:Str) (f:Addr):Prop where
  at_:PySem.W.findIn K (.ref C) m=some (some (.ref f))
  fn:PySem.W.isFn K (.ref f)=true
  kp:PySem.W.keepIn K (.ref f)=true
section
variable {X:Cx} {pins:List (Addr × Obj)} {σ:St} {H:Hp} {s:Shared} {a C dx:Addr} {fs:List (Str × V)} {f:Str} {v:V} {A:Around} {E:Value→Shared→Prop}
theorem getattr_ok {b:Bool} {Q:Value→Shared→Prop} (I:Inv X pins σ H s) (e:H a=some (.ins C dx fs)) (c:Cls X.K C) (n:NoAttr X.K C f) (l:fs.lookup f=some v)
    (h:∀ u s',Inv X pins σ H s'→RelV v u→Q u s'):wpAny (model X.prog X.w) A (getAttr (.ref a) f b) Q E s:=by
  obtain ⟨mA,O,r,_,_,_⟩:=ins_get I.hok e
  obtain ⟨u,hu,ru⟩:=RelO.some_of (v:=v) (o:=mA f) (by rw [← l];exact r f)
  exact get_map I.kIn O (c.get f) c.hd n hu (handed_of ru) (h u _ (I.tok _) ru)
theorem getmeth_ok {m:Str} {g:Addr} {pl:Sem Bool} {Q:Value × List Value→Shared→Prop} (I:Inv X pins σ H s) (e:H a=some (.ins C dx fs)) (c:Cls X.K C) (k:Meth X.K C m g) (l:fs.lookup m=none)
    (h:Q (.ref g,[.ref a]) s):wpAny (model X.prog X.w) A (getMethod (.ref a) m pl) Q E s:=by
  obtain ⟨mA,O,r,_,_,_⟩:=ins_get I.hok e
  have hn:mA m=none:=RelO.none_of (by rw [← l];exact r m)
  exact get_meth I.kIn O (c.get m) k.at_ k.fn hn h
theorem setattr_ok {y:V} {u:Value} {Q:Unit→Shared→Prop} (I:Inv X pins σ H s) (e:H a=some (.ins C dx fs)) (c:Cls X.K C) (n:NoAttr X.K C f) (hl:fs.length < 1000) (ry:RelV y u)
    (h:∀ s',Inv X pins σ (upd H a (.ins C dx (putF f y fs))) s'→Q () s'):wpAny (model X.prog X.w) A (setAttr (.ref a) f u) Q E s:=by
  obtain ⟨mA,O,r,wi,_,ho⟩:=ins_get I.hok e
  have hz:(fs.map (·.1)).length≤sizeLine:=by rw [List.length_map,sizeLine_eq];omega
  refine set_map I.kIn O c.sa c.po n.taker c.hd wi hz fun h' O' sb=>h _ ?_
  have hd:∃ o,h'.get? dx=some o:=let ⟨o,_,_,e',_⟩:=O'.ns;⟨o,e'⟩
  refine I.write (x:=a) (e:=dx) (by rw [e];exact True.intro) (.inr ho) (fun b q hb z=>(sb.2 b hb).trans z) hd ?_
  refine ⟨by rw [upd_ne O.ne];exact ho,?_,O.ne,O'.obj,_,O'.ns,fun g=>?_,fun g hg=>?_⟩
  · have:=length_putF f y fs;omega
  · show RelO ((putF f y fs).lookup g) (if g=f then some u else mA g)
    rw [lookup_putF]
    by_cases q:g=f
    · rw [if_pos q,if_pos q];exact ry
    · rw [if_neg q,if_neg q];exact r g
  · by_cases q:g=f
    · rw [q];exact (keys_putF f y fs).1
    · refine (keys_putF f y fs).2 g (wi g fun z=>hg ?_)
      show (if g=f then some u else mA g)=none
      rw [if_neg q];exact z
theorem Inv.made (I:Inv X pins σ H s):Inv X pins σ (upd (upd H s.heap.objs.size (.own (s.heap.objs.size+1))) (s.heap.objs.size+1) (.ins C s.heap.objs.size []))
    { s with heap:=(s.heap.push PySem.W.emptyDict).push (PySem.W.instObj C s.heap.objs.size) }:=by
  have e1:(s.heap.push PySem.W.emptyDict).get? s.heap.objs.size=some PySem.W.emptyDict:=Heap.get?_push_size s.heap rfl
  have e2:((s.heap.push PySem.W.emptyDict).push (PySem.W.instObj C s.heap.objs.size)).get? (s.heap.objs.size+1)=some (PySem.W.instObj C s.heap.objs.size):=by
    have:=Heap.get?_push_size (s.heap.push PySem.W.emptyDict) (o:=PySem.W.instObj C s.heap.objs.size) rfl
    rwa [Heap.size_push] at this
  have e3:(s.heap.push PySem.W.emptyDict).Ns s.heap.objs.size (fun _=>none):=⟨PySem.W.emptyDict,#[],_,e1,rfl,(fun e he=>absurd he (by simp)),fun _=>rfl⟩
  have I1:=I.laid (a:=s.heap.objs.size) (o:=.own (s.heap.objs.size+1)) (h':=s.heap.push PySem.W.emptyDict) (t':=s.toks) (fun b u q=>Heap.get?_push_of_some _ q) (Nat.le_refl _) ⟨_,e1⟩
  refine I1.laid (a:=s.heap.objs.size+1) (o:=.ins C s.heap.objs.size []) (t':=s.toks) (fun b u q=>Heap.get?_push_of_some _ q) (Nat.le_of_eq (Heap.size_push _ _)) ?_
  have ne:s.heap.objs.size≠s.heap.objs.size+1:=Nat.ne_of_lt (Nat.lt_succ_self _)
  refine ⟨by rw [upd_ne ne,uS_],Nat.zero_le _,ne,e2,fun _=>none,(Heap.Ns1.of_empty e3).at fun o q=>Heap.get?_push_of_some _ q,fun _=>True.intro,fun y hy=>absurd rfl hy⟩
theorem attr_of {prog:Program} {w:World} {env:Env} {e:Expr} {f:Str} {pos:Pos} {s:Shared} {Q:Value→Shared→Prop} (hb:attributeBase e f env (eval e env)=eval e env)
    (h:wpAny (model prog w) A (eval e env) (fun o s₁=>wpAny (model prog w) A (getAttr o f true) Q E s₁) E s):wpAny (model prog w) A (eval (.Attribute e f pos) env) Q E s :=
  Attribute_any_ h (by rw [arm_eval_Attribute,hb])
end
def tFld (K:PySem.W.Frag) (ta:TE) (f:Str):TE:=fun σ H Q=>ta σ H fun x H1=>∃ a C dx fs v,x=.ref a∧H1 a=some (.ins C dx fs)∧Cls K C∧NoAttr K C f∧fs.lookup f=some v∧Q v H1
def sFld (K:PySem.W.Frag) (ta tv:TE) (f:Str):TS:=fun D σ H=>tv σ H fun y H1=>ta σ H1 fun x H2=>∃ a C dx fs,x=.ref a∧H2 a=some (.ins C dx fs)∧Cls K C∧NoAttr K C f∧fs.length < 1000 ∧
  D.nx σ (upd H2 a (.ins C dx (putF f y fs)))
def InOp (X:Cx) (op:Operator) (rd:V→V→Hp→VK→Prop):Prop :=
  ∀ (pins:List (Addr × Obj)) (s:Shared) (σ:St) (H:Hp) (x y:V) (u v:Value) (Q:VK),Inv X pins σ H s→RelV x u→RelV y v→rd x y H Q→wpAny (model X.prog X.w) X.A (inplaceOp op u v) (EP X pins σ Q) X.xe s
def sFldAug (K:PySem.W.Frag) (ta tv:TE) (rd:V→V→Hp→VK→Prop) (f:Str):TS:=fun D σ H=>ta σ H fun x H1=>∃ a C dx fs v,x=.ref a∧H1 a=some (.ins C dx fs)∧Cls K C∧NoAttr K C f∧fs.lookup f=some v ∧
  tv σ H1 fun y H2=>rd v y H2 fun z H3=>∃ dx' fs',H3 a=some (.ins C dx' fs')∧fs'.length < 1000∧D.nx σ (upd H3 a (.ins C dx' (putF f z fs')))
section
variable {X:Cx} {o e value:Expr} {f:Str} {pos pos' tpos:Pos} {ta tv:TE}
theorem pe_fld (he:PE X e ta) (hb:attributeBase e f X.env (eval e X.env)=eval e X.env):PE X (.Attribute e f pos) (tFld X.K ta f):=by
  intro pins s σ H Q I h
  refine attr_of hb (thn (he pins s σ H _ I h) fun u s1 ⟨x,H1,I1,rx,a,C,dx,fs,v,ex,ea,c,n,l,q⟩=>?_)
  subst ex
  obtain rfl:u=Value.ref a:=rx
  exact getattr_ok I1 ea c n l fun u' s2 I2 ru=>⟨v,H1,I2,ru,q⟩
theorem ps_fld (ha:PE X o ta) (hv:PE X value tv) (hs:swapsWith value (some (.Attribute o f pos')) pos.line X.env=pure false):PS X (.Assign [.Attribute o f pos'] value pos) (sFld X.K ta tv f):=by
  intro pins s σ H D I h
  refine plainObj_wpAny_Assign_Attribute (thn (hv pins s σ H _ I h) fun u s1 ⟨y,H1,I1,ry,q⟩=>thn (ha pins s1 σ H1 _ I1 q) fun ov s2 ⟨x,H2,I2,rx,a,C,dx,fs,ex,ea,c,n,l,q2⟩=>?_) hs
  subst ex
  obtain rfl:ov=Value.ref a:=rx
  exact setattr_ok I2 ea c n l ry fun s3 I3=>⟨σ,_,I3,q2⟩
theorem ps_fldaug {op:Operator} {rd:V→V→Hp→VK→Prop} (ha:PE X o ta) (hv:PE X value tv) (hop:InOp X op rd):PS X (.AugAssign (.Attribute o f tpos) op value pos) (sFldAug X.K ta tv rd f):=by
  intro pins s σ H D I h
  refine wpAny_AugAssign_AttributeAny (thn (ha pins s σ H _ I h) fun ov s1 ⟨x,H1,I1,rx,a,C,dx,fs,v,ex,ea,c,n,l,q⟩=>?_)
  subst ex
  obtain rfl:ov=Value.ref a:=rx
  refine getattr_ok I1 ea c n l fun u s2 I2 ru=>thn (hv pins s2 σ H1 _ I2 q) fun w3 s3 ⟨y,H2,I3,ry,q3⟩=>thn (hop pins s3 σ H2 v y u w3 _ I3 ru ry q3) fun w4 s4 ⟨z,H3,I4,rz,dx',fs',ea',l',q4⟩=>?_
  exact setattr_ok I4 ea' c n l' rz fun s5 I5=>⟨σ,_,I5,q4⟩
def rAdd:V→V→Hp→VK→Prop:=fun x y H Q=>∃ i j,x=.int i∧y=.int j∧Q (.int (i+j)) H
theorem in_add:InOp X .Add rAdd:=by
  rintro pins s σ H x y u v Q I rx ry ⟨i,j,rfl,rfl,q⟩
  obtain ⟨t,rfl⟩:=(show ∃ t,u=Value.int i t from rx)
  obtain ⟨t',rfl⟩:=(show ∃ t',v=Value.int j t' from ry)
  exact PyProof.Rows.iadd_int ⟨.int (i+j),H,I.tok _,⟨_,rfl⟩,q⟩
end
end L2
namespace L2
open PySem PySem.Spec PyProof.Rows
structure Room (k:Nat) (A:Around):Prop where
  hd:A.handled=none
  dp:A.depth+1 * k+5 < recursionLimit
  un:A.units+16 * k+200 < cLine
  gd:A.guards=some []
theorem Room.mono {j k:Nat} {A:Around} (r:Room k A) (h:j≤k):Room j A:=⟨r.hd,by have:=r.dp;omega,by have:=r.un;omega,r.gd⟩
theorem Room.deeper {k:Nat} {A:Around} (r:Room (k+1) A) (env:Env):Room k (A.deeper env) :=
  ⟨r.hd,by have:=r.dp;show A.depth+1+1 * k+5 < _;omega,by have:=r.un;show A.units+3+16 * k+200 < _;omega,by first | exact r.gd | (have z:=r.gd;simpa [Around.deeper,pushGuards] using z)⟩
theorem make_depth {A:Around} {C:Addr} {us:List Value} {kw:List (Str × Value)}:(A.under (.builtin "type.__call__" ⟨.ref C :: us,kw⟩)).depth=A.depth+1:=by
  first | rfl | simp [Around.under,Code.weight,Code.isCreation,Code.isGuard,Code.isCaller,Code.frames,Code.isFrame,guardIds]
theorem make_units {A:Around} {C:Addr} {us:List Value} {kw:List (Str × Value)}:(A.under (.builtin "type.__call__" ⟨.ref C :: us,kw⟩)).units=A.units+1:=by
  first | rfl | simp [Around.under,Code.cUnits,Code.frames,Code.isFrame]
theorem Room.make {k:Nat} {A:Around} (r:Room (k+1) A) (C:Addr) (us:List Value) (kw:List (Str × Value)):Room k (A.under (.builtin "type.__call__" ⟨.ref C :: us,kw⟩)) :=
  ⟨r.hd,by have:=r.dp;rw [make_depth];omega,by have:=r.un;rw [make_units];omega,by first | exact r.gd | (have z:=r.gd;simpa [Around.under,Code.guards,Code.isGuard,pushGuards,guardIds] using z)⟩
theorem Room.depth {k:Nat} {A:Around} (r:Room k A):A.depth < recursionLimit:=by have:=r.dp;omega
theorem Room.units {k:Nat} {A:Around} (r:Room k A):A.units+64 < cLine:=by have:=r.un;omega
theorem Room.units0 {k:Nat} {A:Around} (r:Room k A):A.units < cLine:=by have:=r.un;omega
def tNil:TA:=fun _ H Q=>Q [] H
def tCons (ta:TE) (tr:TA):TA:=fun σ H Q=>ta σ H fun x H1=>tr σ H1 fun xs H2=>Q (x :: xs) H2
section
variable {X:Cx} {e:Expr} {es:List Expr} {te:TE} {t:TA} {pos:Pos}
theorem pa_nil:PA X [] tNil:=fun _ _ _ _ H Q I h=>Calls.spliced_nil ⟨[],H,I,.nil,h⟩
theorem pC_ (ha:PE X e te) (hr:PA X es t) (hs:starEach (e :: es) X.env=(false,eval e X.env) :: starEach es X.env:=by rfl):PA X (e :: es) (tCons te t):=by
  intro pos pins s σ H Q I h
  rw [hs]
  show wpAny _ _ (spliced ((false,eval e X.env) :: backTo pos (starEach es X.env))) _ _ s
  refine Calls.spliced_cons (thn (ha pins s σ H _ I h) fun u s1 ⟨x,H1,I1,r1,q1⟩=>?_)
  exact thn (hr pos pins s1 σ H1 _ I1 q1) fun us s2 ⟨xs,H2,I2,r2,q2⟩=>⟨x :: xs,H2,I2,.cons r1 r2,q2⟩
def tTup (t:TA):TE:=fun σ H Q=>t σ H fun xs H1=>xs.length≤sizeLine∧∀ p,H1 p=none→Q (.ref p) (upd H1 p (.tup xs))
def tLst (t:TA):TE:=fun σ H Q=>t σ H fun xs H1=>xs.length≤sizeLine∧∀ p,H1 p=none→Q (.ref p) (upd H1 p (.lst xs))
theorem pe_tup {x1} (h:PA X es t):PE X (.Tuple es x1 pos) (tTup t):=by
  intro pins s σ H Q I hq
  refine wpAny_Tuple_spliced (thn (h pos pins s σ H _ I hq) fun us s1 ⟨xs,H1,I1,r,z,q⟩=>⟨by rw [← r.length];exact z,?_⟩)
  have hf:H1 s1.heap.objs.size=none:=I1.hok.fresh (Nat.le_refl _)
  refine ⟨.ref s1.heap.objs.size,upd H1 s1.heap.objs.size (.tup xs),I1.laid (t':=s1.toks) (fun b u e=>Heap.get?_push_of_some _ e) (Nat.le_refl _) ?_,rfl,q _ hf⟩
  exact ⟨z,us,r,⟨_,Heap.get?_push_size _ rfl,rfl,_,rfl⟩⟩
theorem pe_lst (h:PA X es t):PE X (.List es pos) (tLst t):=by
  intro pins s σ H Q I hq
  refine wpAny_List_spliced (thn (h pos pins s σ H _ I hq) fun us s1 ⟨xs,H1,I1,r,z,q⟩=>⟨by rw [← r.length];exact z,?_⟩)
  have hf:H1 s1.heap.objs.size=none:=I1.hok.fresh (Nat.le_refl _)
  refine ⟨.ref s1.heap.objs.size,upd H1 s1.heap.objs.size (.lst xs),I1.laid (t':=s1.toks) (fun b u e=>Heap.get?_push_of_some _ e) (Nat.le_refl _) ?_,rfl,q _ hf⟩
  exact ⟨z,us,0,r,Heap.get?_push_size _ rfl⟩
end
abbrev Sp:=List V→Hp→VK→XK→Prop
abbrev CXT:=List Env→Hp→Shared→XK→Value→Shared→Prop
structure Env0 (P:Program) (w:World) (K:PySem.W.Frag) (mg:Str→Option Value) (base:Heap) (A:Around) (outer:List Env) (s:Shared) (H:Hp):Prop where
  frames:A.frames=some outer
  mod:Mod K mg base
  bs:∀ b o,base.get? b=some o→s.heap.get? b=some o∧H b=none
  bsz:base.objs.size≤s.heap.objs.size
  funs:s.heap.FunFrames base outer
  frf:∀ b ∈ frs outer,H b=none
  hok:HOk P w H s.heap
  bare:AllBare s.gens
def CE (outer:List Env) (P:Program) (w:World) (H:Hp) (s:Shared) (Q:VK) (u:Value) (s':Shared):Prop :=
  ∃ v H',s'.os=s.os∧AllBare s'.gens∧Un (frs outer) [] H H' s.heap s'.heap∧HOk P w H' s'.heap∧RelV v u∧Q v H'
def CR (CX:CXT) (outer:List Env) (P:Program) (w:World) (H:Hp) (s:Shared) (Q:VK) (E:XK) (r:Result) (s':Shared):Prop :=
  match r with
  | .ok (.ret u)=>CE outer P w H s Q u s'
  | .ok _=>False
  | .error e=>CX outer H s E e s'
structure FnOk (P:Program) (w:World) (K:PySem.W.Frag) (mg:Str→Option Value) (base:Heap) (CX:CXT) (k:Nat) (f:Addr) (fd:FuncData) (ps:List Str) (sp:Sp):Prop where
  len:∀ vs H Q E,sp vs H Q E→vs.length=ps.length
  run:∀ (A:Around) (outer:List Env) (s:Shared) (H:Hp) (args:Args) (us:List Value) (vs:List V) (Q:VK) (E:XK),Room k A→Env0 P w K mg base A outer s H→BindsTo s fd args (ps.zip us)→Vals vs us→sp vs H Q E →
    codeAny (model P w) A (.call (.ref f) args) (CR CX outer P w H s Q E) s
theorem FnOk.mono {P:Program} {w:World} {K:PySem.W.Frag} {mg:Str→Option Value} {base:Heap} {CX:CXT} {j k:Nat} {f:Addr} {fd:FuncData} {ps:List Str} {sp:Sp} (F:FnOk P w K mg base CX j f fd ps sp) (h:j≤k) :
    FnOk P w K mg base CX k f fd ps sp:=⟨F.len,fun A outer s H args us vs Q E hr=>F.run A outer s H args us vs Q E (hr.mono h)⟩
theorem Env0.make {P:Program} {w:World} {K:PySem.W.Frag} {mg:Str→Option Value} {base:Heap} {A:Around} {outer:List Env} {s:Shared} {H:Hp} (e:Env0 P w K mg base A outer s H) (C:Addr) (us:List Value) (kw:List (Str × Value)) :
    Env0 P w K mg base (A.under (.builtin "type.__call__" ⟨.ref C :: us,kw⟩)) outer s H:=⟨by first | exact e.frames | (simpa [Around.under,Code.envs,Code.isFrame,pushEnvs] using e.frames),e.mod,e.bs,e.bsz,e.funs,e.frf,e.hok,e.bare⟩
section
variable {X:Cx} {pins:List (Addr × Obj)} {σ:St} {H:Hp} {s s':Shared}
theorem Inv.env0 (I:Inv X pins σ H s):Env0 X.prog X.w X.K X.mg X.base X.A X.stack s H :=
  ⟨I.ok.frames,I.ok.mod,I.bs,Nat.le_trans I.ok.bsz I.sz,I.stack,I.stkFree,I.hok,I.bare⟩
theorem Inv.after {Q:VK} {u:Value} (I:Inv X pins σ H s) (h:CE X.stack X.prog X.w H s Q u s'):EP X pins σ Q u s':=by
  obtain ⟨v,H',os,bare,un,hok,r,q⟩:=h
  obtain ⟨hh,g,d,t,os'⟩:=s'
  obtain rfl:os'=s.os:=os
  exact ⟨v,H',I.call (h':=hh) (g':=g) (d':=d) (t':=t) (ch:=[]) un hok bare (fun b z=>absurd z (by simp)),r,q⟩
end
def tCall (sp:Sp) (dvs:List V) (E:XK) (t:TA):TE:=fun σ H Q=>t σ H fun vs H1=>sp (vs++dvs) H1 Q E
def tMeth (C:Addr) (m:Str) (sp:Sp) (dvs:List V) (E:XK) (ta:TE) (t:TA):TE:=fun σ H Q=>ta σ H fun x H1=>∃ a dx fs,x=.ref a∧H1 a=some (.ins C dx fs)∧fs.lookup m=none ∧
  t σ H1 fun vs H2=>sp (x :: (vs++dvs)) H2 Q E
def tMake (C:Addr) (sp:Sp) (dvs:List V) (E:XK) (t:TA):TE:=fun σ H Q=>t σ H fun vs H1=>∀ x dx,H1 x=none→H1 dx=none→dx≠x →
  sp (.ref x :: (vs++dvs)) (upd (upd H1 dx (.own x)) x (.ins C dx [])) (fun v H2=>v=.non∧Q (.ref x) H2) E
def Binds (K:PySem.W.Frag) (fd:FuncData) (ps:List Str) (ds:List Value):Prop :=
  ∀ (s:Shared) (us:List Value),K.In s.heap→(us++ds).length=ps.length→BindsTo s fd ⟨us,[]⟩ (ps.zip (us++ds))
theorem Binds.all {K:PySem.W.Frag} {fd:FuncData} {ps:List Str} (h:∀ us:List Value,us.length=ps.length→bindArgs fd ⟨us,[]⟩=pure (ps.zip us)):Binds K fd ps []:=fun s us _ hl=>by
  rw [List.append_nil] at hl ⊢
  exact .of_eq (h us hl)
def Passes (CX:CXT) (X:Cx) (E:XK):Prop:=∀ (pins:List (Addr × Obj)) (σ:St) (H:Hp) (s:Shared) (e:Value) (s':Shared),Inv X pins σ H s→CX X.stack H s E e s'→X.xe e s'
section
variable {X:Cx} {CX:CXT} {k:Nat} {f C:Addr} {fd:FuncData} {ps:List Str} {sp:Sp} {dvs:List V} {ds:List Value} {E:XK} {x m:Str} {p pos apos:Pos} {e o:Expr} {es:List Expr} {ta:TE} {t:TA}
theorem run_fn {pins:List (Addr × Obj)} {σ:St} {H:Hp} {s:Shared} {Q:VK} {us:List Value} {vs:List V} (F:FnOk X.prog X.w X.K X.mg X.base CX k f fd ps sp) (hr:Room k X.A) (hb:Binds X.K fd ps ds) (hd:Vals dvs ds) (hx:Passes CX X E)
    (I:Inv X pins σ H s) (r:Vals vs us) (h:sp (vs++dvs) H Q E):wpAny (model X.prog X.w) X.A (call (.ref f) us) (EP X pins σ Q) X.xe s:=by
  have r2:Vals (vs++dvs) (us++ds):=r.append hd
  have hl:(us++ds).length=ps.length:=by rw [← r2.length];exact F.len _ _ _ _ h
  refine wpAny_call (codeAny_mono (F.run X.A X.stack s H ⟨us,[]⟩ (us++ds) (vs++dvs) Q E hr I.env0 (hb s us I.kIn hl) r2 h) fun r s' hq=>?_)
  cases r with
  | error e=>exact hx pins σ H s e s' I hq
  | ok fl =>
    cases fl with
    | ret u=>exact I.after hq
    | next=>exact False.elim hq
    | brk=>exact False.elim hq
    | cont=>exact False.elim hq
theorem pL_ (F:FnOk X.prog X.w X.K X.mg X.base CX k f fd ps sp) (hr:Room k X.A) (hg:Gl X x) (hm:X.mg x=some (.ref f)) (hk:PySem.W.keepIn X.K (.ref f)=true) (hb:Binds X.K fd ps ds) (hd:Vals dvs ds) (hx:Passes CX X E)
    (ha:PA X (e :: es) t) (hdb:(x == ("__debug__":Str))=false:=by decide) (he:starEach (e :: es) X.env=(false,eval e X.env) :: starEach es X.env:=by rfl) (hpl:(backTo pos (starEach es X.env)).any (·.1)=false:=by rfl) :
    PE X (.Call (.Name x p) (e :: es) [] pos) (tCall sp dvs E t):=by
  intro pins s σ H Q I h
  refine wpAny_Call_Name_kw (ld_glob I hg hm ?_ hdb)
  refine PySem.W.callWith_K (h₀:=X.base) I.ok.mod.kin hk (thn (ha pos pins s σ H _ I h) fun us s1 ⟨vs,H1,I1,r,q⟩=>⟨I1.kIn,?_⟩) he hpl
  exact run_fn F hr hb hd hx I1 r q
theorem pe_meth {pl:Sem Bool} (he:PE X o ta) (c:Cls X.K C) (hm:Meth X.K C m f) (F:FnOk X.prog X.w X.K X.mg X.base CX k f fd ps sp) (hr:Room k X.A) (hb:Binds X.K fd ps ds) (hd:Vals dvs ds) (hx:Passes CX X E) (ha:PA X (e :: es) t)
    (hst:starEach (e :: es) X.env=(false,eval e X.env) :: starEach es X.env:=by rfl) (hpl:(backTo pos (starEach es X.env)).any (·.1)=false:=by rfl)
    (ht:eval (.Call (.Attribute o m apos) (e :: es) [] pos) X.env=(do
      let ov ← eval o X.env
      standAt apos.atName
      let (f,first) ← holding [ov] (getMethod ov m pl)
      callWith pos f first (backTo pos (starEach (e :: es) X.env)) (backToKw pos (keywordEach [] X.env))):=by rfl) :
    PE X (.Call (.Attribute o m apos) (e :: es) [] pos) (tMeth C m sp dvs E ta t):=by
  intro pins s σ H Q I h
  refine PySem.W.methodCall_KW (pl:=pl) (thn (he pins s σ H _ I h) fun u s1 ⟨x,H1,I1,rx,a,dx,fs,ex,ea,l,q⟩=>?_) ht
  subst ex
  obtain rfl:u=Value.ref a:=rx
  refine getmeth_ok I1 ea c hm l ?_
  refine PySem.W.callWith_K (first:=[.ref a]) (h₀:=X.base) I.ok.mod.kin hm.kp (thn (ha pos pins s1 σ H1 _ I1 q) fun us s2 ⟨vs,H2,I2,r,q2⟩=>⟨I2.kIn,?_⟩) hst hpl
  exact run_fn (us:=.ref a :: us) (vs:=.ref a :: vs) F hr hb hd hx I2 (.cons rfl r) q2
theorem pe_meth0 {pl:Sem Bool} (he:PE X o ta) (c:Cls X.K C) (hm:Meth X.K C m f) (F:FnOk X.prog X.w X.K X.mg X.base CX k f fd ps sp) (hr:Room k X.A) (hb:Binds X.K fd ps ds) (hd:Vals dvs ds) (hx:Passes CX X E)
    (ht:eval (.Call (.Attribute o m apos) [] [] pos) X.env=(do
      let ov ← eval o X.env
      standAt apos.atName
      let (f,first) ← holding [ov] (getMethod ov m pl)
      callWith pos f first (backTo pos (starEach [] X.env)) (backToKw pos (keywordEach [] X.env))):=by rfl) :
    PE X (.Call (.Attribute o m apos) [] [] pos) (tMeth C m sp dvs E ta tNil):=by
  intro pins s σ H Q I h
  refine PySem.W.methodCall_KW (pl:=pl) (thn (he pins s σ H _ I h) fun u s1 ⟨x,H1,I1,rx,a,dx,fs,ex,ea,l,q⟩=>?_) ht
  subst ex
  obtain rfl:u=Value.ref a:=rx
  refine getmeth_ok I1 ea c hm l ?_
  exact PySem.W.callWith_K0 (first:=[.ref a]) I1.kIn hm.kp (run_fn (us:=[.ref a]) (vs:=[.ref a]) F hr hb hd hx I1 (.cons rfl .nil) q)
structure Mk (K:PySem.W.Frag) (C f:Addr):Prop where
  makes:PySem.W.makesIn K C=true
  init:PySem.W.findIn K (.ref C) "__init__"=some (some (.ref f))
  fn:PySem.W.isFn K (.ref f)=true
  kp:PySem.W.keepIn K (.ref C)=true
theorem run_make {pins:List (Addr × Obj)} {σ:St} {H:Hp} {s:Shared} {Q:VK} {us:List Value} {vs:List V} (M:Mk X.K C f) (F:FnOk X.prog X.w X.K X.mg X.base CX k f fd ps sp) (hr:Room (k+1) X.A) (hb:Binds X.K fd ps ds) (hd:Vals dvs ds)
    (hx:Passes CX X E) (I:Inv X pins σ H s) (r:Vals vs us)
    (h:∀ x dx,H x=none→H dx=none→dx≠x→sp (.ref x :: (vs++dvs)) (upd (upd H dx (.own x)) x (.ins C dx [])) (fun v H2=>v=.non∧Q (.ref x) H2) E) :
    wpAny (model X.prog X.w) X.A (call (.ref C) us) (EP X pins σ Q) X.xe s:=by
  have hq:=h (s.heap.objs.size+1) s.heap.objs.size (I.hok.fresh (Nat.le_succ _)) (I.hok.fresh (Nat.le_refl _)) (Nat.ne_of_lt (Nat.lt_succ_self _))
  have I2:=Inv.made (C:=C) I
  have r2:Vals (V.ref (s.heap.objs.size+1) :: (vs++dvs)) (Value.ref (s.heap.objs.size+1) :: (us++ds)):=.cons rfl (r.append hd)
  have hl:(Value.ref (s.heap.objs.size+1) :: us++ds).length=ps.length:=by
    have e:=r2.length
    rw [F.len _ _ _ _ hq] at e
    exact e.symm
  refine wpAny_call (make_map (f:=f) I.kIn M.makes M.init (beq_iff_eq.mp M.fn) (codeAny_mono (F.run _ X.stack _ _ ⟨Value.ref (s.heap.objs.size+1) :: us,[]⟩ (Value.ref (s.heap.objs.size+1) :: (us++ds)) _ _ E (hr.make C us [])
    (I2.env0.make C us []) (hb _ (Value.ref (s.heap.objs.size+1) :: us) I2.kIn hl) r2 hq) fun r s' hq'=>?_))
  cases r with
  | error e=>exact hx pins σ _ _ e s' I2 hq'
  | ok fl =>
    cases fl with
    | ret u =>
      obtain ⟨v,H',I3,rv,ev,q3⟩:=I2.after hq'
      subst ev
      exact ⟨rv,⟨V.ref (s.heap.objs.size+1),H',I3,rfl,q3⟩⟩
    | next=>exact False.elim hq'
    | brk=>exact False.elim hq'
    | cont=>exact False.elim hq'
theorem pe_make (M:Mk X.K C f) (F:FnOk X.prog X.w X.K X.mg X.base CX k f fd ps sp) (hr:Room (k+1) X.A) (hg:Gl X x) (hm:X.mg x=some (.ref C)) (hb:Binds X.K fd ps ds) (hd:Vals dvs ds) (hx:Passes CX X E)
    (ha:PA X (e :: es) t) (hdb:(x == ("__debug__":Str))=false:=by decide) (he:starEach (e :: es) X.env=(false,eval e X.env) :: starEach es X.env:=by rfl) (hpl:(backTo pos (starEach es X.env)).any (·.1)=false:=by rfl) :
    PE X (.Call (.Name x p) (e :: es) [] pos) (tMake C sp dvs E t):=by
  intro pins s σ H Q I h
  refine wpAny_Call_Name_kw (ld_glob I hg hm ?_ hdb)
  refine PySem.W.callWith_K (h₀:=X.base) I.ok.mod.kin M.kp (thn (ha pos pins s σ H _ I h) fun us s1 ⟨vs,H1,I1,r,q⟩=>⟨I1.kIn,?_⟩) he hpl
  exact run_make M F hr hb hd hx I1 r q
end
structure FnScope (N P:List Str) (sc:Scope):Prop where
  kind:sc.kind=.function
  co:sc.isCoroutine=false
  gen:sc.isGenerator=false
  nd:N.Nodup
  pre:N.take P.length=P
  par:∀ x ∈ P,sc.names.lookup x=some .local∨sc.names.lookup x=some .cell
  nofree:∀ y ∈ sc.names,y.2≠.free
theorem bindL_out {kindOf:Str→Option NameKind} {x:Str}:∀ {binds:List (Str × Value)} {m:Str→Option Value},(∀ v,(x,v) ∉ binds)→bindL kindOf binds m x=m x
  | [],_,_=>rfl
  | (n,v) :: r,m,h=>by
    unfold bindL
    rw [bindL_out fun w hw=>h w (List.mem_cons_of_mem _ hw)]
    split
    · have:x≠n:=by rintro rfl;exact h v List.mem_cons_self
      simp [this]
    · rfl
theorem bindC_out {kindOf:Str→Option NameKind} {x:Str}:∀ {binds:List (Str × Value)} {m:Str→Option Value},(∀ v,(x,v) ∉ binds)→bindC kindOf binds m x=m x
  | [],_,_=>rfl
  | (n,v) :: r,m,h=>by
    unfold bindC
    rw [bindC_out fun w hw=>h w (List.mem_cons_of_mem _ hw)]
    split
    · rfl
    · have:x≠n:=by rintro rfl;exact h v List.mem_cons_self
      simp [this]
theorem bindL_get {kindOf:Str→Option NameKind} {x:Str} {v:Value}:∀ {P:List Str} {vs:List Value} {i:Nat} {m:Str→Option Value},P.Nodup→P[i]?=some x→vs[i]?=some v→kindOf x=some .local →
    bindL kindOf (P.zip vs) m x=some v
  | [],_,_,_,_,h,_,_=>by simp at h
  | _ :: _,[],_,_,_,_,h,_=>by simp at h
  | p :: P,w :: vs,0,m,nd,h1,h2,hk=>by
    simp at h1 h2;subst h1;subst h2
    show bindL kindOf ((p,w) :: P.zip vs) m p=_
    unfold bindL
    rw [bindL_out fun v hv=>(List.nodup_cons.mp nd).1 (List.of_mem_zip hv).1,if_pos hk]
    simp
  | p :: P,w :: vs,i+1,m,nd,h1,h2,hk=>by
    show bindL kindOf ((p,w) :: P.zip vs) m x=_
    unfold bindL
    exact bindL_get (i:=i) (List.nodup_cons.mp nd).2 (by simpa using h1) (by simpa using h2) hk
theorem bindC_get {kindOf:Str→Option NameKind} {x:Str} {v:Value}:∀ {P:List Str} {vs:List Value} {i:Nat} {m:Str→Option Value},P.Nodup→P[i]?=some x→vs[i]?=some v→kindOf x≠some .local →
    bindC kindOf (P.zip vs) m x=some v
  | [],_,_,_,_,h,_,_=>by simp at h
  | _ :: _,[],_,_,_,_,h,_=>by simp at h
  | p :: P,w :: vs,0,m,nd,h1,h2,hk=>by
    simp at h1 h2;subst h1;subst h2
    show bindC kindOf ((p,w) :: P.zip vs) m p=_
    unfold bindC
    rw [bindC_out fun v hv=>(List.nodup_cons.mp nd).1 (List.of_mem_zip hv).1,if_neg hk]
    simp
  | p :: P,w :: vs,i+1,m,nd,h1,h2,hk=>by
    show bindC kindOf ((p,w) :: P.zip vs) m x=_
    unfold bindC
    exact bindC_get (i:=i) (List.nodup_cons.mp nd).2 (by simpa using h1) (by simpa using h2) hk
def start (N:List Str) (vs:List V):St:=vs.map some++List.replicate (N.length - vs.length) none
def cxOf (CX:CXT) (P:Program) (w:World) (K:PySem.W.Frag) (mg:Str→Option Value) (base:Heap) (N:List Str) (qual:Str) (scope:Scope) (f:Addr) (cd:Value) (A:Around) (outer:List Env) (s:Shared) (H:Hp) (E:XK):Cx where
  prog:=P
  w:=w
  K:=K
  mg:=mg
  base:=base
  A:=A.deeper (envOfC qual scope s.heap.objs.size f cd)
  N:=N
  s₀:=s
  H₀:=H
  env:=envOfC qual scope s.heap.objs.size f cd
  outer:=outer
  stack:=envOfC qual scope s.heap.objs.size f cd :: outer
  ex:=[]
  calm:=true
  fn:=fun _=>true
  pn:=[]
  xe:=fun e s'=>wpAny (model P w) (A.deeper (envOfC qual scope s.heap.objs.size f cd)) (leaving (envOfC qual scope s.heap.objs.size f cd) e) (fun _ s''=>CX outer H s E e s'') (fun e' s''=>CX outer H s E e' s'') s'
theorem cell_has {sc:Scope} {n:Nat} {x:Str} (h:sc.names.lookup x=some .cell):∃ c,(cellsFrom n sc.names []).lookup x=some c:=by
  have q:=PySem.W.cellsFrom_some sc.names n [] (.inl h)
  exact Option.isSome_iff_exists.mp q
theorem inv_start {CX:CXT} {P:Program} {w:World} {K:PySem.W.Frag} {mg:Str→Option Value} {base:Heap} {N ps:List Str} {qual:Str} {scope:Scope} {f:Addr} {cd:Value} {A:Around} {outer:List Env} {s s1:Shared} {H:Hp} {E:XK} {us:List Value} {vs:List V}
    (S:FnScope N ps scope) (hd:A.handled=none) (e0:Env0 P w K mg base A outer s H) (hl:vs.length=ps.length) (r:Vals vs us)
    (x:InCallC s s.heap.objs.size (bindL (envOfC qual scope s.heap.objs.size f cd).kindOf (ps.zip us) fun _=>none) (cellsFrom (s.heap.objs.size+1) scope.names []) (bindC (envOfC qual scope s.heap.objs.size f cd).kindOf (ps.zip us) fun _=>none) s1) :
    Inv (cxOf CX P w K mg base N qual scope f cd A outer s H E) [] (start N vs) H s1:=by
  have hpl:ps.length≤N.length:=by have:=congrArg List.length S.pre;rw [List.length_take] at this;omega
  obtain ⟨h1,tk,rfl,hk⟩:=x.done
  have noA:∀ b:Addr,b ∉ (cxOf CX P w K mg base N qual scope f cd A outer s H E).ex:=fun b z=>absurd (show b ∈ ([]:List Addr) from z) (by simp)
  refine ⟨⟨e0.mod,S.kind,rfl,rfl,Nat.le_refl _,fun y z c h1 h2=>?_,fun y hy=>?_,fun y c _ h=>?_,fun _=>hd,Around.frames_deeper e0.frames,.inr ⟨rfl,rfl⟩,fun b z=>absurd z (noA b),e0.bs,e0.bsz,fun b _ _=>noA b,fun b z=>absurd z (noA b),e0.funs,e0.frf⟩,
    rfl,e0.bare,Un.kept hk,⟨_,x.toInCall.ns,fun i y v h1 h2 h3=>?_⟩,fun y c h=>⟨_,x.cell y c h⟩,e0.hok.fresh (Nat.le_refl _),fun y c h=>?_,fun p hp=>absurd (show p ∈ ([]:List (Addr × Obj)) from hp) (by simp),e0.hok.kept hk,?_⟩
  · exact name_of_addr x.apart (PySem.mem_of_lookup h1) (PySem.mem_of_lookup h2)
  · have hy:scope.names.lookup y=some .cell∨scope.names.lookup y=some .free:=hy
    rcases hy with hy | hy
    · exact cell_has hy
    · exact absurd rfl (S.nofree _ (PySem.mem_of_lookup hy))
  · exact Nat.le_of_lt (x.above y c (PySem.mem_of_lookup h))
  · have hi:i < vs.length:=by
      unfold start at h2
      by_cases hi:i < vs.length
      · exact hi
      · rw [List.getElem?_append_right (by simpa using hi)] at h2
        rw [List.getElem?_replicate] at h2
        split at h2 <;> cases h2
    have ha:vs[i]?=some v:=by
      unfold start at h2
      rw [List.getElem?_append_left (by simpa using hi),List.getElem?_map] at h2
      cases e:vs[i]? with
      | none=>rw [e] at h2;cases h2
      | some a=>rw [e] at h2;cases h2;rfl
    obtain ⟨u,hu,rv⟩:=r.get ha
    have hp:ps[i]?=some y:=by
      rw [← S.pre,List.getElem?_take_of_lt (by omega)];exact h1
    have ndP:ps.Nodup:=by rw [← S.pre];exact S.nd.sublist (List.take_sublist _ _)
    refine ⟨u,rv,?_⟩
    rcases S.par y (List.mem_of_getElem? hp) with k | k
    · exact .inl ⟨k,bindL_get ndP hp hu k⟩
    · obtain ⟨c,e⟩:=cell_has (n:=s.heap.objs.size+1) k
      refine .inr ⟨.inl k,c,e,?_⟩
      have q:=x.cell y c e
      rw [bindC_get ndP hp hu (by show scope.names.lookup y≠_;rw [k];decide)] at q
      exact q
  · exact e0.hok.fresh (Nat.le_of_lt (x.above y c (PySem.mem_of_lookup h)))
  · unfold start
    show _=N.length
    rw [List.length_append,List.length_map,List.length_replicate]
    omega
theorem fn_of {CX:CXT} {P:Program} {w:World} {K:PySem.W.Frag} {mg:Str→Option Value} {base:Heap} {k:Nat} {f:Addr} {name qual:Str} {params:Arguments} {body:List Stmt} {scope:Scope} {dV kV doc pm cdv ct oc:Value} {an od:Option Addr}
    {osl:Array (Option Value)} {N ps:List Str} {sp:Sp} (lk:K.lookup f=some ⟨oc,od,.func (PySem.W.fnOf name qual params body scope dV kV doc pm an cdv ct),osl⟩) (hcd:PySem.W.codeIn K cdv qual=true) (S:FnScope N ps scope)
    (len:∀ vs H Q E,sp vs H Q E→vs.length=ps.length)
    (hbody:∀ (A:Around) (outer:List Env) (s:Shared) (H:Hp) (vs:List V) (Q:VK) (E:XK),Room k (A.deeper (envOfC qual scope s.heap.objs.size f cdv))→sp vs H Q E →
      ∃ t,PSs (cxOf CX P w K mg base N qual scope f cdv A outer s H E) body t∧t { nx:=fun _ H'=>Q .non H',rt:=Q } (start N vs) H) :
    FnOk P w K mg base CX (k+1) f (PySem.W.fnOf name qual params body scope dV kV doc pm an cdv ct) ps sp:=by
  refine ⟨len,fun A outer s H args us vs Q E hr e0 hb r hsp=>?_⟩
  have hl:=len _ _ _ _ hsp
  have KX:K.In s.heap:=e0.mod.kin.keeps fun b o e=>(e0.bs b o e).1
  have lim:s.heap.NoLimit:=e0.mod.nolimit.keeps fun b o e=>(e0.bs b o e).1
  have hkind:∀ y ∈ ps.zip us,scope.names.lookup y.1=some .local∨(scope.names.lookup y.1=some .cell∧((cellsFrom (s.heap.objs.size+1) scope.names []).lookup y.1).isSome=true):=fun ⟨n,v⟩ hy=>by
    rcases S.par n (List.of_mem_zip hy).1 with q | q
    · exact .inl q
    · exact .inr ⟨q,PySem.W.cellsFrom_some _ _ _ (.inl q)⟩
  refine codeAny_call_function hr.depth (KX _ _ lk) rfl S.co S.gen rfl (PySem.W.codeRec_of KX hcd) (hb _ _ _ _ ?_)
  refine wpAny_newFunctionEnv_cells S.kind hkind fun env he s1 x=>?_
  subst he
  refine ⟨lim.keeps x.toInCall.keep,codeAny_func ?_⟩
  obtain ⟨t,ht,hq⟩:=hbody A outer s H vs Q E (hr.deeper _) hsp
  have I:Inv (cxOf CX P w K mg base N qual scope f cdv A outer s H E) [] (start N vs) H s1:=inv_start S hr.hd e0 hl r x
  refine wpAny_mono (ht [] s1 (start N vs) H _ I hq) (fun fl s' hs=>?_) fun e s' hs=>hs
  have fin:∀ {σ':St} {H':Hp} {v:V} {u:Value},Inv (cxOf CX P w K mg base N qual scope f cdv A outer s H E) [] σ' H' s'→RelV v u→Q v H'→CE outer P w H s Q u s' :=
    fun {σ' H' v u} J rv q=>⟨v,H',J.os,J.bare,J.base,J.hok,rv,q⟩
  cases fl with
  | ret u =>
    obtain ⟨v,σ',H',J,rv,q⟩:=hs
    exact fin J rv q
  | next =>
    obtain ⟨σ',H',J,q⟩:=hs
    exact fin (v:=V.non) (u:=Value.none) J rfl q
  | brk =>
    obtain ⟨_,_,_,q⟩:=hs
    exact False.elim q
  | cont =>
    obtain ⟨_,_,_,q⟩:=hs
    exact False.elim q
end L2
namespace L2
open PySem PySem.Spec PyProof.Rows
section
variable {X:Cx} {x:Str} {p pos:Pos} {e:Expr} {es:List Expr} {t:TA} {id T:String} {r:List V→Hp→VK→Prop}
def tCB (r:List V→Hp→VK→Prop) (t:TA):TE:=fun σ H Q=>t σ H fun vs H1=>r vs H1 Q
theorem pB_ (hc:CallR X (.builtin id) r) (hg:Gl X x) (hm:X.mg x=none) (hv:bootBuiltins x=some (.builtin id)) (ha:PA X (e :: es) t) (hn:x≠"__name__":=by decide) (hdb:(x == ("__debug__":Str))=false:=by decide)
    (he:starEach (e :: es) X.env=(false,eval e X.env) :: starEach es X.env:=by rfl) (hpl:(backTo pos (starEach es X.env)).any (·.1)=false:=by rfl):PE X (.Call (.Name x p) (e :: es) [] pos) (tCB r t):=by
  intro pins s σ H Q I h
  refine wpAny_Call_Name_kw (ld_blt I hg hm hv ?_ hn hdb)
  exact PyProof.Rows.callWith_builtin1 (thn (ha pos pins s σ H _ I h) fun us s1 ⟨vs,H1,I1,r1,q1⟩=>hc pins s1 σ H1 vs us Q I1 r1 q1) he hpl
theorem pT_ (hc:CallR X (.type T) r) (hg:Gl X x) (hm:X.mg x=none) (hv:bootBuiltins x=some (.type T)) (ha:PA X (e :: es) t) (hn:x≠"__name__":=by decide) (hdb:(x == ("__debug__":Str))=false:=by decide)
    (he:starEach (e :: es) X.env=(false,eval e X.env) :: starEach es X.env:=by rfl) (hpl:(backTo pos (starEach es X.env)).any (·.1)=false:=by rfl):PE X (.Call (.Name x p) (e :: es) [] pos) (tCB r t):=by
  intro pins s σ H Q I h
  refine wpAny_Call_Name_kw (ld_blt I hg hm hv ?_ hn hdb)
  exact PyProof.Rows.callWith_type1 (thn (ha pos pins s σ H _ I h) fun us s1 ⟨vs,H1,I1,r1,q1⟩=>hc pins s1 σ H1 vs us Q I1 r1 q1) he hpl
end
end L2
namespace HT
open PySem PyProof.Rows
section
open PySem.SeqAt
open PySem.AutoSeq1 (wpAny_loadPart')
open PySem.MeetsSeq PySem.MeetsSeq2 PySem.MeetsSeq3
end
section
variable {prog:Program} {w:World} {A:Around} {E:Value→Shared→Prop} {s:Shared}
def sIx (n d:Nat):Option Int→Nat
  | none=>d
  | some v=>if v < 0 then (v+(n:Int)).toNat else min v.toNat n
theorem sIx_none (n d:Nat):sIx n d none=d:=rfl
theorem sIx_nat (n d k:Nat):sIx n d (some (k:Int))=min k n:=by
  show (if (k:Int) < 0 then ((k:Int)+(n:Int)).toNat else min (k:Int).toNat n)=min k n
  rw [if_neg (by omega),Int.toNat_natCast]
theorem sIx_le (n d:Nat) (hd:d≤n) (o:Option Int):sIx n d o≤n:=by
  cases o with
  | none=>exact hd
  | some v =>
    show (if v < 0 then (v+(n:Int)).toNat else min v.toNat n)≤n
    by_cases hv:v < 0
    · rw [if_pos hv];omega
    · rw [if_neg hv];exact Nat.min_le_right _ _
theorem clip_eq (v:Int) (n d:Nat):(if v < 0 then max (v+(n:Int)) 0 else min v (n:Int))=((sIx n d (some v):Nat):Int):=by
  show (if v < 0 then max (v+(n:Int)) 0 else min v (n:Int))=(((if v < 0 then (v+(n:Int)).toNat else min v.toNat n):Nat):Int)
  by_cases hv:v < 0
  · simp only [if_pos hv];omega
  · simp only [if_neg hv];omega
theorem adjust_gen (lo hi:Option Int) (n:Nat):Builtin.Slice.sliceAdjust lo hi 1 (n:Int)=(((sIx n 0 lo:Nat):Int),((sIx n n hi:Nat):Int)):=by
  have h1:¬ ((1:Int) < 0):=by omega
  unfold Builtin.Slice.sliceAdjust
  simp only [h1,if_false]
  refine Prod.ext ?_ ?_
  · cases lo with
    | none=>rfl
    | some v=>exact clip_eq v n 0
  · cases hi with
    | none=>rfl
    | some v=>exact clip_eq v n n
theorem places_gen (i j:Nat):Builtin.Slice.slicePlaces (i:Int) (j:Int) 1=j - i:=by
  unfold Builtin.Slice.slicePlaces
  have h1:(1:Int) > 0:=by omega
  simp only [h1,if_true,Int.ediv_one]
  split <;> omega
theorem slicePart_ {v:Value} {o:Option Int} {Q:Option Int→Shared→Prop} (p:IsPart v o) (h:Q o s):wpAny (model prog w) A (Builtin.Slice.slicePartIndex v) Q E s:=by
  cases p with
  | none=>exact slicePart_none h
  | int i t=>exact slicePart_int h
theorem sliceApplied_gen {sl:Addr} {vl vu:Value} {lo hi:Option Int} {n:Nat} {Q:Int × Int × Nat→Shared→Prop} (hs:s.heap.IsSliceOf sl vl vu .none) (pl:IsPart vl lo) (pu:IsPart vu hi)
    (h:Q (((sIx n 0 lo:Nat):Int),1,sIx n n hi - sIx n 0 lo) s):wpAny (model prog w) A (Builtin.Slice.sliceApplied (.ref sl) (pure (n:Int))) Q E s:=by
  obtain ⟨os,hos,hcs,hds⟩:=id hs
  unfold Builtin.Slice.sliceApplied Builtin.Slice.sliceFields
  refine wpAny_bind (wpAny_bind (wpAny_field hos hds (x:=vl) rfl (wpAny_bind (wpAny_field hos hds (x:=vu) rfl (wpAny_bind (wpAny_field hos hds (x:=.none) rfl (wpAny_pure ?_)))))))
  refine wpAny_bind (slicePart_none ?_)
  show wpAny _ _ (if ((1:Int) == 0)=true then _ else _) _ _ s
  rw [if_neg (by decide)]
  refine wpAny_bind (slicePart_ pl (wpAny_bind (slicePart_ pu (wpAny_bind (wpAny_pure ?_)))))
  show wpAny _ _ (match Builtin.Slice.sliceAdjust lo hi 1 (n:Int) with | (lo,hi)=>pure (lo,(1:Int),Builtin.Slice.slicePlaces lo hi 1)) _ _ s
  rw [adjust_gen lo hi n]
  show wpAny _ _ (pure (((sIx n 0 lo:Nat):Int),(1:Int),Builtin.Slice.slicePlaces ((sIx n 0 lo:Nat):Int) ((sIx n n hi:Nat):Int) 1)) _ _ s
  rw [places_gen]
  exact wpAny_pure h
theorem pick_gen (xs:Array Value) (i k:Nat):((List.range k).filterMap fun (m:Nat)=>xs[((i:Int)+(m:Int) * 1).toNat]?).toArray=((xs.toList.drop i).take k).toArray:=by
  have e:(fun (m:Nat)=>xs[((i:Int)+(m:Int) * 1).toNat]?)=fun m=>xs[i+m]?:=by
    funext m
    have:((i:Int)+(m:Int) * 1).toNat=i+m:=by omega
    rw [this]
  rw [e]
  have:=pick_run xs i k
  rw [List.filterMap_map] at this
  have e2:((fun x=>xs[x]?) ∘ fun x=>i+x)=fun m=>xs[i+m]?:=rfl
  rw [e2] at this
  rw [this]
theorem getItem_tuple_cut {t sl:Addr} {items:Array Value} {vl vu:Value} {lo hi:Option Int} {Q:Value→Shared→Prop} (ht:IsTup s.heap t items) (hs:s.heap.IsSliceOf sl vl vu .none) (pl:IsPart vl lo) (pu:IsPart vu hi)
    (hw:¬ (sIx items.size 0 lo=0∧sIx items.size items.size hi=items.size))
    (h:Q (.ref s.heap.objs.size) { s with heap:=s.heap.push { cls:=.type "tuple",data:=.seq ((items.toList.drop (sIx items.size 0 lo)).take (sIx items.size items.size hi - sIx items.size 0 lo)).toArray } })
    (hsz:items.size≤sizeLine):wpAny (model prog w) A (getItem (.ref t) (.ref sl)) Q E s:=by
  have htake:sizeOk (.seq ((items.toList.drop (sIx items.size 0 lo)).take (sIx items.size items.size hi - sIx items.size 0 lo)).toArray):=by
    show ((items.toList.drop (sIx items.size 0 lo)).take (sIx items.size items.size hi - sIx items.size 0 lo)).toArray.size≤sizeLine
    rw [List.size_toArray,List.length_take,List.length_drop,Array.length_toList]
    omega
  have hj:sIx items.size items.size hi≤items.size:=sIx_le _ _ (Nat.le_refl _) hi
  obtain ⟨os,hos,hcs,hds⟩:=id hs
  have hTs:s.TypeIs (.ref sl) "slice":=⟨os,hos,hcs⟩
  unfold getItem
  try with_reducible refine wpAny_holding ?_
  first | refine wpAny_bind (wpAny_pure ?_) | skip
  refine wpAny_bind (wpAny_sequenceKey ht.typeIs (by decide) ?_)
  refine wpAny_bind (wpAny_callSpecial?_slot (name:=Str.ofString "__getitem__") ht.typeIs PyProof.Rows.slot_tuple_getitem
    (wpAny_call_entry PyProof.Rows.slot_tuple_getitem ht.typeIs entry_tuple_getitem ?_ (args_tuple_getitem _ _)))
  show wpAny _ _ (Builtin.Tuple.tupleItemsOf (.ref t) >>= _) _ _ s
  refine wpAny_bind (tupleItemsOf_ ht ?_)
  refine wpAny_bind (wpAny_typeOf hTs ?_)
  rw [if_pos (by decide)]
  refine wpAny_bind (sliceApplied_gen hs pl pu ?_)
  have hno:¬ ((((sIx items.size 0 lo:Nat):Int) == 0&&(1:Int) == 1&&(sIx items.size items.size hi - sIx items.size 0 lo) == items.size)=true):=by
    intro q
    rw [Bool.and_eq_true,Bool.and_eq_true] at q
    have q1:((sIx items.size 0 lo:Nat):Int)=0:=eq_of_beq q.1.1
    have q2:sIx items.size items.size hi - sIx items.size 0 lo=items.size:=eq_of_beq q.2
    exact hw ⟨by omega,by omega⟩
  show wpAny _ _ (if (((sIx items.size 0 lo:Nat):Int) == 0&&(1:Int) == 1&&(sIx items.size items.size hi - sIx items.size 0 lo) == items.size)=true then _ else _) _ _ s
  rw [if_neg hno,pick_gen]
  first
    | exact wpAny_bind (m:=Builtin.Tuple.tupleExact _) (wpAny_newObj_type (wpAny_pure ⟨_,rfl,wpAny_pure h⟩) htake)
    | exact wpAny_bind (m:=Builtin.Tuple.tupleExact _) (wpAny_newObj_type (wpAny_bind (wpAny_pure (wpAny_pure ⟨_,rfl,wpAny_pure h⟩))) htake)
    | exact wpAny_bind (wpAny_bind (m:=Builtin.Tuple.tupleExact _) (wpAny_newObj_type (wpAny_pure (wpAny_pure ⟨_,rfl,wpAny_pure h⟩)) htake))
    | exact wpAny_bind (wpAny_bind (m:=Builtin.Tuple.tupleExact _) (wpAny_newObj_type (wpAny_pure ⟨_,rfl,wpAny_pure h⟩) htake))
end
end HT
namespace L2
open PySem PySem.Spec PyProof.Rows
abbrev TO:=St→Hp→(Option Int→Hp→Prop)→Prop
def PO (X:Cx) (e:Option Expr) (t:TO):Prop :=
  ∀ (pins:List (Addr × Obj)) (s:Shared) (σ:St) (H:Hp) (Q:Option Int→Hp→Prop),Inv X pins σ H s→t σ H Q →
    wpAny (model X.prog X.w) X.A (evalPart e X.env) (fun u s'=>∃ o H',Inv X pins σ H' s'∧IsPart u o∧Q o H') X.xe s
def tNoPart:TO:=fun _ H Q=>Q none H
def tPart (t:TE):TO:=fun σ H Q=>t σ H fun x H1=>∃ i,x=.int i∧Q (some i) H1
section
variable {X:Cx} {e:Expr} {te:TE} {lo hi:Option Expr} {tl th:TO} {pos p2:Pos}
theorem po_none:PO X none tNoPart:=by
  intro pins s σ H Q I h
  rw [evalPart_none]
  exact wpAny_pure ⟨none,H,I,.none,h⟩
theorem po_some (h:PE X e te):PO X (some e) (tPart te):=by
  intro pins s σ H Q I hw
  rw [evalPart_some]
  refine thn (h pins s σ H _ I hw) fun u s1 ⟨x,H1,I1,r1,q1⟩=>?_
  obtain ⟨i,rfl,q⟩:=q1
  obtain ⟨t,rfl⟩:=r1
  exact ⟨some i,H1,I1,.int i t,q⟩
def SlR (X:Cx) (r:V→Option Int→Option Int→Hp→VK→Prop):Prop :=
  ∀ (pins:List (Addr × Obj)) (s:Shared) (σ:St) (H:Hp) (x:V) (v vl vu:Value) (lo hi:Option Int) (sl:Addr) (Q:VK),Inv X pins σ H s→RelV x v→s.heap.IsSliceOf sl vl vu .none→IsPart vl lo→IsPart vu hi→r x lo hi H Q →
    ∃ T id,typeLookup (.type T) "__getitem__"=pure (some (.builtin id))∧s.TypeIs v T∧wpAny (model X.prog X.w) X.A (getItem v (.ref sl)) (EP X pins σ Q) X.xe s
theorem SlR.or {r r':V→Option Int→Option Int→Hp→VK→Prop} (h:SlR X r) (h':SlR X r'):SlR X (fun x lo hi H Q=>r x lo hi H Q∨r' x lo hi H Q):=by
  intro pins s σ H x v vl vu lo hi sl Q I rx hs pl pu q
  rcases q with q | q
  · exact h pins s σ H x v vl vu lo hi sl Q I rx hs pl pu q
  · exact h' pins s σ H x v vl vu lo hi sl Q I rx hs pl pu q
def tSl (r:V→Option Int→Option Int→Hp→VK→Prop) (te:TE) (tl th:TO):TE:=fun σ H Q=>te σ H fun x H1=>tl σ H1 fun l H2=>th σ H2 fun u H3=>r x l u H3 Q
theorem pZ_ {r:V→Option Int→Option Int→Hp→VK→Prop} (hr:SlR X r) (he:PE X e te) (hl:PO X lo tl) (hu:PO X hi th):PE X (.Subscript e (.Slice lo hi none p2) pos) (tSl r te tl th):=by
  intro pins s σ H Q I h
  refine Subscript_ (thn (he pins s σ H _ I h) fun v s1 ⟨x,H1,I1,r1,q1⟩=>?_)
  refine wpAny_Slice (thn (hl pins s1 σ H1 _ I1 q1) fun vl s2 ⟨l,H2,I2,pl,q2⟩=>thn (hu pins s2 σ H2 _ I2 q2) fun vu s3 ⟨u,H3,I3,pu,q3⟩=>?_)
  rw [evalPart_none]
  refine wpAny_pure ?_
  have I4:Inv X pins σ H3 { s3 with heap:=s3.heap.push { cls:=.type "slice",data:=.fields #[vl,vu,.none] } }:=I3.kept (t':=s3.toks) fun b ob q=>Heap.get?_push_of_some _ q
  obtain ⟨T,id,hT,ht,hg⟩:=hr pins { s3 with heap:=s3.heap.push { cls:=.type "slice",data:=.fields #[vl,vu,.none] } } σ H3 x v vl vu l u s3.heap.objs.size Q I4 r1 (Heap.IsSliceOf.new ..) pl pu q3
  show wpAny (model X.prog X.w) X.A (subscriptTail e (.Slice lo hi none p2) v (.ref s3.heap.objs.size)) (EP X pins σ Q) X.xe { s3 with heap:=s3.heap.push { cls:=.type "slice",data:=.fields #[vl,vu,.none] } }
  exact tail_any (ops:=[.ref s3.heap.objs.size,v]) ht hT hg (by with_unfolding_all rfl)
def cutV (xs:List V) (lo hi:Option Int):List V:=(xs.drop (HT.sIx xs.length 0 lo)).take (HT.sIx xs.length xs.length hi - HT.sIx xs.length 0 lo)
theorem cutV_length (xs:List V) (lo hi:Option Int):(cutV xs lo hi).length≤xs.length:=by
  unfold cutV
  rw [List.length_take,List.length_drop]
  omega
def rSlT (K:PySem.W.Frag):V→Option Int→Option Int→Hp→VK→Prop:=fun x lo hi H Q=>∃ a xs,x=.ref a∧SqT K H a xs ∧
  ¬ (HT.sIx xs.length 0 lo=0∧HT.sIx xs.length xs.length hi=xs.length)∧∀ p,H p=none→Q (.ref p) (upd H p (.tup (cutV xs lo hi)))
theorem sl_tup:SlR X (rSlT X.K):=by
  intro pins s σ H x v vl vu lo hi sl Q I rx hs pl pu h
  obtain ⟨a,xs,rfl,hx,hw,q⟩:=h
  cases rx
  obtain ⟨its,r,ht,hz⟩:=I.tuple hx
  have hlen:its.toArray.size=xs.length:=by rw [List.size_toArray];exact r.length.symm
  refine ⟨"tuple",_,PyProof.Rows.slot_tuple_getitem.lookup,ht.typeIs,?_⟩
  refine HT.getItem_tuple_cut ht hs pl pu (by rw [hlen];exact hw) ?_ (by rw [hlen];exact hz)
  rw [hlen]
  refine ⟨.ref s.heap.objs.size,_,I.laid (t':=s.toks) (o:=.tup (cutV xs lo hi)) (fun b ob q=>Heap.get?_push_of_some _ q) (Nat.le_refl _) ?_,rfl,q _ (I.hok.fresh (Nat.le_refl _))⟩
  exact ⟨Nat.le_trans (cutV_length xs lo hi) hz,_,(r.drop (HT.sIx xs.length 0 lo)).take (HT.sIx xs.length xs.length hi - HT.sIx xs.length 0 lo),IsTup.new _ _⟩
end
end L2
namespace L2
open PySem PySem.Spec PyProof.Rows
def ixN (n:Nat) (i:Int):Option Nat:=if 0≤i then (if i < n then some i.toNat else none) else if -(n:Int)≤i then some (i+n).toNat else none
def atI {α:Type} (xs:List α) (i:Int):Option α:=(ixN xs.length i).bind fun j=>xs[j]?
theorem ixN_seq {n:Nat} {i:Int} {j:Nat} (h:ixN n i=some j):seqIndex? i n=some j∧j < n∧-(n:Int)≤i∧i < n:=by
  unfold ixN at h
  by_cases h0:0≤i
  · rw [if_pos h0] at h
    by_cases h1:i < n
    · rw [if_pos h1] at h
      have e:i.toNat=j:=Option.some.inj h
      exact ⟨by rw [seqIndex_of h0 h1,e],by omega,by omega,h1⟩
    · rw [if_neg h1] at h;cases h
  · rw [if_neg h0] at h
    by_cases h1:-(n:Int)≤i
    · rw [if_pos h1] at h
      have e:(i+n).toNat=j:=Option.some.inj h
      exact ⟨by rw [seqIndex_neg (by omega) h1,e],by omega,h1,by omega⟩
    · rw [if_neg h1] at h;cases h
theorem atI_get {α:Type} {xs:List α} {i:Int} {v:α} (h:atI xs i=some v):∃ j,seqIndex? i xs.length=some j∧xs[j]?=some v∧j < xs.length∧-(xs.length:Int)≤i∧i < xs.length:=by
  unfold atI at h
  cases e:ixN xs.length i with
  | none=>rw [e] at h;cases h
  | some j =>
    rw [e] at h
    obtain ⟨h1,h2,h3,h4⟩:=ixN_seq e
    exact ⟨j,h1,h,h2,h3,h4⟩
theorem atI_nat {α:Type} {xs:List α} {j:Nat} {v:α} (h:xs[j]?=some v):atI xs (j:Int)=some v:=by
  have hj:j < xs.length:=(List.getElem?_eq_some_iff.mp h).1
  have e:ixN xs.length (j:Int)=some j:=by
    unfold ixN
    rw [if_pos (by omega),if_pos (by omega)];simp
  unfold atI;rw [e];exact h
def PlainIx (b:Expr):Prop:=∀ o i,subscripted b false o i=operate [o,i] (getItem o i)
def IxR (X:Cx) (r:R2):Prop :=
  ∀ (value slice:Expr) (pins:List (Addr × Obj)) (s:Shared) (σ:St) (H:Hp) (x y:V) (v u:Value) (Q:VK),Inv X pins σ H s→RelV x v→RelV y u→r x y H Q →
    subscripted slice false v u=operate [v,u] (getItem v u)→wpAny (model X.prog X.w) X.A (subscriptTail value slice v u) (EP X pins σ Q) X.xe s
def MtR (X:Cx) (id:String) (r:V→List V→Hp→VK→Prop):Prop :=
  ∀ (pins:List (Addr × Obj)) (s:Shared) (σ:St) (H:Hp) (x:V) (xs:List V) (v:Value) (us:List Value) (Q:VK),Inv X pins σ H s→RelV x v→Vals xs us→r x xs H Q →
    wpAny (model X.prog X.w) X.A (call (.builtin id) (v :: us)) (EP X pins σ Q) X.xe s
section
variable {X:Cx} {a b:Expr} {ta tb:TE} {pos:Pos}
theorem IxR.or {r r':R2} (h:IxR X r) (h':IxR X r'):IxR X (fun x y H Q=>r x y H Q∨r' x y H Q):=by
  intro value slice pins s σ H x y v u Q I rx ry q hs
  rcases q with q | q
  · exact h value slice pins s σ H x y v u Q I rx ry q hs
  · exact h' value slice pins s σ H x y v u Q I rx ry q hs
theorem pe_ix {r:R2} (hr:IxR X r) (ha:PE X a ta) (hb:PE X b tb) (hs:PlainIx b):PE X (.Subscript a b pos) (tOp r ta tb):=by
  intro pins s σ H Q I h
  exact Subscript_ (binT ha hb I h fun v u s2 x y H2 I2 rx ry q=>hr a b pins s2 σ H2 x y v u Q I2 rx ry q (hs _ _))
def rIxL (K:PySem.W.Frag):R2:=fun x y H Q=>∃ p xs i v,x=.ref p∧y=.int i∧SqL K H p xs∧atI xs i=some v∧Q v H
def rIxT (K:PySem.W.Frag):R2:=fun x y H Q=>∃ p xs i v,x=.ref p∧y=.int i∧SqT K H p xs∧atI xs i=some v∧Q v H
def rIxS:R2:=fun x y H Q=>∃ z i c,x=.str z∧y=.int i∧z.length≤sizeLine∧atI z.cps.toList i=some c∧Q (.str ⟨#[c]⟩) H
theorem ix_list:IxR X (rIxL X.K):=by
  intro value slice pins s σ H x y v u Q I rx ry h hs
  obtain ⟨p,xs,i,z,rfl,rfl,hq,he,q⟩:=h
  cases rx
  obtain ⟨t,rfl⟩:=ry
  obtain ⟨its,r,pl,hz⟩:=I.list hq
  obtain ⟨j,h1,h2,h3,h4,h5⟩:=atI_get he
  obtain ⟨w,ew,rw'⟩:=r.get h2
  have hl:=r.length
  have hn:=line63
  have fin:EP X pins σ Q w s:=⟨z,H,I,rw',q⟩
  by_cases h0:0≤i
  · have hj:i.toNat=j:=by
      rw [seqIndex_of h0 h5] at h1
      exact Option.some.inj h1
    exact item_listR pl.isList h0 (by omega) (by rw [hj];simpa using ew) fin hs
  · have hj:(i+(its.toArray.size:Int)).toNat=j:=by
      rw [seqIndex_neg (by omega) h4] at h1
      rw [List.size_toArray,← hl]
      exact Option.some.inj h1
    exact subscriptTail_builtinR (x:=w) pl.isList.typeIs slot_list_getitem.lookup
      (wpAny_getItem_list_neg (Q:=fun r s'=>r=w∧EP X pins σ Q r s') pl.isList (by omega) (by rw [List.size_toArray] <;> omega) (by omega) (by rw [hj];simpa using ew) ⟨rfl,fin⟩) hs
theorem ix_tup:IxR X (rIxT X.K):=by
  intro value slice pins s σ H x y v u Q I rx ry h hs
  obtain ⟨p,xs,i,z,rfl,rfl,hq,he,q⟩:=h
  cases rx
  obtain ⟨t,rfl⟩:=ry
  obtain ⟨its,r,pl,hz⟩:=I.tuple hq
  obtain ⟨j,h1,h2,h3,h4,h5⟩:=atI_get he
  obtain ⟨w,ew,rw'⟩:=r.get h2
  have hl:=r.length
  have hn:=line63
  have fin:EP X pins σ Q w s:=⟨z,H,I,rw',q⟩
  exact subscriptTail_builtinR (x:=w) pl.typeIs slot_tuple_getitem.lookup
    (getItem_tuple (j:=j) (Q:=fun r s'=>r=w∧EP X pins σ Q r s') pl (by omega) (by omega) (by rw [List.size_toArray,← hl];exact h1) (by simpa using ew) ⟨rfl,fin⟩) hs
theorem ix_str:IxR X rIxS:=by
  intro value slice pins s σ H x y v u Q I rx ry h hs
  obtain ⟨z,i,c,rfl,rfl,hz,he,q⟩:=h
  obtain ⟨t,rfl⟩:=rx
  obtain ⟨t',rfl⟩:=ry
  obtain ⟨j,h1,h2,h3,h4,h5⟩:=atI_get he
  have hl:z.cps.toList.length=z.length:=by simp [Str.length]
  rw [hl] at h1 h4 h5
  have hn:=line63
  exact tail_any (typeIs_str s z t) slot_str_getitem.lookup (getItem_str (c:=c) (by
    have e1:decide (i < -(2 ^ 63:Int))=false:=decide_eq_false (by omega)
    have e2:decide (i ≥ 2 ^ 63)=false:=decide_eq_false (by omega)
    rw [e1,e2,Bool.or_false]) (by rw [h1];simpa using h2) ⟨.str ⟨#[c]⟩,H,I.tok _,⟨_,rfl⟩,q⟩) hs
def rIx (K:PySem.W.Frag):R2:=fun x y H Q=>rIxL K x y H Q∨rIxT K x y H Q∨rIxS x y H Q
theorem ix_seq:IxR X (rIx X.K):=ix_list.or (ix_tup.or ix_str)
theorem mapSeq_set (its:List Value) (n j:Nat) (u:Value):Obj.mapSeq (·.setIfInBounds j u) { cls:=.type "list",data:=.seq its.toArray n }={ cls:=.type "list",data:=.seq (its.set j u).toArray n }:=by
  simp [Obj.mapSeq]
theorem Inv.lst {pins:List (Addr × Obj)} {σ:St} {H:Hp} {s:Shared} {p:Addr} {xs:List V} (I:Inv X pins σ H s) (h:H p=some (.lst xs)) :
    ∃ (its:List Value) (n:Nat),Vals xs its∧s.heap.get? p=some { cls:=.type "list",data:=.seq its.toArray n }∧xs.length≤sizeLine:=by
  obtain ⟨z,its,n,r,e⟩:=I.hok p _ h
  exact ⟨its,n,r,e,z⟩
theorem Inv.lstUpd {pins:List (Addr × Obj)} {σ:St} {H:Hp} {s:Shared} {p:Addr} {xs ys:List V} {its its':List Value} {n n':Nat} {f:Obj→Obj} (I:Inv X pins σ H s) (h:H p=some (.lst xs))
    (ho:s.heap.get? p=some { cls:=.type "list",data:=.seq its.toArray n }) (hf:f { cls:=.type "list",data:=.seq its.toArray n }={ cls:=.type "list",data:=.seq its'.toArray n' }) (r:Vals ys its') (hz:ys.length≤sizeLine) (t:Nat) :
    Inv X pins σ (upd H p (.lst ys)) { s with heap:=s.heap.update p f,toks:=t }:=by
  have e:(s.heap.update p f).get? p=some { cls:=.type "list",data:=.seq its'.toArray n' }:=by
    rw [Heap.get?_update_self f ho (by rw [hf] <;> rfl),hf]
  refine I.write (x:=p) (e:=p) (by rw [h];trivial) (.inl rfl) (fun b u hb q=>(Heap.get?_update_other _ _ (Ne.symm hb)).trans q) ⟨_,e⟩ ?_
  exact ⟨hz,its',n',r,e⟩
def rSetL:V→V→V→Hp→(Hp→Prop)→Prop:=fun o i v H Q=>∃ p xs k j,o=.ref p∧i=.int k∧H p=some (.lst xs)∧ixN xs.length k=some j∧Q (upd H p (.lst (xs.set j v)))
theorem set_list:PSet X rSetL:=by
  intro pins s σ H o i v ov iv u Q I ro ri rv h
  obtain ⟨p,xs,k,j,rfl,rfl,hp,hj,q⟩:=h
  cases ro
  obtain ⟨t,rfl⟩:=ri
  obtain ⟨its,n,r,ho,hz⟩:=I.lst hp
  obtain ⟨h1,h2,h3,h4⟩:=ixN_seq hj
  have hl:=r.length
  have hn:=line63
  have I':Inv X pins σ (upd H p (.lst (xs.set j v))) { s with heap:=s.heap.update p (Obj.mapSeq (·.setIfInBounds j u)) } :=
    I.lstUpd hp ho (mapSeq_set its n j u) (r.set rv j) (by rw [List.length_set];exact hz) s.toks
  by_cases h0:0≤k
  · have hk:k.toNat=j:=by
      rw [seqIndex_of h0 h4] at h1
      exact Option.some.inj h1
    exact PySem.W.ki_setAt ho h0 (by omega) (by rw [List.size_toArray,← hl];exact h4) (by rw [hk];exact ⟨_,I',q⟩)
  · have hk:(k+(its.toArray.size:Int)).toNat=j:=by
      rw [seqIndex_neg (by omega) h3] at h1
      rw [List.size_toArray,← hl]
      exact Option.some.inj h1
    exact PySem.W.ki_setBack ho (by omega) (by rw [List.size_toArray,← hl];exact h3) (by omega) (by rw [hk];exact ⟨_,I',q⟩)
theorem slice_bounds (lo hi:Option Int) (n:Nat):(sliceBounds lo hi none n).1=((HT.sIx n 0 lo:Nat):Int)∧(sliceBounds lo hi none n).2.1=((HT.sIx n n hi:Nat):Int)∧(sliceBounds lo hi none n).2.2=1:=by
  refine ⟨?_,?_,rfl⟩
  · cases lo with
    | none=>simp [sliceBounds,HT.sIx]
    | some i =>
      simp only [sliceBounds,HT.sIx,Option.getD_none,show (1:Int) > 0 by decide,if_true]
      by_cases h:i < 0
      · simp only [h,if_true] <;> omega
      · simp only [h,if_false] <;> omega
  · cases hi with
    | none=>simp [sliceBounds,HT.sIx]
    | some i =>
      simp only [sliceBounds,HT.sIx,Option.getD_none,show (1:Int) > 0 by decide,if_true]
      by_cases h:i < 0
      · simp only [h,if_true] <;> omega
      · simp only [h,if_false] <;> omega
theorem slicePick_cut (its:List Value) (lo hi:Option Int):slicePick its.toArray lo hi none=((its.drop (HT.sIx its.length 0 lo)).take (HT.sIx its.length its.length hi - HT.sIx its.length 0 lo)).toArray:=by
  obtain ⟨h1,h2,h3⟩:=slice_bounds lo hi its.toArray.size
  unfold slicePick
  rw [h1,h2,h3]
  simp only [sliceRange_one,pick_run,List.size_toArray] <;> rfl
def rSlL (K:PySem.W.Frag):V→Option Int→Option Int→Hp→VK→Prop:=fun x lo hi H Q=>∃ a xs,x=.ref a∧SqL K H a xs∧∀ p,H p=none→Q (.ref p) (upd H p (.lst (cutV xs lo hi)))
theorem sl_list:SlR X (rSlL X.K):=by
  intro pins s σ H x v vl vu lo hi sl Q I rx hs pl pu h
  obtain ⟨a,xs,rfl,hx,q⟩:=h
  cases rx
  obtain ⟨its,r,ht,hz⟩:=I.list hx
  have hlen:=r.length
  refine ⟨"list",_,slot_list_getitem.lookup,ht.isList.typeIs,?_⟩
  refine wpAny_getItem_list_slice ht.isList hs pl pu .none (by simp) ?_ (by rw [List.size_toArray] <;> omega)
  rw [slicePick_cut,← hlen]
  refine ⟨.ref s.heap.objs.size,_,I.laid (t':=s.toks) (o:=.lst (cutV xs lo hi)) (fun b ob q=>Heap.get?_push_of_some _ q) (Nat.le_refl _) ?_,rfl,q _ (I.hok.fresh (Nat.le_refl _))⟩
  exact ⟨Nat.le_trans (cutV_length xs lo hi) hz,_,0,(r.drop (HT.sIx xs.length 0 lo)).take (HT.sIx xs.length xs.length hi - HT.sIx xs.length 0 lo),Heap.get?_push_size _ rfl⟩
def flatV:V→Bool
  | .non=>true
  | .bl _=>true
  | .int _=>true
  | .str _=>true
  | _=>false
def eqV:V→V→Bool
  | .non,.non=>true
  | .bl a,.bl b=>a == b
  | .bl a,.int b=>(if a then 1 else 0) == b
  | .int a,.bl b=>a == (if b then 1 else 0)
  | .int a,.int b=>a == b
  | .str a,.str b=>a == b
  | _,_=>false
theorem eqAt_V {A:Around} {s:Shared} {y x:V} {u v:Value} (ry:RelV y u) (rx:RelV x v) (fy:flatV y=true) (fx:flatV x=true):SeqAt.EqAt A s u v (eqV y x):=by
  cases y with
  | non =>
    cases ry
    cases x with
    | non=>cases rx;exact SeqAt.EqAt.same _
    | bl b=>cases rx;exact SeqAt.EqAt.none_bool b
    | int b=>obtain ⟨t,rfl⟩:=rx;exact SeqAt.EqAt.none_int b t
    | str b=>obtain ⟨t,rfl⟩:=rx;exact SeqAt.EqAt.none_str b t
    | _=>exact absurd (show false=true from fx) Bool.false_ne_true
  | bl a =>
    cases ry
    cases x with
    | non=>cases rx;exact SeqAt.EqAt.bool_none a
    | bl b=>cases rx;exact SeqAt.EqAt.bool_bool a b
    | int b=>obtain ⟨t,rfl⟩:=rx;exact SeqAt.EqAt.bool_int a b t
    | str b=>obtain ⟨t,rfl⟩:=rx;exact SeqAt.EqAt.bool_str a b t
    | _=>exact absurd (show false=true from fx) Bool.false_ne_true
  | int a =>
    obtain ⟨t',rfl⟩:=ry
    cases x with
    | non=>cases rx;exact SeqAt.EqAt.int_none a t'
    | bl b=>cases rx;exact SeqAt.EqAt.int_bool a t' b
    | int b=>obtain ⟨t,rfl⟩:=rx;exact SeqAt.EqAt.int_int a t' b t
    | str b=>obtain ⟨t,rfl⟩:=rx;exact SeqAt.EqAt.int_str a t' b t
    | _=>exact absurd (show false=true from fx) Bool.false_ne_true
  | str a =>
    obtain ⟨t',rfl⟩:=ry
    cases x with
    | non=>cases rx;exact SeqAt.EqAt.str_none a t'
    | bl b=>cases rx;exact SeqAt.EqAt.str_bool a t' b
    | int b=>obtain ⟨t,rfl⟩:=rx;exact SeqAt.EqAt.str_int a t' b t
    | str b=>obtain ⟨t,rfl⟩:=rx;exact SeqAt.EqAt.str_str a t' b t
    | _=>exact absurd (show false=true from fx) Bool.false_ne_true
  | _=>exact absurd (show false=true from fy) Bool.false_ne_true
def eqU (x:V) (u:Value):Bool:=match u with
  | .none=>eqV .non x
  | .bool b=>eqV (.bl b) x
  | .int i _=>eqV (.int i) x
  | .str z _=>eqV (.str z) x
  | _=>false
theorem eqU_of {x y:V} {u:Value} (r:RelV y u) (f:flatV y=true):eqU x u=eqV y x:=by
  cases y with
  | non=>cases r;rfl
  | bl b=>cases r;rfl
  | int i=>obtain ⟨t,rfl⟩:=r;rfl
  | str z=>obtain ⟨t,rfl⟩:=r;rfl
  | _=>exact absurd (show false=true from f) Bool.false_ne_true
theorem any_eqU {x:V}:∀ {xs:List V} {us:List Value},Vals xs us→xs.all flatV=true→us.any (eqU x)=xs.any fun y=>eqV y x
  | _,_,.nil,_=>rfl
  | y :: xs,u :: us,.cons r t,f=>by
    rw [List.all_cons,Bool.and_eq_true] at f
    rw [List.any_cons,List.any_cons,eqU_of r f.1,any_eqU t f.2]
theorem mem_eqAt {A:Around} {s:Shared} {x:V} {v:Value} (rx:RelV x v) (fx:flatV x=true):∀ {xs:List V} {us:List Value},Vals xs us→xs.all flatV=true→∀ u ∈ us,SeqAt.EqAt A s u v (eqU x u)
  | _,_,.nil,_=>fun u hu=>by cases hu
  | y :: xs,u :: us,.cons r t,f=>fun u' hu=>by
    rw [List.all_cons,Bool.and_eq_true] at f
    rcases List.mem_cons.mp hu with rfl | hu
    · rw [eqU_of r f.1];exact eqAt_V r rx f.1 fx
    · exact mem_eqAt rx fx t f.2 u' hu
def inV (x:V) (xs:List V):Bool:=xs.any fun y=>eqV y x
def rIn (K:PySem.W.Frag) (neg:Bool):R2:=fun x y H Q=>∃ p xs,y=.ref p∧(SqL K H p xs∨SqT K H p xs)∧flatV x=true∧xs.all flatV=true∧Q (.bl (if neg then !inV x xs else inV x xs)) H
theorem op_in_seq:OpR X (compareOp .In) (rIn X.K false):=by
  intro pins s σ H x y v u Q I rx ry h
  obtain ⟨p,xs,rfl,hq,fx,fs,q⟩:=h
  cases ry
  rcases hq with hq | hq
  · obtain ⟨its,r,pl,hz⟩:=I.list hq
    refine SeqAt.in_listAt (eqU x) pl.isList (fun w hw=>mem_eqAt rx fx r fs w (by simpa using hw)) ⟨.bl _,H,I,rfl,?_⟩
    rw [show its.toArray.any (eqU x)=its.any (eqU x) by simp,any_eqU r fs]
    exact q
  · obtain ⟨its,r,pl,hz⟩:=I.tuple hq
    refine SeqAt.in_tupleAt (eqU x) pl (fun w hw=>mem_eqAt rx fx r fs w (by simpa using hw)) ⟨.bl _,H,I,rfl,?_⟩
    rw [show its.toArray.any (eqU x)=its.any (eqU x) by simp,any_eqU r fs]
    exact q
theorem op_notIn_seq:OpR X (compareOp .NotIn) (rIn X.K true):=by
  intro pins s σ H x y v u Q I rx ry h
  obtain ⟨p,xs,rfl,hq,fx,fs,q⟩:=h
  cases ry
  rcases hq with hq | hq
  · obtain ⟨its,r,pl,hz⟩:=I.list hq
    refine SeqAt.notIn_listAt (eqU x) pl.isList (fun w hw=>mem_eqAt rx fx r fs w (by simpa using hw)) ⟨.bl _,H,I,rfl,?_⟩
    rw [show its.toArray.any (eqU x)=its.any (eqU x) by simp,any_eqU r fs]
    exact q
  · obtain ⟨its,r,pl,hz⟩:=I.tuple hq
    refine SeqAt.notIn_tupleAt (eqU x) pl (fun w hw=>mem_eqAt rx fx r fs w (by simpa using hw)) ⟨.bl _,H,I,rfl,?_⟩
    rw [show its.toArray.any (eqU x)=its.any (eqU x) by simp,any_eqU r fs]
    exact q
theorem call_len_seq:CallR X (.builtin "len") (fun xs H Q=>∃ p ys,xs=[.ref p]∧(SqL X.K H p ys∨SqT X.K H p ys)∧Q (.int ys.length) H):=by
  intro pins s σ H xs us Q I r h
  obtain ⟨p,ys,rfl,hq,q⟩:=h
  obtain ⟨u,rfl,rx⟩:=vals1 r
  cases rx
  have hn:=line63
  rcases hq with hq | hq
  · obtain ⟨its,r',pl,hz⟩:=I.list hq
    have hlen:=r'.length
    exact Calls.call_len_list pl.isList (by simp only [List.size_toArray] <;> omega) ⟨.int ys.length,H,I.tok _,⟨s.toks+1,by rw [List.size_toArray,hlen]⟩,q⟩
  · obtain ⟨its,r',pl,hz⟩:=I.tuple hq
    have hlen:=r'.length
    exact len_tuple pl (by simp only [List.size_toArray] <;> omega) ⟨.int ys.length,H,I.tok _,⟨s.toks+1,by rw [List.size_toArray,hlen]⟩,q⟩
theorem call_len_str:CallR X (.builtin "len") (fun xs H Q=>∃ z,xs=[.str z]∧z.length≤sizeLine∧Q (.int z.length) H):=by
  intro pins s σ H xs us Q I r h
  obtain ⟨z,rfl,hz,q⟩:=h
  obtain ⟨u,rfl,t,rfl⟩:=vals1 r
  have hn:=line63
  exact len_str (by omega) ⟨.int z.length,H,I.tok _,⟨_,rfl⟩,q⟩
theorem call_list_of:CallR X (.type "list") (fun xs H Q=>∃ p ys,xs=[.ref p]∧(SqL X.K H p ys∨SqT X.K H p ys)∧∀ l,H l=none→Q (.ref l) (upd H l (.lst ys))):=by
  intro pins s σ H xs us Q I r h
  obtain ⟨p,ys,rfl,hq,q⟩:=h
  obtain ⟨u,rfl,rx⟩:=vals1 r
  cases rx
  have fin:∀ (its:List Value),Vals ys its→ys.length≤sizeLine→∀ (h':Heap) (c':Nat),(∀ b o',s.heap.get? b=some o'→h'.get? b=some o') →
      h'.get? s.heap.objs.size=some { cls:=.type "list",dict:=none,data:=.seq its.toArray c',slots:=#[] }→EP X pins σ Q (.ref s.heap.objs.size) { s with heap:=h' }:=fun its r' hz h' c' kp e =>
    ⟨.ref s.heap.objs.size,_,I.laid (t':=s.toks) kp (Nat.le_refl _) (show ObjOk X.prog X.w _ h' _ (.lst ys) from ⟨hz,its,c',r',e⟩),rfl,q _ (I.hok.fresh (Nat.le_refl _))⟩
  rcases hq with hq | hq
  · obtain ⟨its,r',pl,hz⟩:=I.list hq
    have hlen:=r'.length
    obtain ⟨o,ho,hc,n,hd⟩:=pl.isList
    exact call_list_seq p (.inl rfl) ho hc hd (fun h' c' kp e=>fin its r' hz h' c' kp e) (by simp only [List.size_toArray] <;> omega)
  · obtain ⟨its,r',pl,hz⟩:=I.tuple hq
    have hlen:=r'.length
    obtain ⟨o,ho,hc,n,hd⟩:=pl
    exact call_list_seq p (.inr rfl) ho hc hd (fun h' c' kp e=>fin its r' hz h' c' kp e) (by simp only [List.size_toArray] <;> omega)
theorem call_tuple_of:CallR X (.type "tuple") (fun xs H Q=>∃ p ys,xs=[.ref p]∧((SqL X.K H p ys∧∀ l,H l=none→Q (.ref l) (upd H l (.tup ys)))∨(SqT X.K H p ys∧Q (.ref p) H))):=by
  intro pins s σ H xs us Q I r h
  obtain ⟨p,ys,rfl,h⟩:=h
  obtain ⟨u,rfl,rx⟩:=vals1 r
  cases rx
  rcases h with ⟨hq,q⟩ | ⟨hq,q⟩
  · obtain ⟨its,r',pl,hz⟩:=I.list hq
    have hlen:=r'.length
    refine call_tuple_list pl.isList (fun h' kp=>?_) (by simp only [List.size_toArray] <;> omega)
    have I1:Inv X pins σ H { s with heap:=h' }:=I.kept (t':=s.toks) kp
    have I2:Inv X pins σ (upd H h'.objs.size (.tup ys)) { s with heap:=h'.push { cls:=.type "tuple",data:=.seq its.toArray } } :=
      I1.laid (t':=s.toks) (fun b o e=>Heap.get?_push_of_some _ e) (Nat.le_refl _) (show ObjOk X.prog X.w _ _ _ (.tup ys) from ⟨hz,its,r',IsTup.new _ _⟩)
    exact ⟨.ref h'.objs.size,_,I2,rfl,q _ (I1.hok.fresh (Nat.le_refl _))⟩
  · obtain ⟨its,r',pl,hz⟩:=I.tuple hq
    exact call_tuple_same pl ⟨.ref p,H,I,rfl,q⟩
def tyV (K:PySem.W.Frag) (T:String) (x:V) (H:Hp):Prop:=match x with
  | .str _=>T="str"
  | .int _=>T="int"
  | .ref p=>(T="list"∧∃ xs,SqL K H p xs)∨(T="tuple"∧∃ o,K.lookup p=some o∧o.cls=.type "tuple"∧o.dict=none) ∨
      (T="dict"∧((∃ kvs,H p=some (.dK kvs))∨∃ kvs,H p=some (.dT kvs)))∨(T="set"∧∃ S n,H p=some (.set S n))
  | _=>False
theorem tyV_is {pins:List (Addr × Obj)} {σ:St} {H:Hp} {s:Shared} {T:String} {x:V} {v:Value} (I:Inv X pins σ H s) (r:RelV x v) (ty:tyV X.K T x H) :
    s.TypeIs v T∧∀ a,v=.ref a→∃ ob,s.heap.get? a=some ob∧ob.dict=none:=by
  cases x with
  | str z =>
    obtain ⟨t,rfl⟩:=r
    cases (show T="str" from ty)
    exact ⟨typeIs_str s z t,fun _ e=>nomatch e⟩
  | int i =>
    obtain ⟨t,rfl⟩:=r
    cases (show T="int" from ty)
    exact ⟨typeIs_int s i t,fun _ e=>nomatch e⟩
  | ref p =>
    cases r
    rcases ty with ⟨rfl,xs,hq⟩ | ⟨rfl,o,hk,hc,hd⟩ | ⟨rfl,hk⟩ | ⟨rfl,S,n,hk⟩
    · obtain ⟨its,_,pl,_⟩:=I.list hq
      refine ⟨pl.isList.typeIs,fun a e=>?_⟩
      cases e
      obtain ⟨o,n,e,c,hd,_⟩:=pl
      exact ⟨o,e,hd⟩
    · refine ⟨⟨o,I.kIn p o hk,hc⟩,fun a e=>?_⟩
      cases e
      exact ⟨o,I.kIn _ o hk,hd⟩
    · have z:∃ o,s.heap.get? p=some o∧o.ExactDict:=by
        rcases hk with ⟨kvs,hk⟩ | ⟨kvs,hk⟩
        · obtain ⟨_,_,_,_,o,_,_,e,ex,_⟩:=I.hok p _ hk
          exact ⟨o,e,ex⟩
        · obtain ⟨_,_,_,_,o,_,_,e,ex,_⟩:=I.hok p _ hk
          exact ⟨o,e,ex⟩
      obtain ⟨o,e,ex⟩:=z
      refine ⟨⟨o,e,ex.1⟩,fun a e2=>?_⟩
      cases e2
      exact ⟨o,e,ex.2.1⟩
    · obtain ⟨o,_,_,_,e,ex,_⟩:=I.hok p _ hk
      refine ⟨⟨o,e,ex.1⟩,fun a e2=>?_⟩
      cases e2
      exact ⟨o,e,ex.2.1⟩
  | _=>exact False.elim ty
def tBM (K:PySem.W.Frag) (T:String) (r:V→List V→Hp→VK→Prop) (to:TE) (t:TA):TE:=fun σ H Q=>to σ H fun x H1=>tyV K T x H1∧t σ H1 fun xs H2=>r x xs H2 Q
variable {o e:Expr} {es:List Expr} {to:TE} {t:TA} {name:Str} {apos cpos:Pos} {T id:String} {r:V→List V→Hp→VK→Prop}
theorem pe_bm (pa:PlainAttrs T) (slot:Slot T name id) (hty:typeOf (.builtin id)=pure (.type "method_descriptor")) (hm:MtR X id r) (ho:PE X o to) (ha:PA X (e :: es) t)
    (hbase:attributeBase o name X.env (eval o X.env)=eval o X.env:=by rfl)
    (hfew:((backTo cpos (starEach (e :: es) X.env)).all (fun x=>!x.1)&&(backToKw cpos (keywordEach [] X.env)).all (fun x=>x.1.isSome)
      && decide ((e :: es).length+([]:List Keyword).length+(if ([]:List Keyword).isEmpty then 0 else 1) < 30))=true:=by rfl)
    (hline:(apos.endLine == cpos.line)=true:=by rfl) (hs:starEach (e :: es) X.env=(false,eval e X.env) :: starEach es X.env:=by rfl) (hplain:(backTo cpos (starEach es X.env)).any (·.1)=false:=by rfl) :
    PE X (.Call (.Attribute o name apos) (e :: es) [] cpos) (tBM X.K T r to t):=by
  intro pins s σ H Q I h
  refine wpAny_Call_method_late hbase hfew hline rfl (thn (ho pins s σ H _ I h) fun v s1 ⟨x,H1,I1,r1,ty,q1⟩=>?_)
  obtain ⟨h1,h2⟩:=tyV_is I1 r1 ty
  refine ⟨T,id,pa,slot,hty,h1,h2,?_⟩
  have hA:=ha cpos pins s1 σ H1 _ I1 q1
  rw [hs] at hA ⊢
  refine Calls.callWith_builtin (by show (false || (backTo cpos (starEach es X.env)).any (·.1))=false;rw [hplain] <;> rfl) (Calls.evalArgs_plain ?_)
  exact thn hA fun us s2 ⟨vs,H2,I2,r2,q2⟩=>hm pins s2 σ H2 x vs v us Q I2 r1 r2 q2
/- xs.append(e),list.index on a module's tuple .. are MtR facts of 06m -/
end
end L2
namespace L2
open PySem PySem.Spec PyProof.Rows
def MtM (X:Cx) (id:String) (r:V→List V→Hp→VK→Prop):Prop :=
  ∀ (pins:List (Addr × Obj)) (s:Shared) (σ:St) (H:Hp) (x:V) (xs:List V) (v:Value) (us:List Value) (Q:VK),Inv X pins σ H s→RelV x v→Vals xs us→r x xs H Q →
    wpAny (model X.prog X.w) X.A (call (.builtin id) (v :: us)) (EP X pins σ Q) X.xe s
theorem Vals.one:∀ {x:V} {us:List Value},Vals [x] us→∃ u,us=[u]∧RelV x u
  | _,_,.cons r .nil=>⟨_,rfl,r⟩
theorem Vals.rep {xs:List V} {us:List Value} (h:Vals xs us):∀ k:Nat,Vals (List.replicate k xs).flatten (List.replicate k us).flatten
  | 0=>.nil
  | k+1=>by
    rw [List.replicate_succ,List.replicate_succ,List.flatten_cons,List.flatten_cons]
    exact Vals.append h (Vals.rep h k)
theorem foldl_rep (its:List Value):∀ (k:Nat) (acc:List Value),
    List.foldl (fun x1 x2=>x1++x2) acc.toArray (List.replicate k its.toArray)=(acc++(List.replicate k its).flatten).toArray
  | 0,acc=>by simp
  | k + 1,acc=>by
    have e:acc.toArray++its.toArray=(acc++its).toArray:=by simp
    have e2:(acc++its)++(List.replicate k its).flatten=acc++(List.replicate (k+1) its).flatten:=by
      rw [List.replicate_succ,List.flatten_cons,List.append_assoc]
    rw [← e2,← foldl_rep its k (acc++its),← e,List.replicate_succ,List.foldl_cons]
section
variable {X:Cx} {pins:List (Addr × Obj)} {σ:St} {H:Hp} {s:Shared} {l b:Addr} {xs ys zs:List V}
theorem Inv.lset {its its':List Value} {n:Nat} {f:Array Value→Array Value} {t':Nat} (I:Inv X pins σ H s) (hH:H l=some (.lst xs))
    (e:s.heap.get? l=some { cls:=.type "list",data:=.seq its.toArray n }) (hf:f its.toArray=its'.toArray) (hv:Vals ys its') (hz:ys.length≤sizeLine) :
    Inv X pins σ (upd H l (.lst ys)) { s with heap:=s.heap.update l (Obj.mapSeq f),toks:=t' }:=by
  have q:=PySem.IsL.update e f
  rw [hf] at q
  refine I.write (x:=l) (e:=l) (by rw [hH];exact trivial) (.inl rfl) (fun b' u hb hu=>(Heap.get?_update_other s.heap (Obj.mapSeq f) (Ne.symm hb)).trans hu) ⟨_,q⟩ ?_
  exact ⟨hz,its',_,hv,q⟩
theorem Inv.lnew {its:List Value} {t':Nat} (I:Inv X pins σ H s) (hv:Vals ys its) (hz:ys.length≤sizeLine) :
    Inv X pins σ (upd H s.heap.objs.size (.lst ys)) { s with heap:=s.heap.push { cls:=.type "list",data:=.seq its.toArray },toks:=t' } :=
  I.laid (fun _ _ q=>Heap.get?_push_of_some _ q) (Nat.le_refl _) ⟨hz,its,0,hv,Heap.get?_push_size _ rfl⟩
theorem Inv.fresh (I:Inv X pins σ H s):H s.heap.objs.size=none:=I.hok.fresh (Nat.le_refl _)
theorem Inv.lstM (I:Inv X pins σ H s) (hH:H l=some (.lst xs)):xs.length≤sizeLine∧∃ (its:List Value) (n:Nat),Vals xs its∧xs.length=its.length∧s.heap.get? l=some { cls:=.type "list",data:=.seq its.toArray n }:=by
  obtain ⟨z,its,n,r,e⟩:=I.hok l _ hH
  exact ⟨z,its,n,r,r.length,e⟩
theorem notLongL {n:Nat} (h:n≤sizeLine):Builtin.List.listTooLong n=false:=by
  unfold Builtin.List.listTooLong
  exact decide_eq_false (by omega)
end
section
variable {X:Cx}
def rAppend:V→List V→Hp→VK→Prop:=fun x vs H Q=>∃ l xs y,x=.ref l∧vs=[y]∧H l=some (.lst xs)∧xs.length < sizeLine∧Q .non (upd H l (.lst (xs++[y])))
theorem mt_append:MtM X "list.append" rAppend:=by
  intro pins s σ H x vs v us Q I rx rv h
  obtain ⟨l,xs,y,rfl,rfl,hH,hz,q⟩:=h
  cases rx
  obtain ⟨u,rfl,ru⟩:=rv.one
  obtain ⟨z,its,n,r,hl,e⟩:=I.lstM hH
  refine call_meets F.slot_list_append ⟨_,e,rfl⟩ F.entry_list_append (F.args_list_append_2 _ _) (PySem.list_append l its.toArray n u (by rw [List.size_toArray];omega)) ⟨e,?_⟩
  refine ⟨.non,_,I.lset (its':=its++[u]) hH e (by simp) (r.append (.cons ru .nil)) ?_,rfl,q⟩
  rw [List.length_append,List.length_singleton]
  omega
def rCat:R2:=fun x y H Q=>∃ l b xs zs,x=.ref l∧y=.ref b∧H l=some (.lst xs)∧H b=some (.lst zs)∧xs.length+zs.length≤sizeLine∧∀ p,H p=none→Q (.ref p) (upd H p (.lst (xs++zs)))
theorem op_cat:OpR X (binaryOp .Add) rCat:=by
  intro pins s σ H x y v u Q I rx ry h
  obtain ⟨l,b,xs,zs,rfl,rfl,hH,hB,hz,q⟩:=h
  cases rx
  cases ry
  obtain ⟨z,its,n,r,hl,e⟩:=I.lstM hH
  obtain ⟨z2,its2,n2,r2,hl2,e2⟩:=I.lstM hB
  refine PySem.P.add_list e e2 ?_ (by rw [List.size_toArray,List.size_toArray];omega)
  have ea:its.toArray++its2.toArray=(its++its2).toArray:=by simp
  rw [ea]
  exact ⟨.ref _,_,I.lnew (t':=s.toks) (r.append r2) (by rw [List.length_append];omega),rfl,q _ I.fresh⟩
def rRep:R2:=fun x y H Q=>∃ l k xs,x=.ref l∧y=.int k∧H l=some (.lst xs)∧-(2 ^ 63)≤k∧k < 2 ^ 63∧xs.length * k.toNat≤sizeLine ∧
  ∀ p,H p=none→Q (.ref p) (upd H p (.lst (List.replicate k.toNat xs).flatten))
theorem len_rep {α:Type} (xs:List α) (k:Nat):(List.replicate k xs).flatten.length=k * xs.length:=by
  induction k with
  | zero=>simp
  | succ k ih=>rw [List.replicate_succ,List.flatten_cons,List.length_append,ih,Nat.succ_mul,Nat.add_comm]
theorem op_rep:OpR X (binaryOp .Mult) rRep:=by
  intro pins s σ H x y v u Q I rx ry h
  obtain ⟨l,k,xs,rfl,rfl,hH,h1,h2,hz,q⟩:=h
  cases rx
  obtain ⟨t,rfl⟩:=ry
  obtain ⟨z,its,n,r,hl,e⟩:=I.lstM hH
  have hlen:its.toArray.size * k.toNat≤sizeLine:=by rw [List.size_toArray,← hl];exact hz
  have hcap:¬ its.toArray.size * k.toNat > (2 ^ 63 - 1) / 8:=by
    have:(sizeLine:Nat)≤(2 ^ 63 - 1) / 8:=by decide
    omega
  have hfit:¬ (!Builtin.List.listFitsIndex k)=true:=by
    rw [fitsIndex_both h1 h2]
    exact Bool.false_ne_true
  have hlong:¬ Builtin.List.listTooLong (its.toArray.size * k.toNat)=true:=by
    rw [notLongL hlen]
    exact Bool.false_ne_true
  have hnew:List.foldl (fun x1 x2=>x1++x2) #[] (List.replicate (if its.toArray.isEmpty=true then 0 else k.toNat) its.toArray)=(List.replicate k.toNat its).flatten.toArray:=by
    have f0:∀ m:Nat,List.foldl (fun x1 x2=>x1++x2) #[] (List.replicate m its.toArray)=(List.replicate m its).flatten.toArray:=fun m=>by
      have:=foldl_rep its m []
      rw [List.nil_append] at this
      exact this
    rw [f0]
    cases its with
    | nil=>simp
    | cons a r'=>rw [if_neg (by simp)]
  refine wpAny_binaryOp_repeat_ref (T:="list") (U:="int") (by decide) ⟨_,e,rfl⟩ (fun s'=>typeIs_int s' k t) noFill_list_mul F.fills_int_mul F.slot_int_rmul repeat_list F.slot_int_index.lookup
    (call_meets F.slot_int_rmul (typeIs_int s k t) F.entry_int_rmul (F.args_int_rmul_2 _ _) (int___rmul___int_list k t l its.toArray n)
      ⟨e,rfl,⟨_,e,rfl⟩,call_meets F.slot_list_mul ⟨_,e,rfl⟩ F.entry_list_mul (F.args_list_mul_2 _ _) (AutoListH.list___mul___list_int_3 l its.toArray n k t hfit hcap hlong) ⟨e,?_⟩⟩)
  rw [hnew]
  exact ⟨.ref _,_,I.lnew (t':=s.toks) (r.rep k.toNat) (by rw [len_rep,Nat.mul_comm];exact hz),rfl,q _ I.fresh⟩
end
end L2
namespace Att
open PySem PySem.W PySem.Calls PyProof.Rows
theorem ints_of_wellAll {P:Params} {h:Heap}:∀ (ns:List Int) (vs:List Value),WellAll P h vs (ns.map WData.int)→IntsAre vs ns:=by
  intro ns
  induction ns with
  | nil =>
    intro vs w
    rw [List.map_nil] at w
    cases w
    exact .nil
  | cons n ns ih =>
    intro vs w
    rw [List.map_cons] at w
    cases w with
    | cons a b =>
      cases a
      exact .cons _ _ (ih _ b)
theorem script_of {l:OpenLaw} {n:Nat} (hn:l.most=some n) {P:Params} {h:Heap} {args:List WData} {vals:List Value}
    (hpre:l.row.toRowW.claim.pre args=true) (hwl:WellAll P h vals args) :
    ∃ a vs ns,vals=[Value.ref a]∧args=[WData.list (ns.map WData.int)]∧h.get? a=some { cls:=.type "list",data:=.seq vs.toArray }∧IntsAre vs ns∧ns.length≤n:=by
  have hsh:WShape.hasAll [] args [.list .int]=true:=(pre_splitW hpre).1
  have hc:l.pre.holds [] { args:=args }=true:=(pre_splitW hpre).2
  obtain ⟨d,r,rfl,h1,h2⟩:=hasAllW_cons hsh
  obtain rfl:=hasAllW_nil h2
  obtain ⟨xs,rfl,h3⟩:=hasW_list h1
  obtain ⟨ns,rfl⟩:=items_int h3
  have hlen:ns.length≤n:=by
    unfold OpenLaw.pre at hc
    have h4:(WTm.not (.lt (.lit (.int (n:Int))) (.len (.arg 0)))).holds [] { args:=[.list (ns.map .int)] }=true:=by
      have h4:=(holds_andW hc).1
      rw [hn] at h4
      exact h4
    have h5:=condW_of h4 (w_not (w_lt w_lit (w_len_list (w_arg rfl))))
    rw [List.length_map] at h5
    refine Nat.le_of_not_lt fun q=>?_
    have q':(n:Int) < ((ns.length:Nat):Int):=by omega
    first
      | (rw [decide_eq_true q'] at h5;exact absurd h5 (by decide))
      | (simp at h5;omega)
  cases hwl with
  | cons w1 w2 =>
    cases w2
    cases w1 with
    | list ho hall=>exact ⟨_,_,ns,rfl,rfl,ho,ints_of_wellAll ns _ hall,hlen⟩
theorem post_true (l:OpenLaw) (args:List WData):l.row.toRowW.claim.post args (.bool true) args=true :=
  postW_of (r:=l.row.toRowW) (X:=(true == true))
    (show WShape.has [] (.bool true) .bool=true by first | rfl | decide | simp [WShape.has,WShape.arms,WShape.armsAll])
    (show (WTm.eq .res (.lit (.bool true))).value [] { args:=args,res:=some (.bool true),after:=args }=some (.bool (true == true)) from w_eq_bool (w_res rfl) w_lit) rfl
theorem attach_call {l:OpenLaw} {n:Nat} {q:Program} {loose:List Str} {XP:(Str→Option Value)→Heap→Prop} {YP:World→Heap→Prop} {d:DefRec}
    (hn:l.most=some n) (hdf:d.params.defaults=[])
    (call:∀ (w:World) (s₀ s₁:Shared) (mg mb:Str→Option Value) (fa:Addr) (o:Obj) (pm cd doc:Value) (a:Addr) (vs:List Value) (ns:List Int),
      Ground q loose [] XP w s₀ mg mb s₁.heap→YP w s₁.heap →
      s₁.heap.get? fa=some o→o.data=.func (docDef d.name d.params d.body d.scope pm cd doc)→s₁.heap.CodeRec cd d.name→mg d.name=some (.ref fa) →
      s₁.heap.get? a=some { cls:=.type "list",data:=.seq vs.toArray }→IntsAre vs ns→ns.length≤n→s₁.gens=#[] →
      codeAny (model l.prog w) callerA (.call (.ref fa) ⟨[.ref a],[]⟩) (fun r s'=>r=.ok (.ret (.bool true))∧OldK s₁.heap s'.heap∧s'.os=s₁.os∧AllBare s'.gens) s₁) :
    WalkO q loose XP YP l.row.toRowW d [] (fun f vs=>PySem.call f vs):=by
  intro w s₀ s₁ mg mb G Y fa o pm cd doc dV kV ho hd hcd hD hmg hg args vals as hpre hlay hrd hwl hlo
  obtain rfl:dV=.none:=Dflts.none hD hdf
  obtain rfl:kV=.none:=Dflts.noKw hD
  obtain ⟨a,vs,ns,rfl,rfl,hobj,hints,hlen⟩:=script_of hn hpre hwl
  refine enter_call (codeAny_mono (call w s₀ s₁ mg mb fa o pm cd doc a vs ns G Y ho (fd_plain hd) hcd hmg hobj hints hlen hg) fun r s' hq=>?_)
  obtain ⟨rfl,h2,h3,h4⟩:=hq
  exact ⟨.inl ⟨.bool true,.bool true,[],rfl,fun _=>rfl,.bool true,post_true l _,fun _=>⟨List.Pairwise.nil,fun _ hm=>(nomatch hm)⟩⟩,h2,h3,h4⟩
end Att
namespace L2
open PySem PySem.Spec PyProof.Rows
theorem vals_ints:∀ {vs:List Value} {ns:List Int},IntsAre vs ns→Vals (ns.map V.int) vs
  | _,_,.nil=>.nil
  | _,_,.cons n t h=>.cons ⟨t,rfl⟩ (vals_ints h)
def Only (H:Hp):Prop:=∀ b,H b=none∨∃ o xs,H b=some (.frz o (.lst xs))
theorem law_call {P:Program} {w:World} {K:PySem.W.Frag} {mg mb:Str→Option Value} {CX:CXT} {k:Nat} {fa a:Addr} {fd:FuncData} {x:Str} {sp:Sp} {s₁:Shared} {vs:List Value} {ns:List Int}
    (KX:K.In s₁.heap) (hns:s₁.heap.Ns mainGlobals mg) (hb:s₁.heap.Ns builtinsNs mb) (hbb:∀ x:Str,x≠"__name__"→mb x=bootBuiltins x) (hlim:s₁.heap.NoLimit) (hg:s₁.gens=#[])
    (ha:s₁.heap.get? a=some { cls:=.type "list",data:=.seq vs.toArray }) (hi:IntsAre vs ns) (hl:ns.length≤sizeLine) (hr:Room k callerA)
    (F:∀ base:Heap,K.In base→base.Ns mainGlobals mg→FnOk P w K mg base CX k fa fd [x] sp) (hbind:∀ (s:Shared) (u:Value),BindsTo s fd ⟨[u],[]⟩ [(x,u)])
    (hsp:∀ H:Hp,Only H→SqL K H a (ns.map V.int)→sp [.ref a] H (fun v _=>v=.bl true) fun _ _ _=>False)
    (hCX:∀ H e s',CX [] H s₁ (fun _ _ _=>False) e s'→False) :
    codeAny (model P w) callerA (.call (.ref fa) ⟨[.ref a],[]⟩) (fun r s'=>r=.ok (.ret (.bool true))∧OldK s₁.heap s'.heap∧s'.os=s₁.os∧AllBare s'.gens) s₁:=by
  have rv:=vals_ints hi
  have lenV:=hi.length
  have core : ∀ H:Hp,Only H→SqL K H a (ns.map V.int)→HOk P w H s₁.heap→(∀ b,H b≠none→b=a)→(H a≠none→K.lookup a=none) →
      codeAny (model P w) callerA (.call (.ref fa) ⟨[.ref a],[]⟩) (fun r s'=>r=.ok (.ret (.bool true))∧OldK s₁.heap s'.heap∧s'.os=s₁.os∧AllBare s'.gens) s₁:=by
    intro H hO hS hok hA hK
    have base_of:∀ {b:Addr} {o:Obj},s₁.heap.get? b=some o→H b=none→(hidT s₁.heap H).get? b=some o:=fun e n=>hidT_get e n
    have noA:∀ {b:Addr} {o:Obj} {es:Array DictEntry} {ep:Nat},s₁.heap.get? b=some o→o.data=.dict es ep→H b=none:=fun {b o es ep} e d=>by
      cases q:H b with
      | none=>rfl
      | some u =>
        have e':b=a:=hA b (by rw [q];simp)
        subst e'
        rw [ha] at e;cases e
        have d':Data.seq vs.toArray _=Data.dict es ep:=d
        cases d'
    have nsK:∀ {b:Addr} {m:Str→Option Value},s₁.heap.Ns b m→(hidT s₁.heap H).Ns b m:=fun {b m} ⟨o,es,ep,e,d,r⟩=>⟨o,es,ep,base_of e (noA e d),d,r⟩
    have hKb:K.In (hidT s₁.heap H):=fun b o e=>base_of (KX b o e) (by
      cases q:H b with
      | none=>rfl
      | some u =>
        have e':b=a:=hA b (by rw [q];simp)
        subst e'
        rw [hK (by rw [q];simp)] at e;cases e)
    have hM:Mod K mg (hidT s₁.heap H):=⟨hKb,nsK hns,⟨mb,nsK hb,hbb⟩,let ⟨mc,h1,h2⟩:=hlim;⟨mc,nsK h1,h2⟩⟩
    have e0:Env0 P w K mg (hidT s₁.heap H) callerA [] s₁ H:=⟨rfl,hM,fun b o e=>of_hidT e,Nat.le_of_eq (hidT_size _ _),trivial,fun b hb=>absurd (show b ∈ ([]:List Addr) from hb) (by simp),hok,.of_eq hg⟩
    refine codeAny_mono ((F _ hKb (nsK hns)).run callerA [] s₁ H ⟨[.ref a],[]⟩ [.ref a] [.ref a] _ _ hr e0 (hbind s₁ (.ref a)) (.cons rfl .nil) (hsp H hO hS)) fun r s' h=>?_
    cases r with
    | error e=>exact (hCX H e s' h).elim
    | ok fl =>
      cases fl with
      | next=>exact False.elim h
      | brk=>exact False.elim h
      | cont=>exact False.elim h
      | ret u =>
        obtain ⟨v,H',os,bare,un,hok',r',q⟩:=h
        have q':v=.bl true:=q
        subst q'
        obtain rfl:u=Value.bool true:=r'
        refine ⟨rfl,OldK.of_keep fun b o e=>?_,os,bare⟩
        cases q:H b with
        | none=>exact un.keep b o e q (by intro z;exact absurd (show b ∈ ([]:List Addr) from z) (by simp)) (by simp)
        | some u =>
          rcases hO b with z | ⟨ob,xs,z⟩
          · rw [q] at z;cases z
          · have z2:=un.frzs b ob _ z
            obtain ⟨e1,_⟩:=hok b _ z
            obtain ⟨e2,_⟩:=hok' b _ z2
            rw [e] at e1;cases e1
            exact e2
  cases hk:K.lookup a with
  | some o =>
    have e:=KX a o hk
    rw [ha] at e
    cases e
    refine core (fun _=>none) (fun _=>.inl rfl) (.inr ⟨_,vs.toArray,_,hk,rfl,rfl,rfl,by rw [List.size_toArray,lenV];exact hl,by simpa using rv⟩) (fun b u z=>by have z':(none:Option HO)=some u:=z;cases z') (fun b z=>absurd rfl z) fun z=>absurd rfl z
  | none =>
    refine core (fun b=>if b=a then some (.frz { cls:=.type "list",data:=.seq vs.toArray } (.lst (ns.map V.int))) else none) (fun b=>?_) (.inl (.inr ⟨{ cls:=.type "list",data:=.seq vs.toArray },if_pos rfl⟩)) (fun b u z=>?_) (fun b z=>?_) fun _=>hk
    · by_cases hb:b=a
      · exact .inr ⟨_,_,if_pos hb⟩
      · exact .inl (if_neg hb)
    · by_cases hb:b=a
      · have z':=(if_pos hb).symm.trans z
        cases z'
        subst hb
        exact ⟨ha,by rw [List.length_map];exact hl,vs,_,rv,ha⟩
      · have z':=(if_neg hb).symm.trans z
        cases z'
    · by_cases hb:b=a
      · exact hb
      · exact absurd (if_neg hb) z
end L2
namespace L2
open PySem PySem.Spec PyProof.Rows
abbrev KOf {K:PySem.W.Frag} {h:Heap} (_:K.In h):PySem.W.Frag:=K
theorem walk_of {l:PySem.W.OpenLaw} {n k:Nat} {q:Program} {loose:List Str} {XP:(Str→Option Value)→Heap→Prop} {YP:World→Heap→Prop} {d:DefRec} {K:Params→PySem.W.Frag} {CX:World→CXT} {sp:World→Sp} {x:Str}
    (hn:l.most=some n) (hn2:n≤sizeLine) (hdf:d.params.defaults=[]) (hr:Room k callerA)
    (hY:∀ (w:World) (h:Heap),YP w h→(K w.params).In h)
    (F : ∀ (w:World) (mg:Str→Option Value) (fa:Addr) (h:Heap),(K w.params).In h→h.Ns mainGlobals mg→mg d.name=some (.ref fa) →
      ∃ fd:FuncData,(∀ (s:Shared) (u:Value),BindsTo s fd ⟨[u],[]⟩ [(x,u)]) ∧
        ∀ base:Heap,(K w.params).In base→base.Ns mainGlobals mg→FnOk l.prog w (K w.params) mg base (CX w) k fa fd [x] (sp w))
    (hsp:∀ (w:World) (H:Hp) (a:Addr) (ns:List Int),ns.length≤n→Only H→SqL (K w.params) H a (ns.map V.int)→sp w [.ref a] H (fun v _=>v=.bl true) fun _ _ _=>False)
    (hCX:∀ (w:World) (H:Hp) (s:Shared) (e:Value) (s':Shared),CX w [] H s (fun _ _ _=>False) e s'→False) :
    PySem.W.WalkO q loose XP YP l.row.toRowW d [] (fun f vs=>PySem.call f vs):=by
  refine Att.attach_call hn hdf fun w s₀ s₁ mg mb fa o pm cd doc a vs ns G Y ho hd hcd hmg hobj hints hlen hg=>?_
  have KX:=hY w _ Y
  obtain ⟨fd,hb,hF⟩:=F w mg fa _ KX G.T.g hmg
  exact law_call KX G.T.g G.T.b G.T.builtins G.T.nolimit hg hobj hints (Nat.le_trans hlen hn2) hr hF hb (fun H hO hS=>hsp w H a ns hlen hO hS) fun H e s'=>hCX w H s₁ e s'
end L2
/- THE LAST THEOREM (shape;LID,My.* are yours):
   My.Adr: a structure of the addresses that your layer names (classes,functions);My.Txt K t: a structure (Prop) of the equations over K;
   My.txt_mk:{K} {implicit addresses ..} (e1:nsIn K mainGlobals "law"=some (some (.ref f))) (e2:K.lookup f=some ⟨oc,od,.func (fnOf "law" "law" params body scope dV kV doc pm an cdv ct),sl⟩) (e3:codeIn K cdv "law"=true) ..:∃ t,My.Txt K t
set_option maxRecDepth 100000 in
set_option maxHeartbeats 0 in
theorem PySem.Challenge.cw_LID_holds : PySem.Challenge.rw_LID.Holds := by
  w_on;o_law;k_head;(case hw=>w_witness2)
  k_fill
  refine L2.walk_of (l:=PySem.Challenge.rw_LID) (n:=63) (k:=40) (x:="script") (CX:=fun w=>..) (sp:=fun _=>My.sp_law) rfl (by decide) rfl ⟨rfl,by decide,by decide⟩ (fun w h Y=>PySem.W.kIn_of Y) ?F ?S ?C
  case F =>
    intro w mg fa h KX G hmg
    have T:∃ t,My.Txt (L2.KOf KX) t:=by
      dsimp only [L2.KOf]                          -- K must stand as «<heap const> w.params» for k_is
      refine' My.txt_mk ?e1 ?e2 ?e3 ..
      (case e1=>PySem.W.k_is)                    -- in the order: a name -> its address -> its object -> its parts
      (case e2=>PySem.W.k_is)
      ..
    obtain ⟨t,T⟩:=T
    have e0:=hmg.symm.trans (PySem.W.mg_of KX G T.law)
    cases e0                                       -- fa is the law's own address
    exact ⟨_,fun s u=>.of_eq rfl,fun base kb nb=>My.law_fn T kb nb⟩     -- if «.of_eq rfl» comes too early: refine' ⟨_,?b,fun base kb nb=>My.law_fn T kb nb⟩;exact fun s u=>.of_eq rfl
  case S=>exact fun w H a ns hl hO hS=>..
  case C=>exact ..
(the tactic k_is has no namespace: write k_is) -/
namespace L2
open PySem PySem.Spec PyProof.Rows
def inClass (s:Stmt) (j:Nat):Stmt:=match s with
  | .ClassDef _ _ _ body _ _ _ _ _ _ _=>body.getD j (.Pass ⟨0,0,0,0⟩)
  | _=>.Pass ⟨0,0,0,0⟩
def defArgs (s:Stmt):Arguments:=match s with
  | .FunctionDef _ a _ _ _ _ _ _ _ _=>a
  | _=>{ posonlyargs:=[],args:=[],vararg:=none,kwonlyargs:=[],kw_defaults:=[],kwarg:=none,defaults:=[] }
def defBody (s:Stmt):List Stmt:=match s with
  | .FunctionDef _ _ b _ _ _ _ _ _ _=>b
  | _=>[]
def defScope (s:Stmt):Scope:=match s with
  | .FunctionDef _ _ _ _ _ _ sc _ _ _=>sc
  | _=>{ kind:=.function,names:=[],isGenerator:=false,isCoroutine:=false }
abbrev CX0:CXT:=fun _ _ _ _ _ _=>False
abbrev E0:XK:=fun _ _ _=>False
theorem pass0 {X:Cx}:Passes CX0 X E0:=fun _ _ _ _ _ _ _ h=>h.elim
structure Fun (K:PySem.W.Frag) (x qual:Str) (st:Stmt) (f:Addr) (fd:FuncData):Prop where
  ex:∃ (oc:Value) (od:Option Addr) (kV doc pm:Value) (an:Option Addr) (cdv ct:Value) (osl:Array (Option Value)),
    fd=PySem.W.fnOf x qual (defArgs st) (defBody st) (defScope st) .none kV doc pm an cdv ct∧K.lookup f=some ⟨oc,od,.func fd,osl⟩∧PySem.W.codeIn K cdv qual=true
  kp:PySem.W.keepIn K (.ref f)=true
section
variable {P:Program} {w:World} {K:PySem.W.Frag} {mg:Str→Option Value} {base:Heap}
theorem Fun.ok {x qual:Str} {st:Stmt} {f:Addr} {fd:FuncData} {N ps:List Str} {k:Nat} {sp:Sp} (F:Fun K x qual st f fd) (S:FnScope N ps (defScope st)) (len:∀ vs H Q E,sp vs H Q E→vs.length=ps.length)
    (hbody:∀ (cdv:Value) (A:Around) (outer:List Env) (s:Shared) (H:Hp) (vs:List V) (Q:VK) (E:XK),Room k (A.deeper (envOfC qual (defScope st) s.heap.objs.size f cdv))→sp vs H Q E →
      ∃ t,PSs (cxOf CX0 P w K mg base N qual (defScope st) f cdv A outer s H E).nox (defBody st) t∧t { nx:=fun _ H'=>Q .non H',rt:=Q } (start N vs) H):FnOk P w K mg base CX0 (k+1) f fd ps sp:=by
  obtain ⟨oc,od,kV,doc,pm,an,cdv,ct,osl,rfl,lk,hcd⟩:=F.ex
  refine fn_of lk hcd S len fun A outer s H vs Q E hr hsp=>?_
  obtain ⟨t,h,q⟩:=hbody cdv A outer s H vs Q E hr hsp
  exact ⟨t,h.nox,q⟩
theorem Fun.binds {x qual:Str} {st:Stmt} {f:Addr} {fd:FuncData} {ps:List Str} (F:Fun K x qual st f fd)
    (h:∀ (kV doc pm:Value) (an:Option Addr) (cdv ct:Value) (us:List Value),us.length=ps.length→bindArgs (PySem.W.fnOf x qual (defArgs st) (defBody st) (defScope st) .none kV doc pm an cdv ct) ⟨us,[]⟩=pure (ps.zip us)):Binds K fd ps []:=by
  obtain ⟨oc,od,kV,doc,pm,an,cdv,ct,osl,rfl,lk,hcd⟩:=F.ex
  exact .all (h kV doc pm an cdv ct)
theorem fun_mk {x qual:Str} {st:Stmt} {f:Addr} {oc:Value} {od an:Option Addr} {osl:Array (Option Value)} {kV doc pm cdv ct:Value} (l:K.lookup f=some ⟨oc,od,.func (PySem.W.fnOf x qual (defArgs st) (defBody st) (defScope st) .none kV doc pm an cdv ct),osl⟩)
    (c:PySem.W.codeIn K cdv qual=true) (k:PySem.W.keepIn K (.ref f)=true):Fun K x qual st f (PySem.W.fnOf x qual (defArgs st) (defBody st) (defScope st) .none kV doc pm an cdv ct):=⟨⟨oc,od,kV,doc,pm,an,cdv,ct,osl,rfl,l,c⟩,k⟩
end
theorem hu_of {A:Around} {k:Nat} (hr:Room k A):A.units+1 < cLine:=Nat.lt_of_le_of_lt (Nat.add_le_add_left (by decide:1≤64) _) hr.units
theorem small1000 {n:Nat} (h:n≤1000):n < sizeLine:=Nat.lt_of_le_of_lt h (by decide)
section
variable {X:Cx}
theorem pv (i:Nat) {x:Str} {pos:Pos} (hN:X.N[i]?=some x:=by rfl) (hv:Vis X.env.scope x:=by first | exact Or.inl rfl | exact Or.inr (Or.inl rfl) | exact Or.inr (Or.inr rfl)) (hd:(x == ("__debug__":Str))=false:=by decide)
    (hcd:(x == ("__classdict__":Str))=false:=by decide):PE X (.Name x pos) (tVar i):=pe_var hN hv hd hcd
end
theorem iteF {A B:Prop} (h:B):if false=true then A else B:=by
  rw [if_neg Bool.false_ne_true]
  exact h
theorem iteT {A B:Prop} (h:A):if true=true then A else B:=by
  rw [if_pos rfl]
  exact h
theorem ite2 {c A B:Prop} [Decidable c] (h1:c→A) (h2:¬ c→B):if c then A else B:=by
  by_cases h:c
  · rw [if_pos h]
    exact h1 h
  · rw [if_neg h]
    exact h2 h
def Same (H H':Hp):Prop:=∀ b o,H b=some o→H' b=some o
theorem Same.refl (H:Hp):Same H H:=fun _ _ h=>h
theorem Same.trans {H H1 H2:Hp} (a:Same H H1) (b:Same H1 H2):Same H H2:=fun c o h=>b c o (a c o h)
theorem Same.free {H H':Hp} (e:Same H H') {l:Addr} (h:H' l=Option.none):H l=Option.none:=by
  cases q:H l with
  | none=>rfl
  | some o =>
    rw [e l o q] at h
    cases h
end L2
set_option maxHeartbeats 4000000
namespace L2
open PySem PySem.Spec PyProof.Rows
theorem compLoop_go {prog:Program} {w:World} {A:Around} {R:Result→Shared→Prop} {s:Shared} {elt target iter:Expr} {ifs:List Expr} {scope:Scope} {pos:Pos} {it acc:Value} {env:Env} (I:Nat→Shared→Prop)
    (turn : ∀ n s,I n s→wpAny (model prog w) A (pyNext it) (fun r s1=>match r with
      | none=>R (.ok .next) s1
      | some v=>wpAny (model prog w) A (letOwnedTupleGo target it v) (fun _ s2=>wpAny (model prog w) A (assign target env v) (fun _ s3 =>
          wpAny (model prog w) A (forIn ifs true fun c r=>if r=true then do let ok ← isTrue c env (eval c env);pure (ForInStep.yield ok) else pure (ForInStep.yield r)) (fun ok s4 =>
            if ok=true then wpAny (model prog w) A (eval elt env) (fun x s5 =>
              wpAny (model prog w) A (call (.builtin "list.append") [acc,x]) (fun _ s6=>∃ m,m < n∧I m s6) (fun _ _=>False) s5) (fun _ _=>False) s4
            else ∃ m,m < n∧I m s4) (fun _ _=>False) s3) (fun _ _=>False) s2) (fun _ _=>False) s1) (fun _ _=>False) s)
    (n:Nat) (h:I n s):codeAny (model prog w) A (.compLoop (.ListComp elt [⟨target,iter,ifs,0⟩] scope pos) 0 it acc env) R s:=by
  refine codeAny_loop rfl I (fun n s hI=>?_) n h
  show wpAny _ A ((compTurn (.ListComp elt [⟨target,iter,ifs,0⟩] scope pos) 0 it acc env).onRaise (fun x=>do noteFrame x env;theTreesLotGoes x)) _ _ s
  refine wpAny_noted ?_
  rw [compTurn_list]
  refine wpAny_bind (wpAny_standAt (wpAny_bind (wpAny_mono (turn n s hI) (fun r s1 h1=>?_) fun _ _ z=>z.elim)))
  cases r with
  | none=>exact wpAny_pure h1
  | some v =>
    refine wpAny_bind (wpAny_mono h1 (fun _ s2 h2=>?_) fun _ _ z=>z.elim)
    refine wpAny_bind (wpAny_mono h2 (fun _ s3 h3=>wpAny_bind (wpAny_mono h3 (fun ok s4 h4=>?_) fun _ _ z=>z.elim)) fun _ _ z=>z.elim)
    cases ok with
    | false=>exact wpAny_pure ⟨rfl,h4⟩
    | true =>
      exact wpAny_bind (wpAny_bind (wpAny_mono h4 (fun x s5 h5=>wpAny_bind (wpAny_mono h5 (fun _ s6 h6=>wpAny_pure (wpAny_pure ⟨rfl,h6⟩)) fun _ _ z=>z.elim)) fun _ _ z=>z.elim))
def PTs (X:Cx) (ifs:List Expr) (t:TT):Prop :=
  ∀ (pins:List (Addr × Obj)) (s:Shared) (σ:St) (H:Hp) (Q:Bool→Hp→Prop),Inv X pins σ H s→t σ H Q →
    wpAny (model X.prog X.w) X.A (forIn ifs true fun c r=>if r=true then do let ok ← isTrue c X.env (eval c X.env);pure (ForInStep.yield ok) else pure (ForInStep.yield r)) (TP X pins σ Q) X.xe s
def tNoIf:TT:=fun _ H Q=>Q true H
theorem pts_nil {X:Cx}:PTs X [] tNoIf:=fun _ _ _ H _ I h=>wpAny_tests_nil ⟨H,I,h⟩
theorem cells_for (env:Env) (g:(Str × NameKind)→List (Str × Addr)→Sem (ForInStep (List (Str × Addr)))) (hg:∀ x cs,g x cs=if (x.2 == NameKind.free)=true then cellOf env x.1 >>= fun c=>pure (ForInStep.yield ((x.1,c) :: cs)) else pure (ForInStep.yield cs)) :
    ∀ (names:List (Str × NameKind)) (cs:List (Str × Addr)),(∀ y ∈ names,y.2=.free→∃ c,env.cells.lookup y.1=some c)→(∀ x c,cs.lookup x=some c→env.cells.lookup x=some c) →
    ∃ cl,forIn names cs g=pure cl∧(∀ x c,cl.lookup x=some c→env.cells.lookup x=some c)∧(∀ x,(x,NameKind.free) ∈ names∨(∃ c,cs.lookup x=some c)→∃ c,cl.lookup x=some c):=by
  intro names
  induction names with
  | nil =>
    intro cs _ hcs
    exact ⟨cs,rfl,hcs,fun x h=>h.elim (fun z=>nomatch z) id⟩
  | cons y r ih =>
    intro cs hfr hcs
    obtain ⟨n,k⟩:=y
    by_cases hk:k=.free
    · subst hk
      obtain ⟨c,hc⟩:=hfr (n,.free) List.mem_cons_self rfl
      obtain ⟨cl,e,h1,h2⟩:=ih ((n,c) :: cs) (fun z hz=>hfr z (List.mem_cons_of_mem _ hz)) (fun x c' hx=>by
        by_cases hxn:x=n
        · subst hxn;simp [List.lookup_cons] at hx;rw [hc,hx]
        · have:(x == n)=false:=by simpa using hxn
          simp [List.lookup_cons,this] at hx;exact hcs x c' hx)
      refine ⟨cl,?_,h1,fun x hx=>h2 x ?_⟩
      · rw [List.forIn_cons,hg]
        simp only [beq_self_eq_true,if_true]
        have ec:cellOf env n=pure c:=by unfold cellOf;rw [hc]
        rw [ec]
        simpa using e
      · rcases hx with hx | ⟨c',hx⟩
        · rcases List.mem_cons.mp hx with z | z
          · cases z;exact .inr ⟨c,by simp [List.lookup_cons]⟩
          · exact .inl z
        · refine .inr ?_
          by_cases hxn:x=n
          · subst hxn;exact ⟨c,by simp [List.lookup_cons]⟩
          · have:(x == n)=false:=by simpa using hxn
            exact ⟨c',by simpa [List.lookup_cons,this] using hx⟩
    · obtain ⟨cl,e,h1,h2⟩:=ih cs (fun z hz=>hfr z (List.mem_cons_of_mem _ hz)) hcs
      refine ⟨cl,?_,h1,fun x hx=>h2 x ?_⟩
      · rw [List.forIn_cons,hg]
        have:(k == NameKind.free)=false:=by simpa using hk
        simp only [this,Bool.false_eq_true,if_false]
        simpa using e
      · rcases hx with hx | hx
        · rcases List.mem_cons.mp hx with z | z
          · cases z;exact absurd rfl hk
          · exact .inl z
        · exact .inr hx
theorem closure_of {scope:Scope} {env:Env} (hfr:∀ y ∈ scope.names,y.2=.free→∃ c,env.cells.lookup y.1=some c) :
    ∃ cl,closureFor scope env=pure cl∧(∀ x c,cl.lookup x=some c→env.cells.lookup x=some c)∧∀ x,(x,NameKind.free) ∈ scope.names→∃ c,cl.lookup x=some c:=by
  obtain ⟨cl,e,h1,h2⟩:=cells_for env _ (fun x cs=>rfl) scope.names [] hfr (fun x c h=>by simp at h)
  refine ⟨cl,?_,h1,fun x hx=>h2 x (.inl hx)⟩
  unfold closureFor
  simp only [bind_pure]
  refine Eq.trans ?_ e
  congr 1
def Cx.comp (X:Cx) (N:List Str) (scope:Scope) (cl:List (Str × Addr)) (s:Shared) (H:Hp) (fp:List Addr) (C:Addr):Cx :=
  { X with N:=N,s₀:=s,H₀:=H,env:=compEnvC scope cl C X.env,outer:=X.stack,stack:=X.stack,ex:=fp,fn:=fun _=>false,pn:=[],xe:=fun _ _=>False }
def inner (im:List (Option Nat)) (σ:St):St:=im.map fun o=>match o with
  | none=>none
  | some i=>(σ[i]?).getD none
def CompAt (im:List (Option Nat)) (g:TG) (tc:TT) (te:TE) (σ:St) (Q:VK) (J:It) (H1:Hp):Prop:=∃ W:Nat→Nat→List V→Hp→Prop,(∃ m,W 0 m [] H1)∧∀ i m ys H,W i m ys H →
  ys.length≤sizeLine∧((J.stop i H∧∀ D,H D=none→Q (.ref D) (upd H D (.lst ys))) ∨
    (J.go i H∧∀ x H',J.yld i H x H'→g x (inner im σ) H' fun σ2 H2=>tc σ2 H2 fun b H3 =>
      if b=true then te σ2 H3 fun y H4=>∃ m',m' < m∧W (i+1) m' (ys++[y]) H4 else ∃ m',m' < m∧W (i+1) m' ys H3))
def tComp (im:List (Option Nat)) (wi:TI) (g:TG) (tc:TT) (te:TE):TE:=fun σ H Q=>wi σ H (CompAt im g tc te σ Q)
theorem lookup_relabel_free {env:Env}:∀ {names:List (Str × NameKind)} {x:Str},names.lookup x=some .free →
    (names.map fun (n,k)=>if (k == NameKind.free&&env.scope.kind == .function&&env.kindOf n == some .cell) then (n,NameKind.cell) else (n,k)).lookup x=some .cell ∨
    (names.map fun (n,k)=>if (k == NameKind.free&&env.scope.kind == .function&&env.kindOf n == some .cell) then (n,NameKind.cell) else (n,k)).lookup x=some .free
  | [],_,h=>by simp at h
  | (n,k) :: r,x,h=>by
    have ih:=@lookup_relabel_free env r x
    cases hx:x == n with
    | true =>
      simp only [List.lookup_cons,hx] at h
      cases h
      by_cases hc:(NameKind.free == NameKind.free&&env.scope.kind == .function&&env.kindOf n == some .cell)=true
      · left;rw [List.map_cons];simp only [if_pos hc,List.lookup_cons,hx]
      · right;rw [List.map_cons];simp only [if_neg hc,List.lookup_cons,hx]
    | false =>
      simp only [List.lookup_cons,hx] at h
      rw [List.map_cons]
      by_cases hc:(k == NameKind.free&&env.scope.kind == .function&&env.kindOf n == some .cell)=true
      · simp only [if_pos hc,List.lookup_cons,hx];exact ih h
      · simp only [if_neg hc,List.lookup_cons,hx];exact ih h
theorem relabel_inv {env:Env}:∀ {names:List (Str × NameKind)} {x:Str} {k:NameKind},
    (names.map fun (n,k)=>if (k == NameKind.free&&env.scope.kind == .function&&env.kindOf n == some .cell) then (n,NameKind.cell) else (n,k)).lookup x=some k→(k=.cell∨k=.free)→(∀ y ∈ names,y.2≠NameKind.cell)→(x,NameKind.free) ∈ names
  | [],_,_,h,_,_=>by simp at h
  | (n, k0) :: r,x,k,h,hk,hc=>by
    rw [List.map_cons] at h
    have ih:=@relabel_inv env r x k
    by_cases hcc:(k0 == NameKind.free&&env.scope.kind == .function&&env.kindOf n == some .cell)=true
    · simp only [if_pos hcc,List.lookup_cons] at h
      have hk0:k0=.free:=by simp at hcc;exact hcc.1.1
      cases hx:x == n with
      | true => have e:x=n:=by simpa using hx
                subst e;subst hk0;exact List.mem_cons_self
      | false=>simp only [hx] at h;exact List.mem_cons_of_mem _ (ih h hk fun y hy=>hc y (List.mem_cons_of_mem _ hy))
    · simp only [if_neg hcc,List.lookup_cons] at h
      cases hx:x == n with
      | true =>
        simp only [hx] at h
        cases h
        have e:x=n:=by simpa using hx
        subst e
        rcases hk with z | z
        · exact absurd z (hc (x,k0) List.mem_cons_self)
        · subst z;exact List.mem_cons_self
      | false=>simp only [hx] at h;exact List.mem_cons_of_mem _ (ih h hk fun y hy=>hc y (List.mem_cons_of_mem _ hy))
section
variable {X:Cx} {N:List Str} {scope:Scope} {cl:List (Str × Addr)} {fp:List Addr} {C:Addr}
theorem Cx.comp_ok {pins:List (Addr × Obj)} {σ:St} {H:Hp} {s:Shared} (I:Inv X pins σ H s) (hkind:scope.kind=.function) (hcell:∀ y ∈ scope.names,y.2≠.cell)
    (h1:∀ x c,cl.lookup x=some c→X.env.cells.lookup x=some c) (h2:∀ x,(x,NameKind.free) ∈ scope.names→∃ c,cl.lookup x=some c)
    (hf:∀ b ∈ fp,FpOk X pins H b) (hC:s.heap.objs.size≤C) (hfs:∀ b ∈ fp,b < C):(X.comp N scope cl s H fp C).Ok where
  mod:=I.ok.mod
  kind:=hkind
  glob:=I.ok.glob
  blt:=I.ok.blt
  above:=hC
  inj:=fun x y c a b=>I.ok.inj x y c (h1 x c a) (h1 y c b)
  has:=fun x hx=>by
    refine h2 x ?_
    rcases hx with hx | hx
    · exact relabel_inv hx (.inl rfl) hcell
    · exact relabel_inv hx (.inr rfl) hcell
  cab:=fun x c z=>nomatch z
  hd:=I.ok.hd
  frames:=I.ok.frames
  stk:=.inl rfl
  exf:=fun b hb=>⟨Nat.ne_of_lt (hfs b hb),fun x c e=>(hf b hb).2.2.2.2.1 x c (h1 x c e)⟩
  bs:=I.bs
  bsz:=Nat.le_trans I.ok.bsz (Nat.le_trans I.ok.above (Nat.le_of_lt I.lt))
  noex:=fun b o e hb=>by
    obtain ⟨_,_,_,z,_⟩:=hf b hb
    rcases z with z | z
    · exact I.ok.noex b o e z
    · exact absurd (Nat.lt_of_lt_of_le (Heap.lt_size (I.ok.bs b o e).1) z) (Nat.lt_irrefl _)
  exfs:=fun b hb hs=>by
    obtain ⟨_,z1,z2,_⟩:=hf b hb
    rcases List.mem_cons.mp (I.stkSub b hs) with z | z
    · exact z1 z
    · exact z2 z
  funs:=I.stack
  frf:=I.stkFree
theorem Inv.cellK {pins:List (Addr × Obj)} {σ:St} {H H0:Hp} {s s0:Shared} (I:Inv (X.comp N scope cl s0 H0 fp C) pins σ H s) {pins0:List (Addr × Obj)} {σ0:St} (I0:Inv X pins0 σ0 H0 s0)
    (h1:∀ x c,cl.lookup x=some c→X.env.cells.lookup x=some c) (hf:∀ b ∈ fp,FpOk X pins0 H0 b) {x:Str} {c:Addr} (hc:cl.lookup x=some c) {v:Option Value} (q:s0.heap.IsCell c v):s.heap.IsCell c v:=by
  obtain ⟨o,e,d⟩:=q
  have hx:=h1 x c hc
  have nf:c ∉ fp:=fun z=>(hf c z).2.2.2.2.1 x c hx rfl
  obtain ⟨sl,e'⟩:=I.base.any (show s0.heap.get? c=some o from e) (I0.freeC x c hx) nf
  exact ⟨_,e',d⟩
theorem Inv.reset {pins:List (Addr × Obj)} {σ:St} {H H0:Hp} {s s0:Shared} {im:List (Option Nat)} (I:Inv (X.comp N scope cl s0 H0 fp C) pins σ H s) {pins0:List (Addr × Obj)} {σ0:St} (I0:Inv X pins0 σ0 H0 s0)
    (h1:∀ x c,cl.lookup x=some c→X.env.cells.lookup x=some c) (h2:∀ x,(x,NameKind.free) ∈ scope.names→∃ c,cl.lookup x=some c) (hf:∀ b ∈ fp,FpOk X pins0 H0 b) (hl:N.length=im.length)
    (him:∀ (i:Nat) (x:Str) (j:Nat),N[i]?=some x→im[i]?=some (some j)→X.N[j]?=some x∧scope.names.lookup x=some .free∧(x,NameKind.free) ∈ scope.names∧(X.env.kindOf x=some .cell∨X.env.kindOf x=some .free)) :
    Inv (X.comp N scope cl s0 H0 fp C) pins (inner im σ0) H s:=by
  refine ⟨I.ok,I.os,I.bare,I.base,?_,I.cell,I.free,I.freeC,I.pin,I.hok,?_⟩
  · obtain ⟨m,hn,_⟩:=I.loc
    refine ⟨m,hn,fun i x v e1 e2 _=>?_⟩
    unfold inner at e2
    rw [List.getElem?_map] at e2
    cases q:im[i]? with
    | none=>rw [q] at e2;cases e2
    | some o =>
      rw [q] at e2
      cases o with
      | none=>cases e2
      | some j =>
        have e2':(σ0[j]?).getD none=some v:=by simpa using e2
        obtain ⟨a1,a2,a3,a4⟩:=him i x j e1 q
        have e3:σ0[j]?=some (some v):=by
          cases z:σ0[j]? with
          | none=>rw [z] at e2';cases e2'
          | some w=>rw [z] at e2';simp at e2';rw [e2']
        have vis:Vis X.env.scope x:=.inr a4
        obtain ⟨m0,hn0,hl0⟩:=I0.loc
        obtain ⟨u,ru,lk⟩:=hl0 j x v a1 e3 vis
        refine ⟨u,ru,?_⟩
        rcases lk with ⟨k,_⟩ | ⟨_,c,hc,q⟩
        · rcases a4 with a4 | a4 <;> (rw [a4] at k;cases k)
        · obtain ⟨c',hc'⟩:=h2 x a3
          have:c'=c:=by have:=h1 x c' hc';rw [hc] at this;exact (Option.some.inj this).symm
          subst this
          refine .inr ⟨lookup_relabel_free a2,c',hc',I.cellK I0 h1 hf hc' q⟩
  · show (im.map _).length=N.length
    rw [List.length_map,hl]
end
section
variable {X:Cx}
theorem comp_core {elt tg iter:Expr} {ifs:List Expr} {scope:Scope} {pos:Pos} {wi:TI} {g:TG} {tc:TT} {te:TE} (N:List Str) (im:List (Option Nat))
    (hi:PI X tg iter wi)
    (hg:∀ cl s H fp C,PG (X.comp N scope cl s H fp C) tg g)
    (ht:∀ cl s H fp C,PTs (X.comp N scope cl s H fp C) ifs tc)
    (he:∀ cl s H fp C,PE (X.comp N scope cl s H fp C) elt te)
    (hc:X.calm=true:=by rfl) (hkind:scope.kind=.function:=by rfl) (hcell:∀ y ∈ scope.names,y.2≠.cell:=by decide +kernel)
    (hnames:∀ y ∈ scope.names,y.2=.local→scope.names.lookup y.1=some .local:=by decide +kernel)
    (hfree:(scope.names.all fun y=>y.2 != .free || (X.env.kindOf y.1 == some .cell || X.env.kindOf y.1 == some .free))=true:=by rfl)
    (hl:N.length=im.length:=by rfl)
    (him:((N.zip im).all fun p=>match p.2 with
      | none=>true
      | some j=>X.N[j]? == some p.1&&scope.names.lookup p.1 == some .free)=true:=by rfl)
    (hs:∀ x,foldedSetIterable iter X.env x=pure x:=by intro _;rfl)
    {use:Option (Value→Sem Unit)} {QQ:Value→Shared→Prop} {pins:List (Addr × Obj)} {s:Shared} {σ:St} {H:Hp} {Q:VK} {pos2:Pos} (I:Inv X pins σ H s) (h:tComp im wi g tc te σ H Q)
    (fin:∀ (s4:Shared) (m:Str→Option Value) (C D:Addr) (H4:Hp),s4.heap.Ns C m→(∀ h',Heap.SameBut C s4.heap h'→Inv X pins σ H4 { s4 with heap:=h' })→H4 C=none→C≠X.env.locals→C ∉ X.fs→(∀ x c,X.env.cells.lookup x=some c→c≠C)→(∀ p ∈ X.pn++pins,C≠p.1)→X.s₀.heap.objs.size≤C→Q (.ref D) H4 →
      compPost (model X.prog X.w) X.A X.xe use QQ (.ref D) C (.ok .next) s4) :
    wpAny (model X.prog X.w) X.A (comprehension (.ListComp elt [⟨tg,iter,ifs,0⟩] scope pos) scope X.env pos2 (newList []) false (eval iter X.env) use) QQ X.xe s:=by
  have hfree':∀ y ∈ scope.names,y.2=.free→(X.env.kindOf y.1=some .cell∨X.env.kindOf y.1=some .free):=fun y hy hyf=>by
    have:=List.all_eq_true.mp hfree y hy
    simpa [hyf] using this
  obtain ⟨cl,hclos,h1,h2⟩:=closure_of (scope:=scope) (env:=X.env) fun y hy hyf=>I.ok.has y.1 (hfree' y hy hyf)
  have him' : ∀ (i:Nat) (x:Str) (j:Nat),N[i]?=some x→im[i]?=some (some j)→X.N[j]?=some x∧scope.names.lookup x=some .free∧(x,NameKind.free) ∈ scope.names∧(X.env.kindOf x=some .cell∨X.env.kindOf x=some .free):=fun i x j e1 e2=>by
    have hm:(x,some j) ∈ N.zip im:=by
      refine List.mem_iff_getElem?.mpr ⟨i,?_⟩
      rw [List.getElem?_zip_eq_some];exact ⟨e1,e2⟩
    have z:=List.all_eq_true.mp him _ hm
    simp at z
    have m : (x, NameKind.free) ∈ scope.names:=by
      have lk:=z.2
      clear z hm
      revert lk
      generalize scope.names=ns
      induction ns with
      | nil=>intro lk;simp at lk
      | cons y r ih =>
        intro lk
        obtain ⟨n,k⟩:=y
        cases hx:x == n with
        | true => simp only [List.lookup_cons,hx] at lk;cases lk;have e:x=n:=by simpa using hx
                  subst e;exact List.mem_cons_self
        | false=>simp only [List.lookup_cons,hx] at lk;exact List.mem_cons_of_mem _ (ih lk)
    exact ⟨z.1,z.2,m,hfree' _ m rfl⟩
  refine wpAny_comprehension_free (use:=use) rfl hs hclos hkind hnames (thn (hi pins s σ H _ I h) fun v s1 hh1=>thn hh1 fun itv s2 hh2=>?_)
  obtain ⟨it,fp,tn,J,H2,e,I2,T,st2,f2,W,⟨m0,w0⟩,turn⟩:=hh2
  subst e
  refine wpAny_newObj_type (wpAny_newFunctionEnv hcell (by intro y hy;simp at hy) (fun h₁ hns₁ hsb₁=>?_) hkind)
  dsimp only at hns₁ hsb₁ ⊢
  have hD:s2.heap.objs.size=s2.heap.objs.size:=rfl
  generalize hP:s2.heap.push { cls:=.type "list",dict:=none,data:=.seq ([]:List Value).toArray }=P2 at hns₁ hsb₁ ⊢
  have hCs:P2.objs.size=s2.heap.objs.size+1:=by rw [← hP,Heap.size_push]
  generalize hC:P2.objs.size=C at hns₁ hsb₁ ⊢
  have hC':C=s2.heap.objs.size+1:=by rw [← hC,hCs]
  generalize hDD:s2.heap.objs.size=D at hC' ⊢
  have hCle:s2.heap.objs.size≤C:=by rw [hDD,hC'];exact Nat.le_succ _
  have hDC:D≠C:=by rw [hC'];exact Nat.ne_of_lt (Nat.lt_succ_self _)
  have old:∀ b o,s2.heap.get? b=some o→h₁.get? b=some o:=fun b o e =>
    hsb₁.extBut b o (Nat.ne_of_lt (Nat.lt_of_lt_of_le (Heap.lt_size e) hCle)) (Heap.get?_push_of_some _ (hP ▸ Heap.get?_push_of_some _ e))
  have hacc:h₁.get? D=some { cls:=.type "list",data:=.seq ([]:List Value).toArray 0 }:=by
    refine hsb₁.extBut _ _ hDC (Heap.get?_push_of_some _ ?_)
    rw [← hP,← hDD]
    exact Heap.get?_push_size _ rfl
  have fpl:∀ b ∈ fp,b < s2.heap.objs.size:=fun b hb=>by obtain ⟨o,e,_⟩:=T.obj _ _ st2 b hb;exact Heap.lt_size e
  have fpC:∀ b ∈ fp,b < C:=fun b hb=>Nat.lt_of_lt_of_le (fpl b hb) hCle
  have fpD:∀ b ∈ fp,b≠D:=fun b hb=>by have:=fpl b hb;rw [hDD] at this;exact Nat.ne_of_lt this
  have Yok:(X.comp N scope cl s2 H2 fp C).Ok:=Cx.comp_ok I2 hkind hcell h1 h2 f2 hCle fpC
  have IY0:Inv (X.comp N scope cl s2 H2 fp C) [] (inner im σ) H2 { s2 with heap:=h₁,toks:=s2.toks+([]:List (Str × Value)).length }:=by
    have I3:Inv (X.comp N scope cl s2 H2 fp C) [] (N.map fun _=>none) H2 { s2 with heap:=h₁,toks:=s2.toks+([]:List (Str × Value)).length }:=by
      refine ⟨Yok,rfl,I2.bare,Un.kept old,⟨_,hns₁,fun i x v e1 e2 _=>?_⟩,fun x c e=>?_,?_,fun x c e=>I2.freeC x c (h1 x c e),(fun p hp=>nomatch hp),I2.hok.kept old,by rw [List.length_map];rfl⟩
      · rw [List.getElem?_map] at e2
        cases q:N[i]? with
        | none=>rw [q] at e2;cases e2
        | some o=>rw [q] at e2;cases e2
      · obtain ⟨v,o,q,d⟩:=I2.cell x c (h1 x c e)
        exact ⟨v,o,old _ _ q,d⟩
      · show H2 C=none
        exact I2.hok.fresh hCle
    exact I3.reset I2 h1 h2 f2 hl him'
  have fpok:∀ {H3:Hp} {pp:List (Addr × Obj)},(∀ b ∈ fp,H3 b=none)→(∀ p ∈ pp,p.1=D)→∀ b ∈ fp,FpOk (X.comp N scope cl s2 H2 fp C) pp H3 b:=fun {H3 pp} hn hp b hb =>
    ⟨hn b hb,Nat.ne_of_lt (fpC b hb),fun z=>Yok.exfs b hb z,.inl hb,fun x c e=>(f2 b hb).2.2.2.2.1 x c (h1 x c e),fun p hpp=>by
      rcases List.mem_append.mp hpp with z | z
      · exact nomatch z
      · rw [hp p z];exact Ne.symm (fpD b hb)⟩
  have hH2D:H2 D=none:=I2.hok.fresh (by rw [hDD];exact Nat.le_refl _)
  have loop : ∀ s3:Shared,s3={ s2 with heap:=h₁,toks:=s2.toks+([]:List (Str × Value)).length } →
      codeAny (model X.prog X.w) X.A (.compLoop (.ListComp elt [⟨tg,iter,ifs,0⟩] scope pos) 0 (.ref it) (.ref D) (compEnvC scope cl C X.env))
        (compPost (model X.prog X.w) X.A X.xe use QQ (.ref D) C) s3:=by
    rintro s3 rfl
    refine compLoop_go (fun k s'=>∃ i ys its n σ' H',Inv (X.comp N scope cl s2 H2 fp C) [] σ' H' s'∧tn i s'.heap∧(∀ b ∈ fp,H' b=none)∧H' D=none∧s'.heap.get? D=some { cls:=.type "list",data:=.seq its n }∧Vals ys its.toList∧W i k ys H') ?_ m0
      ⟨0,[],_,0,_,H2,IY0,T.keep _ _ _ st2 (fun b hb o e=>old b o e),fun b hb=>(f2 b hb).1,hH2D,hacc,.nil,w0⟩
    rintro k s' ⟨i,ys,its,n,σ',H3,I3,st3,fr3,hD3,e3,v3,w3⟩
    have I3':=I3.reset I2 h1 h2 f2 hl him'
    obtain ⟨hsz,alt⟩:=turn i k ys H3 w3
    have hDs:s2.heap.objs.size≤D:=by rw [hDD];exact Nat.le_refl _
    have hDfs:D ∉ (X.comp N scope cl s2 H2 fp C).fs:=fun z=>by
      obtain ⟨_,o,ho,_⟩:=Yok.funs.mem z
      exact absurd (Nat.lt_of_lt_of_le (Heap.lt_size ho) hDs) (Nat.lt_irrefl _)
    have hDc:∀ x c,cl.lookup x=some c→c≠D:=fun x c e z=>by
      obtain ⟨v,q⟩:=I2.cell x c (h1 x c e)
      exact absurd (Nat.lt_of_lt_of_le q.lt (by rw [z];exact hDs)) (Nat.lt_irrefl _)
    have I3p:Inv (X.comp N scope cl s2 H2 fp C) [(D,{ cls:=.type "list",data:=.seq its n })] (inner im σ) H3 s':=I3'.pins_of fun p hp=>by
      have:p=(D,{ cls:=.type "list",data:=.seq its n }):=by simpa using hp
      subst this
      exact ⟨e3,hD3,hDC,hDfs,fun v z=>by cases z⟩
    have onlyD:∀ p ∈ [((D,{ cls:=.type "list",data:=.seq its n }):Addr × Obj)],p.1=D:=fun p hp=>by
      have:p=(D,{ cls:=.type "list",data:=.seq its n }):=by simpa using hp
      rw [this]
    rcases alt with ⟨stop,q⟩ | ⟨go,step⟩
    · refine thn (T.done (X.comp N scope cl s2 H2 fp C) rfl rfl rfl hc i _ s' _ H3 _ I3p (fpok fr3 onlyD) st3 stop) fun r s4 hh4=>?_
      obtain ⟨hr,I4⟩:=hh4
      subst hr
      have e4:s4.heap.get? D=some { cls:=.type "list",data:=.seq its n }:=(I4.pin (D,_) (List.mem_append_right _ (by simp))).1
      obtain ⟨m,hn,_⟩:=I4.loc
      have KK:∀ h',Heap.SameBut C s4.heap h'→Inv X pins σ (upd H3 D (.lst ys)) { s4 with heap:=h' }:=fun h' hs'=>by
        have keep':∀ b o,b≠C→s4.heap.get? b=some o→h'.get? b=some o:=fun b o hb e=>hs'.extBut b o hb e
        have nC:∀ b o,s2.heap.get? b=some o→b≠C:=fun b o e=>Nat.ne_of_lt (Nat.lt_of_lt_of_le (Heap.lt_size e) hCle)
        have nD:∀ b o,s2.heap.get? b=some o→b≠D:=fun b o e=>Nat.ne_of_lt (Nat.lt_of_lt_of_le (Heap.lt_size e) hDs)
        have u4:=I4.base
        have un:Un (frs X.stack) fp H2 (upd H3 D (.lst ys)) s2.heap h':=by
          refine ⟨fun b o e nn hb hx=>keep' b o (nC b o e) (u4.keep b o e nn hb hx),fun b o e nn hb hx=>?_,fun b o e nn hx=>?_,fun b o e hx=>?_,fun b xs e=>?_,fun b o xs e=>?_,fun b ps e=>?_⟩
          · obtain ⟨sl,z⟩:=u4.slot b o e nn hb hx
            exact ⟨sl,keep' b _ (nC b o e) z⟩
          · rw [upd_ne (nD b o e)];exact u4.free b o e nn hx
          · obtain ⟨o',z⟩:=u4.there b o e hx
            exact ⟨o',keep' b _ (nC b o e) z⟩
          · rw [upd_ne (ne_of_none (u4.tups b xs e) hD3)];exact u4.tups b xs e
          · rw [upd_ne (ne_of_none (u4.frzs b o xs e) hD3)];exact u4.frzs b o xs e
          · obtain ⟨more,z⟩:=u4.tbls b ps e
            exact ⟨more,by rw [upd_ne (ne_of_none z hD3)];exact z⟩
        have hH3C:H3 C=none:=I4.free
        have hok:HOk X.prog X.w (upd H3 D (.lst ys)) h':=fun b o e=>by
          by_cases hb:b=D
          · subst hb
            rw [uS_] at e
            cases e
            refine ⟨hsz,its.toList,n,v3,?_⟩
            have z:=keep' _ _ hDC e4
            simpa using z
          · rw [upd_ne hb] at e
            refine (I4.hok b o e).stay (fun c v hcc z=>keep' c v ?_ z) (fun c z=>by rw [upd_ne (ne_of_none z hD3)];exact z) fun c xs z=>by rw [upd_ne (ne_of_none z hD3)];exact z
            rintro rfl
            rcases hcc with z | z
            · rw [← z] at e;rw [hH3C] at e;cases e
            · rw [hH3C] at z;cases z
        refine I2.call' (s':={ s4 with heap:=h' }) I4.os un hok I4.bare (fun b hb=>?_)
        obtain ⟨_,g1,_,g2,g3,g4⟩:=f2 b hb
        exact ⟨g2,g1,g3,g4⟩
      have hH3C:H3 C=none:=I4.free
      refine fin s4 m C D _ hn KK ?_ ?_ ?_ ?_ ?_ ?_ (q D hD3)
      · rw [upd_ne (Ne.symm hDC)];exact hH3C
      · exact Ne.symm (Nat.ne_of_lt (Nat.lt_of_lt_of_le I2.lt hCle))
      · exact I2.nofs hCle
      · intro x c e z
        obtain ⟨v,qq⟩:=I2.cell x c e
        exact absurd (Nat.lt_of_lt_of_le qq.lt (by rw [z];exact hCle)) (Nat.lt_irrefl _)
      · intro p hp z
        have:=(I2.pin p hp).1
        exact absurd (Nat.lt_of_lt_of_le (Heap.lt_size this) (by rw [← z];exact hCle)) (Nat.lt_irrefl _)
      · exact Nat.le_trans I2.sz hCle
    · refine thn (T.item (X.comp N scope cl s2 H2 fp C) rfl rfl rfl hc i _ s' _ H3 _ I3p (fpok fr3 onlyD) st3 go) fun r s4 hh4=>?_
      obtain ⟨u,hr,hh4⟩:=hh4
      subst hr
      refine thn hh4 fun _ s5 ⟨x,H5,I5,r5,y5,st5,fr5⟩=>?_
      have I5':=I5.pinned (fpok fr5 onlyD) (T.obj _ _ st5)
      refine thn (hg cl s2 H2 fp C _ s5 _ H5 x u _ I5' r5 (step x H5 y5)) fun _ s6 ⟨σ6,H6,I6,q6⟩=>?_
      refine thn (ht cl s2 H2 fp C _ s6 σ6 H6 _ I6 q6) fun b s7 ⟨H7,I7,q7⟩=>?_
      have after:∀ {s8:Shared} {σ8:St} {H8:Hp},Inv (X.comp N scope cl s2 H2 fp C) ([(D,{ cls:=.type "list",data:=.seq its n })]++pinsAt fp s5.heap) σ8 H8 s8→tn (i+1) s8.heap∧(∀ b ∈ fp,H8 b=none)∧H8 D=none∧s8.heap.get? D=some { cls:=.type "list",data:=.seq its n }:=fun {s8 σ8 H8} I8=>by
        refine ⟨T.keep _ _ _ st5 fun b hb o e=>(I8.pin (b,o) (List.mem_append_right _ (List.mem_append_right _ (mem_pinsAt hb e)))).1,fun b hb=>?_,?_⟩
        · obtain ⟨o,e,d⟩:=T.obj _ _ st5 b hb
          exact (I8.pin (b,o) (List.mem_append_right _ (List.mem_append_right _ (mem_pinsAt hb e)))).2.1
        · have z:=I8.pin (D,{ cls:=.type "list",data:=.seq its n }) (List.mem_append_right _ (List.mem_append_left _ (by simp)))
          exact ⟨z.2.1,z.1⟩
      cases b with
      | false =>
        rw [if_neg Bool.false_ne_true] at q7 ⊢
        obtain ⟨m',hm,w7⟩:=q7
        obtain ⟨a1,a2,a3,a4⟩:=after I7
        exact ⟨m',hm,i+1,ys,its,n,σ6,H7,I7.pins_of (fun p hp=>nomatch hp),a1,a2,a3,a4,v3,w7⟩
      | true =>
        rw [if_pos rfl] at q7 ⊢
        refine thn (he cl s2 H2 fp C _ s7 σ6 H7 _ I7 q7) fun u8 s8 ⟨y8,H8,I8,r8,m',hm,w8⟩=>?_
        obtain ⟨a1,a2,a3,a4⟩:=after I8
        have hlen:its.size≤sizeLine:=by
          have z:=v3.length
          have el:its.toList.length=its.size:=by simp
          omega
        refine append_at (hsz:=hlen) a4 fun h9 hs9 e9=>?_
        have I9:Inv (X.comp N scope cl s2 H2 fp C) [] σ6 H8 { s8 with heap:=h9,toks:=s8.toks } :=
          Inv.turned (I8.pins_of (pins':=[]) (fun p hp=>nomatch hp)) (fun b o hb e=>hs9.extBut b o hb e) a3 hDC (.inr hDs) hDc (fun p hp=>by
            rcases List.mem_append.mp hp with z | z <;> exact nomatch z)
        refine ⟨m',hm,i+1,ys++[y8],its.push u8,n+1,σ6,H8,I9,T.keep _ _ _ a1 (fun b hb o e=>hs9.extBut b o (fpD b hb) e),a2,a3,e9,?_,w8⟩
        rw [Array.toList_push]
        exact Vals.append v3 (.cons r8 .nil)
  exact codeAny_compStart_list (loop _ rfl) (T.self _ 0 _ _ _ (T.keep _ _ _ st2 (fun b hb o e=>old b o e)) (loop _ rfl))
theorem pe_comp {elt tg iter:Expr} {ifs:List Expr} {scope:Scope} {pos:Pos} {wi:TI} {g:TG} {tc:TT} {te:TE} (N:List Str) (im:List (Option Nat))
    (hi:PI X tg iter wi)
    (hg:∀ cl s H fp C,PG (X.comp N scope cl s H fp C) tg g)
    (ht:∀ cl s H fp C,PTs (X.comp N scope cl s H fp C) ifs tc)
    (he:∀ cl s H fp C,PE (X.comp N scope cl s H fp C) elt te)
    (hc:X.calm=true:=by rfl) (hkind:scope.kind=.function:=by rfl) (hcell:∀ y ∈ scope.names,y.2≠.cell:=by decide +kernel)
    (hnames:∀ y ∈ scope.names,y.2=.local→scope.names.lookup y.1=some .local:=by decide +kernel)
    (hfree:(scope.names.all fun y=>y.2 != .free || (X.env.kindOf y.1 == some .cell || X.env.kindOf y.1 == some .free))=true:=by rfl)
    (hl:N.length=im.length:=by rfl)
    (him:((N.zip im).all fun p=>match p.2 with
      | none=>true
      | some j=>X.N[j]? == some p.1&&scope.names.lookup p.1 == some .free)=true:=by rfl)
    (hs:∀ x,foldedSetIterable iter X.env x=pure x:=by intro _;rfl) :
    PE X (.ListComp elt [⟨tg,iter,ifs,0⟩] scope pos) (tComp im wi g tc te):=by
  intro pins s σ H Q I h
  rw [eval_ListComp]
  exact comp_core N im hi hg ht he hc hkind hcell hnames hfree hl him hs I h fun s4 m C D H4 hn KK _ _ _ _ _ _ q=>⟨m,hn,fun h' hs'=>⟨.ref D,H4,KK h' hs',rfl,q⟩⟩
theorem ps_setC {i:Nat} {y:Str} {elt tg iter:Expr} {ifs:List Expr} {scope:Scope} {pos pos' spos:Pos} {wi:TI} {g:TG} {tc:TT} {te:TE} (hN:X.N.Nodup) (hy:X.N[i]?=some y) (hx:Loc X.env.scope y) (N:List Str) (im:List (Option Nat))
    (hi:PI X tg iter wi)
    (hg:∀ cl s H fp C,PG (X.comp N scope cl s H fp C) tg g)
    (ht:∀ cl s H fp C,PTs (X.comp N scope cl s H fp C) ifs tc)
    (he:∀ cl s H fp C,PE (X.comp N scope cl s H fp C) elt te)
    (hc:X.calm=true:=by rfl) (hkind:scope.kind=.function:=by rfl) (hcell:∀ y ∈ scope.names,y.2≠.cell:=by decide +kernel)
    (hnames:∀ y ∈ scope.names,y.2=.local→scope.names.lookup y.1=some .local:=by decide +kernel)
    (hfree:(scope.names.all fun y=>y.2 != .free || (X.env.kindOf y.1 == some .cell || X.env.kindOf y.1 == some .free))=true:=by rfl)
    (hl:N.length=im.length:=by rfl)
    (him:((N.zip im).all fun p=>match p.2 with
      | none=>true
      | some j=>X.N[j]? == some p.1&&scope.names.lookup p.1 == some .free)=true:=by rfl)
    (hs:∀ x,foldedSetIterable iter X.env x=pure x:=by intro _;rfl)
    (hsw:swapsWith (.ListComp elt [⟨tg,iter,ifs,0⟩] scope pos) (some (.Name y pos')) spos.line X.env=pure true:=by rfl) (hf:X.fn y=true∨X.env.scope.names.lookup y=some .local:=by first | exact .inl rfl | exact .inr rfl | assumption) :
    PS X (.Assign [.Name y pos'] (.ListComp elt [⟨tg,iter,ifs,0⟩] scope pos) spos) (tAsg (tComp im wi g tc te) (gName i)):=by
  intro pins s σ H D0 I h
  rw [exec_Assign_Name_used _ _ _ _ hsw]
  refine wpAny_bind (wpAny_standAt (wpAny_bind ?_))
  show wpAny _ X.A (do let _ ← comprehension (.ListComp elt [⟨tg,iter,ifs,0⟩] scope pos) scope X.env _ (newList []) false (eval iter X.env) (some (assign (.Name y pos') X.env))) _ _ s
  refine wpAny_bind (wpAny_mono (comp_core (use:=some (assign (.Name y pos') X.env)) (QQ:=fun _ s'=>SP X pins D0 .next s') N im hi hg ht he hc hkind hcell hnames hfree hl him hs I h ?_) (fun _ s' hq=>wpAny_pure (wpAny_pure hq)) fun _ _ e=>e)
  intro s4 m C D H4 hn KK hC1 hC2 hC3 hC4 hC5 hC6 q
  have I4:Inv X pins σ H4 s4:=KK s4.heap (Heap.SameBut.refl _ _)
  obtain ⟨o,es,ep,ho,ro⟩:=id hn
  have I5:Inv X ((C,o) :: pins) σ H4 s4:=I4.pins_of fun p hp=>by
    rcases List.mem_cons.mp hp with z | z
    · subst z
      exact ⟨ho,hC1,hC2,hC3,fun v z=>by rw [ro.1] at z;cases z⟩
    · exact I4.pin p (List.mem_append_right _ z)
  show wpAny _ X.A (assign (.Name y pos') X.env (.ref D)) _ _ _
  refine wpAny_assign_Name (store_ok I5 hN hy hx (show RelV (.ref D) (.ref D) from rfl) (fun s6 I6=>?_) hf)
  have p6:=(I6.pin (C,o) (List.mem_append_right _ List.mem_cons_self)).1
  refine ⟨m,hn.at' fun o' e'=>?_,fun h' hs'=>?_⟩
  · rw [ho] at e';cases e';exact p6
  · have I7:Inv X pins _ H4 s6:=I6.pins_of fun p hp=>I6.pin p (List.mem_append_right _ (List.mem_cons_of_mem _ hp))
    exact ⟨_,H4,I7.turned (t':=s6.toks) (it:=C) (fun b o hb e=>hs'.extBut b o hb e) hC1 hC2 (.inr hC6) hC4 (fun p hp=>Ne.symm (hC5 p hp)),q⟩
end
end L2
namespace L2
open PySem PySem.Spec PyProof.Rows
section
variable {X:Cx}
theorem op_le_str:OpR X (compareOp .LtE) (fun x y H Q=>∃ i j,x=.str i∧y=.str j∧Q (.bl (!decide (j.cps.toList < i.cps.toList))) H):=by
  intro pins s σ H x y v u Q I rx ry h
  obtain ⟨i,j,rfl,rfl,q⟩:=h
  obtain ⟨t,rfl⟩:=rx
  obtain ⟨t',rfl⟩:=ry
  exact PySem.P.le_str (fin_bl I q rfl)
def rSlS:V→Option Int→Option Int→Hp→VK→Prop:=fun x lo hi H Q=>∃ z,x=.str z∧z.length≤sizeLine∧Q (.str (Txt.slice z lo hi)) H
theorem sl_str:SlR X rSlS:=by
  intro pins s σ H x v vl vu lo hi sl Q I rx hs pl pu h
  obtain ⟨z,rfl,hz,q⟩:=h
  obtain ⟨t,rfl⟩:=rx
  refine ⟨"str",_,F.slot_str_getitem.lookup,typeIs_str _ _ _,?_⟩
  have go:∀ (l u:Option (Int × Tok)),vl=partValue l→vu=partValue u→l.map (·.1)=lo→u.map (·.1)=hi→wpAny (model X.prog X.w) X.A (getItem (.str z t) (.ref sl)) (EP X pins σ Q) X.xe s:=by
    intro l u e1 e2 e3 e4
    subst e1 e2 e3 e4
    refine wpAny_getItem_str_slice (l:=l) (u:=u) (st:=none) hs rfl ?_
    unfold sliceMade
    have q':Q (.str (Txt.slice z (l.map (·.1)) (u.map (·.1)))) H:=q
    unfold Txt.slice at q'
    have hlen:((PySem.slicePicked z l u none).filterMap (z.cps[·]?)).toArray.size≤z.length:=by
      rw [List.size_toArray]
      refine Nat.le_trans (List.length_filterMap_le _ _) ?_
      exact sliceIndices_le _ _ _
    show Made.post (if ((1:Int) == 1&&(PySem.slicePicked z l u none).length == z.length)=true then _ else _) _ s
    unfold PySem.slicePicked at hlen ⊢
    simp only [Option.map_none,Option.getD_none] at hlen ⊢
    split
    · rename_i hc
      rw [if_pos hc] at q'
      exact ⟨.str _,H,I,⟨_,rfl⟩,q'⟩
    · rename_i hc
      rw [if_neg hc] at q'
      exact ⟨Nat.le_trans hlen hz,.str _,H,I.tok _,⟨_,rfl⟩,q'⟩
  cases pl with
  | none=>cases pu with
    | none=>exact go none none rfl rfl rfl rfl
    | int j t'=>exact go none (some (j,t')) rfl rfl rfl rfl
  | int i t0=>cases pu with
    | none=>exact go (some (i,t0)) none rfl rfl rfl rfl
    | int j t'=>exact go (some (i,t0)) (some (j,t')) rfl rfl rfl rfl
def CDivB (i j:Int):Prop:=0 < j∧j < 2 ^ 200
theorem op_fdivB:OpR X (binaryOp .FloorDiv) (rI CDivB fun i j=>.int (i / j)):=opI fun i j _ _ _ _ _ hc q=>by
  obtain ⟨h1,h2⟩:=hc
  rw [← Int.fdiv_eq_ediv_of_nonneg i (by omega)] at q
  refine floordiv_int (by omega) q (.inl (PyProof.noPylong_of_log2 ?_))
  have hj:j.natAbs≠0:=by omega
  rw [Nat.log2_lt hj]
  have h3:(j.natAbs:Int) < 2 ^ 200:=by omega
  have h4:j.natAbs < 2 ^ 200:=by exact_mod_cast h3
  exact Nat.lt_of_lt_of_le h4 (Nat.pow_le_pow_right (by decide) (by decide))
theorem strs_are:∀ {ys:List Str} {us:List Value},Vals (ys.map V.str) us→StrsAre us ys
  | [],_,r=>by cases r;exact .nil
  | y :: ys,_,r=>by
    cases r with
    | cons r1 r2=>obtain ⟨t,e⟩:=r1;subst e;exact .cons y t (strs_are r2)
def rJoin (K:PySem.W.Frag):V→List V→Hp→VK→Prop:=fun x vs H Q=>∃ z p ys,x=.str z∧vs=[.ref p]∧SqL K H p (ys.map V.str)∧(ys.map (·.length)).sum+ys.length * z.length≤16777216∧Q (.str (Txt.join z ys)) H
theorem mt_join:MtR X "str.join" (rJoin X.K):=by
  intro pins s σ H x xs v us Q I rx rs h
  obtain ⟨z,p,ys,rfl,rfl,hl,hz,q⟩:=h
  obtain ⟨t,rfl⟩:=rx
  obtain ⟨u,rfl,ru⟩:=vals1 rs
  cases ru
  obtain ⟨its,rv,pl,_⟩:=I.list hl
  exact join_list pl.isList (by simpa using strs_are rv) hz fun t' k=>⟨.str _,H,I.tok _,⟨_,rfl⟩,q⟩
theorem vals_strs:∀ (l:List (Str × Tok)),Vals ((l.map (·.1)).map V.str) (strValues l)
  | []=>.nil
  | (x,t) :: r=>.cons ⟨t,rfl⟩ (vals_strs r)
def rSplit:V→List V→Hp→VK→Prop:=fun x vs H Q=>∃ z y,x=.str z∧vs=[.str y]∧(y.length == 0)=false∧z.length≤sizeLine∧(Builtin.Str.partsBetween z (Builtin.Str.occurrences z y 0 z.length (z.length+1)) y.length).length≤sizeLine∧(Txt.split z y).length≤sizeLine ∧
  ∀ p,H p=none→Q (.ref p) (upd H p (.lst ((Txt.split z y).map V.str)))
theorem mt_split:MtR X "str.split" rSplit:=by
  intro pins s σ H x xs v us Q I rx rs h
  obtain ⟨z,y,rfl,rfl,h0,hz,hz2,hz3,q⟩:=h
  obtain ⟨t,rfl⟩:=rx
  obtain ⟨u,rfl,⟨t',rfl⟩⟩:=vals1 rs
  have fin:∀ (l:List (Str × Tok)) (tk:Nat) (n:Nat),l.map (·.1)=Txt.split z y→EP X pins σ Q (.ref s.heap.objs.size) { s with toks:=tk,heap:=s.heap.push { cls:=.type "list",data:=.seq (strValues l).toArray n } }:=fun l tk n e=>by
    refine ⟨.ref s.heap.objs.size,_,I.laid (t':=tk) (o:=.lst ((Txt.split z y).map V.str)) (fun b ob q=>Heap.get?_push_of_some _ q) (Nat.le_refl _) ?_,rfl,q _ (I.hok.fresh (Nat.le_refl _))⟩
    refine ⟨by rw [List.length_map];exact hz3,strValues l,n,?_,Heap.get?_push_size _ rfl⟩
    rw [← e];exact vals_strs l
  cases h1:(decide (z.length < y.length) || decide (Builtin.Str.strKind z < Builtin.Str.strKind y))
  · cases hf:(Builtin.Str.occurrences z y 0 z.length (z.length+1)).isEmpty
    · refine call_meets F.slot_str_split (typeIs_str _ _ _) F.entry_str_split (F.args_str_split_2 _ _) (meets_str_split_sep z y t t' h1 h0 hf hz hz2) ?_
      show wants _ X.xe _ { s with toks:=_,heap:=s.heap.push { cls:=.type "list",data:=.seq (strsFrom s.toks (Builtin.Str.partsBetween z (Builtin.Str.occurrences z y 0 z.length (z.length+1)) y.length)).toArray } }
      rw [strsFrom_eq]
      exact fin (numbered s.toks _) _ _ ((numbered_texts _ _).trans ((if_neg (ne_true_of_eq_false h1)).trans (if_neg (ne_true_of_eq_false hf))).symm)
    · exact call_meets F.slot_str_split (typeIs_str _ _ _) F.entry_str_split (F.args_str_split_2 _ _) (meets_str_split_not_found z y t t' h1 h0 hf)
        (fin [(z,t)] s.toks _ ((if_neg (ne_true_of_eq_false h1)).trans (if_pos hf)).symm)
  · exact call_meets F.slot_str_split (typeIs_str _ _ _) F.entry_str_split (F.args_str_split_2 _ _) (meets_str_split_cannot_occur z y t t' h1)
      (fin [(z,t)] s.toks _ (if_pos h1).symm)
theorem bools_of:∀ {bs:List Bool} {us:List Value},Vals (bs.map V.bl) us→us=bs.map Value.bool
  | [],_,r=>by cases r;rfl
  | b :: bs,_,r=>by
    cases r with
    | cons r1 r2=>cases r1;rw [bools_of r2];rfl
theorem range_all (bs:List Bool):((List.range bs.length).all fun i=>bs.getD i true)=bs.all id:=by
  rw [Bool.eq_iff_iff,List.all_eq_true,List.all_eq_true]
  constructor
  · intro h b hb
    obtain ⟨i,hi⟩:=List.mem_iff_getElem?.mp hb
    have hlt:i < bs.length:=(List.getElem?_eq_some_iff.mp hi).1
    have z:=h i (List.mem_range.mpr hlt)
    simp [List.getD_eq_getElem?_getD,hi] at z
    simpa using z
  · intro h i hi
    have hlt:=List.mem_range.mp hi
    have z:=h bs[i] (List.getElem_mem hlt)
    simp only [id] at z
    simp [List.getD_eq_getElem?_getD,List.getElem?_eq_getElem hlt,z]
theorem call_all (hc:X.calm=true):CallR X (.builtin "all") (fun xs H Q=>∃ (p:Addr) (bs:List Bool),xs=[.ref p]∧SqL X.K H p (bs.map V.bl)∧Q (.bl (bs.all id)) H):=by
  intro pins s σ H xs us Q I r h
  obtain ⟨p,bs,rfl,hl,q⟩:=h
  obtain ⟨u,rfl,ru⟩:=vals1 r
  cases ru
  obtain ⟨its,rv,pl,hz⟩:=I.list hl
  have ei:=bools_of rv
  subst ei
  refine call_all_walk (wpAny_pyIter_list pl.isList ?_)
  have hlt:p < s.heap.objs.size:=by obtain ⟨_,e,_⟩:=pl.isList;exact Heap.lt_size e
  have hh:X.A.in1.handled=none:=I.ok.hd hc
  refine ⟨_,_,_,_,_,_,fun i=>bs.getD i true,rfl,Walks.list hh s.heap.objs.size p (Nat.ne_of_lt hlt) (bs.map Value.bool).toArray,⟨⟨_,Heap.get?_push_size _ rfl,rfl,rfl⟩,pl.isList.push _⟩,?_,fun h' tk k=>?_⟩
  · intro i v s' Q' E' hv hq
    have hv':(bs.map Value.bool)[i]?=some v:=by rw [← List.getElem?_toArray];exact hv
    rw [List.getElem?_map] at hv'
    cases hb:bs[i]? with
    | none=>rw [hb] at hv';cases hv'
    | some b =>
    rw [hb] at hv'
    cases hv'
    refine wpAny_truthy_bool ?_
    have e:bs.getD i true=b:=by simp [List.getD_eq_getElem?_getD,hb]
    have hq':Q' (bs.getD i true) s':=hq
    rw [e] at hq'
    exact hq'
  · have e:(List.range (bs.map Value.bool).toArray.size).all (fun i=>bs.getD i true)=bs.all id:=by
      rw [List.size_toArray,List.length_map];exact range_all bs
    rw [e]
    refine ⟨.bl _,H,I.kept (fun b o eo=>k b o ?_ (Heap.get?_push_of_some _ eo)),rfl,q⟩
    intro hb
    have:b=s.heap.objs.size:=by simpa using hb
    exact absurd (Heap.lt_size eo) (by rw [this];exact Nat.lt_irrefl _)
end
section
variable {X:Cx} {tg:Expr}
def Its (z:Str):It:=⟨fun i _=>i < z.cps.size,fun i H x H'=>H'=H∧∃ c,z.cps[i]?=some c∧x=.str ⟨#[c]⟩,fun i _=>z.cps.size=i⟩
theorem turn_strA {P:Program} {w:World} {K:PySem.W.Frag} (it:Addr) (z:Str) (t:Tok):Turn P w K tg (Its z) [it] it (fun i h=>h.IsStrIter it "str_ascii_iterator" z t i) where
  mem:=by simp
  obj:=fun i h st b hb=>by
    have e:b=it:=by simpa using hb
    subst e
    obtain ⟨o,e,c,d⟩:=st
    exact ⟨o,e,fun v z=>by rw [d] at z;cases z⟩
  keep:=fun i h h' st k=>by
    obtain ⟨o,e,r⟩:=st
    exact ⟨o,k it (by simp) o e,r⟩
  item:=by
    intro X hP hw hK hc i pins s σ H E I hf st hg
    subst hP hw hK
    have hg':i < z.cps.size:=hg
    obtain ⟨f0,f1,f2,f3,f4,f5⟩:=hf it (by simp)
    refine wpAny_pyNext_ascii_item st (c:=z.cps[i]) (by simp [hg']) fun h' st' sb=>?_
    have I1:Inv X pins σ H { s with heap:=h',toks:=s.toks+1 }:=I.turned (fun b o hb e=>(sb.2 b hb).trans e) f0 f1 f3 f4 f5
    obtain ⟨o,e,c,d⟩:=id st'
    exact ⟨_,rfl,go_of (s:={ s with heap:=h',toks:=s.toks+1 }) e c d (by decide) ⟨.str ⟨#[z.cps[i]]⟩,H,I1,⟨_,rfl⟩,⟨rfl,z.cps[i],by simp [hg'],rfl⟩,st',fun b hb=>(hf b hb).1⟩⟩
  done:=by
    intro X hP hw hK hc i pins s σ H E I hf st hg
    subst hP hw hK
    have hg':z.cps.size=i:=hg
    obtain ⟨f0,f1,f2,f3,f4,f5⟩:=hf it (by simp)
    exact wpAny_pyNext_ascii_end (I.ok.hd hc) st (by simp;omega) fun h' eb=>⟨rfl,I.turned (t':=s.toks) (fun b o hb e=>eb b o hb e) f0 f1 f3 f4 f5⟩
  self:=fun _ _ _ _ _ st h=>wpAny_pyIter_striter_ascii st h
theorem turn_strW {P:Program} {w:World} {K:PySem.W.Frag} (it:Addr) (z:Str) (t:Tok):Turn P w K tg (Its z) [it] it (fun i h=>h.IsStrIter it "str_iterator" z t i) where
  mem:=by simp
  obj:=fun i h st b hb=>by
    have e:b=it:=by simpa using hb
    subst e
    obtain ⟨o,e,c,d⟩:=st
    exact ⟨o,e,fun v z=>by rw [d] at z;cases z⟩
  keep:=fun i h h' st k=>by
    obtain ⟨o,e,r⟩:=st
    exact ⟨o,k it (by simp) o e,r⟩
  item:=by
    intro X hP hw hK hc i pins s σ H E I hf st hg
    subst hP hw hK
    have hg':i < z.cps.size:=hg
    obtain ⟨f0,f1,f2,f3,f4,f5⟩:=hf it (by simp)
    refine wpAny_pyNext_wide_item st (c:=z.cps[i]) (by simp [hg']) fun h' st' sb=>?_
    have I1:Inv X pins σ H { s with heap:=h',toks:=s.toks+1 }:=I.turned (fun b o hb e=>(sb.2 b hb).trans e) f0 f1 f3 f4 f5
    obtain ⟨o,e,c,d⟩:=id st'
    exact ⟨_,rfl,go_of (s:={ s with heap:=h',toks:=s.toks+1 }) e c d (by decide) ⟨.str ⟨#[z.cps[i]]⟩,H,I1,⟨_,rfl⟩,⟨rfl,z.cps[i],by simp [hg'],rfl⟩,st',fun b hb=>(hf b hb).1⟩⟩
  done:=by
    intro X hP hw hK hc i pins s σ H E I hf st hg
    subst hP hw hK
    have hg':z.cps.size=i:=hg
    obtain ⟨f0,f1,f2,f3,f4,f5⟩:=hf it (by simp)
    exact wpAny_pyNext_wide_end (I.ok.hd hc) st (by simp;omega) fun h' eb=>⟨rfl,I.turned (t':=s.toks) (fun b o hb e=>eb b o hb e) f0 f1 f3 f4 f5⟩
  self:=fun _ _ _ _ _ st h=>wpAny_pyIter_striter_wide st h
def iStr (tl:TE):TI:=fun σ H R=>tl σ H fun x H1=>∃ z,x=.str z∧R (Its z) H1
theorem pi_str {l:Expr} {tl:TE} (hl:PE X l tl):PI X tg l (iStr tl):=by
  intro pins s σ H R I h
  refine thn (hl pins s σ H _ I h) fun v s1 ⟨x,H1,I1,r1,q1⟩=>?_
  obtain ⟨z,e,q⟩:=q1
  subst e
  obtain ⟨t,rfl⟩:=r1
  have fp:∀ b ∈ [s1.heap.objs.size],FpOk X pins H1 b:=fun b hb=>by
    have e:b=s1.heap.objs.size:=by simpa using hb
    subst e
    exact I1.fpOk (Nat.le_refl _) (I1.hok.fresh (Nat.le_refl _))
  cases ha:z.cps.all (· < 128)
  · exact wpAny_pyIter_wide ha ⟨s1.heap.objs.size,[s1.heap.objs.size],_,Its z,H1,rfl,I1.kept (t':=s1.toks) fun b o e=>Heap.get?_push_of_some _ e,turn_strW _ z t,⟨_,Heap.get?_push_size _ rfl,rfl,rfl⟩,fp,q⟩
  · exact wpAny_pyIter_ascii ha ⟨s1.heap.objs.size,[s1.heap.objs.size],_,Its z,H1,rfl,I1.kept (t':=s1.toks) fun b o e=>Heap.get?_push_of_some _ e,turn_strA _ z t,⟨_,Heap.get?_push_size _ rfl,rfl,rfl⟩,fp,q⟩
end
end L2
namespace L2
open PySem PySem.Spec PyProof.Rows
section
variable {X:Cx}
theorem zip_all:∀ (xs ys:List V),xs.length=ys.length→((List.range xs.length).all fun j=>eqV (xs.getD j .non) (ys.getD j .non))=(List.zipWith eqV xs ys).all id:=by
  intro xs ys h
  rw [Bool.eq_iff_iff,List.all_eq_true,List.all_eq_true]
  constructor
  · intro q b hb
    obtain ⟨i,hi⟩:=List.mem_iff_getElem?.mp hb
    rw [List.getElem?_zipWith] at hi
    cases e1:xs[i]? with
    | none=>rw [e1] at hi;cases hi
    | some x =>
      cases e2:ys[i]? with
      | none=>rw [e1,e2] at hi;cases hi
      | some y =>
        rw [e1,e2] at hi
        have lt:=(List.getElem?_eq_some_iff.mp e1).1
        have z:=q i (List.mem_range.mpr lt)
        simp only [List.getD_eq_getElem?_getD,e1,e2,Option.getD_some] at z
        have hi':eqV x y=b:=by simpa using hi
        rw [← hi',id,z]
  · intro q i hi
    have lt:=List.mem_range.mp hi
    have lt2:i < ys.length:=by omega
    have e1:=List.getElem?_eq_getElem lt
    have e2:=List.getElem?_eq_getElem lt2
    have m:eqV xs[i] ys[i] ∈ List.zipWith eqV xs ys:=by
      refine List.mem_iff_getElem?.mpr ⟨i,?_⟩
      rw [List.getElem?_zipWith,e1,e2]
    have z:=q _ m
    simp only [List.getD_eq_getElem?_getD,e1,e2,Option.getD_some]
    simpa using z
end
end L2
namespace L2
open PySem PySem.Spec PyProof.Rows
def ExAt (B:Heap) (e:Addr) (c:Value) (dc:Option Addr) (a0:Value) (st:Option Value) (h:Heap):Prop :=
  ∃ vs:Array Value,h.get? e=some ⟨c,dc,.fields vs,#[]⟩∧vs.size=6∧vs[0]?=some a0 ∧
    match st with
    | none=>vs[1]?=some .none
    | some fl=>∃ (T:Addr) (oT:Obj) (ts:Array Value),vs[1]?=some (.ref T)∧B.get? T=none∧T≠e∧h.get? T=some oT∧oT.data=.fields ts∧3 < ts.size∧ts[3]?=some fl
structure Fl (B:Heap) (l:List Env) (e:Addr) (c:Value) (dc:Option Addr) (a0:Value) (st:Option Value) (h:Heap):Prop where
  stays:B.StaysIn h
  ne:B.get? e=none
  frs:h.FunFrames B l
  ex:ExAt B e c dc a0 st h
section
variable {M:Model} {A:Around} {E:Value→Shared→Prop} {s:Shared} {B:Heap} {l:List Env} {env:Env} {outer:List Env} {e L:Addr} {c a0:Value} {dc:Option Addr} {st:Option Value} {Q:Unit→Shared→Prop}
theorem fl_set {fl:Value} (F:Fl B l e c dc a0 (some fl) s.heap) (h:∀ h',Fl B l e c dc a0 (some .none) h'→s.heap.UpToSlots h'→Q () { s with heap:=h' }):wpAny M A (setFlight (.ref e) none) Q E s:=by
  obtain ⟨f1,f2,f3,vs,he,hz,h0,T,oT,ts,h1,hBT,hTe,hT,hd,h3,hfl⟩:=F
  unfold setFlight
  refine wpAny_bind (wpAny_field he rfl h1 ?_)
  rw [if_pos (show (Value.ref T != Value.none)=true by simp)]
  have oth:∀ b,b≠T→∀ f,(s.heap.update T f).get? b=s.heap.get? b:=fun b hb f=>Heap.get?_update_other _ _ (Ne.symm hb)
  have hup:∀ b o,s.heap.get? b=some o→(∀ vs,o.data≠.fields vs)→b≠T:=fun b o hb hn z=>by
    rw [z,hT] at hb;cases hb;exact hn ts hd
  refine wpAny_setField hT hd h3 (h _ ⟨fun b o q=>?_,f2,f3.of_keeps fun b o q hn=>⟨o,by rw [oth b (hup b o q hn)];exact q,rfl⟩,vs,?_,hz,h0,T,_,_,h1,hBT,hTe,Heap.get?_update_self _ hT (Obj.isFreed_of_fields (Obj.data_mapFields hd _)),Obj.data_mapFields hd _,by simpa using h3,by simp [h3]⟩ fun b o q hn=>⟨o.slots,by rw [oth b (hup b o q hn)];exact q⟩)
  · rw [oth b fun z=>by rw [z,hBT] at q;cases q];exact f1 b o q
  · rw [oth e (Ne.symm hTe)];exact he
theorem fl_entry {head:Value} {hadNext:Bool} (hfr:A.frames=some (env :: outer)) (hf:env.frame=some L) (f1:B.StaysIn s.heap) (f2:B.get? e=none) (f3:s.heap.FunFrames B (env :: outer)) {vs:Array Value}
    (he:s.heap.get? e=some ⟨c,dc,.fields vs,#[]⟩) (hz:vs.size=6) (h0:vs[0]?=some a0)
    (h:∀ h',Fl B (env :: outer) e c dc a0 (some (rawInt L)) h'→s.heap.UpToSlots h'→Q () { s with heap:=h' }) :
    wpAny M A (do let a ← frameOf env;let pl ← entryPlaceOf L hadNext;let b ← EntryCells.newEntry head a .none (rawInt L) .none pl;setField (.ref e) 1 b) Q E s:=by
  refine wpAny_bind (wpAny_frameOf_fun hfr f3 hf fun h1 hs1=>?_)
  refine wpAny_bind (wpAny_entryPlaceOf fun pl hpl=>?_)
  unfold EntryCells.newEntry newFields
  refine wpAny_bind (wpAny_newObj_type ?_ (hpl.sizeOk5 _ _ _ _ _))
  have nfr:∀ b o ws,s.heap.get? b=some o→o.data=.fields ws→h1.get? b=some o:=fun b o ws q hd=>by
    refine (hs1.2.1 b fun hm=>?_).trans q
    obtain ⟨_,o',ho',hn⟩:=f3.mem hm
    rw [q] at ho';cases ho';exact hn ws hd
  have he1:=nfr e _ vs he rfl
  have kb:B.StaysIn h1:=fun b o q=>(hs1.2.1 b fun hm=>by rw [(f3.mem hm).1] at q;cases q).trans (f1 b o q)
  generalize hN:({ cls:=.type "traceback",dict:=none,data:=.fields ([head,.ref L,.none,rawInt L,.none]++(if pl.isEmpty then List.replicate 6 Value.none else pl)).toArray }:Obj)=nT
  have hTe:h1.objs.size≠e:=Nat.ne_of_gt (Heap.lt_size he1)
  have he2:(h1.push nT).get? e=some ⟨c,dc,.fields vs,#[]⟩:=Heap.get?_push_of_some _ he1
  have oth:∀ b o,b≠e→h1.get? b=some o→∀ f,((h1.push nT).update e f).get? b=some o:=fun b o hb q f=>by
    rw [Heap.get?_update_other _ _ (Ne.symm hb)];exact Heap.get?_push_of_some _ q
  refine wpAny_setField he2 rfl (by omega) (h _ ⟨fun b o q=>oth b o (fun z=>by rw [z,f2] at q;cases q) (kb b o q) _,f2,f3.of_keeps fun b o q hn=>?_,vs.setIfInBounds 1 (.ref h1.objs.size),?_,by simpa using hz,?_,h1.objs.size,nT,_,?_,?_,hTe,?_,by rw [← hN],?_,?_⟩ fun b o q hn=>?_)
  · obtain ⟨sl,z⟩:=hs1.2.2 b o q
    exact ⟨_,oth b _ (fun y=>by rw [y,he] at q;cases q;exact hn vs rfl) z _,rfl⟩
  · rw [Heap.get?_update_self _ he2 rfl];rfl
  · rw [Array.getElem?_setIfInBounds_ne (by decide)];exact h0
  · simp [hz]
  · cases q:B.get? h1.objs.size with
    | none=>rfl
    | some o=>exact absurd (Heap.lt_size (kb _ o q)) (Nat.lt_irrefl _)
  · rw [Heap.get?_update_other _ _ (Ne.symm hTe)]
    exact Heap.get?_push_size _ (by rw [← hN];rfl)
  · simp
  · simp
  · obtain ⟨sl,z⟩:=hs1.2.2 b o q
    exact ⟨sl,oth b _ (fun y=>by rw [y,he] at q;cases q;exact hn vs rfl) z _⟩
theorem fl_note (hfr:A.frames=some (env :: outer)) (hf:env.frame=some L) (F:Fl B (env :: outer) e c dc a0 st s.heap) (hst:st=none∨st=some .none)
    (h:∀ h',Fl B (env :: outer) e c dc a0 (some (rawInt L)) h'→s.heap.UpToSlots h'→Q () { s with heap:=h' }):wpAny M A (noteFrame (.ref e) env) Q E s:=by
  obtain ⟨f1,f2,f3,vs,he,hz,h0,r⟩:=F
  unfold noteFrame
  simp only [hf]
  rcases hst with rfl | rfl
  · have r':vs[1]?=some .none:=r
    refine wpAny_bind (wpAny_field he rfl r' ?_)
    rw [if_neg (by decide)]
    exact fl_entry hfr hf f1 f2 f3 he hz h0 h
  · obtain ⟨T,oT,ts,h1,hBT,hTe,hT,hd,h3,hfl⟩:=r
    refine wpAny_bind (wpAny_field he rfl h1 ?_)
    rw [if_pos (show (Value.ref T != Value.none)=true by simp)]
    refine wpAny_bind (wpAny_field hT hd hfl ?_)
    rw [if_neg (show ¬ ((Value.none == rawInt L)=true) by simp [rawInt])]
    refine wpAny_bind (wpAny_setField hT hd h3 ?_)
    have oth:∀ b,b≠T→∀ f,(s.heap.update T f).get? b=s.heap.get? b:=fun b hb f=>Heap.get?_update_other _ _ (Ne.symm hb)
    have hup:∀ b o,s.heap.get? b=some o→(∀ vs,o.data≠.fields vs)→b≠T:=fun b o hb hn z=>by
      rw [z,hT] at hb;cases hb;exact hn ts hd
    refine fl_entry (s:={ s with heap:=s.heap.update T _ }) hfr hf (fun b o q=>?_) f2 (f3.of_keeps fun b o q hn=>⟨o,by rw [oth b (hup b o q hn)];exact q,rfl⟩) (by rw [oth e (Ne.symm hTe)];exact he) hz h0 fun h' F' u=>h h' F' fun b o q hn=>u b o (by rw [oth b (hup b o q hn)];exact q) hn
    rw [oth b fun z=>by rw [z,hBT] at q;cases q];exact f1 b o q
theorem fl_leave (hfr:A.frames=some (env :: outer)) (hf:env.frame=some L) (F:Fl B (env :: outer) e c dc a0 st s.heap) (hst:st=none∨st=some .none)
    (h:∀ h',Fl B outer e c dc a0 (some .none) h'→s.heap.UpToSlots h'→Q () { s with heap:=h' }):wpAny M A (leaving env (.ref e)) Q E s:=by
  unfold leaving
  refine wpAny_bind (fl_note hfr hf F hst fun h1 F1 u1=>fl_set (s:={ s with heap:=h1 }) F1 fun h2 F2 u2=>?_)
  obtain ⟨k1,k2,⟨_,_,k3⟩,k4⟩:=F2
  exact h h2 ⟨k1,k2,k3,k4⟩ (u1.trans u2)
end
structure XUn (l:List Env) (H H':Hp) (h0 B h:Heap):Prop where
  keep:∀ b o,h0.get? b=some o→H b=none→b ∉ frs l→B.get? b=some o
  slot:∀ b o,h0.get? b=some o→H b=none→b ∈ frs l→∃ sl,h.get? b=some { o with slots:=sl }
  free:∀ b o,h0.get? b=some o→H b=none→H' b=none
  there:∀ b o,h0.get? b=some o→b ∉ frs l→∃ o',B.get? b=some o'
  fthere:∀ b o,h0.get? b=some o→b ∈ frs l→∃ o',h.get? b=some o'
  tups:∀ b xs,H b=some (.tup xs)→H' b=some (.tup xs)
  frzs:∀ b o u,H b=some (.frz o u)→H' b=some (.frz o u)
  tbls:∀ b ps,H b=some (.tbl ps)→∃ more,H' b=some (.tbl (ps++more))
theorem XUn.un {l:List Env} {H H':Hp} {h0 B h:Heap} (x:XUn l H H' h0 B h) (st:B.StaysIn h):Un (frs l) [] H H' h0 h :=
  ⟨fun b o q n hb _=>st b o (x.keep b o q n hb),fun b o q n hb _=>x.slot b o q n hb,fun b o q n _=>x.free b o q n,fun b o q _=>by
    by_cases hb:b ∈ frs l
    · exact x.fthere b o q hb
    · obtain ⟨o',z⟩:=x.there b o q hb
      exact ⟨o',st b o' z⟩,x.tups,x.frzs,x.tbls⟩
def CX1 (P:Program) (w:World):CXT:=fun outer H s E e s' =>
  ∃ (ea t C:Addr) (dx:Option Addr) (H':Hp) (B:Heap),e=.ref ea∧s'.os=s.os∧AllBare s'.gens∧Fl B outer ea (.ref C) dx (.ref t) (some .none) s'.heap∧HOk P w H' B∧XUn outer H H' s.heap B s'.heap∧H' ea=none∧s.heap.objs.size≤ea∧E (.ref C) dx H'
section
variable {P:Program} {w:World} {K:PySem.W.Frag} {mg:Str→Option Value} {base:Heap} {N:List Str} {qual:Str} {scope:Scope} {f:Addr} {cd:Value} {A:Around} {outer:List Env} {s0:Shared} {H0:Hp} {E:XK}
theorem pass1:Passes (CX1 P w) (cxOf (CX1 P w) P w K mg base N qual scope f cd A outer s0 H0 E) E:=by
  intro pins σ H s e s' I h
  obtain ⟨ea,t,C,dx,H',B,rfl,ho,hg,F,hok,x,hn,hea,q⟩:=h
  have hfr:(A.deeper (envOfC qual scope s0.heap.objs.size f cd)).frames=some (envOfC qual scope s0.heap.objs.size f cd :: outer):=I.ok.frames
  show wpAny (model P w) (A.deeper (envOfC qual scope s0.heap.objs.size f cd)) (leaving (envOfC qual scope s0.heap.objs.size f cd) (.ref ea)) _ _ s'
  refine fl_leave hfr rfl F (.inr rfl) fun h' F' u'=>?_
  have ab:∀ b o,s0.heap.get? b=some o→b≠s0.heap.objs.size:=fun b o q=>Nat.ne_of_lt (Heap.lt_size q)
  have I0:Un (frs outer) [] H0 H s0.heap s.heap:=I.base
  have nst:∀ b o,s0.heap.get? b=some o→b ∉ frs outer→b ∉ frs (envOfC qual scope s0.heap.objs.size f cd :: outer):=fun b o q hb hm=>by
    unfold frs at hm
    rw [List.filterMap_cons] at hm
    rcases List.mem_cons.mp hm with z | z
    · exact ab b o q z
    · exact hb z
  have sub:∀ b,b ∈ frs outer→b ∈ frs (envOfC qual scope s0.heap.objs.size f cd :: outer):=fun b hb=>by
    unfold frs
    rw [List.filterMap_cons]
    exact List.mem_cons_of_mem _ hb
  have fro:∀ b,b ∈ frs outer→∀ o,s'.heap.get? b=some o→∀ vs,o.data≠.fields vs:=fun b hb o q vs hd=>by
    obtain ⟨_,o',ho',hn'⟩:=F.frs.mem (sub b hb)
    rw [q] at ho';cases ho';exact hn' vs hd
  refine ⟨ea,t,C,dx,H',B,rfl,ho.trans I.os,hg,F',hok,⟨fun b o q n hb=>?_,fun b o q n hb=>?_,fun b o q n=>?_,fun b o q hb=>?_,fun b o q hb=>?_,fun b xs q=>x.tups b xs (I0.tups b xs q),fun b o u q=>x.frzs b o u (I0.frzs b o u q),fun b ps q=>?_⟩,hn,Nat.le_trans (Nat.le_trans I.sz (Nat.le_refl _)) hea,q⟩
  · exact x.keep b o (I0.keep b o q n hb (by simp)) (I0.free b o q n (by simp)) (nst b o q hb)
  · obtain ⟨sl,z⟩:=I0.slot b o q n hb (by simp)
    obtain ⟨sl2,z2⟩:=x.slot b _ z (I0.free b o q n (by simp)) (sub b hb)
    obtain ⟨sl3,z3⟩:=u' b _ z2 (fro b hb _ z2)
    exact ⟨sl3,z3⟩
  · obtain ⟨o',z⟩:=I0.there b o q (by simp)
    exact x.free b o' z (I0.free b o q n (by simp))
  · obtain ⟨o',z⟩:=I0.there b o q (by simp)
    exact x.there b o' z (nst b o q hb)
  · obtain ⟨o',z⟩:=I0.there b o q (by simp)
    obtain ⟨o2,z2⟩:=x.fthere b o' z (sub b hb)
    obtain ⟨sl,z3⟩:=u' b _ z2 (fro b hb _ z2)
    exact ⟨_,z3⟩
  · obtain ⟨m1,e1⟩:=I0.tbls b ps q
    obtain ⟨m2,e2⟩:=x.tbls b _ e1
    exact ⟨m1++m2,by rw [e2,Array.append_assoc]⟩
def XO (C t:Addr) (dx:Option Addr) (e:Addr):HO:=.ext fun h=>h.get? e=some ⟨.ref C,dx,.fields #[.ref t,.none,.none,.none,.bool false,.none],#[]⟩
def rm (H:Hp) (e:Addr):Hp:=fun b=>if b=e then none else H b
theorem rm_self {H:Hp} {e:Addr}:rm H e e=none:=by unfold rm;rw [if_pos rfl]
theorem rm_ne {H:Hp} {e b:Addr} (h:b≠e):rm H e b=H b:=by unfold rm;rw [if_neg h]
theorem xe_raise {pins:List (Addr × Obj)} {σ:St} {H:Hp} {s:Shared} {e C t:Addr} {dx:Option Addr} (I:Inv (cxOf (CX1 P w) P w K mg base N qual scope f cd A outer s0 H0 E) pins σ H s) (he:H e=some (XO C t dx e)) (hnew:s0.heap.objs.size≤e)
    (q:E (.ref C) dx (rm H e)):(cxOf (CX1 P w) P w K mg base N qual scope f cd A outer s0 H0 E).xe (.ref e) s:=by
  have hfr:(A.deeper (envOfC qual scope s0.heap.objs.size f cd)).frames=some (envOfC qual scope s0.heap.objs.size f cd :: outer):=I.ok.frames
  show wpAny (model P w) (A.deeper (envOfC qual scope s0.heap.objs.size f cd)) (leaving (envOfC qual scope s0.heap.objs.size f cd) (.ref e)) _ _ s
  obtain ⟨hφ,_,_⟩:(s.heap.get? e=some ⟨.ref C,dx,.fields #[.ref t,.none,.none,.none,.bool false,.none],#[]⟩)∧_∧_:=I.hok e _ he
  let hid:List Addr:=e :: frs (envOfC qual scope s0.heap.objs.size f cd :: outer)
  have st:(PySem.W.hideAll s.heap hid).StaysIn s.heap:=fun b o q=>PySem.W.of_hideAll _ q
  have hB:∀ b o,s.heap.get? b=some o→b ∉ hid→(PySem.W.hideAll s.heap hid).get? b=some o:=fun b o q hb=>PySem.W.hideAll_get _ q hb
  have hBn:∀ b,b ∈ hid→(PySem.W.hideAll s.heap hid).get? b=none:=fun b hb=>PySem.W.hideAll_none _ hb
  have stk:s.heap.FunFrames base (envOfC qual scope s0.heap.objs.size f cd :: outer):=I.stack
  have hfun:s.heap.FunFrames (PySem.W.hideAll s.heap hid) (envOfC qual scope s0.heap.objs.size f cd :: outer) :=
    PySem.W.funFrames_hide stk fun env he' b hb=>List.mem_cons_of_mem _ (List.mem_filterMap.mpr ⟨env,he',hb⟩)
  have hfree:∀ b ∈ frs (envOfC qual scope s0.heap.objs.size f cd :: outer),H b=none:=I.stkFree
  refine fl_leave hfr rfl (st:=none) ⟨st,hBn e (List.mem_cons_self ..),hfun,_,hφ,rfl,rfl,rfl⟩ (.inl rfl) fun h' F' u'=>?_
  have ab:∀ b o,s0.heap.get? b=some o→b≠s0.heap.objs.size:=fun b o q=>Nat.ne_of_lt (Heap.lt_size q)
  have I0:Un (frs outer) [] H0 H s0.heap s.heap:=I.base
  have ne:∀ b o,s0.heap.get? b=some o→b≠e:=fun b o q=>Nat.ne_of_lt (Nat.lt_of_lt_of_le (Heap.lt_size q) hnew)
  have nh:∀ b o,s0.heap.get? b=some o→b ∉ frs outer→b ∉ hid:=fun b o q hb hm=>by
    rcases List.mem_cons.mp hm with z | z
    · exact ne b o q z
    · unfold frs at z
      rw [List.filterMap_cons] at z
      rcases List.mem_cons.mp z with z | z
      · exact ab b o q z
      · exact hb z
  have fro:∀ b,b ∈ frs outer→∀ o,s.heap.get? b=some o→∀ vs,o.data≠.fields vs:=fun b hb o q vs hd=>by
    obtain ⟨_,o',ho',hn'⟩:=stk.mem (b:=b) (by rw [List.filterMap_cons];exact List.mem_cons_of_mem _ hb)
    rw [q] at ho';cases ho';exact hn' vs hd
  refine ⟨e,t,C,dx,rm H e,PySem.W.hideAll s.heap hid,rfl,I.os,I.bare,F',fun b o q=>?_,⟨fun b o q n hb=>?_,fun b o q n hb=>?_,fun b o q n=>?_,fun b o q hb=>?_,fun b o q hb=>?_,fun b xs q=>?_,fun b o u q=>?_,fun b ps q=>?_⟩,rm_self,hnew,q⟩
  · have hbe:b≠e:=fun z=>by rw [z,rm_self] at q;cases q
    rw [rm_ne hbe] at q
    refine (I.hok b o q).stay (fun c v hc z=>hB c v z fun hm=>?_) (fun c z=>?_) fun c xs z=>?_
    · rcases List.mem_cons.mp hm with y | y
      · subst y
        rcases hc with y | y
        · exact hbe y.symm
        · rw [he] at y;cases y
      · have:=hfree c y
        rcases hc with y' | y'
        · rw [y',q] at this;cases this
        · rw [y'] at this;cases this
    · rw [rm_ne fun y=>by rw [y,he] at z;cases z];exact z
    · rw [rm_ne fun y=>by rw [y,he] at z;cases z];exact z
  · exact hB b o (I0.keep b o q n hb (by simp)) (nh b o q hb)
  · obtain ⟨sl,z⟩:=I0.slot b o q n hb (by simp)
    obtain ⟨sl2,z2⟩:=u' b _ z (fro b hb _ z)
    exact ⟨sl2,z2⟩
  · rw [rm_ne (ne b o q)];exact I0.free b o q n (by simp)
  · obtain ⟨o',z⟩:=I0.there b o q (by simp)
    exact ⟨o',hB b o' z (nh b o q hb)⟩
  · obtain ⟨o',z⟩:=I0.there b o q (by simp)
    obtain ⟨sl2,z2⟩:=u' b _ z (fro b hb _ z)
    exact ⟨_,z2⟩
  · have z:=I0.tups b xs q
    rw [rm_ne fun y=>by rw [y,he] at z;cases z];exact z
  · have z:=I0.frzs b o u q
    rw [rm_ne fun y=>by rw [y,he] at z;cases z];exact z
  · obtain ⟨m,z⟩:=I0.tbls b ps q
    exact ⟨m,by rw [rm_ne fun y=>by rw [y,he] at z;cases z];exact z⟩
end
end L2
namespace L2
open PySem PySem.Spec PyProof.Rows PySem.W PySem.Builtin PySem.Builtin.ObjectAttr
structure XCls (K:PySem.W.Frag) (C:Addr) (cd:ClassData) (f:Addr):Prop where
  cls:PySem.W.clsIn K C=some cd
  dct:cd.hasDict=true
  own:∃ pre,cd.mro=pre++[.type "ValueError",.type "Exception",.type "BaseException",.type "object"]∧∀ v ∈ pre,∃ c,v=Value.ref c
  setA:PySem.W.findIn K (.ref C) "__setattr__"=some (some (.builtin "object.__setattr__"))
section
variable {prog:Program} {w:World} {K:PySem.W.Frag} {A:Around} {E:Value→Shared→Prop} {s:Shared} {e C f:Addr} {cd:ClassData} {name:Str} {v:Value} {vs:Array Value}
theorem refuse_exc (self:Value):∀ (pre:List Value),(∀ v ∈ pre,∃ c,v=Value.ref c)→refuseLoop self "__setattr__" (pre++[.type "ValueError",.type "Exception",.type "BaseException",.type "object"])=pure ()
  | [],_=>by kernel_rfl
  | v :: r,h=>by
    obtain ⟨c,rfl⟩:=h v (List.mem_cons_self ..)
    rw [List.cons_append,refuseLoop_ref]
    exact refuse_exc self r fun v hv=>h v (List.mem_cons_of_mem _ hv)
theorem sub_object (XC:XCls K C cd f):cd.mro.contains (.type "object")=true∧cd.mro.isEmpty=false:=by
  obtain ⟨pre,e,_⟩:=XC.own
  rw [e]
  refine ⟨?_,by cases pre <;> rfl⟩
  rw [List.contains_iff_mem]
  exact List.mem_append_right _ (by simp)
theorem set_exc {Q:Unit→Shared→Prop} (KI:K.In s.heap) (XC:XCls K C cd f) (he:s.heap.get? e=some ⟨.ref C,none,.fields vs,#[]⟩) (ht:PySem.W.takerIn K C name=some none)
    (h:∀ (h':Heap),h'.get? e=some ⟨.ref C,some s.heap.objs.size,.fields vs,#[]⟩→h'.Ns1 s.heap.objs.size (fun x=>if x=name then some v else none)→(∀ b o,b≠e→s.heap.get? b=some o→h'.get? b=some o)→Q () { s with heap:=h',toks:=s.toks+2 }) :
    wpAny (model prog w) A (setAttr (.ref e) name v) Q E s:=by
  have II:InstAt s.heap e ⟨.ref C,none,.fields vs,#[]⟩ C none:=⟨he,rfl,rfl,trivial⟩
  refine set_plain KI II XC.setA ?_
  have SF:=PySem.F.store_object
  obtain ⟨hobj,hne⟩:=sub_object XC
  have mr:Looks (model prog w) s.heap (mroOf (.ref C)) cd.mro:=(looks_clsIn KI XC.cls).andThen .now
  have isO:Looks (model prog w) s.heap (isInstance (.ref e) (.type "object")) true :=
    II.type.andThen (looks_mroIn KI (by unfold mroIn;rw [XC.cls,Option.bind_some,if_neg (by rw [hne];decide),hobj]))
  refine codeAny_call_builtin (s:={ s with toks:=s.toks+1 }) SF.slot.plain SF.entry
    (@check_slot (model prog w) _ _ { s with toks:=s.toks+1 } "object.__setattr__" "object" "__setattr__" (.ref e) [.str name s.toks,v] [] _ SF.kind SF.split isO (SF.args (.ref e) (.str name s.toks) v) ?_)
  obtain ⟨attr,ha,hr⟩:=Option.bind_eq_some_iff.mp ht
  have tk3:Looks (model prog w) s.heap (storeTaker? attr) none:=by
    cases attr with
    | none=>cases hr;exact .now
    | some a =>
      obtain ⟨b,hb,hbe⟩:=Option.map_eq_some_iff.mp hr
      cases b with
      | true=>cases hbe
      | false=>exact (looks_takesIn KI hb).andThen .now
  rw [osa_eq,refuse_eq]
  refine wpAny_bind (wpAny_bind (Looks.here (s:={ s with toks:=s.toks+1 }) II.type (wpAny_bind (Looks.here (s:={ s with toks:=s.toks+1 }) mr ?_))))
  obtain ⟨pre,hpre,hown⟩:=XC.own
  rw [hpre,refuse_exc _ pre hown]
  refine wpAny_pure (wpAny_bind (Looks.here (s:={ s with toks:=s.toks+1 }) II.type (wpAny_bind (Looks.here (s:={ s with toks:=s.toks+1 }) (looks_findIn KI ha) (wpAny_bind (Looks.here (s:={ s with toks:=s.toks+1 }) tk3 ?_))))))
  show wpAny (model prog w) A.in1 (storeInOwnDict (.ref e) (.ref C) (.str name s.toks) name v attr.isSome) _ _ { s with toks:=s.toks+1 }
  refine wpAny_bind (wpAny_pure (wpAny_bind (wpAny_bind (wpAny_loadPart he (wpAny_bind (Looks.here (s:={ s with toks:=s.toks+1 }) (looks_clsIn KI XC.cls) ?_))))))
  rw [XC.dct]
  refine wpAny_bind (wpAny_alloc (wpAny_bind (wpAny_update (o:=⟨.ref C,none,.fields vs,#[]⟩) (Heap.get?_push_of_some _ he) (wpAny_pure ?_))))
  dsimp only
  show wpAny (model prog w) A.in1 (storeInDict s.heap.objs.size (.str name s.toks) name v) _ _ _
  have hde:e≠s.heap.objs.size:=Nat.ne_of_lt (Heap.lt_size he)
  generalize hU:((s.heap.push { cls:=.type "dict",data:=.dict #[] }).update e fun o=>{ cls:=o.cls,dict:=some s.heap.objs.size,data:=o.data,slots:=o.slots })=h1
  have he1:h1.get? e=some ⟨.ref C,some s.heap.objs.size,.fields vs,#[]⟩:=by
    rw [← hU,Heap.get?_update_self _ (Heap.get?_push_of_some _ he) rfl]
  have hd1:h1.get? s.heap.objs.size=some { cls:=.type "dict",data:=.dict #[] }:=by
    rw [← hU,Heap.get?_update_other _ _ hde];exact Heap.get?_push_size _ rfl
  have hk1:∀ b o,b≠e→s.heap.get? b=some o→h1.get? b=some o:=fun b o hb q=>by
    rw [← hU,Heap.get?_update_other _ _ (Ne.symm hb)];exact Heap.get?_push_of_some _ q
  have hn1:h1.Ns1 s.heap.objs.size (fun _=>none):=⟨_,#[],0,hd1,rfl,by intro x hx;simp at hx,by simp [UniqKeys],fun _=>rfl⟩
  unfold storeInDict newKeyGuard
  refine wpAny_bind (wpAny_pure (wpAny_bind (wpAny_nsSet1 (m:=fun _=>none) hn1 fun h2 hn2 hs2=>?_)))
  obtain ⟨od,es,ep,ho,hdd,r⟩:=hn2.count (PySem.Within.cons name v PySem.Within.nil)
  refine wpAny_bind (wpAny_lookBehind ho ?_ (wpAny_pure ?_))
  · rw [hdd]
    exact pastItsLine_dict (Nat.le_trans r (by show 1≤_;decide))
  · exact h h2 ((hs2.2 e hde).trans he1) hn2 fun b o hb q=>(hs2.2 b (Nat.ne_of_lt (Heap.lt_size q))).trans (hk1 b o hb q)
theorem make_exc {Q:Value→Shared→Prop} {nm q:Str} {N:Addr} {bs bm:List Value} {hdct:Bool} {sn:List Str} {sub:List Value} {ab:Bool} {col:Option Bool} {dd:Option Addr} {k0 k1 k2 k3 k5:Option Value} {rest:List Value}
    (KI:K.In s.heap) (hC:K.lookup C=some (excClassObj nm q C N bs bm hdct sn sub ab col dd k0 k1 k2 k3 k5 "ValueError.__new__"))
    (tl:tailIn K [.type "ValueError",.type "Exception",.type "BaseException",.type "object"] bm=true) (hi:findIn K (.ref C) "__init__"=some (some (.ref f))) (hf:typeIn K (.ref f)=some (.type "function")) (hrest:rest.length≤sizeLine)
    (h:codeAny (model prog w) (A.under (.builtin "type.__call__" ⟨.ref C :: rest,[]⟩)) (.call (.ref f) ⟨.ref (s.heap.objs.size+1) :: rest,[]⟩)
      (fun r s'=>match r with | .ok (.ret u)=>u=.none∧Q (.ref (s.heap.objs.size+1)) s' | .ok _=>False | .error x=>E x s')
      { s with heap:=(s.heap.push { cls:=.type "tuple",data:=.seq rest.toArray }).push { cls:=.ref C,data:=.fields #[.ref s.heap.objs.size,.none,.none,.none,.bool false,.none] } }) :
    wpAny (model prog w) A (call (.ref C) rest) Q E s:=by
  obtain ⟨hp,g,d,t,os⟩:=s
  have hC0:hp.get? C=some (excClassObj nm q C N bs bm hdct sn sub ab col dd k0 k1 k2 k3 k5 "ValueError.__new__"):=KI _ _ hC
  have TL:OwnTail hp [.type "ValueError",.type "Exception",.type "BaseException",.type "object"] bm:=tail_of_in KI tl
  have FV:=PySem.F.excBase_ValueError
  have f1:=tc_lookup
  have f2:=tc_bind (.ref C)
  have hT:(⟨hp,g,d,t,os⟩:Shared).TypeIs (.ref C) "type":=⟨_,hC0,rfl⟩
  refine wpAny_call (codeAny_of_tree ?_);show wpAny _ _ (callAny (.ref C) _) _ _ _
  repeat (any_goals (first | assumption | with_reducible refine wpAny_loadPart_at hC0 ?_ | wp_step))
  refine ⟨rfl,codeAny_call_builtin_at (Code.quiet_builtin _ (by decide +kernel)) entry_typeCall (wpAny_check_type_call_sub hC0 ?_)⟩
  repeat (first | with_reducible refine wpAny_loadPart_at hC0 ?_ | with_reducible refine wpAny_madeBy_exc hC0 ?_ | wp_step)
  refine codeAny_call_builtin_code (Code.quiet_builtin _ FV.quiet) (wpAny_check_new_subU FV (by decide +kernel) TL hC0 ?_)
  refine codeAny_exc_new_subU FV (by decide +kernel) FV TL hC0 ?_ hrest
  dsimp only at h
  show wpAny (model prog w) _ _ _ _ ⟨(hp.push { cls:=.type "tuple",data:=.seq rest.toArray }).push { cls:=.ref C,data:=.fields #[.ref hp.objs.size,.none,.none,.none,.bool false,.none] },g,d,t,os⟩
  generalize hH1:(hp.push { cls:=.type "tuple",data:=.seq rest.toArray }).push { cls:=.ref C,data:=.fields #[.ref hp.objs.size,.none,.none,.none,.bool false,.none] }=h1 at h ⊢
  have up:∀ b o,hp.get? b=some o→h1.get? b=some o:=fun b o z=>by rw [← hH1];exact Heap.get?_push_of_some _ (Heap.get?_push_of_some _ z)
  have hC1:=up _ _ hC0
  have K1:K.In h1:=KI.keeps up
  have hget:h1.get? (hp.objs.size+1)=some { cls:=.ref C,data:=.fields #[.ref hp.objs.size,.none,.none,.none,.bool false,.none] }:=by rw [← hH1];heap_get
  have hself:(Value.ref C :: bm).contains (.ref C)=true:=by simp
  unfold isInstance
  repeat (first | with_reducible refine wpAny_loadPart_at hget ?_ | (with_reducible refine wpAny_isSubtype_exc hC1 ?_;rw [hself]) | wp_step)
  refine Looks.here (s:=⟨h1,g,d,t,os⟩) (looks_findIn K1 hi) ?_
  refine wpAny_holding (wpAny_bind (Looks.here (s:=⟨h1,g,d,t,os⟩) (bind_fn K1 _ hf) ?_))
  refine wpAny_bind (wpAny_call (codeAny_mono h fun r s' z=>?_))
  cases r with
  | error x=>exact z
  | ok fl =>
    cases fl with
    | ret u =>
      obtain ⟨rfl,z⟩:=z
      exact wpAny_pure (wpAny_pure z)
    | next=>exact z.elim
    | brk=>exact z.elim
    | cont=>exact z.elim
end
end L2
namespace L2
open PySem PySem.Spec PyProof.Rows PySem.W
section
variable {X:Cx} {pins:List (Addr × Obj)} {σ:St} {H:Hp} {s:Shared} {C f:Addr} {cd:ClassData}
theorem XO_ok {P:Program} {w:World} {H:Hp} {h:Heap} {C t e:Addr} {dx:Option Addr} (he:h.get? e=some ⟨.ref C,dx,.fields #[.ref t,.none,.none,.none,.bool false,.none],#[]⟩):ObjOk P w H h e (XO C t dx e) :=
  ⟨he,⟨_,he⟩,fun h1 h2 q k=>k _ q⟩
theorem Inv.xmade {xs:List V} {us:List Value} (I:Inv X pins σ H s) (r:Vals xs us) (hz:xs.length≤sizeLine) :
    Inv X pins σ (upd (upd H s.heap.objs.size (.tup xs)) (s.heap.objs.size+1) (XO C s.heap.objs.size none (s.heap.objs.size+1)))
      { s with heap:=(s.heap.push { cls:=.type "tuple",data:=.seq us.toArray }).push { cls:=.ref C,data:=.fields #[.ref s.heap.objs.size,.none,.none,.none,.bool false,.none] } }:=by
  have I1:=I.laid (a:=s.heap.objs.size) (o:=.tup xs) (h':=s.heap.push { cls:=.type "tuple",data:=.seq us.toArray }) (t':=s.toks) (fun b u q=>Heap.get?_push_of_some _ q) (Nat.le_refl _) ⟨hz,us,r,IsTup.new _ _⟩
  refine I1.laid (a:=s.heap.objs.size+1) (t':=s.toks) (fun b u q=>Heap.get?_push_of_some _ q) (Nat.le_of_eq (Heap.size_push _ _)) (XO_ok ?_)
  have z:=Heap.get?_push_size (s.heap.push { cls:=.type "tuple",data:=.seq us.toArray }) (o:={ cls:=.ref C,data:=.fields #[.ref s.heap.objs.size,.none,.none,.none,.bool false,.none] }) rfl
  rwa [Heap.size_push] at z
theorem setattr_exc {A:Around} {E:Value→Shared→Prop} {a t:Addr} {n:Str} {y:V} {u:Value} {Q:Unit→Shared→Prop} (I:Inv X pins σ H s) (e:H a=some (XO C t none a)) (XC:XCls X.K C cd f) (ht:takerIn X.K C n=some none) (ry:RelV y u)
    (h:∀ s' dx,H dx=none→dx≠a→Inv X pins σ (upd (upd H dx (.xd [(n,y)])) a (XO C t (some dx) a)) s'→Q () s'):wpAny (model X.prog X.w) A (setAttr (.ref a) n u) Q E s:=by
  obtain ⟨he,_,_⟩:(s.heap.get? a=some ⟨.ref C,none,.fields #[.ref t,.none,.none,.none,.bool false,.none],#[]⟩)∧_∧_:=I.hok a _ e
  have hdn:H s.heap.objs.size=none:=I.hok.fresh (Nat.le_refl _)
  have hda:s.heap.objs.size≠a:=Nat.ne_of_gt (Heap.lt_size he)
  refine set_exc I.kIn XC he ht fun h' he' hn' hk=>h _ s.heap.objs.size hdn hda ?_
  have nodx:∀ b o,s.heap.get? b=some o→b≠s.heap.objs.size:=fun b o q=>Nat.ne_of_lt (Heap.lt_size q)
  have nota:∀ b,H b=none→b≠a:=fun b q z=>by rw [z,e] at q;cases q
  refine I.un (h':=h') ⟨fun b o q n _ _=>hk b o (nota b n) q,fun b o q n _ _=>⟨o.slots,hk b o (nota b n) q⟩,fun b o q n _=>?_,fun b o q _=>?_,fun b xs q=>?_,fun b o u q=>?_,fun b ps q=>⟨#[],?_⟩⟩ fun b o q=>?_
  · rw [upd_ne (nota b n),upd_ne (nodx b o q)];exact n
  · by_cases hb:b=a
    · exact ⟨_,by rw [hb];exact he'⟩
    · exact ⟨o,hk b o hb q⟩
  · rw [upd_ne (fun z=>by rw [z,e] at q;cases q),upd_ne (ne_of_none q hdn)];exact q
  · rw [upd_ne (fun z=>by rw [z,e] at q;cases q),upd_ne (ne_of_none q hdn)];exact q
  · rw [upd_ne (fun z=>by rw [z,e] at q;cases q),upd_ne (ne_of_none q hdn),q];simp
  · by_cases hb:b=a
    · subst hb
      rw [uS_] at q
      cases q
      exact XO_ok he'
    · rw [upd_ne hb] at q
      by_cases hd:b=s.heap.objs.size
      · subst hd
        rw [uS_] at q
        cases q
        refine ⟨_,hn',fun g=>?_⟩
        show RelO (List.lookup g [(n,y)]) (if g=n then some u else none)
        by_cases z:g=n
        · subst z;simp [List.lookup_cons,RelO];exact ry
        · have z':(g == n)=false:=by simpa using z
          simp [List.lookup_cons,z',z,RelO]
      · rw [upd_ne hd] at q
        have st:∀ c u,H c=some u→¬ (∃ φ,u=HO.ext φ)→c≠a:=fun c u z hn y=>by rw [y,e] at z;cases z;exact hn ⟨_,rfl⟩
        refine (I.hok b o q).stay (fun c v hc z=>hk c v ?_ z) (fun c z=>?_) fun c xs z=>?_
        · rcases hc with y | y
          · rw [y];exact hb
          · exact st c _ y fun ⟨_,z⟩=>by cases z
        · rw [upd_ne (st c _ z fun ⟨_,z⟩=>by cases z),upd_ne (ne_of_none z hdn)];exact z
        · rw [upd_ne (st c _ z fun ⟨_,z⟩=>by cases z),upd_ne (ne_of_none z hdn)];exact z
end
def sXf (K:PySem.W.Frag) (ta tv:TE) (n:Str):TS:=fun D σ H=>tv σ H fun y H1=>ta σ H1 fun x H2=>∃ a C t cd f,x=.ref a∧H2 a=some (XO C t none a)∧XCls K C cd f∧takerIn K C n=some none ∧
  ∀ dx,H2 dx=none→dx≠a→D.nx σ (upd (upd H2 dx (.xd [(n,y)])) a (XO C t (some dx) a))
section
variable {X:Cx} {o value:Expr} {n:Str} {pos pos':Pos} {ta tv:TE}
theorem ps_xf (ha:PE X o ta) (hv:PE X value tv) (hs:swapsWith value (some (.Attribute o n pos')) pos.line X.env=pure false:=by rfl):PS X (.Assign [.Attribute o n pos'] value pos) (sXf X.K ta tv n):=by
  intro pins s σ H D I h
  refine plainObj_wpAny_Assign_Attribute (thn (hv pins s σ H _ I h) fun u s1 ⟨y,H1,I1,ry,q⟩=>thn (ha pins s1 σ H1 _ I1 q) fun ov s2 ⟨x,H2,I2,rx,a,C,t,cd,f,ex,ea,c,n,q2⟩=>?_) hs
  subst ex
  obtain rfl:ov=Value.ref a:=rx
  exact setattr_exc I2 ea c n ry fun s3 dx h1 h2 I3=>⟨σ,_,I3,q2 dx h1 h2⟩
end
end L2
namespace L2
open PySem PySem.Spec PyProof.Rows PySem.W
abbrev vErr:List Value:=[.type "ValueError",.type "Exception",.type "BaseException",.type "object"]
structure XMk (K:PySem.W.Frag) (C f:Addr) (cd:ClassData):Prop where
  cls:XCls K C cd f
  obj:∃ (nm q:Str) (N:Addr) (bs bm:List Value) (hdct:Bool) (sn:List Str) (sub:List Value) (ab:Bool) (col:Option Bool) (dd:Option Addr) (k0 k1 k2 k3 k5:Option Value),
    K.lookup C=some (excClassObj nm q C N bs bm hdct sn sub ab col dd k0 k1 k2 k3 k5 "ValueError.__new__")∧tailIn K vErr bm=true∧bm.contains (.type "BaseException")=true
  init:findIn K (.ref C) "__init__"=some (some (.ref f))
  fn:typeIn K (.ref f)=some (.type "function")
  kp:keepIn K (.ref C)=true
def spInit (K:PySem.W.Frag) (n:Str):Sp:=fun vs H Q _=>∃ (a C t f:Addr) (cd:ClassData) (y:V),vs=[.ref a,y]∧H a=some (XO C t none a)∧XCls K C cd f∧takerIn K C n=some none ∧
  ∀ dx,H dx=none→dx≠a→Q .non (upd (upd H dx (.xd [(n,y)])) a (XO C t (some dx) a))
section
variable {X:Cx} {C f:Addr} {fd:FuncData} {cd:ClassData} {k:Nat} {n:Str} {ps:List Str}
theorem run_xmake {pins:List (Addr × Obj)} {σ:St} {H:Hp} {s:Shared} {Q:VK} {u:Value} {y:V} (M:XMk X.K C f cd) (F:FnOk X.prog X.w X.K X.mg X.base CX0 k f fd ps (spInit X.K n)) (ht:takerIn X.K C n=some none)
    (hr:Room (k+1) X.A) (hb:Binds X.K fd ps []) (hps:ps.length=2) (I:Inv X pins σ H s) (r:RelV y u)
    (h:∀ e t dx,H e=none→H t=none→H dx=none→X.s₀.heap.objs.size≤e→e≠t→dx≠t→dx≠e→Q (.ref e) (upd (upd (upd (upd H t (.tup [y])) e (XO C t none e)) dx (.xd [(n,y)])) e (XO C t (some dx) e))) :
    wpAny (model X.prog X.w) X.A (call (.ref C) [u]) (fun v s'=>∃ e H',v=.ref e∧Inv X pins σ H' s'∧Q (.ref e) H') X.xe s:=by
  obtain ⟨nm,q,N,bs,bm,hdct,sn,sub,ab,col,dd,k0,k1,k2,k3,k5,hC,tl,_⟩:=M.obj
  have I2:=I.xmade (C:=C) (xs:=[y]) (us:=[u]) (.cons r .nil) (by show 1≤sizeLine;rw [sizeLine_eq];decide)
  have hsp:spInit X.K n [.ref (s.heap.objs.size+1),y] (upd (upd H s.heap.objs.size (.tup [y])) (s.heap.objs.size+1) (XO C s.heap.objs.size none (s.heap.objs.size+1))) (fun v H'=>v=.non∧Q (.ref (s.heap.objs.size+1)) H') E0:=by
    refine ⟨_,C,s.heap.objs.size,f,cd,y,rfl,uS_,M.cls,ht,fun dx h1 h2=>⟨rfl,?_⟩⟩
    have hdt:dx≠s.heap.objs.size:=fun z=>by rw [upd_ne h2,z,uS_] at h1;cases h1
    rw [upd_ne h2,upd_ne hdt] at h1
    exact h _ _ dx (I.hok.fresh (Nat.le_succ _)) (I.hok.fresh (Nat.le_refl _)) h1 (Nat.le_trans I.sz (Nat.le_succ _)) (Nat.ne_of_gt (Nat.lt_succ_self _)) hdt h2
  refine make_exc I.kIn hC tl M.init M.fn (by show 1≤sizeLine;rw [sizeLine_eq];decide) ?_
  refine codeAny_mono (F.run _ X.stack _ _ ⟨[.ref (s.heap.objs.size+1),u],[]⟩ [.ref (s.heap.objs.size+1),u] [.ref (s.heap.objs.size+1),y] _ E0 (hr.make C [u] []) (I2.env0.make C [u] []) (by simpa using hb _ [.ref (s.heap.objs.size+1),u] I2.kIn (by rw [hps];rfl)) (.cons rfl (.cons r .nil)) hsp) fun r s' hq=>?_
  cases r with
  | error e=>exact hq.elim
  | ok fl =>
    cases fl with
    | ret u' =>
      obtain ⟨v,H',I3,rv,ev,q3⟩:=I2.after hq
      subst ev
      exact ⟨rv,_,_,rfl,I3,q3⟩
    | next=>exact False.elim hq
    | brk=>exact False.elim hq
    | cont=>exact False.elim hq
end
theorem raise_x {M:Model} {A:Around} {E:Value→Shared→Prop} {s:Shared} {env:Env} {K:PySem.W.Frag} {C:Addr} {nm q:Str} {N:Addr} {bs bm:List Value} {hdct:Bool} {sn:List Str} {sub:List Value} {ab:Bool} {col:Option Bool} {dd:Option Addr} {k0 k1 k2 k3 k5:Option Value} {newId:String} {x:Sem Value} {Q:Flow→Shared→Prop}
    (hbase:bm.contains (.type "BaseException")=true) (hh:A.handled=none)
    (h:wpAny M A x (fun v s1=>∃ e t dc,v=.ref e∧s1.heap.get? C=some (excClassObj nm q C N bs bm hdct sn sub ab col dd k0 k1 k2 k3 k5 newId)∧s1.heap.get? e=some ⟨.ref C,dc,.fields #[.ref t,.none,.none,.none,.bool false,.none],#[]⟩∧E (.ref e) s1) E s) :
    wpAny M A (raiseStmt env (some x) none) Q E s:=by
  have hcB:(Value.ref C :: bm).contains (.type "BaseException")=true:=by rw [List.contains_cons,hbase,Bool.or_true]
  unfold raiseStmt
  refine wpAny_bind (wpAny_mono h (fun v s1 h1=>?_) fun _ _ z=>z)
  obtain ⟨e,t,dc,rfl,hC,he,hE⟩:=h1
  obtain ⟨hp,g,d,tk,os⟩:=s1
  repeat (first | with_reducible refine wpAny_loadPart_at he ?_ | with_reducible refine wpAny_loadPart_at hC ?_ | (with_reducible refine wpAny_isSubtype_exc hC ?_;rw [hcB]) | wp_step)
  exact wpAny_raiseNew_none hh hE
def tRaise (C:Addr) (n:Str) (E:XK) (te:TE):TS:=fun _ σ H=>tCons te tNil σ H fun vs H1=>∃ y,vs=[y]∧∀ t dx,H1 t=none→H1 dx=none→dx≠t→E (.ref C) (some dx) (upd (upd H1 t (.tup [y])) dx (.xd [(n,y)]))
section
variable {P:Program} {w:World} {K:PySem.W.Frag} {mg:Str→Option Value} {base:Heap} {N:List Str} {qual:Str} {scope:Scope} {fa:Addr} {cd0:Value} {A:Around} {outer:List Env} {s0:Shared} {H0:Hp} {E:XK}
  {C f:Addr} {fd:FuncData} {cd:ClassData} {k:Nat} {n x:Str} {ps:List Str} {a:Expr} {te:TE} {p cpos pos:Pos}
theorem ps_raise (M:XMk K C f cd) (F:FnOk P w K mg base CX0 k f fd ps (spInit K n)) (ht:takerIn K C n=some none)
    (hr:Room (k+1) (A.deeper (envOfC qual scope s0.heap.objs.size fa cd0))) (hb:Binds K fd ps []) (hps:ps.length=2)
    (hg:Gl (cxOf (CX1 P w) P w K mg base N qual scope fa cd0 A outer s0 H0 E) x) (hm:mg x=some (.ref C))
    (he:PE (cxOf (CX1 P w) P w K mg base N qual scope fa cd0 A outer s0 H0 E) a te) (hdb:(x == ("__debug__":Str))=false:=by decide) (hs:starEach [a] (cxOf (CX1 P w) P w K mg base N qual scope fa cd0 A outer s0 H0 E).env=[(false,eval a (cxOf (CX1 P w) P w K mg base N qual scope fa cd0 A outer s0 H0 E).env)]:=by rfl) :
    PS (cxOf (CX1 P w) P w K mg base N qual scope fa cd0 A outer s0 H0 E) (.Raise (some (.Call (.Name x p) [a] [] cpos)) none pos) (tRaise C n E te):=by
  intro pins s σ H D I h
  obtain ⟨nm,q,N',bs,bm,hdct,sn,sub,ab,col,dd,k0,k1,k2,k3,k5,hC,tl,hB⟩:=M.obj
  rw [arm_exec_Raise]
  refine wpAny_bind (wpAny_standAt (raise_x (K:=K) (C:=C) (nm:=nm) (q:=q) (N:=N') (bs:=bs) (bm:=bm) (hdct:=hdct) (sn:=sn) (sub:=sub) (ab:=ab) (col:=col) (dd:=dd) (k0:=k0) (k1:=k1) (k2:=k2) (k3:=k3) (k5:=k5) (newId:="ValueError.__new__") hB hr.hd ?_))
  refine wpAny_bind (thn (Q:=fun v s1=>∃ e H',v=.ref e∧Inv (cxOf (CX1 P w) P w K mg base N qual scope fa cd0 A outer s0 H0 E) pins σ H' s1∧∃ t dx,H' e=some (XO C t (some dx) e)∧s0.heap.objs.size≤e∧E (.ref C) (some dx) (rm H' e)) ?_ fun v s1 h1=>?_)
  · refine wpAny_Call_Name_kw (ld_glob I hg hm ?_ hdb)
    refine callWith_K (h₀:=base) I.ok.mod.kin M.kp (thn (pC_ he pa_nil hs cpos pins s σ H _ I h) fun us s1 hh=>?_) hs rfl
    obtain ⟨vs,H1,I1,r,q1⟩:=hh
    refine ⟨I1.kIn,?_⟩
    obtain ⟨y,rfl,q1⟩:=q1
    obtain ⟨u,rfl,ru⟩:=vals1 r
    refine thn (run_xmake (Q:=fun v H'=>∃ e t dx,v=.ref e∧H' e=some (XO C t (some dx) e)∧s0.heap.objs.size≤e∧E (.ref C) (some dx) (rm H' e)) M F ht hr hb hps I1 ru fun e t dx e1 e2 e3 e4 e5 e6 e7=>⟨e,t,dx,rfl,uS_,e4,?_⟩) fun v s2 hq=>?_
    · have z:=q1 t dx e2 e3 e6
      have eq:rm (upd (upd (upd (upd H1 t (.tup [y])) e (XO C t none e)) dx (.xd [(n,y)])) e (XO C t (some dx) e)) e=upd (upd H1 t (.tup [y])) dx (.xd [(n,y)]):=by
        funext b
        by_cases hb:b=e
        · subst hb
          rw [rm_self,upd_ne (Ne.symm e7),upd_ne e5,e1]
        · rw [rm_ne hb,upd_ne hb]
          by_cases hd:b=dx
          · subst hd;rw [uS_,uS_]
          · rw [upd_ne hd,upd_ne hb,upd_ne hd]
      rw [eq];exact z
    · obtain ⟨e,H',rfl,I2,e',t,dx,ee,h1,h2,h3⟩:=hq
      cases ee
      exact ⟨e,H',rfl,I2,t,dx,h1,h2,h3⟩
  · obtain ⟨e,H',rfl,I1,t,dx,he',hn,q1⟩:=h1
    obtain ⟨hφ,_,_⟩:(s1.heap.get? e=some ⟨.ref C,some dx,.fields #[.ref t,.none,.none,.none,.bool false,.none],#[]⟩)∧_∧_:=I1.hok e _ he'
    exact wpAny_bind (wpAny_standAt (wpAny_pure ⟨e,t,some dx,rfl,I1.kIn _ _ hC,hφ,xe_raise I1 he' hn q1⟩))
end
end L2
namespace L2
open PySem PySem.Spec PyProof.Rows PySem.W
def XC (C dx:Addr) (e:Addr):HO:=.ext fun h=>∃ vs,h.get? e=some ⟨.ref C,some dx,.fields vs,#[]⟩
def blank (N:List Str):St:=N.map fun _=>none
section
variable {X:Cx} {pins:List (Addr × Obj)} {σ:St} {H H':Hp} {s s1:Shared} {B h':Heap} {ea C dx t:Addr} {fl:Value}
theorem Inv.forget {m':Str→Option Value} {tk:Nat} (I:Inv X pins σ H s) (hn:h'.Ns X.env.locals m') (hs:Heap.SameBut X.env.locals s.heap h'):Inv X pins (blank X.N) H { s with heap:=h',toks:=tk }:=by
  have ab:∀ b o,X.s₀.heap.get? b=some o→b≠X.env.locals:=fun b o e=>Nat.ne_of_lt (Nat.lt_of_lt_of_le (Heap.lt_size e) I.ok.above)
  refine ⟨I.ok,I.os,I.bare,⟨fun b o e n hb hx=>(hs.2 b (ab b o e)).trans (I.base.keep b o e n hb hx),fun b o e n hb hx=>?_,I.base.free,fun b o e hx=>?_,I.base.tups,I.base.frzs,I.base.tbls⟩,⟨m',hn,fun i x v e1 e2 _=>?_⟩,fun x c e=>?_,I.free,I.freeC,fun p hp=>?_,fun b o e=>?_,by unfold blank;rw [List.length_map]⟩
  · obtain ⟨sl,z⟩:=I.base.slot b o e n hb hx
    exact ⟨sl,(hs.2 b (ab b o e)).trans z⟩
  · obtain ⟨o',z⟩:=I.base.there b o e hx
    exact ⟨o',(hs.2 b (ab b o e)).trans z⟩
  · unfold blank at e2
    rw [List.getElem?_map] at e2
    cases q:X.N[i]? with
    | none=>rw [q] at e2;cases e2
    | some y=>rw [q] at e2;cases e2
  · obtain ⟨v,z⟩:=I.cell x c e
    exact ⟨v,z.sameBut hs (I.cne x c e)⟩
  · obtain ⟨e,n,ne,nf,d⟩:=I.pin p hp
    exact ⟨(hs.2 p.1 ne).trans e,n,ne,nf,d⟩
  · refine (I.hok b o e).stay (fun c v hc z=>(hs.2 c ?_).trans z) (fun _ z=>z) fun _ _ z=>z
    intro y
    rcases hc with y' | y'
    · rw [← y',y] at e;rw [I.free] at e;cases e
    · rw [y,I.free] at y';cases y'
end
def Cx.tryc (X:Cx) (pn:List (Addr × Obj)) (XE:Value→Shared→Prop):Cx:={ X with pn:=pn,xe:=XE }
def Cx.hand (X:Cx) (e:Addr):Cx:={ X with A:=X.A.mark (some (.ref e)),calm:=false,xe:=fun _ _=>False }
section
variable {X:Cx} {pins pn:List (Addr × Obj)} {σ:St} {H:Hp} {s:Shared} {XE:Value→Shared→Prop} {e:Addr}
theorem tryc_ok (ok:X.Ok):(X.tryc pn XE).Ok :=
  ⟨ok.mod,ok.kind,ok.glob,ok.blt,ok.above,ok.inj,ok.has,ok.cab,ok.hd,ok.frames,ok.stk,ok.exf,ok.bs,ok.bsz,ok.noex,ok.exfs,ok.funs,ok.frf⟩
theorem of_tryc_ok (ok:(X.tryc pn XE).Ok):X.Ok :=
  ⟨ok.mod,ok.kind,ok.glob,ok.blt,ok.above,ok.inj,ok.has,ok.cab,ok.hd,ok.frames,ok.stk,ok.exf,ok.bs,ok.bsz,ok.noex,ok.exfs,ok.funs,ok.frf⟩
theorem hand_ok (ok:X.Ok):(X.hand e).Ok :=
  ⟨ok.mod,ok.kind,ok.glob,ok.blt,ok.above,ok.inj,ok.has,ok.cab,(fun z=>nomatch z),ok.frames,ok.stk,ok.exf,ok.bs,ok.bsz,ok.noex,ok.exfs,ok.funs,ok.frf⟩
theorem of_hand_ok (ok:(X.hand e).Ok) (hd:X.calm=true→X.A.handled=none):X.Ok :=
  ⟨ok.mod,ok.kind,ok.glob,ok.blt,ok.above,ok.inj,ok.has,ok.cab,hd,ok.frames,ok.stk,ok.exf,ok.bs,ok.bsz,ok.noex,ok.exfs,ok.funs,ok.frf⟩
theorem Inv.tryc (I:Inv X pins σ H s):Inv (X.tryc (X.pn++pins) XE) [] σ H s :=
  ⟨tryc_ok I.ok,I.os,I.bare,I.base,I.loc,I.cell,I.free,I.freeC,fun p hp=>I.pin p (by simpa [Cx.tryc] using hp),I.hok,I.len⟩
theorem Inv.of_tryc {pins':List (Addr × Obj)} (I:Inv (X.tryc (X.pn++pins) XE) pins' σ H s):Inv X pins σ H s :=
  ⟨of_tryc_ok I.ok,I.os,I.bare,I.base,I.loc,I.cell,I.free,I.freeC,fun p hp=>I.pin p (List.mem_append_left _ hp),I.hok,I.len⟩
theorem Inv.hand (I:Inv X pins σ H s):Inv (X.hand e) pins σ H s:=⟨hand_ok I.ok,I.os,I.bare,I.base,I.loc,I.cell,I.free,I.freeC,I.pin,I.hok,I.len⟩
theorem Inv.of_hand (I:Inv (X.hand e) pins σ H s) (hd:X.calm=true→X.A.handled=none):Inv X pins σ H s:=⟨of_hand_ok I.ok hd,I.os,I.bare,I.base,I.loc,I.cell,I.free,I.freeC,I.pin,I.hok,I.len⟩
end
end L2
namespace L2
open PySem PySem.Spec PyProof.Rows PySem.W
def XL (K:PySem.W.Frag) (L:Addr):Prop:=∃ (nm q:Str) (N:Addr) (bs bm:List Value) (hdct:Bool) (sn:List Str) (sub:List Value) (ab:Bool) (col:Option Bool) (dd:Option Addr) (k0 k1 k2 k3 k5:Option Value) (nid:String),
  K.lookup L=some (excClassObj nm q L N bs bm hdct sn sub ab col dd k0 k1 k2 k3 k5 nid)∧bm.contains (.type "BaseException")=true
theorem match_exc {M:Model} {A:Around} {E:Value→Shared→Prop} {K:PySem.W.Frag} {s:Shared} {e L C:Addr} {oe:Obj} {b:Bool} {Q:Bool→Shared→Prop} (KI:K.In s.heap) (hL:XL K L) (he:s.heap.get? e=some oe) (hcls:oe.cls=.ref C)
    (hs:mroIn K C (.ref L)=some b) (hq:Q b s):wpAny M A (excMatches (.ref e) (.ref L)) Q E s:=by
  obtain ⟨nm,q,N,bs,bm,hdct,sn,sub,ab,col,dd,k0,k1,k2,k3,k5,nid,hl,hbase⟩:=hL
  have hC:=KI _ _ hl
  have hcB:(Value.ref L :: bm).contains (.type "BaseException")=true:=by rw [List.contains_cons,hbase,Bool.or_true]
  have hsub:Looks M s.heap (isSubtype (.ref C) (.ref L)) b:=looks_mroIn KI hs
  have f:=tc_notTuple
  obtain ⟨h,g,d,t,os⟩:=s
  unfold excMatches
  repeat (first | (with_reducible refine wpAny_loadPart_at he ?_;rw [hcls]) | with_reducible refine wpAny_loadPart_at hC ?_ | (with_reducible refine wpAny_isSubtype_exc hC ?_;rw [hcB]) | with_reducible refine Looks.here (s:=⟨h,g,d,t,os⟩) hsub ?_ | wp_step)
  cases b <;> (wp_walk;exact hq)
end L2
namespace L2
open PySem PySem.Spec PyProof.Rows PySem.W PySem.Builtin PySem.Builtin.ObjectAttr
structure XGet (K:PySem.W.Frag) (C:Addr) (n:Str):Prop where
  ga:findIn K (.ref C) "__getattribute__"=some (some (.builtin "BaseException.__getattribute__"))
  gt:findIn K (.ref C) "__getattr__"=some none
  no:findIn K (.ref C) n=some none
  hd:hasDictIn K C=true
  up:mroIn K C (.type "BaseException")=some true
theorem get_exc {prog:Program} {w:World} {A:Around} {E:Value→Shared→Prop} {s:Shared} {K:PySem.W.Frag} {e C:Addr} {oe od:Obj} {name:Str} {expr:Bool} {v:Value} {Q:Value→Shared→Prop}
    (KI:K.In s.heap) (I:InstAt s.heap e oe C (some od)) (G:XGet K C name) (hl:lookIn name od=some (some v)) (hv:handedIn v=true) (h:Q v { s with toks:=s.toks+1 }) :
    wpAny (model prog w) A (getAttr (.ref e) name expr) Q E s:=by
  have FB:=PySem.F.attrBase_ValueError
  have hf:findObj K C (some od) name=some (.value v):=findObj_own G.hd G.no rfl hl
  obtain ⟨hh,g,d,t,os⟩:=s
  have T:=I.type (M:=model prog w)
  have G1:=looks_findIn (M:=model prog w) KI G.ga
  have G2:=looks_findIn (M:=model prog w) KI G.gt
  have G3:=looks_find (M:=model prog w) KI I hf
  have isB:Looks (model prog w) hh (isInstance (.ref e) (.type "BaseException")) true:=T.andThen (looks_mroIn KI G.up)
  unfold getAttr getAttrBy
  refine wpAny_bind (wpAny_mkText (wpAny_holding (wpAny_bind (T.at (wpAny_bind (G1.at ?_))))))
  dsimp only
  have no:(Value.builtin "BaseException.__getattribute__" == Value.builtin "object.__getattribute__")=false:=by decide +kernel
  rw [no,Bool.and_false,if_neg Bool.false_ne_true]
  unfold getAttrByItsOwn hookBefore
  rw [if_pos (by rfl)]
  refine wpAny_bind (G2.at (wpAny_bind (wpAny_attempt (wpAny_holding ?_))))
  unfold callGetattribute
  rw [if_neg (by cases expr <;> decide)]
  unfold boundAndCalled
  rw [FB.ga.bind (.ref e)]
  refine wpAny_bind (wpAny_pure (wpAny_call (codeAny_call_builtin FB.ga.plain F.entry_bexc_ga (@check_slot (model prog w) _ _ ⟨hh,g,d,t+1,os⟩ "BaseException.__getattribute__" "BaseException" "__getattribute__" (.ref e) [.str name t] [] _ (by decide +kernel) (by decide +kernel) isB (F.args_bexc_ga _ _) ?_))))
  unfold Builtin.«object.__getattribute__»
  refine wpAny_bind (m:=slotArgs _ _ _) (wpAny_pure (wpAny_bind (wpAny_pure (wpAny_bind (T.at (wpAny_bind (G3.at (wpAny_pure ?_))))))))
  show wpAny _ _ (handedOut v) _ _ _
  rw [handedOut_of hv];exact wpAny_pure h
def tXat (K:PySem.W.Frag) (ta:TE) (n:Str):TE:=fun σ H Q=>ta σ H fun x H1=>∃ a C d v,x=.ref a∧H1 a=some (XC C d a)∧H1 d=some (.xd [(n,v)])∧XGet K C n∧Q v H1
section
variable {X:Cx} {e:Expr} {n:Str} {pos:Pos} {ta:TE}
theorem pe_xat (ha:PE X e ta) (hb:attributeBase e n X.env (eval e X.env)=eval e X.env:=by rfl):PE X (.Attribute e n pos) (tXat X.K ta n):=by
  intro pins s σ H Q I h
  refine attr_of hb (thn (ha pins s σ H _ I h) fun u s1 hq=>?_)
  obtain ⟨x,H1,I1,rx,a,C,d,v,rfl,h1,h2,G,q⟩:=hq
  obtain rfl:u=Value.ref a:=rx
  obtain ⟨⟨vs,he⟩,_,_⟩:(∃ vs,s1.heap.get? a=some ⟨.ref C,some d,.fields vs,#[]⟩)∧_∧_:=I1.hok a _ h1
  obtain ⟨mA,hn,hr⟩:∃ mA,s1.heap.Ns1 d mA∧∀ f,RelO (List.lookup f [(n,v)]) (mA f):=I1.hok d _ h2
  obtain ⟨od,ho,hlk⟩:=lookIn_ns hn
  obtain ⟨u,hu,ru⟩:=RelO.some_of (v:=v) (o:=mA n) (by have:=hr n;simpa [List.lookup_cons] using this)
  exact get_exc I1.kIn (oe:=⟨.ref C,some d,.fields vs,#[]⟩) ⟨he,rfl,rfl,ho⟩ G (by rw [hlk,hu]) (handed_of ru) ⟨v,H1,I1.tok _,ru,q⟩
theorem kit_yes {K:PySem.W.Frag} {x t c:Value} {H:Heap→Prop} (ty:∀ (M:Model) (h:Heap),K.In h→H h→Looks M h (typeOf x) t) (e:kitOne K t c=some true):Answers (fun s=>K.In s.heap∧H s.heap) x c true:=by
  intro dep tk prog w A R s hs
  obtain ⟨h0,g,d,t0,os⟩:=s
  obtain ⟨⟨KI,p⟩,hq⟩:=hs
  have T:=ty (model prog w) h0 KI p
  unfold kitOne at e
  unfold Builtin.«isinstance.nested»
  refine wpAny_bind (T.at ?_)
  by_cases q:(t == c)=true
  · rw [if_pos q]
    exact wpAny_bind (wpAny_rule (wpAny_pure (hq t0)))
  · rw [if_neg q] at e ⊢
    obtain ⟨h1,h2,h3⟩:=kit_cls (M:=model prog w) KI e
    have J:Looks (model prog w) h0 (isInstance x c) true:=T.andThen h3
    refine wpAny_bind (h1.at ?_)
    rw [if_pos (by decide)]
    k_delta "plainIsInstance"
    refine wpAny_bind (wpAny_bind (h2.at ?_))
    simp only [Bool.not_true,Bool.false_eq_true,if_false]
    refine wpAny_bind (J.at ?_)
    first
      | exact wpAny_pure (wpAny_pure (hq t0))
      | (simp only [if_true];first | exact wpAny_pure (wpAny_pure (hq t0)) | exact wpAny_pure (hq t0) | exact wpAny_bind (wpAny_pure (wpAny_pure (hq t0))))
end
end L2
namespace L2
open PySem PySem.Spec PyProof.Rows PySem.W
section
variable {X:Cx}
def rRemP:V→List V→Hp→VK→Prop:=fun x vs H Q=>∃ z y,x=.str z∧vs=[.str y]∧z.length≤sizeLine∧Q (.str (Txt.removeprefix z y)) H
theorem mt_removeprefix:MtR X "str.removeprefix" rRemP:=by
  intro pins s σ H x xs v us Q I rx rs h
  obtain ⟨z,y,rfl,rfl,hz,q⟩:=h
  obtain ⟨t,rfl⟩:=rx
  obtain ⟨u,rfl,⟨t',rfl⟩⟩:=vals1 rs
  exact SC.removeprefix (fun t' k=>⟨.str _,H,I.tok _,⟨_,rfl⟩,q⟩) hz
theorem call_int_text:CallR X (.type "int") (fun xs H Q=>∃ x n,xs=[.str x]∧PySem.intText? x=some n∧x.length≤640∧Q (.int n) H):=by
  intro pins s σ H xs us Q I r h
  obtain ⟨x,n,rfl,hn,hl,q⟩:=h
  obtain ⟨u,rfl,t,rfl⟩:=vals1 r
  exact KIN.call_text hn hl ⟨.int n,H,I.tok _,⟨_,rfl⟩,q⟩
end
structure XTx (K:PySem.W.Frag) (C f:Addr) (fd:FuncData) (n qual:Str) (st:Stmt):Prop where
  made:∃ cd,XMk K C f cd
  tk:takerIn K C n=some none
  get:XGet K C n
  val:kitOne K (.ref C) (.type "ValueError")=some true
  ini:∃ (oc:Value) (od:Option Addr) (dV kV doc pm:Value) (an:Option Addr) (cdv ct:Value) (osl:Array (Option Value)),
    fd=fnOf "__init__" qual (defArgs st) (defBody st) (defScope st) dV kV doc pm an cdv ct∧K.lookup f=some ⟨oc,od,.func fd,osl⟩∧codeIn K cdv qual=true
  bd:Binds K fd ["self",n] []
theorem tail1 {K:PySem.W.Frag} {L N:Addr} {c0 oN:Value} {d0 dN:Option Addr} {cd:ClassData} {sl sN:Array (Option Value)} {eN:Array DictEntry} {nN:Nat} (hL:K.lookup L=some ⟨c0,d0,.cls cd,sl⟩) (hN:cd.ns=N) (nl:K.lookup N=some ⟨oN,dN,.dict eN nN,sN⟩)
    (ke:(eN.toList.all fun e=>match e.key with | .str _ _=>true | _=>false)=true) (ni:nsIn K N "__init__"=some none):tailIn K vErr (.ref L :: vErr)=true:=by
  have h1:nsOkIn K N=true:=by unfold nsOkIn;rw [nl];dsimp only;rw [← Array.all_toList];exact ke
  have h2:tailIn K vErr vErr=true:=by unfold tailIn vErr;simp
  unfold tailIn
  dsimp only
  rw [hL]
  dsimp only
  rw [hN,h1,ni,h2]
  simp
theorem xtx_mk {K:PySem.W.Frag} {C L f N N':Addr} {nm q nm' q' n qual:Str} {bs bs':List Value} {hdct:Bool} {sn sn':List Str} {sub sub':List Value} {ab ab':Bool} {col col':Option Bool} {dd dd':Option Addr} {k0 k1 k2 k3 k5 k0' k1' k2' k3' k5':Option Value} {nid:String}
    {st:Stmt} {od an dN:Option Addr} {osl sN:Array (Option Value)} {oc dV kV doc pm cdv ct oN:Value} {eN:Array DictEntry} {nN:Nat}
    (hC:K.lookup C=some (excClassObj nm q C N bs (.ref L :: vErr) true sn sub ab col dd k0 k1 k2 k3 k5 "ValueError.__new__"))
    (hL:K.lookup L=some (excClassObj nm' q' L N' bs' vErr hdct sn' sub' ab' col' dd' k0' k1' k2' k3' k5' nid))
    (nl:K.lookup N'=some ⟨oN,dN,.dict eN nN,sN⟩) (ke:(eN.toList.all fun e=>match e.key with | .str _ _=>true | _=>false)=true) (ni:nsIn K N' "__init__"=some none)
    (hi:findIn K (.ref C) "__init__"=some (some (.ref f))) (hf:typeIn K (.ref f)=some (.type "function"))
    (l0:K.lookup f=some ⟨oc,od,.func (fnOf "__init__" qual (defArgs st) (defBody st) (defScope st) dV kV doc pm an cdv ct),osl⟩) (c0:codeIn K cdv qual=true)
    (hs:findIn K (.ref C) "__setattr__"=some (some (.builtin "object.__setattr__")))
    (hg:findIn K (.ref C) "__getattribute__"=some (some (.builtin "BaseException.__getattribute__"))) (hg2:findIn K (.ref C) "__getattr__"=some none)
    (hat:findIn K (.ref C) n=some none) (htk:takerIn K C n=some none) (hkp:keepIn K (.ref C)=true) (hhd:hasDictIn K C=true) (hm1:mroIn K C (.type "BaseException")=some true) (hk:subIn K (.ref C) (.type "ValueError")=some true)
    (hb:∀ (s:Shared) (us:List Value),K.In s.heap→us.length=2→BindsTo s (fnOf "__init__" qual (defArgs st) (defBody st) (defScope st) dV kV doc pm an cdv ct) ⟨us,[]⟩ (List.zip (["self",n]:List Str) us)) :
    XTx K C f (fnOf "__init__" qual (defArgs st) (defBody st) (defScope st) dV kV doc pm an cdv ct) n qual st∧XL K L:=by
  have hcls:clsIn K C=some { name:=nm,bases:=bs,mro:=.ref C :: .ref L :: vErr,ns:=N,qualname:=q,hasDict:=true,slotNames:=sn,subclasses:=sub,abstract:=ab,collection:=col,hasDel:=false }:=by
    unfold clsIn;rw [hC]
  refine ⟨⟨⟨_,⟨⟨hcls,rfl,⟨[.ref C,.ref L],rfl,?_⟩,hs⟩,⟨nm,q,N,bs,_,_,sn,sub,ab,col,dd,k0,k1,k2,k3,k5,hC,tail1 hL rfl nl ke ni,by rw [List.contains_cons,Bool.or_eq_true];exact .inr (by decide)⟩,hi,hf,hkp⟩⟩,htk,⟨hg,hg2,hat,hhd,hm1⟩,?_,⟨oc,od,dV,kV,doc,pm,an,cdv,ct,osl,rfl,l0,c0⟩,fun s us kin hl=>by rw [List.append_nil] at hl ⊢;exact hb s us kin hl⟩,
    ⟨nm',q',N',bs',_,hdct,sn',sub',ab',col',dd',k0',k1',k2',k3',k5',nid,hL,by decide⟩⟩
  · intro v hv
    simp at hv
    rcases hv with rfl | rfl
    · exact ⟨_,rfl⟩
    · exact ⟨_,rfl⟩
  · unfold kitOne
    rw [if_neg (by simp)]
    unfold kitCls
    dsimp only
    rw [if_pos (by decide +kernel)]
    exact hk
theorem XTx.init {P:Program} {w:World} {K:PySem.W.Frag} {mg:Str→Option Value} {base:Heap} {C f:Addr} {fd:FuncData} {n qual:Str} {st:Stmt} (T:XTx K C f fd n qual st) (S:FnScope ["self",n] ["self",n] (defScope st))
    (hbody:∀ X:Cx,X.N=(["self",n]:List Str)→X.env.scope=defScope st→X.K=K→PSs X (defBody st) (sXf K (tVar 0) (tVar 1) n)):FnOk P w K mg base CX0 1 f fd ["self",n] (spInit K n):=by
  obtain ⟨oc,od,dV,kV,doc,pm,an,cdv,ct,osl,rfl,lk,hcd⟩:=T.ini
  refine fn_of lk hcd S (fun vs H Q E h=>?_) fun A outer s H vs Q E hr h=>?_
  · obtain ⟨a,C',t,f',cd,y,rfl,_⟩:=h;rfl
  · obtain ⟨a,C',t,f',cd,y,rfl,ha,xc,tk,q⟩:=h
    exact ⟨_,hbody _ rfl rfl rfl,_,rfl,_,rfl,a,C',t,cd,f',rfl,ha,xc,tk,fun dx h1 h2=>q dx h1 h2⟩
theorem Fun.ok1 {P:Program} {w:World} {K:PySem.W.Frag} {mg:Str→Option Value} {base:Heap} {x qual:Str} {st:Stmt} {f:Addr} {fd:FuncData} {N ps:List Str} {k:Nat} {sp:Sp} (F:Fun K x qual st f fd) (S:FnScope N ps (defScope st)) (len:∀ vs H Q E,sp vs H Q E→vs.length=ps.length)
    (hbody:∀ (cdv:Value) (A:Around) (outer:List Env) (s:Shared) (H:Hp) (vs:List V) (Q:VK) (E:XK),Room k (A.deeper (envOfC qual (defScope st) s.heap.objs.size f cdv))→sp vs H Q E →
      ∃ t,PSs (cxOf (CX1 P w) P w K mg base N qual (defScope st) f cdv A outer s H E) (defBody st) t∧t { nx:=fun _ H'=>Q .non H',rt:=Q } (start N vs) H):FnOk P w K mg base (CX1 P w) (k+1) f fd ps sp:=by
  obtain ⟨oc,od,kV,doc,pm,an,cdv,ct,osl,rfl,lk,hcd⟩:=F.ex
  exact fn_of lk hcd S len fun A outer s H vs Q E hr hsp=>hbody cdv A outer s H vs Q E hr hsp
end L2
namespace L2
open PySem PySem.Spec PyProof.Rows PySem.W
def PassesAt (CX:CXT) (X:Cx) (E:XK) (σ0:St):Prop:=∀ (pins:List (Addr × Obj)) (H:Hp) (s:Shared) (e:Value) (s':Shared),Inv X pins σ0 H s→CX X.stack H s E e s'→X.xe e s'
def tAt (σ0:St) (t:TE):TE:=fun σ H Q=>σ=σ0∧t σ H Q
section
variable {X:Cx} {CX:CXT} {k:Nat} {f:Addr} {fd:FuncData} {ps:List Str} {sp:Sp} {dvs:List V} {ds:List Value} {E:XK} {x:Str} {p pos:Pos} {e:Expr} {es:List Expr} {t:TA} {σ0:St}
theorem pe_callA (F:FnOk X.prog X.w X.K X.mg X.base CX k f fd ps sp) (hr:Room k X.A) (hg:Gl X x) (hm:X.mg x=some (.ref f)) (hk:keepIn X.K (.ref f)=true) (hb:Binds X.K fd ps ds) (hd:Vals dvs ds) (hx:PassesAt CX X E σ0)
    (ha:PA X (e :: es) t) (hdb:(x == ("__debug__":Str))=false:=by decide) (he:starEach (e :: es) X.env=(false,eval e X.env) :: starEach es X.env:=by rfl) (hpl:(backTo pos (starEach es X.env)).any (·.1)=false:=by rfl) :
    PE X (.Call (.Name x p) (e :: es) [] pos) (tAt σ0 (tCall sp dvs E t)):=by
  intro pins s σ H Q I hh
  obtain ⟨rfl,h⟩:=hh
  refine wpAny_Call_Name_kw (ld_glob I hg hm ?_ hdb)
  refine callWith_K (h₀:=X.base) I.ok.mod.kin hk (thn (ha pos pins s σ H _ I h) fun us s1 hq=>?_) he hpl
  obtain ⟨vs,H1,I1,r,q⟩:=hq
  refine ⟨I1.kIn,?_⟩
  have r2:Vals (vs++dvs) (us++ds):=r.append hd
  have q':sp (vs++dvs) H1 Q E:=q
  have hl:(us++ds).length=ps.length:=r2.length ▸ F.len _ _ _ _ q'
  refine wpAny_call (codeAny_mono (F.run X.A X.stack s1 H1 ⟨us,[]⟩ (us++ds) (vs++dvs) Q E hr I1.env0 (hb s1 us I1.kIn hl) r2 q') fun r s' z=>?_)
  match r,z with
  | .error e,z=>exact hx pins H1 s1 e s' I1 z
  | .ok (.ret u),z=>exact I1.after z
  | .ok .next,z=>exact z.elim
  | .ok .brk,z=>exact z.elim
  | .ok .cont,z=>exact z.elim
end
section
variable {X:Cx} {pins:List (Addr × Obj)} {σ σ2:St} {H:Hp} {s:Shared} {h':Heap}
theorem Inv.renamed {m':Str→Option Value} {tk:Nat} (I:Inv X pins σ H s) (hn:h'.Ns X.env.locals m') (hs:Heap.SameBut X.env.locals s.heap h') (hl:σ2.length=X.N.length)
    (hσ:∀ (i:Nat) (x:Str) (v:V),X.N[i]?=some x→σ2[i]?=some (some v)→Vis X.env.scope x→∃ u,RelV v u∧Look X.env h' m' x u):Inv X pins σ2 H { s with heap:=h',toks:=tk }:=by
  have J:=I.forget (tk:=tk) hn hs
  exact ⟨J.ok,J.os,J.bare,J.base,⟨m',hn,hσ⟩,J.cell,J.free,J.freeC,J.pin,J.hok,hl⟩
theorem name_goes {M:Model} {A:Around} {E:Value→Shared→Prop} {n:Str} {j:Nat} {pos:Pos} {Q:Unit→Shared→Prop} (I:Inv X pins σ H s) (hnd:X.N.Nodup) (hj:X.N[j]?=some n) (hk:X.env.kindOf n=some .local)
    (h:∀ s',Inv X pins (σ.set j none) H s'→Q () s'):wpAny M A (do bindName X.env n .none;unbindBehindTheSuite X.env n pos) Q E s:=by
  refine wpAny_bind (wpAny_bindName (store_ok (i:=j) (v:=.non) (u:=Value.none) I hnd hj (.inl hk) rfl (fun s1 I1=>?_) (.inr hk)))
  unfold unbindBehindTheSuite
  refine wpAny_onRaise ?_
  obtain ⟨m,hm,hl⟩:=I1.loc
  have hjl:j < σ.length:=by rw [I.len];exact (List.getElem?_eq_some_iff.mp hj).1
  obtain ⟨u,ru,lk⟩:=hl j n .non hj (by rw [List.getElem?_set_self hjl]) (.inl hk)
  have hmn:m n=some u:=by
    rcases lk with ⟨_,z⟩ | ⟨z,_⟩
    · exact z
    · rw [hk] at z;rcases z with z | z <;> cases z
  have kk:(X.env.scope.kind == .class || (X.env.scope.kind == .module&&X.env.locals != X.env.globals))=false:=by rw [I1.ok.kind];rfl
  refine wpAny_unbindName_local hk hm hmn kk fun h' u' hn' hs'=>h _ (I1.renamed hn' hs' (by rw [List.length_set];exact I.len) fun i y v e1 e2 e3=>?_)
  by_cases hij:i=j
  · subst hij
    rw [List.getElem?_set_self hjl] at e2
    cases e2
  · rw [List.getElem?_set_ne (Ne.symm hij)] at e2
    have e2':(σ.set j (some .non))[i]?=some (some v):=by rw [List.getElem?_set_ne (Ne.symm hij)];exact e2
    obtain ⟨u2,r2,l2⟩:=hl i y v e1 e2' e3
    have hyn:y≠n:=fun z=>hij (nodup_ix hnd e1 (z ▸ hj))
    refine ⟨u2,r2,?_⟩
    rcases l2 with ⟨z1,z2⟩ | ⟨z1,c,z2,z3⟩
    · exact .inl ⟨z1,(if_neg hyn).trans z2⟩
    · exact .inr ⟨z1,c,z2,z3.sameBut hs' (I1.cne y c z2)⟩
end
end L2
namespace L2
open PySem PySem.Spec PyProof.Rows
section
variable {κ:Type} [DecidableEq κ]
def valV (kvs:List (κ × V)) (k:κ):Option V:=(kvs.find? fun kv=>decide (kv.1=k)).map (·.2)
def putK (kvs:List (κ × V)) (k:κ) (v:V):List (κ × V) :=
  if (kvs.any fun kv=>decide (kv.1=k))=true then kvs.map (fun kv=>if kv.1=k then (kv.1,v) else kv) else kvs++[(k,v)]
theorem valV_pos {p:κ × V} {r:List (κ × V)} {k:κ} (e:p.1=k):valV (p :: r) k=some p.2:=by simp [valV,List.find?_cons,e]
theorem valV_neg {p:κ × V} {r:List (κ × V)} {k:κ} (e:¬ p.1=k):valV (p :: r) k=valV r k:=by simp [valV,List.find?_cons,e]
theorem length_putK (kvs:List (κ × V)) (k:κ) (v:V):(putK kvs k v).length≤kvs.length+1:=by
  unfold putK
  split
  · rw [List.length_map];omega
  · rw [List.length_append,List.length_cons,List.length_nil];omega
theorem KV.val {kvs:List (κ × V)} {vs:List (κ × Value)} (r:KV kvs vs) (k:κ):RelO (valV kvs k) (valueAt vs k):=by
  unfold KV at r
  induction r with
  | nil=>exact True.intro
  | @cons p q ps qs h t ih =>
    obtain ⟨h1,h2⟩:=h
    by_cases e:p.1=k
    · have e':q.1=k:=h1.symm.trans e
      have b:valueAt (q :: qs) k=some q.2:=by simp [valueAt,List.find?_cons,e']
      rw [valV_pos e,b];exact h2
    · have e':¬ q.1=k:=fun z=>e (h1.trans z)
      have b:valueAt (q :: qs) k=valueAt qs k:=by simp [valueAt,List.find?_cons,e']
      rw [valV_neg e,b];exact ih
theorem KV.any {kvs:List (κ × V)} {vs:List (κ × Value)} (r:KV kvs vs) (k:κ):(kvs.any fun kv=>decide (kv.1=k))=vs.any fun kv=>decide (kv.1=k):=by
  unfold KV at r
  induction r with
  | nil=>rfl
  | cons h t ih=>rw [List.any_cons,List.any_cons,ih,h.1]
theorem KV.repl {kvs:List (κ × V)} {vs:List (κ × Value)} (r:KV kvs vs) (k:κ) {y:V} {u:Value} (ry:RelV y u) :
    KV (kvs.map fun kv=>if kv.1=k then (kv.1,y) else kv) (vs.map fun kv=>if kv.1=k then (kv.1,u) else kv):=by
  unfold KV at r ⊢
  induction r with
  | nil=>exact .nil
  | @cons p q ps qs h t ih =>
    rw [List.map_cons,List.map_cons]
    refine .cons ?_ ih
    obtain ⟨h1,h2⟩:=h
    by_cases e:p.1=k
    · rw [if_pos e,if_pos (h1.symm.trans e)];exact ⟨h1,ry⟩
    · rw [if_neg e,if_neg (fun z=>e (h1.trans z))];exact ⟨h1,h2⟩
theorem KV.put {kvs:List (κ × V)} {vs:List (κ × Value)} (r:KV kvs vs) (k:κ) {y:V} {u:Value} (ry:RelV y u):KV (putK kvs k y) (stored vs k u):=by
  unfold putK stored
  rw [r.any k]
  by_cases e:(vs.any fun kv=>decide (kv.1=k))=true
  · rw [if_pos e,if_pos e];exact r.repl k ry
  · rw [if_neg e,if_neg e];exact Paired.snoc r ⟨rfl,ry⟩
end
theorem kV_is {P:Program} {w:World} {k:Key} {u:Value} (r:RelV (kV k) u):(mixKind P w).is k u=true:=by
  cases k with
  | inl i=>obtain ⟨t,e⟩:=(show ∃ t,u=Value.int i t from r);subst e;exact mixKind_int P w i t
  | inr x=>obtain ⟨t,e⟩:=(show ∃ t,u=Value.str x t from r);subst e;exact mixKind_str P w x t
theorem items_are {P:Program} {w:World}:∀ {ks:List Key} {us:List Value},Vals (ks.map kV) us→ItemsAre (mixKind P w) ks us
  | [],_,r=>by rw [List.map_nil] at r;cases r;exact .nil
  | k :: ks,_,r=>by
    rw [List.map_cons] at r
    cases r with
    | cons h t=>exact .cons (kV_is h) (items_are t)
abbrev KT (H:Hp):List (List Key × V)→List (List Key × Addr × Value)→Prop:=Paired fun p q=>p.1=q.1∧H q.2.1=some (.tup (p.1.map kV))∧RelV p.2 q.2.2
theorem KT.val {H:Hp} {kvs:List (List Key × V)} {xs:List (List Key × Addr × Value)} (r:KT H kvs xs) (k:List Key):RelO (valV kvs k) ((atKey xs k).map (·.2)):=by
  induction r with
  | nil=>exact True.intro
  | @cons p q ps qs h t ih =>
    obtain ⟨h1,_,h2⟩:=h
    by_cases e:p.1=k
    · have e':q.1=k:=h1.symm.trans e
      have b:atKey (q :: qs) k=some q.2:=by simp [atKey,List.find?_cons,e']
      rw [valV_pos e,b];exact h2
    · have e':¬ q.1=k:=fun z=>e (h1.trans z)
      have b:atKey (q :: qs) k=atKey qs k:=by simp [atKey,List.find?_cons,e']
      rw [valV_neg e,b];exact ih
section
variable {P:Program} {w:World} {H:Hp} {h:Heap} {a:Addr}
theorem rd_of {u:HO} (ok:HOk P w H h) (e:Rd H a u):ObjOk P w H h a u:=e.ok ok
theorem dk_rd {kvs:List (Key × V)} (ok:HOk P w H h) (e:Rd H a (.dK kvs)):kvs.length≤sizeLine∧(a == sysModules)=false∧∃ vs,KV kvs vs∧h.DictOf (mixKind P w) a vs :=
  show ObjOk P w H h a (.dK kvs) from rd_of ok e
theorem dk_of {kvs:List (Key × V)} (ok:HOk P w H h) (e:H a=some (.dK kvs)):kvs.length≤sizeLine∧(a == sysModules)=false∧∃ vs,KV kvs vs∧h.DictOf (mixKind P w) a vs:=dk_rd ok (.inl e)
theorem key_of {ks:List Key} (ok:HOk P w H h) (e:H a=some (.tup (ks.map kV))):(tupleKind (mixKind P w)).is h ks a:=by
  obtain ⟨_,its,r,o,h1,h2,n,h3⟩:=(show ObjOk P w H h a (.tup (ks.map kV)) from ok a _ e)
  exact ⟨o,its.toArray,n,h1,h2,h3,by simpa using items_are r⟩
theorem dt_rd {kvs:List (List Key × V)} (ok:HOk P w H h) (e:Rd H a (.dT kvs)):kvs.length≤sizeLine∧(a == sysModules)=false ∧
    ∃ xs,KT H kvs xs∧h.DictOfH (tupleKind (mixKind P w)) a xs:=by
  obtain ⟨z,y,xs,r,o,es,ep,h1,h2,h3,h4,h5⟩:=(show ObjOk P w H h a (.dT kvs) from rd_of ok e)
  refine ⟨z,y,xs,r,o,es,ep,h1,h2,h3,h4,fun x hx=>?_,h5⟩
  have all:∀ {l:List (List Key × V)} {m:List (List Key × Addr × Value)},KT H l m→∀ x ∈ m,(tupleKind (mixKind P w)).is h x.1 x.2.1:=by
    intro l m q
    induction q with
    | nil=>intro x hx;exact nomatch hx
    | @cons p q ps qs hq t ih =>
      intro x hx
      rcases List.mem_cons.mp hx with e | hx
      · subst e
        exact key_of ok (by rw [← hq.1];exact hq.2.1)
      · exact ih x hx
  exact all r x hx
end
def DGet (H:Hp) (a:Addr) (y:V) (r:Option V):Prop :=
  (∃ kvs k,Rd H a (.dK kvs)∧y=kV k∧r=valV kvs k)∨∃ kvs k b,Rd H a (.dT kvs)∧y=.ref b∧H b=some (.tup (k.map kV))∧r=valV kvs k
theorem DGet.k {H:Hp} {a:Addr} {kvs:List (Key × V)} {k:Key} (e:H a=some (.dK kvs)):DGet H a (kV k) (valV kvs k):=.inl ⟨kvs,k,.inl e,rfl,rfl⟩
section
variable {X:Cx} {pins:List (Addr × Obj)} {σ:St} {H:Hp} {s:Shared} {a:Addr} {y v:V} {u r:Value} {o:Option V} {A:Around} {E:Value→Shared→Prop}
theorem Inv.big (I:Inv X pins σ H s):sysModules < s.heap.objs.size:=by
  have h:mainGlobals < s.heap.objs.size:=(I.mod.glob.keeps I.bk).lt
  exact Nat.lt_trans (by decide) h
theorem d_getItem {Q:Value→Shared→Prop} (hu:A.units+1 < cLine) (I:Inv X pins σ H s) (g:DGet H a y (some v)) (ry:RelV y u) (h:∀ w' s',Inv X pins σ H s'→RelV v w'→Q w' s') :
    wpAny (model X.prog X.w) A (getItem (.ref a) u) Q E s:=by
  rcases g with ⟨kvs,k,e,ey,l⟩ | ⟨kvs,k,b,e,ey,eb,l⟩
  · subst ey
    obtain ⟨z,hd,vs,rel,dd⟩:=dk_rd I.hok e
    obtain ⟨w',hw,rw'⟩:=RelO.some_of (v:=v) (o:=valueAt vs k) (by rw [l];exact rel.val k)
    exact wpAny_getItem_of (kV_is ry) dd.mapOf hw (h w' _ (I.tok _) rw')
  · subst ey
    cases (show u=Value.ref b from ry)
    obtain ⟨z,hd,xs,rel,dd⟩:=dt_rd I.hok e
    obtain ⟨w',hw,rw'⟩:=RelO.some_of (v:=v) (o:=(atKey xs k).map (·.2)) (by rw [l];exact rel.val k)
    obtain ⟨p,hp,hp2⟩:=Option.map_eq_some_iff.mp hw
    refine wpAny_getItem_heap (tupleKind_room_in1 hu) (key_of I.hok eb) dd hp ?_
    rw [hp2]
    exact h w' _ (I.tok _) rw'
theorem d_write {h':Heap} {t':Nat} {ob:HO} (I:Inv X pins σ H s) (mu:Mut (H a)) (hs:Heap.SameBut a s.heap h') (he:∃ q,h'.get? a=some q) (new:ObjOk X.prog X.w (upd H a ob) h' a ob) :
    Inv X pins σ (upd H a ob) { s with heap:=h',toks:=t' } :=
  I.write (x:=a) (e:=a) mu (.inl rfl) (fun b q hb z=>(hs.2 b hb).trans z) he new
theorem dk_new {P:Program} {w:World} {H':Hp} {h':Heap} {kvs:List (Key × V)} {vs:List (Key × Value)} (z:kvs.length≤sizeLine) (hd:(a == sysModules)=false) (rel:KV kvs vs) (dd:h'.DictOf (mixKind P w) a vs) :
    ObjOk P w H' h' a (.dK kvs):=⟨z,hd,vs,rel,dd⟩
end
def NoSl (i:Expr):Prop:=∀ ov iv,subscripted i false ov iv=operate [ov,iv] (getItem ov iv)
theorem subD_of {prog:Program} {w:World} {A:Around} {E:Value→Shared→Prop} {s:Shared} {env:Env} {value slice:Expr} {pos:Pos} {T id:String} {Q:Value→Shared→Prop}
    (hl:typeLookup (.type T) "__getitem__"=pure (some (.builtin id))) (hs:NoSl slice)
    (h:wpAny (model prog w) A (eval value env) (fun o s₁=>wpAny (model prog w) A (eval slice env) (fun i s₂=>s₂.TypeIs o T∧wpAny (model prog w) A (getItem o i) Q E s₂) E s₁) E s) :
    wpAny (model prog w) A (eval (.Subscript value slice pos) env) Q E s:=by
  refine Subscript_ (wpAny_mono h (fun o s₁ h₁=>wpAny_mono h₁ (fun i s₂ h₂=>?_) fun _ _ x=>x) fun _ _ x=>x)
  obtain ⟨hT,h₂⟩:=h₂
  unfold subscriptTail
  refine wpAny_bind ?_
  rw [getitemInPython_of_ne hT.not_modules]
  refine wpAny_bind (wpAny_specialOf hT hl ?_)
  have fin:wpAny (model prog w) A (subscripted slice false o i) (fun r s₃=>wpAny (model prog w) A (letTemporaryGo value o r >>= fun _=>pure r) Q E s₃) E s₂:=by
    rw [hs o i]
    exact wpAny_operating (wpAny_mono h₂ (fun r s₃ h₃=>wpAny_bind (wpAny_letTemporaryGo (wpAny_pure h₃))) fun _ _ x=>x)
  first
    | exact wpAny_pure (wpAny_bind fin)
    | exact wpAny_bind (wpAny_pure (wpAny_bind fin))
    | exact wpAny_bind fin
theorem dict_typeIs {X:Cx} {pins:List (Addr × Obj)} {σ:St} {H:Hp} {s:Shared} {a:Addr} {y:V} {o:Option V} (I:Inv X pins σ H s) (g:DGet H a y o):s.TypeIs (.ref a) "dict":=by
  rcases g with ⟨kvs,k,e,_,_⟩ | ⟨kvs,k,b,e,_,_,_⟩
  · obtain ⟨_,_,vs,_,dd⟩:=dk_rd I.hok e
    exact dd.typeIs
  · obtain ⟨_,_,xs,_,dd⟩:=dt_rd I.hok e
    exact dd.typeIs
def tDGet (td ty:TE):TE:=fun σ H Q=>td σ H fun x H1=>ty σ H1 fun y H2=>∃ a v,x=.ref a∧DGet H2 a y (some v)∧Q v H2
section
variable {X:Cx} {o i e value:Expr} {pos pos' tpos:Pos} {td ty tv:TE}
theorem pe_dget (hu:X.A.units+1 < cLine) (ho:PE X o td) (hi:PE X i ty) (hs:NoSl i):PE X (.Subscript o i pos) (tDGet td ty):=by
  intro pins s σ H Q I h
  refine subD_of PySem.F.slot_dict_getitem.lookup hs (thn (ho pins s σ H _ I h) fun u s1 ⟨x,H1,I1,rx,q1⟩=>thn (hi pins s1 σ H1 _ I1 q1) fun iv s2 ⟨y,H2,I2,ry,a,v,ex,g,q2⟩=>?_)
  subst ex
  obtain rfl:u=Value.ref a:=rx
  exact ⟨dict_typeIs I2 g,d_getItem hu I2 g ry fun w' s3 I3 rw'=>⟨v,H2,I3,rw',q2⟩⟩
end
theorem dk_empty {P:Program} {w:World} {H:Hp} (h:Heap) (hb:sysModules < h.objs.size):ObjOk P w H (h.push { cls:=.type "dict",data:=.dict #[] }) h.objs.size (.dK []) :=
  ⟨Nat.zero_le _,beq_eq_false_iff_ne.mpr (Ne.symm (Nat.ne_of_lt hb)),[],.nil,Heap.DictOf.new h⟩
def tPairs:List (TE × TE)→St→Hp→(List (V × V)→Hp→Prop)→Prop
  | [],_,H,Q=>Q [] H
  | (tk,tv) :: r,σ,H,Q=>tk σ H fun x H1=>tv σ H1 fun y H2=>tPairs r σ H2 fun ps H3=>Q ((x,y) :: ps) H3
abbrev VV:List (V × V)→List (Value × Value)→Prop:=Paired fun p q=>RelV p.1 q.1∧RelV p.2 q.2
def PPs (X:Cx) (pos:Pos) (keys:List (Option Expr)) (values:List Expr) (trs:List (TE × TE)):Prop :=
  ∀ (pins:List (Addr × Obj)) (s:Shared) (σ:St) (H:Hp) (Q:List (V × V)→Hp→Prop),Inv X pins σ H s→tPairs trs σ H Q →
    wpAny (model X.prog X.w) X.A (evalPairs (pairTrees keys values X.env pos)) (fun vs s'=>∃ ps H',Inv X pins σ H' s'∧VV ps vs∧Q ps H') X.xe s
theorem pps_nil {X:Cx} {pos:Pos}:PPs X pos [] [] []:=fun pins s σ H Q I h=>pairTrees_nil_walk ⟨[],H,I,.nil,h⟩
theorem pps_cons {X:Cx} {pos:Pos} {k v:Expr} {ks:List (Option Expr)} {vs:List Expr} {tk tv:TE} {trs:List (TE × TE)} (hk:PE X k tk) (hv:PE X v tv) (hr:PPs X pos ks vs trs) :
    PPs X pos (some k :: ks) (v :: vs) ((tk,tv) :: trs):=fun pins s σ H Q I h =>
  pairTrees_cons_walk (thn (hk pins s σ H _ I h) fun u s1 ⟨x,H1,I1,rx,q1⟩=>thn (hv pins s1 σ H1 _ I1 q1) fun w2 s2 ⟨y,H2,I2,ry,q2⟩ =>
    thn (hr pins s2 σ H2 _ I2 q2) fun ws s3 ⟨ps,H3,I3,rel,q3⟩=>⟨(x,y) :: ps,H3,I3,.cons ⟨rx,ry⟩ rel,q3⟩)
def mergeK (kvs more:List (Key × V)):List (Key × V):=more.foldl (fun acc kv=>putK acc kv.1 kv.2) kvs
theorem KV.merge:∀ {more:List (Key × V)} {rs:List (Key × Value)} {kvs:List (Key × V)} {vs:List (Key × Value)},KV more rs→KV kvs vs→KV (mergeK kvs more) (merged vs rs):=by
  intro more rs kvs vs r
  unfold KV at r
  induction r generalizing kvs vs with
  | nil=>intro q;exact q
  | @cons p q ps qs h t ih =>
    intro r0
    have e:KV (putK kvs p.1 p.2) (stored vs q.1 q.2):=by
      have:=r0.put p.1 h.2
      rw [← h.1];exact this
    exact ih e
theorem length_mergeK:∀ (more kvs:List (Key × V)),(mergeK kvs more).length≤kvs.length+more.length
  | [],kvs=>by show kvs.length≤kvs.length+0;omega
  | p :: r,kvs=>by
    have h1:=length_mergeK r (putK kvs p.1 p.2)
    have h2:=length_putK kvs p.1 p.2
    show (mergeK (putK kvs p.1 p.2) r).length≤_
    rw [List.length_cons];omega
theorem carries_of {P:Program} {w:World}:∀ {kvs:List (Key × V)} {ws:List (Value × Value)},VV (kvs.map fun kv=>(kV kv.1,kv.2)) ws→∃ rs,Carries (mixKind P w) ws rs∧KV kvs rs
  | [],_,r=>by rw [List.map_nil] at r;cases r;exact ⟨[],True.intro,.nil⟩
  | p :: kvs,_,r=>by
    rw [List.map_cons] at r
    cases r with
    | @cons a b as bs h t =>
      obtain ⟨rs,c,q⟩:=carries_of (P:=P) (w:=w) t
      obtain ⟨b1,b2⟩:=b
      exact ⟨(p.1,b2) :: rs,⟨kV_is h.1,rfl,c⟩,.cons ⟨rfl,h.2⟩ q⟩
def tDisp (trs:List (TE × TE)):TE:=fun σ H Q=>∀ p,H p=none→tPairs trs σ (upd H p (.dK [])) fun ps H2=>H2 p=some (.dK [])∧∃ kvs:List (Key × V),ps=kvs.map (fun kv=>(kV kv.1,kv.2))∧kvs.length≤15∧Q (.ref p) (upd H2 p (.dK (mergeK [] kvs)))
theorem pe_disp {X:Cx} {pos:Pos} {keys:List (Option Expr)} {values:List Expr} {trs:List (TE × TE)} (h:PPs X pos keys values trs) (hall:keys.all (·.isSome)=true) (hl:keys.length=values.length) (h0:keys≠[])
    (h15:keys.length≤15):PE X (.Dict keys values pos) (tDisp trs):=by
  intro pins s σ H Q I q
  have hn:=I.hok.fresh (Nat.le_refl s.heap.objs.size)
  have I1:=I.laid (a:=s.heap.objs.size) (o:=.dK []) (h':=s.heap.push { cls:=.type "dict",data:=.dict #[] }) (t':=s.toks) (fun _ _ q=>Heap.get?_push_of_some _ q) (Nat.le_refl _) (dk_empty s.heap I.big)
  refine wpAny_Dict_walk (knd:=mixKind X.prog X.w) hall hl h0 h15 (thn (h pins _ σ _ _ I1 (q _ hn)) fun ws s2 ⟨ps,H2,I2,rel,e,kvs,ep,lk,q2⟩=>?_)
  subst ep
  obtain ⟨rs,c,rk⟩:=carries_of (P:=X.prog) (w:=X.w) rel
  obtain ⟨z,hd,vs0,r0,dd⟩:=dk_of I2.hok e
  cases r0
  refine ⟨rs,c,dd,fun h' dd' hs=>⟨.ref s.heap.objs.size,_,?_,rfl,q2⟩⟩
  have hz:(mergeK [] kvs).length≤sizeLine:=by
    have h1:=length_mergeK kvs []
    rw [List.length_nil] at h1
    rw [sizeLine_eq];omega
  have he:∃ q,h'.get? s.heap.objs.size=some q:=let ⟨q,_,_,hq,_⟩:=dd';⟨q,hq⟩
  exact d_write I2 (by rw [e];exact True.intro) hs he (dk_new hz hd (rk.merge .nil) dd')
end L2
namespace L2
open PySem PySem.Spec PyProof.Rows PySem.W
end L2
namespace L2
open PySem PySem.Spec PyProof.Rows PySem.W
end L2
namespace L2
open PySem PySem.Spec PyProof.Rows PySem.W
end L2
namespace L2
open PySem PySem.Spec PyProof.Rows PySem.W
end L2
namespace L2
open PySem PySem.Spec PyProof.Rows
section
open AutoSeq1
set_option maxRecDepth 8000
end
end L2
set_option maxRecDepth 100000
namespace L2
open PySem PySem.Spec PyProof.Rows PySem.W PySem.Calls
section
variable {X:Cx} {CX:CXT} {k:Nat} {f:Addr} {fd:FuncData} {ps:List Str} {sp:Sp} {dvs:List V} {ds:List Value} {E:XK} {x:Str} {p pos:Pos} {e:Expr} {es:List Expr} {t:TA}
def KeptAt (K:PySem.W.Frag) (f:Addr) (h:Heap):Prop:=(K.In h∧PySem.W.keepIn K (.ref f)=true)∨PySem.W.FnAt f h
def KeptBy (P:Program) (w:World) (K:PySem.W.Frag) (base:Heap) (f:Addr) (sp:Sp):Prop:=∀ vs H Q E (h:Heap),HOk P w H h→K.In h→(∀ b o,base.get? b=some o→h.get? b=some o)→sp vs H Q E→KeptAt K f h
theorem keeps_at {M:Model} {K:PySem.W.Frag} (h:Heap) (X:KeptAt K f h):∃ k,(k=Keeper.frame∨k=Keeper.machine∨k=Keeper.boundFrame)∧Looks M h (keeperOf (.ref f)) k:=by
  rcases X with ⟨a,b⟩ | a
  · exact PySem.W.keeps_K b h a
  · exact PySem.W.keeps_F h a
def tCallV (i:Nat) (f:Addr) (sp:Sp) (dvs:List V) (E:XK) (t:TA):TE:=fun σ H Q=>σ[i]?=some (some (.ref f))∧t σ H fun vs H1=>sp (vs++dvs) H1 Q E
theorem pe_callV {i:Nat} (F:FnOk X.prog X.w X.K X.mg X.base CX k f fd ps sp) (hr:Room k X.A) (hN:X.N[i]?=some x) (hv:Vis X.env.scope x) (hk:KeptBy X.prog X.w X.K X.base f sp) (hb:Binds X.K fd ps ds) (hd:Vals dvs ds) (hx:Passes CX X E)
    (ha:PA X (e :: es) t) (hdb:(x == ("__debug__":Str))=false:=by decide) (hcd:(x == ("__classdict__":Str))=false:=by decide) (he:starEach (e :: es) X.env=(false,eval e X.env) :: starEach es X.env:=by rfl) (hpl:(backTo pos (starEach es X.env)).any (·.1)=false:=by rfl) :
    PE X (.Call (.Name x p) (e :: es) [] pos) (tCallV i f sp dvs E t):=by
  intro pins s σ H Q I h
  obtain ⟨hs,h⟩:=h
  refine wpAny_Call_Name_kw (thn (pe_var (pos:=p) hN hv hdb hcd pins s σ H (fun v H'=>v=.ref f∧H'=H) I ⟨_,hs,rfl,rfl⟩) fun u s1 ⟨v,H1,I1,r,ev,eh⟩=>?_)
  subst ev eh
  cases r
  have hh:=thn (ha pos pins s1 σ H1 _ I1 h) (Q':=fun us s2=>KeptAt X.K f s2.heap∧wpAny (model X.prog X.w) X.A (call (.ref f) ([]++us)) (EP X pins σ Q) X.xe s2) fun us s2 ⟨vs,H2,I2,r2,q⟩=>⟨hk _ _ _ _ _ I2.hok I2.kIn I2.bk q,run_fn F hr hb hd hx I2 r2 q⟩
  rw [he] at hh
  show wpAny _ _ (callWith pos (.ref f) [] (backTo pos (starEach (e :: es) X.env)) []) _ _ _
  rw [he]
  exact PySem.W.callWith_of (P:=KeptAt X.K f) (by show ((false || (backTo pos (starEach es X.env)).any (·.1)) || false)=false;rw [hpl];rfl) keeps_at (evalArgs_plain hh)
theorem kept_in {P:Program} {w:World} {K:PySem.W.Frag} {base:Heap} {f:Addr} {sp:Sp} (h:PySem.W.keepIn K (.ref f)=true):KeptBy P w K base f sp:=fun _ _ _ _ _ _ k _ _=>.inl ⟨k,h⟩
end
end L2
namespace L2
open PySem PySem.Spec PyProof.Rows PySem.W
section
open AutoSeq1 (wpAny_loadPart')
end
end L2
namespace L2
open PySem PySem.Spec PyProof.Rows PySem.W
section
variable {X:Cx} {e:Expr} {st:Stmt} {te:TE} {tt:TT} {ts:TS}
def sCut (ts:TS):TS:=fun D σ H=>∃ N:St→Hp→Prop,ts { D with nx:=N } σ H∧∀ σ' H',N σ' H'→D.nx σ' H'
theorem ps_cut (hs:PS X st ts):PS X st (sCut ts):=fun pins s σ H D I ⟨N,h,q⟩=>thn (hs pins s σ H { D with nx:=N } I h) fun f s1 z=>by
  cases f with
  | next=>obtain ⟨σ',H',I',z⟩:=z;exact ⟨σ',H',I',q σ' H' z⟩
  | brk=>exact z
  | cont=>exact z
  | ret u=>exact z
end
end L2
namespace L2
open PySem PySem.Spec PyProof.Rows PySem.W
structure Box (p:Prop):Prop where un:p
section
variable {X:Cx} {st:Stmt} {rest:List Stmt} {t u:TS} {e o f:Expr} {te td ty tx:TE} {pos apos cpos:Pos}
theorem bss_cons (h1:Box (PS X st t)) (h2:Box (PSs X rest u)):Box (PSs X (st :: rest) (tSeq t u)):=⟨sC_ h1.un h2.un⟩
theorem bss_one (h1:Box (PS X st t)):Box (PSs X [st] t):=⟨sO_ h1.un⟩
end
end L2
namespace L2
open PySem PySem.Spec PyProof.Rows PySem.W
end L2
namespace L2
open PySem PySem.Spec PyProof.Rows PySem.W
end L2
namespace L2
open PySem PySem.Spec PyProof.Rows PySem.W
end L2
namespace L2
open PySem PySem.Spec PyProof.Rows PySem.W
section
variable {X:Cx}
theorem eqT_items {A:Around} {s:Shared} {xs ys:List V} {its1 its2:List Value} (r1:Vals xs its1) (r2:Vals ys its2) (f1:xs.all flatV=true) (f2:ys.all flatV=true) (j:Nat) (j1:j < its1.toArray.size) (j2:j < its2.toArray.size) :
    SeqAt.EqAt A s its1.toArray[j] its2.toArray[j] (eqV (xs.getD j .non) (ys.getD j .non)):=by
  have l1:j < xs.length:=by rw [r1.length];simpa using j1
  have l2:j < ys.length:=by rw [r2.length];simpa using j2
  obtain ⟨u1,e1,ru1⟩:=r1.get (List.getElem?_eq_getElem l1)
  obtain ⟨u2,e2,ru2⟩:=r2.get (List.getElem?_eq_getElem l2)
  have a1:its1.toArray[j]=u1:=by
    have:its1[j]?=some its1.toArray[j]:=by simp
    rw [e1] at this;exact (Option.some.inj this).symm
  have a2:its2.toArray[j]=u2:=by
    have:its2[j]?=some its2.toArray[j]:=by simp
    rw [e2] at this;exact (Option.some.inj this).symm
  have g1:xs.getD j .non=xs[j]:=by simp [List.getD_eq_getElem?_getD,List.getElem?_eq_getElem l1]
  have g2:ys.getD j .non=ys[j]:=by simp [List.getD_eq_getElem?_getD,List.getElem?_eq_getElem l2]
  rw [a1,a2,g1,g2]
  exact eqAt_V ru1 ru2 (List.all_eq_true.mp f1 _ (List.getElem_mem l1)) (List.all_eq_true.mp f2 _ (List.getElem_mem l2))
theorem eqT_all {xs ys:List V} {its1 its2:List Value} (r1:Vals xs its1) (r2:Vals ys its2) (hl:xs.length=ys.length) :
    ((List.range (min its1.toArray.size its2.toArray.size)).all (fun j=>eqV (xs.getD j .non) (ys.getD j .non))&&its1.toArray.size == its2.toArray.size)=(List.zipWith eqV xs ys).all id:=by
  have e1:its1.toArray.size=xs.length:=by rw [List.size_toArray];exact r1.length.symm
  have e2:its2.toArray.size=xs.length:=by rw [List.size_toArray,← r2.length,hl]
  rw [e1,e2,Nat.min_self,zip_all xs ys hl]
  simp
end
end L2
namespace L2
open PySem PySem.Spec PyProof.Rows PySem.W
section
variable {X:Cx} {e o:Expr} {es:List Expr} {te to:TE} {t:TA} {pos apos cpos:Pos} {name:Str} {T id:String} {r:V→List V→Hp→VK→Prop}
theorem bpa_nil:Box (PA X [] tNil):=⟨pa_nil⟩
theorem bpa_cons (ha:Box (PE X e te)) (hr:Box (PA X es t)) (hs:starEach (e :: es) X.env=(false,eval e X.env) :: starEach es X.env):Box (PA X (e :: es) (tCons te t)):=⟨pC_ ha.un hr.un hs⟩
theorem be_lst (h:Box (PA X es t)):Box (PE X (.List es pos) (tLst t)):=⟨pe_lst h.un⟩
theorem bs_set {i:Nat} {x:Str} {pos':Pos} (hN:X.N.Nodup) (hi:X.N[i]?=some x) (hx:Loc X.env.scope x) (he:Box (PE X e te)) (hs:swapsWith e (some (.Name x pos')) pos.line X.env=pure false) (hf:X.fn x=true∨X.env.scope.names.lookup x=some .local) :
    Box (PS X (.Assign [.Name x pos'] e pos) (tAsg te (gName i))):=⟨zS_ hN hi hx he.un hs hf⟩
end
end L2
namespace L2
open PySem PySem.Spec PyProof.Rows PySem.W
end L2
namespace L2
open PySem PySem.Spec PyProof.Rows PySem.W PySem.Builtin PySem.Builtin.ObjectAttr
section
variable {P:Program} {w:World} {K:PySem.W.Frag} {mg:Str→Option Value} {base:Heap} {N:List Str} {qual:Str} {scope:Scope} {fa:Addr} {cd0:Value} {A:Around} {outer:List Env} {s0:Shared} {H0:Hp} {E:XK}
  {C:Addr} {k:Nat} {x:Str} {p cpos pos:Pos}
end
def XCo (C:Addr) (dx:Option Addr) (e:Addr):HO:=.ext fun h=>∃ vs,h.get? e=some ⟨.ref C,dx,.fields vs,#[]⟩
theorem XCo_ok {P:Program} {w:World} {H:Hp} {h:Heap} {C e:Addr} {dx:Option Addr} {vs:Array Value} (he:h.get? e=some ⟨.ref C,dx,.fields vs,#[]⟩):ObjOk P w H h e (XCo C dx e) :=
  ⟨⟨vs,he⟩,⟨_,he⟩,fun h1 h2 q k=>let ⟨vs,q⟩:=q;⟨vs,k _ q⟩⟩
section
variable {X:Cx} {pins:List (Addr × Obj)} {σ:St} {H H':Hp} {s s1:Shared} {B h':Heap} {ea C t:Addr} {dx:Option Addr} {fl:Value}
theorem inv_catchO (I:Inv X pins σ H s) (x:XUn X.stack H H' s.heap B s1.heap) (ho:s1.os=s.os) (hg:AllBare s1.gens) (F:Fl B X.stack ea (.ref C) dx (.ref t) (some fl) h') (F1:s1.heap.FunFrames B X.stack) (u:s1.heap.UpToSlots h') (hok:HOk X.prog X.w H' B) (hea:s.heap.objs.size≤ea) (hn:H' ea=none) :
    Inv X pins σ H' { s1 with heap:=h' }∧Inv X pins σ (upd H' ea (XCo C dx ea)) { s1 with heap:=h' }:=by
  have fro:∀ b,b ∈ frs X.stack→∀ o,s1.heap.get? b=some o→∀ vs,o.data≠.fields vs:=fun b hb o q vs hd=>by
    obtain ⟨_,o',ho',hn'⟩:=F1.mem hb
    rw [q] at ho';cases ho';exact hn' vs hd
  have x':XUn X.stack H H' s.heap B h':=by
    refine ⟨x.keep,fun b o q n hb=>?_,x.free,x.there,fun b o q hb=>?_,x.tups,x.frzs,x.tbls⟩
    · obtain ⟨sl,z⟩:=x.slot b o q n hb
      obtain ⟨sl2,z2⟩:=u b _ z (fro b hb _ z)
      exact ⟨sl2,z2⟩
    · obtain ⟨o',z⟩:=x.fthere b o q hb
      obtain ⟨sl2,z2⟩:=u b _ z (fro b hb _ z)
      exact ⟨_,z2⟩
  have un:=x'.un F.stays
  have ne:∀ b o,s.heap.get? b=some o→b≠ea:=fun b o q=>Nat.ne_of_lt (Nat.lt_of_lt_of_le (Heap.lt_size q) hea)
  have I1:Inv X pins σ H' { s1 with heap:=h' }:=I.call' (s':={ s1 with heap:=h' }) (ch:=[]) ho un (hok.kept F.stays) hg (fun _ z=>nomatch z)
  refine ⟨I1,I.call' (s':={ s1 with heap:=h' }) (ch:=[]) ho ⟨un.keep,un.slot,fun b o q n hx=>?_,un.there,fun b xs q=>?_,fun b o u q=>?_,fun b ps q=>?_⟩ (fun b o q=>?_) hg (fun _ z=>nomatch z)⟩
  · rw [upd_ne (ne b o q)];exact un.free b o q n hx
  · rw [upd_ne (ne_of_none (un.tups b xs q) hn)];exact un.tups b xs q
  · rw [upd_ne (ne_of_none (un.frzs b o u q) hn)];exact un.frzs b o u q
  · obtain ⟨m,z⟩:=un.tbls b ps q
    exact ⟨m,by rw [upd_ne (ne_of_none z hn)];exact z⟩
  · by_cases hb:b=ea
    · subst hb
      rw [uS_] at q
      cases q
      obtain ⟨vs,z,_⟩:=F.ex
      exact XCo_ok z
    · rw [upd_ne hb] at q
      exact (I1.hok b o q).stay (fun c v _ z=>z) (fun c z=>by rw [upd_ne (ne_of_none z hn)];exact z) fun c xs z=>by rw [upd_ne (ne_of_none z hn)];exact z
end
def tTryO (K:PySem.W.Frag) (L:Addr) (j:Nat) (tb:XK→St→TS) (ts:Addr→TS):TS:=fun D σ H =>
  tb (fun c dx H'=>∃ C,c=.ref C∧mroIn K C (.ref L)=some true∧∀ ea,H' ea=none →
    ts ea { nx:=fun σ' H2=>D.nx (σ'.set j none) H2,rt:=D.rt,bk:=fun σ' H2=>D.bk (σ'.set j none) H2,ct:=fun σ' H2=>D.ct (σ'.set j none) H2 } (σ.set j (some (.ref ea))) (upd H' ea (XCo C dx ea))) σ D σ H
section
variable {X:Cx}
theorem call_isXo:CallR X (.builtin "isinstance") (fun xs H Q=>∃ (a C:Addr) (d:Option Addr) (c:V) (cv:Value),xs=[.ref a,c]∧H a=some (XCo C d a)∧(∀ u,RelV c u→u=cv)∧kitOne X.K (.ref C) cv=some true∧Q (.bl true) H):=by
  intro pins s σ H xs us Q I r h
  obtain ⟨a,C,d,c,cv,rfl,ha,hc,e,q⟩:=h
  obtain ⟨u,w',rfl,ru,rw'⟩:=vals2 r
  obtain rfl:=hc _ rw'
  obtain rfl:u=Value.ref a:=ru
  obtain ⟨⟨vs,he⟩,_,_⟩:(∃ vs,s.heap.get? a=some ⟨.ref C,d,.fields vs,#[]⟩)∧_∧_:=I.hok a _ ha
  refine call_isinstance (S:=fun _ R s=>(X.K.In s.heap∧(∃ vs,s.heap.get? a=some ⟨.ref C,d,.fields vs,#[]⟩))∧∀ tk,R (.ok (.ret (.bool true))) { s with toks:=tk })
    (fun prog w A R s hs=>isinstance_outer (kit_yes (K:=X.K) (t:=.ref C) (H:=fun h=>∃ vs,h.get? a=some ⟨.ref C,d,.fields vs,#[]⟩) (fun M h _ p=>?_) e 0 _ prog w A R s hs) (fun z=>nomatch z)) ⟨⟨I.kIn,vs,he⟩,fun tk=>⟨.bl true,H,I.tok _,rfl,q⟩⟩
  obtain ⟨vs,p⟩:=p
  exact (Looks.ld p).andThen .now
end
end L2
namespace L2
open PySem PySem.Spec PyProof.Rows PySem.W
end L2
namespace L2
open PySem PySem.Spec PyProof.Rows PySem.W
section
variable {X:Cx} {t u:TS} {pos:Pos}
theorem be_op {a b:Expr} {ta tb:TE} {op:Operator} {r:R2} (ho:OpR X (binaryOp op) r) (ha:Box (PE X a ta)) (hb:Box (PE X b tb)):Box (PE X (.BinOp a op b pos) (tOp r ta tb)):=⟨pO_ ho ha.un hb.un⟩
end
end L2
namespace L2
open PySem PySem.Spec PyProof.Rows PySem.W
end L2
namespace L2
open PySem PySem.Spec PyProof.Rows PySem.W
end L2
namespace L2
open PySem PySem.Spec PyProof.Rows PySem.W
end L2
namespace L2
open PySem PySem.Spec PyProof.Rows PySem.W
section
open AutoSeq1 (wpAny_loadPart')
end
end L2
namespace L2
open PySem PySem.Spec PyProof.Rows PySem.W
end L2
namespace L2
open PySem PySem.Spec PyProof.Rows PySem.W
theorem ix_tupK {X:Cx} {K:PySem.W.Frag} (h:X.K=K):IxR X (rIxT K):=by subst h;exact ix_tup
end L2
namespace L2
open PySem PySem.Spec PyProof.Rows PySem.W
end L2
namespace L2
open PySem PySem.Spec PyProof.Rows PySem.W
theorem star_lst {es' es:List Expr} {p:Pos} {env:Env}:starEach (.List es' p :: es) env=(false,eval (.List es' p) env) :: starEach es env:=rfl
theorem aC_ {c:Const} {k:Nat} {es:List Expr} {p:Pos} {env:Env}:starEach (.Constant c k p :: es) env=(false,eval (.Constant c k p) env) :: starEach es env:=rfl
theorem aN_ {n:Str} {es:List Expr} {p:Pos} {env:Env}:starEach (.Name n p :: es) env=(false,eval (.Name n p) env) :: starEach es env:=rfl
theorem star_bin {o:Operator} {l r:Expr} {es:List Expr} {p:Pos} {env:Env}:starEach (.BinOp l o r p :: es) env=(false,eval (.BinOp l o r p) env) :: starEach es env:=rfl
theorem star_cal {f:Expr} {as es:List Expr} {kw:List Keyword} {p:Pos} {env:Env}:starEach (.Call f as kw p :: es) env=(false,eval (.Call f as kw p) env) :: starEach es env:=rfl
theorem swap_lst {es:List Expr} {p:Pos} {t:Option Expr} {n:Nat} {env:Env}:swapsWith (.List es p) t n env=pure false:=rfl
end L2
namespace L2
open PySem PySem.Spec PyProof.Rows PySem.W
def TabK (K:PySem.W.Frag) (a:Addr) (D:List (Str × V)):Prop:=∃ (o:Obj) (es:Array DictEntry) (ep:Nat),K.lookup a=some o∧o.cls=.type "dict"∧o.data=.dict es ep∧KTD.Rows (fun v u=>RelV v u) es.toList D
section
variable {prog:Program} {w:World} {A:Around} {E:Value→Shared→Prop} {s:Shared}
theorem tab_get {a:Addr} {o:Obj} {es:Array DictEntry} {ep:Nat} {D:List (Str × V)} {k:Str} {tk:Tok} {v:V} {Q:Value→Shared→Prop} (ho:s.heap.get? a=some o) (hc:o.cls=.type "dict") (hd:o.data=.dict es ep) (hr:KTD.Rows (fun v u=>RelV v u) es.toList D)
    (hk:KTD.datumAt k D=some v) (h:∀ u,RelV v u→Q u { s with toks:=s.toks+1 }):wpAny (model prog w) A (getItem (.ref a) (.str k tk)) Q E s:=by
  have hT:s.TypeIs (.ref a) "dict":=⟨o,ho,hc⟩
  unfold getItem
  try with_reducible refine wpAny_holding ?_
  refine wpAny_bind (wpAny_sequenceKey hT (by decide) (wpAny_bind (wpAny_callSpecial?_slot (name:=Str.ofString "__getitem__") hT PySem.F.slot_dict_getitem (wpAny_call_entry PySem.F.slot_dict_getitem hT PySem.F.entry_dict_getitem ?_ (PySem.F.args_dict_getitem_2 _ _)))))
  show wpAny _ _ (dictGet a (.str k tk) >>= _) _ _ s
  refine wpAny_bind ?_
  unfold dictGet
  try with_reducible refine wpAny_holding ?_
  refine wpAny_bind (wpAny_pyHash_str (wpAny_bind (KTD.kt_dictFind_strs (s:={ s with toks:=s.toks+1 }) ho hd (by obtain ⟨l⟩:=es;simpa using hr.exact) ?_)))
  obtain ⟨u,hu,ru⟩:=hr.find_some hk
  have hf:findBy (fun k v=>v.isStr k) es k=some u:=by
    rw [← hu]
    obtain ⟨l⟩:=es
    simp [findBy]
  rw [findBy_of_findIdx?] at hf
  cases hi:es.findIdx? fun e=>e.key.isStr k with
  | none=>rw [hi] at hf;cases hf
  | some i =>
    rw [hi] at hf
    refine wpAny_bind (wpAny_dictEntries (s:={ s with toks:=s.toks+1 }) ho hd (wpAny_pure ?_))
    have hf':(es[i]?).map (·.val)=some u:=hf
    rw [hf']
    exact wpAny_pure ⟨u,rfl,wpAny_pure (h u ru)⟩
end
section
variable {X:Cx} {o i:Expr} {pos:Pos} {td ty:TE}
def tTabGet (K:PySem.W.Frag) (td ty:TE):TE:=fun σ H Q=>td σ H fun x H1=>ty σ H1 fun y H2=>∃ a D k v,x=.ref a∧TabK K a D∧y=.str k∧KTD.datumAt k D=some v∧Q v H2
theorem pe_tabget (ho:PE X o td) (hi:PE X i ty) (hs:NoSl i):PE X (.Subscript o i pos) (tTabGet X.K td ty):=by
  intro pins s σ H Q I h
  refine subD_of PySem.F.slot_dict_getitem.lookup hs (thn (ho pins s σ H _ I h) fun u s1 ⟨x,H1,I1,rx,q1⟩=>thn (hi pins s1 σ H1 _ I1 q1) fun iv s2 ⟨y,H2,I2,ry,a,D,k,v,ex,T,ey,hk,q2⟩=>?_)
  subst ex ey
  obtain rfl:u=Value.ref a:=rx
  obtain ⟨t,rfl⟩:=ry
  obtain ⟨ob,es,ep,hl,hc,hd,hr⟩:=T
  have ho:=I2.kIn _ _ hl
  exact ⟨⟨ob,ho,hc⟩,tab_get ho hc hd hr hk fun u ru=>⟨v,H2,I2.tok _,ru,q2⟩⟩
end
end L2
namespace L2
open PySem PySem.Spec PyProof.Rows
end L2
namespace L2
open PySem PySem.Spec PyProof.Rows
section
variable {P:Program} {w:World} {h:Heap}
open Classical in
open Classical in
open Classical in
end
end L2
namespace L2
open PySem PySem.Spec PyProof.Rows
end L2
namespace L2
open PySem PySem.Spec PyProof.Rows
end L2
namespace L2
open PySem PySem.Spec PyProof.Rows
section
open MeetsSeq MeetsSeq2 MeetsSeq3 SeqRoads2 AutoSeq1
variable {P:Program} {w:World}
end
end L2
namespace L2
open PySem PySem.Spec PyProof.Rows
end L2
namespace HT
open PySem PySem.Spec PyProof.Rows
section
variable {prog:Program} {w:World} {A:Around} {E:Value→Shared→Prop} {s:Shared}
theorem getItem_tuple_all {t sl:Addr} {items:Array Value} {vl vu:Value} {lo hi:Option Int} {Q:Value→Shared→Prop} (ht:IsTup s.heap t items) (hs:s.heap.IsSliceOf sl vl vu .none) (pl:IsPart vl lo) (pu:IsPart vu hi)
    (h1:sIx items.size 0 lo=0) (h2:sIx items.size items.size hi=items.size) (h:Q (.ref t) s):wpAny (model prog w) A (getItem (.ref t) (.ref sl)) Q E s:=by
  obtain ⟨os,hos,hcs,hds⟩:=id hs
  have hTs:s.TypeIs (.ref sl) "slice":=⟨os,hos,hcs⟩
  unfold getItem
  try with_reducible refine wpAny_holding ?_
  first | refine wpAny_bind (wpAny_pure ?_) | skip
  refine wpAny_bind (wpAny_sequenceKey ht.typeIs (by decide) ?_);refine wpAny_bind (wpAny_callSpecial?_slot (name:=Str.ofString "__getitem__") ht.typeIs PyProof.Rows.slot_tuple_getitem (wpAny_call_entry PyProof.Rows.slot_tuple_getitem ht.typeIs entry_tuple_getitem ?_ (args_tuple_getitem _ _)))
  show wpAny _ _ (Builtin.Tuple.tupleItemsOf (.ref t) >>= _) _ _ s;refine wpAny_bind (tupleItemsOf_ ht ?_);refine wpAny_bind (wpAny_typeOf hTs ?_)
  rw [if_pos (by decide)];refine wpAny_bind (sliceApplied_gen hs pl pu ?_)
  have yes:(((sIx items.size 0 lo:Nat):Int) == 0&&(1:Int) == 1&&(sIx items.size items.size hi - sIx items.size 0 lo) == items.size)=true:=by rw [h1,h2];simp
  show wpAny _ _ (if (((sIx items.size 0 lo:Nat):Int) == 0&&(1:Int) == 1&&(sIx items.size items.size hi - sIx items.size 0 lo) == items.size)=true then _ else _) _ _ s
  rw [if_pos yes]
  unfold Builtin.Tuple.tupleIsExact
  refine wpAny_bind (wpAny_bind (wpAny_typeOf ht.typeIs (wpAny_pure ?_)))
  rw [if_pos (by decide)]
  exact wpAny_bind (wpAny_rule (wpAny_pure ⟨_,rfl,wpAny_pure h⟩))
end
end HT
namespace L2
open PySem PySem.Spec PyProof.Rows
section
variable {X:Cx}
def rSlTA (K:PySem.W.Frag):V→Option Int→Option Int→Hp→VK→Prop:=fun x lo hi H Q=>∃ a xs,x=.ref a∧SqT K H a xs∧HT.sIx xs.length 0 lo=0∧HT.sIx xs.length xs.length hi=xs.length∧Q (.ref a) H
theorem sl_tupA:SlR X (rSlTA X.K):=by
  intro pins s σ H x v vl vu lo hi sl Q I rx hs pl pu h
  obtain ⟨a,xs,rfl,hx,h1,h2,q⟩:=h
  cases rx
  obtain ⟨its,r,ht,hz⟩:=I.tuple hx
  have hlen:its.toArray.size=xs.length:=by rw [List.size_toArray];exact r.length.symm
  refine ⟨"tuple",_,PyProof.Rows.slot_tuple_getitem.lookup,ht.typeIs,?_⟩
  exact HT.getItem_tuple_all ht hs pl pu (by rw [hlen];exact h1) (by rw [hlen];exact h2) ⟨.ref a,H,I,rfl,q⟩
theorem sl_tupB:SlR X (fun x lo hi H Q=>rSlT X.K x lo hi H Q∨rSlTA X.K x lo hi H Q):=SlR.or sl_tup sl_tupA
end
end L2
namespace L2
open PySem PySem.Spec PyProof.Rows PySem.W
section
variable {X:Cx}
def rJoinT (K:PySem.W.Frag):V→List V→Hp→VK→Prop:=fun x vs H Q=>∃ z p ys,x=.str z∧vs=[.ref p]∧SqT K H p (ys.map V.str)∧(ys.map (·.length)).sum+ys.length * z.length≤16777216∧Q (.str (Txt.join z ys)) H
theorem mt_joinT:MtR X "str.join" (rJoinT X.K):=by
  intro pins s σ H x xs v us Q I rx rs h
  obtain ⟨z,p,ys,rfl,rfl,hl,hz,q⟩:=h
  obtain ⟨t,rfl⟩:=rx
  obtain ⟨u,rfl,ru⟩:=vals1 rs
  cases ru
  obtain ⟨its,rv,pl,_⟩:=I.tuple hl
  exact join_tuple pl (by simpa using strs_are rv) hz fun t' k=>⟨.str _,H,I.tok _,⟨_,rfl⟩,q⟩
def eqTs (xs ys:List V):Bool:=xs.length == ys.length&&(List.zipWith eqV xs ys).all id
def rEqT2 (K:PySem.W.Frag) (neg:Bool):R2:=fun x y H Q=>∃ p q xs ys,x=.ref p∧y=.ref q∧SqT K H p xs∧SqT K H q ys∧xs.all flatV=true∧ys.all flatV=true∧Q (.bl (if neg then !eqTs xs ys else eqTs xs ys)) H
theorem eqT_all2 {xs ys:List V} {its1 its2:List Value} (r1:Vals xs its1) (r2:Vals ys its2) :
    ((List.range (min its1.toArray.size its2.toArray.size)).all (fun j=>eqV (xs.getD j .non) (ys.getD j .non))&&its1.toArray.size == its2.toArray.size)=eqTs xs ys:=by
  unfold eqTs
  by_cases hl:xs.length=ys.length
  · rw [eqT_all r1 r2 hl,hl];simp
  · have e1:its1.toArray.size=xs.length:=by rw [List.size_toArray];exact r1.length.symm
    have e2:its2.toArray.size=ys.length:=by rw [List.size_toArray];exact r2.length.symm
    rw [e1,e2]
    have:(xs.length == ys.length)=false:=by simpa using hl
    rw [this];simp
theorem op_eqT2 (hu:X.A.units < cLine):OpR X (compareOp .Eq) (rEqT2 X.K false):=by
  intro pins s σ H x y v u Q I rx ry h
  obtain ⟨p,q,xs,ys,rfl,rfl,h1,h2,f1,f2,k⟩:=h
  cases rx
  cases ry
  obtain ⟨its1,r1,p1,_⟩:=I.tuple h1
  obtain ⟨its2,r2,p2,_⟩:=I.tuple h2
  refine SeqAt.eq_tupleAt (e:=fun j=>eqV (xs.getD j .non) (ys.getD j .non)) (show s.heap.IsTuple p its1.toArray from p1) (show s.heap.IsTuple q its2.toArray from p2) hu (eqT_items r1 r2 f1 f2) ⟨.bl _,H,I,rfl,?_⟩
  rw [eqT_all2 r1 r2]
  exact k
theorem op_neT2 (hu:X.A.units < cLine):OpR X (compareOp .NotEq) (rEqT2 X.K true):=by
  intro pins s σ H x y v u Q I rx ry h
  obtain ⟨p,q,xs,ys,rfl,rfl,h1,h2,f1,f2,k⟩:=h
  cases rx
  cases ry
  obtain ⟨its1,r1,p1,_⟩:=I.tuple h1
  obtain ⟨its2,r2,p2,_⟩:=I.tuple h2
  refine SeqAt.RcNeAt.tuples (e:=fun j=>eqV (xs.getD j .non) (ys.getD j .non)) (show s.heap.IsTuple p its1.toArray from p1) (show s.heap.IsTuple q its2.toArray from p2) hu (eqT_items r1 r2 f1 f2) X.prog X.w X.xe _ ⟨.bl _,H,I,rfl,?_⟩
  rw [eqT_all2 r1 r2]
  exact k
end
end L2
namespace L2
open PySem PySem.Spec PyProof.Rows PySem.W
section
variable {X:Cx}
def rFind:V→List V→Hp→VK→Prop:=fun x vs H Q=>∃ z y i,x=.str z∧vs=[.str y,.int i]∧Q (.int (Txt.find3 z y i)) H
theorem mt_find:MtR X "str.find" rFind:=by
  intro pins s σ H x xs v us Q I rx rs h
  obtain ⟨z,y,i,rfl,rfl,q⟩:=h
  obtain ⟨t,rfl⟩:=rx
  obtain ⟨u,w',rfl,⟨t1,rfl⟩,⟨t2,rfl⟩⟩:=vals2 rs
  exact SC.find3 ⟨.int _,H,I.tok _,⟨_,rfl⟩,q⟩
end
end L2
namespace L2
open PySem PySem.Spec PyProof.Rows PySem.W
end L2
namespace L2
open PySem PySem.Spec PyProof.Rows PySem.W
section
variable {X:Cx}
def sgnsV (x:Str):List V:=x.cps.toList.map fun c=>V.str ⟨#[c]⟩
theorem vals_signs {x:Str} {acc:Array Value} (h:ItemsOf (SignAt x) acc x.cps.size):Vals (sgnsV x) acc.toList:=by
  have g:∀ (cs:List Nat) (us:List Value),us.length=cs.length→(∀ (j:Nat) (v:Value),us[j]?=some v→∃ c t,cs[j]?=some c∧v=.str ⟨#[c]⟩ t)→Vals (cs.map fun c=>V.str ⟨#[c]⟩) us:=by
    intro cs
    induction cs with
    | nil =>
      intro us hl _
      cases us with
      | nil=>exact .nil
      | cons u us=>simp at hl
    | cons c cs ih =>
      intro us hl hj
      cases us with
      | nil=>simp at hl
      | cons u us =>
        obtain ⟨c',t,e,rfl⟩:=hj 0 u rfl
        have e:c=c':=by simpa using e
        subst e
        exact .cons ⟨t,rfl⟩ (ih us (by simpa using hl) fun j v hv=>by simpa using hj (j+1) v (by simpa using hv))
  refine g _ _ (by simpa using h.1) fun j v hv=>?_
  have z:=h.2 j v (by rw [← Array.getElem?_toList];exact hv)
  obtain ⟨c,t,e1,e2⟩:=z
  exact ⟨c,t,by rw [Array.getElem?_toList];exact e1,e2⟩
theorem call_tuple_text (hc:X.calm=true):CallR X (.type "tuple") (fun xs H Q=>∃ x,xs=[.str x]∧x.length≤1000∧∀ l,H l=none→Q (.ref l) (upd H l (.tup (sgnsV x)))):=by
  intro pins s σ H xs us Q I r h
  obtain ⟨x,rfl,hx,q⟩:=h
  obtain ⟨u,rfl,ru⟩:=vals1 r
  obtain ⟨t,rfl⟩:=ru
  have hx':x.cps.size≤1000:=hx
  have hz:x.cps.size≤sizeLine:=by rw [sizeLine_eq];omega
  refine call_tuple_str (I.ok.hd hc) x t (fun h' tk acc kp hit=>?_) hz
  have I1:Inv X pins σ H { s with heap:=h',toks:=tk }:=I.kept (t':=tk) kp
  have hv:=vals_signs hit
  have hl:(sgnsV x).length≤sizeLine:=by unfold sgnsV;rw [List.length_map,Array.length_toList];exact hz
  have I2:Inv X pins σ (upd H h'.objs.size (.tup (sgnsV x))) { s with heap:=h'.push { cls:=.type "tuple",data:=.seq acc },toks:=tk } :=
    I1.laid (t':=tk) (fun b o e=>Heap.get?_push_of_some _ e) (Nat.le_refl _) (show ObjOk X.prog X.w _ _ _ (.tup (sgnsV x)) from ⟨hl,acc.toList,hv,by rw [Array.toArray_toList];exact IsTup.new _ _⟩)
  exact ⟨.ref h'.objs.size,_,I2,rfl,q _ (I1.hok.fresh (Nat.le_refl _))⟩
variable {pos:Pos} {e a b:Expr} {te ta tb:TE} {st:Stmt} {ts:TS}
end
end L2
namespace L2
open PySem PySem.Spec PyProof.Rows PySem.W
def TabW (h:Heap) (d:Addr) (D:List (Str × V)) (ep:Nat):Prop:=∃ o es,h.get? d=some o∧o.cls=.type "dict"∧o.data=.dict es ep∧KTD.Rows (fun v u=>RelV v u) es.toList D
theorem TabW.at' {h h':Heap} {d:Addr} {D:List (Str × V)} {ep:Nat} (x:TabW h d D ep) (e:∀ o,h.get? d=some o→h'.get? d=some o):TabW h' d D ep:=let ⟨o,es,ho,r⟩:=x;⟨o,es,e _ ho,r⟩
theorem TabW.typeIs {s:Shared} {d:Addr} {D:List (Str × V)} {ep:Nat} (x:TabW s.heap d D ep):s.TypeIs (.ref d) "dict":=let ⟨o,_,ho,hc,_⟩:=x;⟨o,ho,hc⟩
theorem TabW.lt {h:Heap} {d:Addr} {D:List (Str × V)} {ep:Nat} (x:TabW h d D ep):d < h.objs.size:=let ⟨_,_,ho,_⟩:=x;Heap.lt_size ho
theorem rows_len {es:List DictEntry} {D:List (Str × V)} (h:KTD.Rows (fun v u=>RelV v u) es D):es.length=D.length:=by
  induction h with
  | nil=>rfl
  | cons _ _ _ ih=>simp [ih]
theorem rows_at {es:List DictEntry} {D:List (Str × V)} (h:KTD.Rows (fun v u=>RelV v u) es D):∀ {i:Nat} {e:DictEntry},es[i]?=some e→∃ x v t,D[i]?=some (x,v)∧e.key=.str x t:=by
  induction h with
  | nil=>intro i e he;simp at he
  | cons h1 h2 _ ih =>
    intro i e he
    cases i with
    | zero=>simp only [List.getElem?_cons_zero,Option.some.injEq] at he;subst he;exact ⟨_,_,_,rfl,h1⟩
    | succ j=>simp only [List.getElem?_cons_succ] at he ⊢;exact ih he
section
variable {prog:Program} {w:World} {A:Around} {E:Value→Shared→Prop} {s:Shared}
theorem tab_iter {d:Addr} {D:List (Str × V)} {ep:Nat} {Q:Value→Shared→Prop} (hd:(d == sysModules)=false) (hm:TabW s.heap d D ep)
    (hQ:Q (.ref s.heap.objs.size) { s with heap:=s.heap.push { cls:=.type "dict_keyiterator",data:=.fields #[.ref d,.int 0 0,.int D.length 0,.int ep 0] } }) :
    wpAny (model prog w) A (pyIter (.ref d)) Q E s:=by
  have hT:s.TypeIs (.ref d) "dict":=hm.typeIs
  obtain ⟨o,es,ho,hc,hdat,hr⟩:=hm
  refine wpAny_pyIter_slot hT PySem.F.slot_dict_iter (wpAny_call_entry PySem.F.slot_dict_iter hT PySem.F.entry_dict_iter ?_ (PySem.F.args_dict_iter_1 _))
  unfold Builtin.«dict.__iter__»
  refine wpAny_bind ?_
  unfold Builtin.Dict.dictSlotNone
  refine wpAny_bind (wpAny_notOrdered_dict hT ?_)
  show wpAny _ _ (pure (Value.ref d)) _ _ s
  refine wpAny_pure ?_
  show wpAny _ _ (Builtin.Dict.showsAll d >>= _) _ _ s
  unfold Builtin.Dict.showsAll
  rw [if_neg (by rw [hd];exact Bool.false_ne_true)]
  refine wpAny_bind (wpAny_pure ?_)
  refine wpAny_bind (wpAny_dictEntries ho hdat ?_)
  refine wpAny_bind (wpAny_dictEpoch ho hdat ?_)
  have hsz:es.size=D.length:=by rw [← rows_len hr];simp
  refine wpAny_bind (wpAny_newObj_type (wpAny_pure ⟨_,rfl,"dict_keyiterator",_,⟨_,Heap.get?_push_size _ rfl,rfl⟩,PySem.F.slot_dict_keyiterator_next.lookup,?_⟩))
  simpa [rawInt,hsz] using hQ
theorem tab_next {it d:Addr} {i ep:Nat} {D:List (Str × V)} {Q:Option Value→Shared→Prop} (hit:s.heap.IsKeyIter it d i D.length ep) (hm:TabW s.heap d D ep) (hi:i < D.length)
    (hQ:∀ x v t h',D[i]?=some (x,v)→h'.IsKeyIter it d (i+1) D.length ep→Heap.SameBut it s.heap h'→Q (some (.str x t)) { s with heap:=h' }):wpAny (model prog w) A (pyNext (.ref it)) Q E s:=by
  obtain ⟨o,ho,hc,hd⟩:=id hit
  obtain ⟨od,es,hod,hcd,hdd,hr⟩:=id hm
  unfold pyNext
  refine wpAny_bind (wpAny_attempt (wpAny_callSpecial?_slot (name:=Str.ofString "__next__") hit.typeIs PySem.F.slot_dict_keyiterator_next
    (wpAny_call_entry PySem.F.slot_dict_keyiterator_next hit.typeIs PySem.F.entry_dict_keyiterator_next ?_ (PySem.F.args_dict_keyiterator_next_1 _))))
  refine wpAny_bind (wpAny_pure ?_)
  refine wpAny_bind ?_
  refine wpAny_bind ?_
  first | refine wpAny_bind (wpAny_typeNameOfWhole_keyiter hit.typeIs (wpAny_pure ?_)) | refine wpAny_bind (wpAny_typeNameOf_keyiter hit.typeIs (wpAny_pure ?_))
  refine wpAny_bind (wpAny_fieldsOf ho hd ?_)
  have hown:Builtin.Dict_items.ownsTuple "dict_keyiterator"=false:=by decide
  simp only [hown,Bool.false_eq_true,if_false]
  show wpAny _ _ (if (Value.ref d == Value.none)=true then _ else _) _ _ s
  rw [if_neg (show ¬ ((Value.ref d == Value.none)=true) from Bool.false_ne_true)]
  refine wpAny_bind (wpAny_pure ?_)
  refine wpAny_bind (wpAny_dictEntries hod hdd ?_)
  have hsz:es.size=D.length:=by rw [← rows_len hr];simp
  rw [if_neg (by rw [hsz];simp)]
  refine wpAny_bind (wpAny_pure ?_)
  refine wpAny_bind (wpAny_dictEpoch hod hdd ?_)
  rw [if_neg (by simp)]
  refine wpAny_pure ?_
  have hlt':i < es.size:=by rw [hsz];exact hi
  obtain ⟨x,v,t,hx,hkey⟩:=rows_at hr (i:=i) (e:=es[i]) (by simp [hlt'])
  simp only [show ¬ ((i:Int) < 0) from by omega,if_false,Int.toNat_natCast,Array.getElem?_eq_getElem hlt']
  refine wpAny_bind ?_
  first | refine wpAny_bind (wpAny_typeNameOfWhole_keyiter hit.typeIs (wpAny_pure ?_)) | refine wpAny_bind (wpAny_typeNameOf_keyiter hit.typeIs (wpAny_pure ?_))
  refine wpAny_bind (wpAny_isOneOf_keyiter hit.typeIs ?_)
  show wpAny _ _ (setField (.ref it) 1 (rawInt ((i:Int)+1)) >>= _) _ _ s
  refine wpAny_bind (wpAny_setField ho hd (by simp) ?_)
  have hit':(s.heap.update it (Obj.mapFields (·.setIfInBounds 1 (rawInt ((i:Int)+1))))).IsKeyIter it d (i+1) D.length ep :=
    ⟨_,Heap.get?_update_self _ ho (Obj.isFreed_of_fields (Obj.data_mapFields hd _)),(Obj.cls_mapFields ..).trans hc,by rw [Obj.data_mapFields hd];simp [rawInt]⟩
  refine wpAny_bind (wpAny_holding ?_)
  refine wpAny_bind (wpAny_isOneOf_keyiter (s:={ s with heap:=s.heap.update it (Obj.mapFields (·.setIfInBounds 1 (rawInt ((i:Int)+1)))) }) hit'.typeIs ?_)
  show wpAny _ _ (pure es[i].key) _ _ _
  rw [hkey]
  exact wpAny_pure (wpAny_pure ⟨_,rfl,wpAny_pure (hQ _ _ _ _ hx hit' (Heap.SameBut.update ..))⟩)
theorem tab_end {it d:Addr} {ep:Nat} {D:List (Str × V)} {Q:Option Value→Shared→Prop} (hh:A.handled=none) (hit:s.heap.IsKeyIter it d D.length D.length ep)
    (hm:TabW s.heap d D ep) (hQ:∀ h',Heap.ExtBut it s.heap h'→Q none { s with heap:=h' }):wpAny (model prog w) A (pyNext (.ref it)) Q E s:=by
  obtain ⟨o,ho,hc,hd⟩:=id hit
  obtain ⟨od,es,hod,hcd,hdd,hr⟩:=id hm
  unfold pyNext
  refine wpAny_bind (wpAny_attempt (wpAny_callSpecial?_slot (name:=Str.ofString "__next__") hit.typeIs PySem.F.slot_dict_keyiterator_next
    (wpAny_call_entry PySem.F.slot_dict_keyiterator_next hit.typeIs PySem.F.entry_dict_keyiterator_next ?_ (PySem.F.args_dict_keyiterator_next_1 _))))
  refine wpAny_bind (wpAny_pure ?_)
  refine wpAny_bind ?_
  refine wpAny_bind ?_
  first | refine wpAny_bind (wpAny_typeNameOfWhole_keyiter hit.typeIs (wpAny_pure ?_)) | refine wpAny_bind (wpAny_typeNameOf_keyiter hit.typeIs (wpAny_pure ?_))
  refine wpAny_bind (wpAny_fieldsOf ho hd ?_)
  have hown:Builtin.Dict_items.ownsTuple "dict_keyiterator"=false:=by decide
  simp only [hown,Bool.false_eq_true,if_false]
  show wpAny _ _ (if (Value.ref d == Value.none)=true then _ else _) _ _ s
  rw [if_neg (show ¬ ((Value.ref d == Value.none)=true) from Bool.false_ne_true)]
  refine wpAny_bind (wpAny_pure ?_)
  refine wpAny_bind (wpAny_dictEntries hod hdd ?_)
  have hsz:es.size=D.length:=by rw [← rows_len hr];simp
  rw [if_neg (by rw [hsz];simp)]
  refine wpAny_bind (wpAny_pure ?_)
  refine wpAny_bind (wpAny_dictEpoch hod hdd ?_)
  rw [if_neg (by simp)]
  refine wpAny_pure ?_
  have hge:es.size≤D.length:=by rw [hsz];exact Nat.le_refl _
  simp only [show ¬ ((D.length:Int) < 0) from by omega,if_false,Int.toNat_natCast,Array.getElem?_eq_none hge]
  refine wpAny_bind ?_
  first | refine wpAny_bind (wpAny_typeNameOfWhole_keyiter hit.typeIs (wpAny_pure ?_)) | refine wpAny_bind (wpAny_typeNameOf_keyiter hit.typeIs (wpAny_pure ?_))
  show wpAny _ _ (setField (.ref it) 0 .none >>= _) _ _ s
  refine wpAny_bind (wpAny_setField ho hd (by simp) ?_)
  show wpAny _ _ (newExc (.type "StopIteration") [] >>= _) _ _ _
  refine wpAny_bind ?_
  simp only [newExc,newTuple]
  refine wpAny_bind (wpAny_newObj_type ?_ (by size_fits))
  refine wpAny_bind (m:=firstArgMember _ _) (wpAny_of_eq (a:=Value.none) (by first | rfl | (simp only [firstArgMember];rfl)) ?_)
  refine wpAny_newObj_type ?_ (by size_fits)
  simp only [raiseNew]
  refine wpAny_bind (wpAny_handled ?_)
  rw [show A.in1.handled=none from hh]
  refine wpAny_bind (wpAny_pure (wpAny_throw ?_))
  refine wpAny_bind (wpAny_isInstance (T:="StopIteration") (b:=true) ⟨_,Heap.get?_push_size _ rfl,rfl⟩ isSubtype_stop ?_)
  exact wpAny_pure (hQ _ (((Heap.SameBut.update ..).extBut.push _).push _))
theorem tab_walks (hh:A.handled=none) (I d:Addr) (hne:d≠I) (D:List (Str × V)) (ep:Nat) :
    Walks prog w A I [I,d] [I] D.length (fun i v=>∃ x y t,D[i]?=some (x,y)∧v=.str x t) (fun i h=>h.IsKeyIter I d i D.length ep∧TabW h d D ep) where
  sub:=fun b hb=>by simp at hb;simp [hb]
  frame:=fun _ _ _ st hk=>⟨st.1.at fun o e=>hk I (by simp) o e,st.2.at' fun o e=>hk d (by simp) o e⟩
  item:=fun i s Q E hi st hQ=>tab_next st.1 st.2 hi fun x v t h' hx hit' hs'=>hQ _ h' s.toks ⟨x,v,t,hx,rfl⟩ ⟨hit',st.2.at' fun o e=>hs'.extBut d o hne e⟩ fun b o hb e=>hs'.extBut b o (fun h=>hb (by simp [h])) e
  done:=fun s Q E st hQ=>tab_end hh st.1 st.2 fun h' he'=>hQ h' s.toks fun b o hb e=>he' b o (fun h=>hb (by simp [h])) e
  self:=fun _ _ _ _ st hQ=>wpAny_pyIter_keyiter st.1 hQ
theorem tab_src {d:Addr} {D:List (Str × V)} {ep:Nat} (lo:(d == sysModules)=false):PySem.W.KdlSrc prog w "dict" d d D.length (fun i v=>∃ x y t,D[i]?=some (x,y)∧v=.str x t) (fun h=>TabW h d D ep) where
  type:=fun _ hm=>hm.typeIs
  there:=fun _ hm=>⟨hm.lt,hm.lt⟩
  keep:=fun _ _ hm hk=>hm.at' fun o e=>hk d (.inl rfl) o e
  notList:=by decide
  notTuple:=by decide
  hint:=fun _ _ _ _ hm hq=>PySem.W.kdl_hint_dict hm.typeIs hq
  iter:=fun _ _ hh hm=>⟨_,_,(fun _ _ hq=>tab_iter lo hm hq),tab_walks hh _ d (Nat.ne_of_lt hm.lt) D ep,⟨⟨_,Heap.get?_push_size _ rfl,rfl,rfl⟩,hm.at' fun o e=>Heap.get?_push_of_some _ e⟩⟩
end
section
variable {X:Cx}
theorem vals_tabK:∀ (D:List (Str × V)) (acc:List Value),acc.length=D.length→(∀ (j:Nat) (v:Value),acc[j]?=some v→∃ x y t,D[j]?=some (x,y)∧v=.str x t)→Vals (D.map fun p=>V.str p.1) acc
  | [],[],_,_=>.nil
  | (k,u) :: D,v :: acc,hl,h=>by
    obtain ⟨x,y,t,e,rfl⟩:=h 0 v rfl
    have e':(k,u)=(x,y):=by simpa using e
    cases e'
    exact .cons ⟨t,rfl⟩ (vals_tabK D acc (by simpa using hl) fun j u hu=>by simpa using h (j+1) u (by simpa using hu))
  | [],_ :: _,hl,_=>by simp at hl
  | _ :: _,[],hl,_=>by simp at hl
theorem call_listTab (hc:X.calm=true):CallR X (.type "list") (fun xs H Q=>∃ d D,xs=[.ref d]∧TabK X.K d D∧(d == sysModules)=false∧D.length≤1000∧∀ l,H l=none→Q (.ref l) (upd H l (.lst (D.map fun p=>V.str p.1)))):=by
  intro pins s σ H xs us Q I r h
  obtain ⟨d,D,rfl,T,lo,hz,q⟩:=h
  obtain ⟨u,rfl,ru⟩:=vals1 r
  cases ru
  obtain ⟨ob,es,ep,hl,hcl,hd,hr⟩:=T
  have hm:TabW s.heap d D ep:=⟨ob,es,I.kIn _ _ hl,hcl,hd,hr⟩
  refine PySem.W.kdl_call (tab_src (D:=D) (ep:=ep) lo) (I.ok.hd hc) hm (by rw [sizeLine_eq];omega) fun h' tk acc c kp he hit=>?_
  have hl:acc.toList.length=D.length:=by rw [Array.length_toList,hit.1]
  have hv:Vals (D.map fun p=>V.str p.1) acc.toList:=vals_tabK _ _ hl fun j v hj=>hit.2 j v (by rw [← Array.getElem?_toList];exact hj)
  refine ⟨.ref s.heap.objs.size,_,I.laid (t':=tk) (o:=.lst (D.map fun p=>V.str p.1)) kp (Nat.le_refl _) ⟨by rw [List.length_map,sizeLine_eq];omega,acc.toList,c,hv,?_⟩,rfl,q _ (I.hok.fresh (Nat.le_refl _))⟩
  rw [Array.toArray_toList]
  exact he
end
section
variable {X:Cx} {e:Expr} {es:List Expr} {te:TE} {t:TA} {p:Pos}
def tStarT (K:PySem.W.Frag) (te:TE) (tr:TA):TA:=fun σ H Q=>te σ H fun x H1=>∃ a ys,x=.ref a∧SqT K H1 a ys∧ys.length≤1000∧tr σ H1 fun xs H2=>Q (ys++xs) H2
theorem vals_app:∀ {xs ys:List V} {us vs:List Value},Vals xs us→Vals ys vs→Vals (xs++ys) (us++vs)
  | _,_,_,_,.nil,h=>h
  | _,_,_,_,.cons a t,h=>.cons a (vals_app t h)
theorem pa_star (he:PE X e te) (hr:PA X es t) (hs:starEach (.Starred e p :: es) X.env=(true,eval e X.env) :: starEach es X.env:=by rfl):PA X (.Starred e p :: es) (tStarT X.K te t):=by
  intro pos pins s σ H Q I h
  refine PySem.W.items_star (thn (he pins s σ H _ I h) fun u s1 ⟨x,H1,I1,r1,a,ys,e1,hq,hz,q1⟩=>?_) hs
  subst e1
  cases r1
  obtain ⟨its,rv,ht,_⟩:=I1.tuple hq
  obtain ⟨o,ho,hc,n,hd⟩:=id ht
  unfold PySem.W.StarOf notIterableAtAll
  refine wpAny_bind (wpAny_specialOf ht.typeIs slot_tuple_iter.lookup (wpAny_pure ⟨rfl,wpAny_collect_seq a (.inr rfl) ho hc hd (fun h' hk2=>?_) (by rw [List.size_toArray,← rv.length,sizeLine_eq];omega)⟩))
  have I3:Inv X pins σ H1 { s1 with heap:=h' }:=I1.kept (t':=s1.toks) hk2
  refine thn (hr pos pins _ σ H1 _ I3 q1) fun vs s3 ⟨xs,H2,I2,r2,q2⟩=>⟨ys++xs,H2,I2,vals_app (by simpa using rv) r2,q2⟩
end
end L2
namespace L2
open PySem PySem.Spec PyProof.Rows PySem.W
theorem swap_bin {l r:Expr} {o:Operator} {p:Pos} {t:Option Expr} {n:Nat} {env:Env}:swapsWith (.BinOp l o r p) t n env=pure false:=rfl
theorem swap_cal {f:Expr} {as:List Expr} {kw:List Keyword} {p:Pos} {t:Option Expr} {n:Nat} {env:Env}:swapsWith (.Call f as kw p) t n env=pure false:=rfl
def conS:List Expr→Option (List Str)
  | []=>some []
  | .Constant (.str x) _ _ :: r=>match conS r with | some ss=>some (x :: ss) | none=>none
  | _=>none
def tStrs (ss:List Str):TA:=fun _ H Q=>Q (ss.map V.str) H
theorem pa_strs {X:Cx}:∀ {es:List Expr} {ss:List Str},conS es=some ss→PA X es (tStrs ss)
  | [],ss,h=>by cases h;exact pa_nil
  | .Constant (.str x) j p :: r,ss,h=>by
    unfold conS at h
    cases e:conS r with
    | none=>rw [e] at h;cases h
    | some ts =>
      rw [e] at h
      cases h
      exact pC_ pS_ (pa_strs e) aC_
theorem be_strs {X:Cx} {es:List Expr} {ss:List Str} {pos:Pos} (h:conS es=some ss):Box (PE X (.List es pos) (tLst (tStrs ss))):=⟨pe_lst (pa_strs h)⟩
theorem ps_ifB {X:Cx} {pos:Pos} {t u:TS} {c:Expr} {a b:List Stmt} {tc:TT} (hc:PT X c tc) (ha:Box (PSs X a t)) (hb:PSs X b u):PS X (.If c a b pos) (tIfS tc t u):=ps_if hc ha.un hb
def PE1 (X:Cx) (e:Expr) (t:TE):Prop :=
  ∀ (pins:List (Addr × Obj)) (s:Shared) (σ:St) (H:Hp) (Q:VK),1≤s.toks→Inv X pins σ H s→t σ H Q→wpAny (model X.prog X.w) X.A (eval e X.env) (EP X pins σ Q) X.xe s
def PT1 (X:Cx) (e:Expr) (t:TT):Prop :=
  ∀ (pins:List (Addr × Obj)) (s:Shared) (σ:St) (H:Hp) (Q:Bool→Hp→Prop),1≤s.toks→Inv X pins σ H s→t σ H Q→wpAny (model X.prog X.w) X.A (isTrue e X.env (eval e X.env)) (TP X pins σ Q) X.xe s
def PS1 (X:Cx) (st:Stmt) (t:TS):Prop :=
  ∀ (pins:List (Addr × Obj)) (s:Shared) (σ:St) (H:Hp) (D:Ends),1≤s.toks→Inv X pins σ H s→t D σ H→wpAny (model X.prog X.w) X.A (exec st X.env) (SP X pins D) X.xe s
def PSs1 (X:Cx) (st:List Stmt) (t:TS):Prop :=
  ∀ (pins:List (Addr × Obj)) (s:Shared) (σ:St) (H:Hp) (D:Ends),1≤s.toks→Inv X pins σ H s→t D σ H→wpAny (model X.prog X.w) X.A (execs st X.env) (SP X pins D) X.xe s
def PE2 (X:Cx) (e:Expr) (t:TE):Prop :=
  ∀ (pins:List (Addr × Obj)) (s:Shared) (σ:St) (H:Hp) (Q:VK),Inv X pins σ H s→t σ H Q→wpAny (model X.prog X.w) X.A (eval e X.env) (fun u s'=>1≤s'.toks∧EP X pins σ Q u s') X.xe s
def PS2 (X:Cx) (st:Stmt) (t:TS):Prop :=
  ∀ (pins:List (Addr × Obj)) (s:Shared) (σ:St) (H:Hp) (D:Ends),Inv X pins σ H s→t D σ H→wpAny (model X.prog X.w) X.A (exec st X.env) (fun f s'=>1≤s'.toks∧SP X pins D f s') X.xe s
theorem made {α:Type} {M:Model} {A:Around} {s:Shared} {t:Sem α} {Q:α→Shared→Prop} {E:Value→Shared→Prop} (h1:1≤s.toks) (h:wpAny M A t Q E s):wpAny M A t (fun a s'=>1≤s'.toks∧Q a s') E s:=wpAny_mono (wpAny_toks_of h1 h) (fun _ _ x=>x) fun _ _ x=>x.2
section
variable {X:Cx} {st:Stmt} {rest:List Stmt} {t u:TS} {pos:Pos}
theorem PS.to1 (h:PS X st t):PS1 X st t:=fun pins s σ H D _ I z=>h pins s σ H D I z
theorem PSs.to1 (h:PSs X rest t):PSs1 X rest t:=fun pins s σ H D _ I z=>h pins s σ H D I z
theorem pss_cons2 (h1:PS2 X st t) (h2:PSs1 X rest u):PSs X (st :: rest) (tSeq t u):=by
  intro pins s σ H D I h
  refine wpAny_execs_cons (thn (h1 pins s σ H { D with nx:=u D } I h) fun f s1 q=>?_)
  obtain ⟨k,q⟩:=q
  cases f with
  | next =>
    obtain ⟨σ',H',I',q⟩:=q
    exact h2 pins s1 σ' H' D k I' q
  | ret v=>exact q
  | brk=>exact q
  | cont=>exact q
theorem pss_cons1 (h1:PS1 X st t) (h2:PSs1 X rest u):PSs1 X (st :: rest) (tSeq t u):=by
  intro pins s σ H D k I h
  refine wpAny_execs_cons (thn (made k (h1 pins s σ H { D with nx:=u D } k I h)) fun f s1 q=>?_)
  obtain ⟨k,q⟩:=q
  cases f with
  | next =>
    obtain ⟨σ',H',I',q⟩:=q
    exact h2 pins s1 σ' H' D k I' q
  | ret v=>exact q
  | brk=>exact q
  | cont=>exact q
theorem pss_cons1P (h1:PS X st t) (h2:PSs1 X rest u):PSs1 X (st :: rest) (tSeq t u):=pss_cons1 h1.to1 h2
theorem pss_cons1L (h1:PS1 X st t) (h2:PSs X rest u):PSs1 X (st :: rest) (tSeq t u):=pss_cons1 h1 h2.to1
theorem ps_cut1 {ts:TS} (hs:PS1 X st ts):PS1 X st (sCut ts):=fun pins s σ H D k I ⟨N,h,q⟩=>thn (hs pins s σ H { D with nx:=N } k I h) fun f s1 z=>by
  cases f with
  | next=>obtain ⟨σ',H',I',z⟩:=z;exact ⟨σ',H',I',q σ' H' z⟩
  | brk=>exact z
  | cont=>exact z
  | ret u=>exact z
theorem pss_one1 (h1:PS1 X st t):PSs1 X [st] t:=by
  intro pins s σ H D k I h
  refine wpAny_execs_cons (thn (h1 pins s σ H D k I h) fun f s1 q=>?_)
  cases f with
  | next=>exact wpAny_execs_nil q
  | ret v=>exact q
  | brk=>exact q
  | cont=>exact q
theorem ps_if1 {c:Expr} {a b:List Stmt} {tc:TT} (hc:PT1 X c tc) (ha:PSs X a t) (hb:PSs X b u):PS1 X (.If c a b pos) (tIfS tc t u):=by
  intro pins s σ H D k I h
  refine wpAny_If (thn (hc pins s σ H _ k I h) fun d s1 ⟨H1,I1,q1⟩=>?_)
  cases d with
  | true=>exact ha pins s1 σ H1 D I1 q1
  | false=>exact hb pins s1 σ H1 D I1 q1
theorem pt_cmpR1 {op:CmpOp} {r:R2} {a b:Expr} {ta tb:TE} (ho:OpR X (compareOp op) r) (ha:PE1 X a ta) (hb:PE1 X b tb) (hm:behindInMarks op b=false):PT1 X (.Compare a [op] [b] pos) (tTest (tOp r ta tb)):=by
  intro pins s σ H Q k I h
  refine wpAny_isTrue_Compare1 (thn (made k (ha pins s σ H _ k I h)) fun v s1 ⟨k1,x,H1,I1,r1,q1⟩=>thn (hb pins s1 σ H1 _ k1 I1 q1) fun u s2 ⟨y,H2,I2,r2,q2⟩ =>
    thn (ho pins s2 σ H2 x y v u _ I2 r1 r2 q2) fun c s3 ⟨z,H3,I3,r3,k,e,q3⟩=>?_) hm
  subst e
  cases r3
  exact wpAny_truthy_bool ⟨H3,I3,q3⟩
def tRepl (y z:Str) (to:TE):TE:=fun σ H Q=>to σ H fun x H1=>∃ t:Str,x=.str t∧t.length+(t.length+1) * z.length≤16777216∧Q (.str (Txt.replace t y z)) H1
theorem pe_repl {o:Expr} {to:TE} {y z:Str} {j1 j2:Nat} {p1 p2 apos cpos:Pos} (hyz:(y == z)=false) (ho:PE X o to)
    (hbase:attributeBase o "replace" X.env (eval o X.env)=eval o X.env:=by rfl)
    (hfew:((backTo cpos (starEach [.Constant (.str y) j1 p1,.Constant (.str z) j2 p2] X.env)).all (fun x=>!x.1)&&(backToKw cpos (keywordEach [] X.env)).all (fun x=>x.1.isSome)
      && decide (([.Constant (.str y) j1 p1,.Constant (.str z) j2 p2]:List Expr).length+([]:List Keyword).length+(if ([]:List Keyword).isEmpty then 0 else 1) < 30))=true:=by rfl)
    (hline:(apos.endLine == cpos.line)=true:=by rfl)
    (hs:starEach [.Constant (.str y) j1 p1,.Constant (.str z) j2 p2] X.env=[(false,eval (.Constant (.str y) j1 p1) X.env),(false,eval (.Constant (.str z) j2 p2) X.env)]:=by rfl) :
    PE1 X (.Call (.Attribute o "replace" apos) [.Constant (.str y) j1 p1,.Constant (.str z) j2 p2] [] cpos) (tRepl y z to):=by
  intro pins s σ H Q k I h
  refine wpAny_Call_method_late hbase hfew hline rfl (thn (made k (ho pins s σ H _ I h)) fun v s1 ⟨k1,x,H1,I1,r1,t,ex,hl,q1⟩=>?_)
  subst ex
  obtain ⟨tk,rfl⟩:=r1
  refine ⟨"str","str.replace",PySem.F.plainAttrs_str,PySem.F.slot_str_replace,PySem.F.type_str_replace,typeIs_str _ _ _,(fun _ z=>by cases z),?_⟩
  rw [hs]
  refine Calls.callWith_builtin rfl (Calls.evalArgs_plain ?_)
  show wpAny _ _ (spliced ((false,eval (.Constant (.str y) j1 p1) X.env) :: (false,eval (.Constant (.str z) j2 p2) X.env) :: [])) _ _ s1
  refine Calls.spliced_cons (Calls.Constant_str (k:=j1) (pos:=p1) (Calls.spliced_cons (Calls.Constant_str (k:=j2) (pos:=p2) (Calls.spliced_nil ?_))))
  exact SC.replace (u:=s1.toks) (v:=s1.toks+1) (by intro z;have:s1.toks=0:=z;omega) (Nat.succ_ne_zero _) (by intro z;have:s1.toks=s1.toks+1:=z;omega) hyz hl fun t' k'=>⟨.str _,H1,I1.tok _,⟨_,rfl⟩,q1⟩
theorem pe_bmC2 {x name:Str} {e:Expr} {es:List Expr} {j:Nat} {cp apos cpos:Pos} {id:String} {r:V→List V→Hp→VK→Prop} {ta:TA} (slot:Slot "str" name id) (hty:typeOf (.builtin id)=pure (.type "method_descriptor")) (hm:MtR X id r) (ha:PA X (e :: es) ta)
    (hbase:attributeBase (.Constant (.str x) j cp) name X.env (eval (.Constant (.str x) j cp) X.env)=eval (.Constant (.str x) j cp) X.env:=by rfl)
    (hfew:((backTo cpos (starEach (e :: es) X.env)).all (fun x=>!x.1)&&(backToKw cpos (keywordEach [] X.env)).all (fun x=>x.1.isSome)
      && decide ((e :: es).length+([]:List Keyword).length+(if ([]:List Keyword).isEmpty then 0 else 1) < 30))=true:=by rfl)
    (hline:(apos.endLine == cpos.line)=true:=by rfl) (hs:starEach (e :: es) X.env=(false,eval e X.env) :: starEach es X.env:=by rfl) (hplain:(backTo cpos (starEach es X.env)).any (·.1)=false:=by rfl) :
    PE2 X (.Call (.Attribute (.Constant (.str x) j cp) name apos) (e :: es) [] cpos) (tBM X.K "str" r (tC (.str x)) ta):=by
  intro pins s σ H Q I h
  refine wpAny_Call_method_late hbase hfew hline rfl (Calls.Constant_str ?_)
  have I1:Inv X pins σ H { s with toks:=s.toks+1 }:=I.tok _
  obtain ⟨ty,q1⟩:=h
  obtain ⟨h1,h2⟩:=tyV_is (x:=.str x) (v:=.str x s.toks) I1 ⟨_,rfl⟩ ty
  refine ⟨"str",id,PySem.F.plainAttrs_str,slot,hty,h1,h2,made (Nat.le_add_left _ _) ?_⟩
  have hA:=ha cpos pins _ σ H _ I1 q1
  rw [hs] at hA ⊢
  refine Calls.callWith_builtin (by show (false || (backTo cpos (starEach es X.env)).any (·.1))=false;rw [hplain] <;> rfl) (Calls.evalArgs_plain ?_)
  exact thn hA fun us s2 ⟨vs,H2,I2,r2,q2⟩=>hm pins s2 σ H2 (.str x) vs _ us Q I2 ⟨_,rfl⟩ r2 q2
theorem ps_set2 {i:Nat} {x:Str} {e:Expr} {te:TE} {pos':Pos} (hN:X.N.Nodup) (hi:X.N[i]?=some x) (hx:Loc X.env.scope x) (he:PE2 X e te) (hs:swapsWith e (some (.Name x pos')) pos.line X.env=pure false:=by rfl) (hf:X.fn x=true∨X.env.scope.names.lookup x=some .local:=by first | exact .inl rfl | exact .inr rfl | assumption) :
    PS2 X (.Assign [.Name x pos'] e pos) (tAsg te (gName i)):=by
  intro pins s σ H D I h
  refine wpAny_Assign_Name (thn (he pins s σ H _ I h) fun v s1 ⟨k1,y,H1,I1,r1,q1⟩=>?_) hs
  exact made k1 (store_ok I1 hN hi hx r1 (fun s2 I2=>⟨_,H1,I2,q1⟩) hf)
end
section
variable {X:Cx} {x n:Str} {L:Addr} {j:Nat} {body suite:List Stmt} {b0:Stmt} {p1 p2 p3:Pos} {tb:XK→St→TS} {ts:Addr→TS}
theorem ps_tryO1 (hst:X.stack=X.env :: X.outer) (hfr:X.env.frame=some X.env.locals) (hg:Gl X x) (hm:X.mg x=some (.ref L)) (hL:XL X.K L) (hnd:X.N.Nodup) (hj:X.N[j]?=some n) (hk:X.env.kindOf n=some .local)
    (hb:∀ pn XE E σ0,PassesAt (CX1 X.prog X.w) (X.tryc pn XE) E σ0→PSs1 (X.tryc pn XE) body (tb E σ0)) (hs:∀ e,PSs (X.hand e) (b0 :: suite) (ts e)) (hdb:(x == ("__debug__":Str))=false:=by decide) :
    PS1 X (.Try body [.ExceptHandler (some (.Name x p1)) (some n) (b0 :: suite) p2] [] [] p3) (tTryO X.K L j tb ts):=by
  intro pins s σ H D kk I h
  refine wpAny_Try_except ?_
  have ps:PassesAt (CX1 X.prog X.w) (X.tryc (X.pn++pins) fun e s₁=>wpAny (model X.prog X.w) X.A (noteFrame e X.env) (fun _ s₂=>wpAny (model X.prog X.w) X.A (setFlight e none) (fun _ s₃=>wpAny (model X.prog X.w) X.A (handleBy e X.env [.ExceptHandler (some (.Name x p1)) (some n) (b0 :: suite) p2]) (SP X pins D) X.xe s₃) X.xe s₂) X.xe s₁) (fun c dx H'=>∃ C,c=.ref C∧mroIn X.K C (.ref L)=some true∧∀ ea,H' ea=none →
    ts ea { nx:=fun σ' H2=>D.nx (σ'.set j none) H2,rt:=D.rt,bk:=fun σ' H2=>D.bk (σ'.set j none) H2,ct:=fun σ' H2=>D.ct (σ'.set j none) H2 } (σ.set j (some (.ref ea))) (upd H' ea (XCo C dx ea))) σ:=by
    intro pins' H1 s1 e s2 I1 hx
    have I1':Inv X pins σ H1 s1:=I1.of_tryc
    obtain ⟨ea,t,C,dx,H',B,rfl,ho,hgn,F,hok,xu,hn,hea,C',hC',hsub,q⟩:=hx
    cases hC'
    have F0:Fl B X.stack ea (.ref C) dx (.ref t) (some .none) s2.heap:=F
    have xu0:XUn X.stack H1 H' s1.heap B s2.heap:=xu
    have F':Fl B (X.env :: X.outer) ea (.ref C) dx (.ref t) (some .none) s2.heap:=hst ▸ F0
    have hA:X.A.frames=some (X.env :: X.outer):=hst ▸ I1'.ok.frames
    refine fl_note hA hfr F' (.inr rfl) fun h3 F3 u3=>fl_set (s:={ s2 with heap:=h3 }) F3 fun h4 F4 u4=>?_
    have F4':Fl B X.stack ea (.ref C) dx (.ref t) (some .none) h4:=by rw [hst];exact F4
    have J:=(inv_catchO (ea:=ea) (t:=t) I1' xu0 ho hgn F4' F0.frs (u3.trans u4) hok hea hn).1
    refine wpAny_handleBy_cons (codeAny_handlers_test (ld_glob (X:=X.hand ea) J.hand hg hm ?_ hdb)) (fun q=>nomatch q)
    obtain ⟨vs,hvs,_⟩:=F4'.ex
    refine match_exc (K:=X.K) J.kIn hL hvs rfl hsub (codeAny_handlers_suite_as (fl_set (s:={ s2 with heap:=h4 }) F4' fun h5 F5 u5=>?_))
    have J2:=(inv_catchO (ea:=ea) (t:=t) I1' xu0 ho hgn F5 F0.frs ((u3.trans u4).trans u5) hok hea hn).2
    refine store_ok (X:=X.hand ea) (i:=j) (v:=.ref ea) J2.hand hnd hj (.inl hk) rfl (fun s6 J6=>?_) (.inr hk)
    refine wpAny_mono (hs ea pins s6 _ _ _ J6 (q ea hn)) (fun f s7 hf=>?_) fun _ _ z=>z.elim
    have hd:X.calm=true→X.A.handled=none:=I1'.ok.hd
    match f,hf with
    | .ret u,⟨v,σ',H'',J7,rv,qq⟩=>exact name_goes (J7.of_hand hd) hnd hj hk fun s8 J8=>⟨v,_,H'',J8,rv,qq⟩
    | .next,⟨σ',H'',J7,qq⟩=>exact name_goes (J7.of_hand hd) hnd hj hk fun s8 J8=>⟨_,H'',J8,qq⟩
    | .brk,⟨σ',H'',J7,qq⟩=>exact name_goes (J7.of_hand hd) hnd hj hk fun s8 J8=>⟨_,H'',J8,qq⟩
    | .cont,⟨σ',H'',J7,qq⟩=>exact name_goes (J7.of_hand hd) hnd hj hk fun s8 J8=>⟨_,H'',J8,qq⟩
  refine wpAny_mono (hb _ _ _ σ ps [] s σ H D kk I.tryc h) (fun f s1 hf=>?_) fun _ _ z=>z
  match f,hf with
  | .next,⟨σ',H',J,q⟩=>exact wpAny_execs_nil ⟨σ',H',J.of_tryc,q⟩
  | .ret u,⟨v,σ',H',J,rv,q⟩=>exact ⟨v,σ',H',J.of_tryc,rv,q⟩
  | .brk,⟨σ',H',J,q⟩=>exact ⟨σ',H',J.of_tryc,q⟩
  | .cont,⟨σ',H',J,q⟩=>exact ⟨σ',H',J.of_tryc,q⟩
end
end L2
namespace My
open PySem L2
def top (i:Nat):Stmt:=PySem.Challenge.pw_logdelve_k14_questions_misread.main.body.getD i (.Pass ⟨0,0,0,0⟩)
def clsBody (s:Stmt):List Stmt:=match s with
  | .ClassDef _ _ _ b _ _ _ _ _ _ _=>b
  | _=>[]
def meth (i:Nat):Stmt:=(clsBody (top i)).getD 0 (.Pass ⟨0,0,0,0⟩)
set_option genInjectivity false in
set_option genSizeOf false in
structure Adr where
  f_is_word:Addr
  d_is_word:FuncData
  f_begins_with_letter:Addr
  d_begins_with_letter:FuncData
  f_has_only:Addr
  d_has_only:FuncData
  f_number_in:Addr
  d_number_in:FuncData
  f_signs_in:Addr
  d_signs_in:FuncData
  f_sign_at:Addr
  d_sign_at:FuncData
  f_is_figure_at:Addr
  d_is_figure_at:FuncData
  f_end_of_run:Addr
  d_end_of_run:FuncData
  f_name_at:Addr
  d_name_at:FuncData
  f_word_at:Addr
  d_word_at:FuncData
  f_number_at:Addr
  d_number_at:FuncData
  f_mark_at:Addr
  d_mark_at:FuncData
  f_read_question:Addr
  d_read_question:FuncData
  f_take_stage:Addr
  d_take_stage:FuncData
  f_take_from:Addr
  d_take_from:FuncData
  f_take_where:Addr
  d_take_where:FuncData
  f_take_with:Addr
  d_take_with:FuncData
  f_take_list:Addr
  d_take_list:FuncData
  f_take_sort:Addr
  d_take_sort:FuncData
  f_take_first:Addr
  d_take_first:FuncData
  f_take_every:Addr
  d_take_every:FuncData
  f_take_sessions:Addr
  d_take_sessions:FuncData
  f_take_join:Addr
  d_take_join:FuncData
  f_take_fold:Addr
  d_take_fold:FuncData
  f_take_thing:Addr
  d_take_thing:FuncData
  f_take_by:Addr
  d_take_by:FuncData
  f_take_names:Addr
  d_take_names:FuncData
  f_take_number:Addr
  d_take_number:FuncData
  f_begin:Addr
  d_begin:FuncData
  f_take:Addr
  d_take:FuncData
  f_of:Addr
  d_of:FuncData
  f_kept_word:Addr
  d_kept_word:FuncData
  f_letters:Addr
  d_letters:FuncData
  f_drawn_name:Addr
  d_drawn_name:FuncData
  f_text:Addr
  d_text:FuncData
  f_by_text:Addr
  d_by_text:FuncData
  f_stage_text:Addr
  d_stage_text:FuncData
  f_asking:Addr
  d_asking:FuncData
  f_cut:Addr
  d_cut:FuncData
  f_is_name:Addr
  d_is_name:FuncData
  f_names:Addr
  d_names:FuncData
  f_fixed:Addr
  d_fixed:FuncData
  f_by_end:Addr
  d_by_end:FuncData
  f_fold_end:Addr
  d_fold_end:FuncData
  f_stage_end:Addr
  d_stage_end:FuncData
  f_wrong:Addr
  d_wrong:FuncData
  f_stage_plain:Addr
  d_stage_plain:FuncData
  f_law:Addr
  d_law:FuncData
  f_Reader__init:Addr
  d_Reader__init:FuncData
  f_Reader__place:Addr
  d_Reader__place:FuncData
  f_Reader__sees:Addr
  d_Reader__sees:FuncData
  f_Reader__sees_one:Addr
  d_Reader__sees_one:FuncData
  f_Reader__take:Addr
  d_Reader__take:FuncData
  f_Reader__take_kind:Addr
  d_Reader__take_kind:FuncData
  f_Reader__take_one:Addr
  d_Reader__take_one:FuncData
  c_Reader:Addr
  u_NUMBER:Value
  u_WORD:Value
  u_LETTERS:Value
  u_FIGURES:Value
  u_NAME_SIGNS:Value
  u_WORD_SIGNS:Value
  u_NAME:Value
  u_MARK:Value
  u_END:Value
  u_SHORT_MARKS:Value
  u_KEPT:Value
  u_MOST_SIGNS:Value
  u_MOST_FIGURES:Value
  u_MOST_NAME_SIGNS:Value
  u_MOST_STAGES:Value
  a_KEPT_WORDS:Addr
  a_LONG_MARKS:Addr
  a_HOWS_WITH_FIELD:Addr
  a_TAKERS:Addr
  c_LogError:Addr
  c_BadText:Addr
  i_BadText:Addr
  j_BadText:FuncData
structure Txt (K:PySem.W.Frag) (mg:Str→Option Value) (a:Adr):Prop where
  F_is_word:Fun K "is_word" "is_word" (top 14) a.f_is_word a.d_is_word
  m_is_word:mg "is_word"=some (.ref a.f_is_word)
  b_is_word:Binds K a.d_is_word ["text"] []
  F_begins_with_letter:Fun K "begins_with_letter" "begins_with_letter" (top 15) a.f_begins_with_letter a.d_begins_with_letter
  m_begins_with_letter:mg "begins_with_letter"=some (.ref a.f_begins_with_letter)
  b_begins_with_letter:Binds K a.d_begins_with_letter ["text"] []
  F_has_only:Fun K "has_only" "has_only" (top 16) a.f_has_only a.d_has_only
  m_has_only:mg "has_only"=some (.ref a.f_has_only)
  b_has_only:Binds K a.d_has_only ["text","signs","most"] []
  F_number_in:Fun K "number_in" "number_in" (top 17) a.f_number_in a.d_number_in
  m_number_in:mg "number_in"=some (.ref a.f_number_in)
  b_number_in:Binds K a.d_number_in ["text"] []
  F_signs_in:Fun K "signs_in" "signs_in" (top 26) a.f_signs_in a.d_signs_in
  m_signs_in:mg "signs_in"=some (.ref a.f_signs_in)
  b_signs_in:Binds K a.d_signs_in ["text"] []
  F_sign_at:Fun K "sign_at" "sign_at" (top 27) a.f_sign_at a.d_sign_at
  m_sign_at:mg "sign_at"=some (.ref a.f_sign_at)
  b_sign_at:Binds K a.d_sign_at ["text","at"] []
  F_is_figure_at:Fun K "is_figure_at" "is_figure_at" (top 28) a.f_is_figure_at a.d_is_figure_at
  m_is_figure_at:mg "is_figure_at"=some (.ref a.f_is_figure_at)
  b_is_figure_at:Binds K a.d_is_figure_at ["text","at"] []
  F_end_of_run:Fun K "end_of_run" "end_of_run" (top 29) a.f_end_of_run a.d_end_of_run
  m_end_of_run:mg "end_of_run"=some (.ref a.f_end_of_run)
  b_end_of_run:Binds K a.d_end_of_run ["text","at","signs"] []
  F_name_at:Fun K "name_at" "name_at" (top 30) a.f_name_at a.d_name_at
  m_name_at:mg "name_at"=some (.ref a.f_name_at)
  b_name_at:Binds K a.d_name_at ["text","at"] []
  F_word_at:Fun K "word_at" "word_at" (top 31) a.f_word_at a.d_word_at
  m_word_at:mg "word_at"=some (.ref a.f_word_at)
  b_word_at:Binds K a.d_word_at ["text","at"] []
  F_number_at:Fun K "number_at" "number_at" (top 32) a.f_number_at a.d_number_at
  m_number_at:mg "number_at"=some (.ref a.f_number_at)
  b_number_at:Binds K a.d_number_at ["text","at"] []
  F_mark_at:Fun K "mark_at" "mark_at" (top 33) a.f_mark_at a.d_mark_at
  m_mark_at:mg "mark_at"=some (.ref a.f_mark_at)
  b_mark_at:Binds K a.d_mark_at ["text","at"] []
  F_read_question:Fun K "read_question" "read_question" (top 50) a.f_read_question a.d_read_question
  m_read_question:mg "read_question"=some (.ref a.f_read_question)
  b_read_question:Binds K a.d_read_question ["text"] []
  F_take_stage:Fun K "take_stage" "take_stage" (top 51) a.f_take_stage a.d_take_stage
  m_take_stage:mg "take_stage"=some (.ref a.f_take_stage)
  b_take_stage:Binds K a.d_take_stage ["reader"] []
  F_take_from:Fun K "take_from" "take_from" (top 52) a.f_take_from a.d_take_from
  m_take_from:mg "take_from"=some (.ref a.f_take_from)
  b_take_from:Binds K a.d_take_from ["word","reader"] []
  F_take_where:Fun K "take_where" "take_where" (top 53) a.f_take_where a.d_take_where
  m_take_where:mg "take_where"=some (.ref a.f_take_where)
  b_take_where:Binds K a.d_take_where ["word","reader"] []
  F_take_with:Fun K "take_with" "take_with" (top 54) a.f_take_with a.d_take_with
  m_take_with:mg "take_with"=some (.ref a.f_take_with)
  b_take_with:Binds K a.d_take_with ["word","reader"] []
  F_take_list:Fun K "take_list" "take_list" (top 55) a.f_take_list a.d_take_list
  m_take_list:mg "take_list"=some (.ref a.f_take_list)
  b_take_list:Binds K a.d_take_list ["word","reader"] []
  F_take_sort:Fun K "take_sort" "take_sort" (top 56) a.f_take_sort a.d_take_sort
  m_take_sort:mg "take_sort"=some (.ref a.f_take_sort)
  b_take_sort:Binds K a.d_take_sort ["word","reader"] []
  F_take_first:Fun K "take_first" "take_first" (top 57) a.f_take_first a.d_take_first
  m_take_first:mg "take_first"=some (.ref a.f_take_first)
  b_take_first:Binds K a.d_take_first ["word","reader"] []
  F_take_every:Fun K "take_every" "take_every" (top 58) a.f_take_every a.d_take_every
  m_take_every:mg "take_every"=some (.ref a.f_take_every)
  b_take_every:Binds K a.d_take_every ["word","reader"] []
  F_take_sessions:Fun K "take_sessions" "take_sessions" (top 59) a.f_take_sessions a.d_take_sessions
  m_take_sessions:mg "take_sessions"=some (.ref a.f_take_sessions)
  b_take_sessions:Binds K a.d_take_sessions ["word","reader"] []
  F_take_join:Fun K "take_join" "take_join" (top 60) a.f_take_join a.d_take_join
  m_take_join:mg "take_join"=some (.ref a.f_take_join)
  b_take_join:Binds K a.d_take_join ["word","reader"] []
  F_take_fold:Fun K "take_fold" "take_fold" (top 61) a.f_take_fold a.d_take_fold
  m_take_fold:mg "take_fold"=some (.ref a.f_take_fold)
  b_take_fold:Binds K a.d_take_fold ["word","reader"] []
  F_take_thing:Fun K "take_thing" "take_thing" (top 62) a.f_take_thing a.d_take_thing
  m_take_thing:mg "take_thing"=some (.ref a.f_take_thing)
  b_take_thing:Binds K a.d_take_thing ["reader"] []
  F_take_by:Fun K "take_by" "take_by" (top 63) a.f_take_by a.d_take_by
  m_take_by:mg "take_by"=some (.ref a.f_take_by)
  b_take_by:Binds K a.d_take_by ["reader"] []
  F_take_names:Fun K "take_names" "take_names" (top 64) a.f_take_names a.d_take_names
  m_take_names:mg "take_names"=some (.ref a.f_take_names)
  b_take_names:Binds K a.d_take_names ["reader"] []
  F_take_number:Fun K "take_number" "take_number" (top 65) a.f_take_number a.d_take_number
  m_take_number:mg "take_number"=some (.ref a.f_take_number)
  b_take_number:Binds K a.d_take_number ["reader","least"] []
  F_begin:Fun K "_law_begin" "_law_begin" (top 68) a.f_begin a.d_begin
  m_begin:mg "_law_begin"=some (.ref a.f_begin)
  b_begin:Binds K a.d_begin ["_law_script"] []
  F_take:Fun K "_law_take" "_law_take" (top 69) a.f_take a.d_take
  m_take:mg "_law_take"=some (.ref a.f_take)
  b_take:Binds K a.d_take ["_law_draw","_law_many"] []
  F_of:Fun K "_law_of" "_law_of" (top 70) a.f_of a.d_of
  m_of:mg "_law_of"=some (.ref a.f_of)
  b_of:Binds K a.d_of ["_law_draw","_law_some"] []
  F_kept_word:Fun K "_law_kept_word" "_law_kept_word" (top 71) a.f_kept_word a.d_kept_word
  m_kept_word:mg "_law_kept_word"=some (.ref a.f_kept_word)
  b_kept_word:Binds K a.d_kept_word ["_law_text_here"] []
  F_letters:Fun K "_law_letters" "_law_letters" (top 72) a.f_letters a.d_letters
  m_letters:mg "_law_letters"=some (.ref a.f_letters)
  b_letters:Binds K a.d_letters ["_law_draw","_law_signs","_law_most"] []
  F_drawn_name:Fun K "_law_drawn_name" "_law_drawn_name" (top 73) a.f_drawn_name a.d_drawn_name
  m_drawn_name:mg "_law_drawn_name"=some (.ref a.f_drawn_name)
  b_drawn_name:Binds K a.d_drawn_name ["_law_draw"] []
  F_text:Fun K "_law_text" "_law_text" (top 77) a.f_text a.d_text
  m_text:mg "_law_text"=some (.ref a.f_text)
  b_text:Binds K a.d_text ["_law_term"] []
  F_by_text:Fun K "_law_by_text" "_law_by_text" (top 78) a.f_by_text a.d_by_text
  m_by_text:mg "_law_by_text"=some (.ref a.f_by_text)
  b_by_text:Binds K a.d_by_text ["_law_names_here"] []
  F_stage_text:Fun K "_law_stage_text" "_law_stage_text" (top 79) a.f_stage_text a.d_stage_text
  m_stage_text:mg "_law_stage_text"=some (.ref a.f_stage_text)
  b_stage_text:Binds K a.d_stage_text ["_law_stage"] []
  F_asking:Fun K "_law_asking" "_law_asking" (top 80) a.f_asking a.d_asking
  m_asking:mg "_law_asking"=some (.ref a.f_asking)
  b_asking:Binds K a.d_asking ["_law_question"] []
  F_cut:Fun K "_law_cut" "_law_cut" (top 81) a.f_cut a.d_cut
  m_cut:mg "_law_cut"=some (.ref a.f_cut)
  b_cut:Binds K a.d_cut ["_law_text_here"] []
  F_is_name:Fun K "_law_is_name" "_law_is_name" (top 82) a.f_is_name a.d_is_name
  m_is_name:mg "_law_is_name"=some (.ref a.f_is_name)
  b_is_name:Binds K a.d_is_name ["_law_word"] []
  F_names:Fun K "_law_names" "_law_names" (top 83) a.f_names a.d_names
  m_names:mg "_law_names"=some (.ref a.f_names)
  b_names:Binds K a.d_names ["_law_words","_law_at"] []
  F_fixed:Fun K "_law_fixed" "_law_fixed" (top 84) a.f_fixed a.d_fixed
  m_fixed:mg "_law_fixed"=some (.ref a.f_fixed)
  b_fixed:Binds K a.d_fixed ["_law_words","_law_at","_law_pattern"] []
  F_by_end:Fun K "_law_by_end" "_law_by_end" (top 85) a.f_by_end a.d_by_end
  m_by_end:mg "_law_by_end"=some (.ref a.f_by_end)
  b_by_end:Binds K a.d_by_end ["_law_words","_law_at"] []
  F_fold_end:Fun K "_law_fold_end" "_law_fold_end" (top 86) a.f_fold_end a.d_fold_end
  m_fold_end:mg "_law_fold_end"=some (.ref a.f_fold_end)
  b_fold_end:Binds K a.d_fold_end ["_law_words","_law_at"] []
  F_stage_end:Fun K "_law_stage_end" "_law_stage_end" (top 87) a.f_stage_end a.d_stage_end
  m_stage_end:mg "_law_stage_end"=some (.ref a.f_stage_end)
  b_stage_end:Binds K a.d_stage_end ["_law_words","_law_at","_law_first"] []
  F_wrong:Fun K "_law_wrong" "_law_wrong" (top 88) a.f_wrong a.d_wrong
  m_wrong:mg "_law_wrong"=some (.ref a.f_wrong)
  b_wrong:Binds K a.d_wrong ["_law_text_here"] []
  F_stage_plain:Fun K "_law_stage_plain" "_law_stage_plain" (top 89) a.f_stage_plain a.d_stage_plain
  m_stage_plain:mg "_law_stage_plain"=some (.ref a.f_stage_plain)
  b_stage_plain:Binds K a.d_stage_plain ["_law_draw"] []
  F_law:Fun K "law" "law" (top 90) a.f_law a.d_law
  m_law:mg "law"=some (.ref a.f_law)
  b_law:Binds K a.d_law ["_law_script"] []
  F_Reader__init:Fun K "__init__" "Reader.__init__" (inClass (top 25) 0) a.f_Reader__init a.d_Reader__init
  mk_Reader:Mk K a.c_Reader a.f_Reader__init
  b_Reader__init:Binds K a.d_Reader__init ["self","text"] []
  F_Reader__place:Fun K "place" "Reader.place" (inClass (top 25) 1) a.f_Reader__place a.d_Reader__place
  me_Reader__place:Meth K a.c_Reader "place" a.f_Reader__place
  b_Reader__place:Binds K a.d_Reader__place ["self"] []
  F_Reader__sees:Fun K "sees" "Reader.sees" (inClass (top 25) 2) a.f_Reader__sees a.d_Reader__sees
  me_Reader__sees:Meth K a.c_Reader "sees" a.f_Reader__sees
  b_Reader__sees:Binds K a.d_Reader__sees ["self","kind"] []
  F_Reader__sees_one:Fun K "sees_one" "Reader.sees_one" (inClass (top 25) 3) a.f_Reader__sees_one a.d_Reader__sees_one
  me_Reader__sees_one:Meth K a.c_Reader "sees_one" a.f_Reader__sees_one
  b_Reader__sees_one:Binds K a.d_Reader__sees_one ["self","kind","things"] []
  F_Reader__take:Fun K "take" "Reader.take" (inClass (top 25) 4) a.f_Reader__take a.d_Reader__take
  me_Reader__take:Meth K a.c_Reader "take" a.f_Reader__take
  b_Reader__take:Binds K a.d_Reader__take ["self"] []
  F_Reader__take_kind:Fun K "take_kind" "Reader.take_kind" (inClass (top 25) 5) a.f_Reader__take_kind a.d_Reader__take_kind
  me_Reader__take_kind:Meth K a.c_Reader "take_kind" a.f_Reader__take_kind
  b_Reader__take_kind:Binds K a.d_Reader__take_kind ["self","kind"] []
  F_Reader__take_one:Fun K "take_one" "Reader.take_one" (inClass (top 25) 6) a.f_Reader__take_one a.d_Reader__take_one
  me_Reader__take_one:Meth K a.c_Reader "take_one" a.f_Reader__take_one
  b_Reader__take_one:Binds K a.d_Reader__take_one ["self","kind","things"] []
  cl_Reader:Cls K a.c_Reader
  m_Reader:mg "Reader"=some (.ref a.c_Reader)
  no_Reader_signs:NoAttr K a.c_Reader "signs"
  no_Reader_passed:NoAttr K a.c_Reader "passed"
  g_NUMBER:mg "NUMBER"=some a.u_NUMBER∧RelV (.str "number") a.u_NUMBER
  g_WORD:mg "WORD"=some a.u_WORD∧RelV (.str "word") a.u_WORD
  g_LETTERS:mg "LETTERS"=some a.u_LETTERS∧RelV (.str "abcdefghijklmnopqrstuvwxyz") a.u_LETTERS
  g_FIGURES:mg "FIGURES"=some a.u_FIGURES∧RelV (.str "0123456789") a.u_FIGURES
  g_NAME_SIGNS:mg "NAME_SIGNS"=some a.u_NAME_SIGNS∧RelV (.str "abcdefghijklmnopqrstuvwxyz_") a.u_NAME_SIGNS
  g_WORD_SIGNS:mg "WORD_SIGNS"=some a.u_WORD_SIGNS∧RelV (.str "abcdefghijklmnopqrstuvwxyz0123456789") a.u_WORD_SIGNS
  g_NAME:mg "NAME"=some a.u_NAME∧RelV (.str "name") a.u_NAME
  g_MARK:mg "MARK"=some a.u_MARK∧RelV (.str "mark") a.u_MARK
  g_END:mg "END"=some a.u_END∧RelV (.str "end") a.u_END
  g_SHORT_MARKS:mg "SHORT_MARKS"=some a.u_SHORT_MARKS∧RelV (.str "=<>+-*()|,@") a.u_SHORT_MARKS
  g_KEPT:mg "KEPT"=some a.u_KEPT∧RelV (.str "@") a.u_KEPT
  g_MOST_SIGNS:mg "MOST_SIGNS"=some a.u_MOST_SIGNS∧RelV (.int 12) a.u_MOST_SIGNS
  g_MOST_FIGURES:mg "MOST_FIGURES"=some a.u_MOST_FIGURES∧RelV (.int 30) a.u_MOST_FIGURES
  g_MOST_NAME_SIGNS:mg "MOST_NAME_SIGNS"=some a.u_MOST_NAME_SIGNS∧RelV (.int 20) a.u_MOST_NAME_SIGNS
  g_MOST_STAGES:mg "MOST_STAGES"=some a.u_MOST_STAGES∧RelV (.int 12) a.u_MOST_STAGES
  g_KEPT_WORDS:mg "KEPT_WORDS"=some (.ref a.a_KEPT_WORDS)∧RelV (.ref a.a_KEPT_WORDS) (.ref a.a_KEPT_WORDS)
  t_KEPT_WORDS:∀ H,SqT K H a.a_KEPT_WORDS [(.str "and"),(.str "or"),(.str "not"),(.str "has"),(.str "yes"),(.str "no"),(.str "by"),(.str "up"),(.str "down"),(.str "count"),(.str "sum"),(.str "least"),(.str "most"),(.str "unlike"),(.str "all"),(.str "within")]
  g_LONG_MARKS:mg "LONG_MARKS"=some (.ref a.a_LONG_MARKS)∧RelV (.ref a.a_LONG_MARKS) (.ref a.a_LONG_MARKS)
  t_LONG_MARKS:∀ H,SqT K H a.a_LONG_MARKS [(.str "!="),(.str "<="),(.str ">=")]
  g_HOWS_WITH_FIELD:mg "HOWS_WITH_FIELD"=some (.ref a.a_HOWS_WITH_FIELD)∧RelV (.ref a.a_HOWS_WITH_FIELD) (.ref a.a_HOWS_WITH_FIELD)
  t_HOWS_WITH_FIELD:∀ H,SqT K H a.a_HOWS_WITH_FIELD [(.str "sum"),(.str "least"),(.str "most"),(.str "unlike")]
  g_TAKERS:mg "TAKERS"=some (.ref a.a_TAKERS)∧RelV (.ref a.a_TAKERS) (.ref a.a_TAKERS)
  t_TAKERS:TabK K a.a_TAKERS [("where",.ref a.f_take_where),("with",.ref a.f_take_with),("keep",.ref a.f_take_list),("drop",.ref a.f_take_list),("sort",.ref a.f_take_sort),("first",.ref a.f_take_first),("every",.ref a.f_take_every),("sessions",.ref a.f_take_sessions),("join",.ref a.f_take_join),("fold",.ref a.f_take_fold)]
  s_TAKERS:(a.a_TAKERS == sysModules)=false
  n_len:mg "len"=none
  n_all:mg "all"=none
  n_isinstance:mg "isinstance"=none
  n_int:mg "int"=none
  n_str:mg "str"=none
  n_list:mg "list"=none
  n_tuple:mg "tuple"=none
  n_range:mg "range"=none
  m_LogError:mg "LogError"=some (.ref a.c_LogError)
  x_LogError:XL K a.c_LogError
  m_BadText:mg "BadText"=some (.ref a.c_BadText)
  x_BadText:XTx K a.c_BadText a.i_BadText a.j_BadText "at" "BadText.__init__" (meth 2)
  y_BadText:PySem.W.mroIn K a.c_BadText (.ref a.c_LogError)=some true
theorem sc_BadText__init:FnScope ["self","at"] ["self","at"] (defScope (meth 2)):=⟨rfl,rfl,rfl,by decide +kernel,rfl,by decide +kernel,by decide +kernel⟩
theorem ok_BadText__init {P:Program} {w:World} {K:PySem.W.Frag} {mg:Str→Option Value} {base:Heap} {a:Adr} (T:Txt K mg a):FnOk P w K mg base CX0 1 a.i_BadText a.j_BadText ["self","at"] (spInit K "at") :=
  T.x_BadText.init sc_BadText__init fun X hN hS hK=>by subst hK;exact sO_ (ps_xf (pe_var (i:=0) (by rw [hN];rfl) (by rw [hS];exact Or.inl rfl)) (pe_var (i:=1) (by rw [hN];rfl) (by rw [hS];exact Or.inl rfl)))
theorem sc_is_word:FnScope ["text"] ["text"] (defScope (top 14)):=⟨rfl,rfl,rfl,by decide +kernel,rfl,by decide +kernel,by decide +kernel⟩
theorem sc_begins_with_letter:FnScope ["text"] ["text"] (defScope (top 15)):=⟨rfl,rfl,rfl,by decide +kernel,rfl,by decide +kernel,by decide +kernel⟩
theorem sc_has_only:FnScope ["text","signs","most"] ["text","signs","most"] (defScope (top 16)):=⟨rfl,rfl,rfl,by decide +kernel,rfl,by decide +kernel,by decide +kernel⟩
theorem sc_number_in:FnScope ["text","figures"] ["text"] (defScope (top 17)):=⟨rfl,rfl,rfl,by decide +kernel,rfl,by decide +kernel,by decide +kernel⟩
theorem sc_signs_in:FnScope ["text","signs","at","kind","thing","end"] ["text"] (defScope (top 26)):=⟨rfl,rfl,rfl,by decide +kernel,rfl,by decide +kernel,by decide +kernel⟩
theorem sc_sign_at:FnScope ["text","at"] ["text","at"] (defScope (top 27)):=⟨rfl,rfl,rfl,by decide +kernel,rfl,by decide +kernel,by decide +kernel⟩
theorem sc_is_figure_at:FnScope ["text","at"] ["text","at"] (defScope (top 28)):=⟨rfl,rfl,rfl,by decide +kernel,rfl,by decide +kernel,by decide +kernel⟩
theorem sc_end_of_run:FnScope ["text","at","signs"] ["text","at","signs"] (defScope (top 29)):=⟨rfl,rfl,rfl,by decide +kernel,rfl,by decide +kernel,by decide +kernel⟩
theorem sc_name_at:FnScope ["text","at","end","name"] ["text","at"] (defScope (top 30)):=⟨rfl,rfl,rfl,by decide +kernel,rfl,by decide +kernel,by decide +kernel⟩
theorem sc_word_at:FnScope ["text","at","quote","word"] ["text","at"] (defScope (top 31)):=⟨rfl,rfl,rfl,by decide +kernel,rfl,by decide +kernel,by decide +kernel⟩
theorem sc_number_at:FnScope ["text","at","end","number"] ["text","at"] (defScope (top 32)):=⟨rfl,rfl,rfl,by decide +kernel,rfl,by decide +kernel,by decide +kernel⟩
theorem sc_mark_at:FnScope ["text","at"] ["text","at"] (defScope (top 33)):=⟨rfl,rfl,rfl,by decide +kernel,rfl,by decide +kernel,by decide +kernel⟩
theorem sc_read_question:FnScope ["text","reader","stages"] ["text"] (defScope (top 50)):=⟨rfl,rfl,rfl,by decide +kernel,rfl,by decide +kernel,by decide +kernel⟩
theorem sc_take_stage:FnScope ["reader","word","action"] ["reader"] (defScope (top 51)):=⟨rfl,rfl,rfl,by decide +kernel,rfl,by decide +kernel,by decide +kernel⟩
theorem sc_take_from:FnScope ["word","reader"] ["word","reader"] (defScope (top 52)):=⟨rfl,rfl,rfl,by decide +kernel,rfl,by decide +kernel,by decide +kernel⟩
theorem sc_take_list:FnScope ["word","reader"] ["word","reader"] (defScope (top 55)):=⟨rfl,rfl,rfl,by decide +kernel,rfl,by decide +kernel,by decide +kernel⟩
theorem sc_take_sort:FnScope ["word","reader","name"] ["word","reader"] (defScope (top 56)):=⟨rfl,rfl,rfl,by decide +kernel,rfl,by decide +kernel,by decide +kernel⟩
theorem sc_take_first:FnScope ["word","reader"] ["word","reader"] (defScope (top 57)):=⟨rfl,rfl,rfl,by decide +kernel,rfl,by decide +kernel,by decide +kernel⟩
theorem sc_take_every:FnScope ["word","reader"] ["word","reader"] (defScope (top 58)):=⟨rfl,rfl,rfl,by decide +kernel,rfl,by decide +kernel,by decide +kernel⟩
theorem sc_take_sessions:FnScope ["word","reader","gap"] ["word","reader"] (defScope (top 59)):=⟨rfl,rfl,rfl,by decide +kernel,rfl,by decide +kernel,by decide +kernel⟩
theorem sc_take_join:FnScope ["word","reader","source","name"] ["word","reader"] (defScope (top 60)):=⟨rfl,rfl,rfl,by decide +kernel,rfl,by decide +kernel,by decide +kernel⟩
theorem sc_take_fold:FnScope ["word","reader","things"] ["word","reader"] (defScope (top 61)):=⟨rfl,rfl,rfl,by decide +kernel,rfl,by decide +kernel,by decide +kernel⟩
theorem sc_take_thing:FnScope ["reader","name","how","field"] ["reader"] (defScope (top 62)):=⟨rfl,rfl,rfl,by decide +kernel,rfl,by decide +kernel,by decide +kernel⟩
theorem sc_take_by:FnScope ["reader"] ["reader"] (defScope (top 63)):=⟨rfl,rfl,rfl,by decide +kernel,rfl,by decide +kernel,by decide +kernel⟩
theorem sc_take_names:FnScope ["reader","names"] ["reader"] (defScope (top 64)):=⟨rfl,rfl,rfl,by decide +kernel,rfl,by decide +kernel,by decide +kernel⟩
theorem sc_take_number:FnScope ["reader","least","place","number"] ["reader","least"] (defScope (top 65)):=⟨rfl,rfl,rfl,by decide +kernel,rfl,by decide +kernel,by decide +kernel⟩
theorem sc_begin:FnScope ["_law_script"] ["_law_script"] (defScope (top 68)):=⟨rfl,rfl,rfl,by decide +kernel,rfl,by decide +kernel,by decide +kernel⟩
theorem sc_take:FnScope ["_law_draw","_law_many","_law_cell","_law_digit","_law_one"] ["_law_draw","_law_many"] (defScope (top 69)):=⟨rfl,rfl,rfl,by decide +kernel,rfl,by decide +kernel,by decide +kernel⟩
theorem sc_of:FnScope ["_law_draw","_law_some"] ["_law_draw","_law_some"] (defScope (top 70)):=⟨rfl,rfl,rfl,by decide +kernel,rfl,by decide +kernel,by decide +kernel⟩
theorem sc_kept_word:FnScope ["_law_text_here","_law_kept"] ["_law_text_here"] (defScope (top 71)):=⟨rfl,rfl,rfl,by decide +kernel,rfl,by decide +kernel,by decide +kernel⟩
theorem sc_letters:FnScope ["_law_draw","_law_signs","_law_most"] ["_law_draw","_law_signs","_law_most"] (defScope (top 72)):=⟨rfl,rfl,rfl,by decide +kernel,rfl,by decide +kernel,by decide +kernel⟩
theorem sc_drawn_name:FnScope ["_law_draw","_law_name"] ["_law_draw"] (defScope (top 73)):=⟨rfl,rfl,rfl,by decide +kernel,rfl,by decide +kernel,by decide +kernel⟩
theorem sc_by_text:FnScope ["_law_names_here"] ["_law_names_here"] (defScope (top 78)):=⟨rfl,rfl,rfl,by decide +kernel,rfl,by decide +kernel,by decide +kernel⟩
theorem sc_stage_text:FnScope ["_law_stage","_law_word","_law_folds"] ["_law_stage"] (defScope (top 79)):=⟨rfl,rfl,rfl,by decide +kernel,rfl,by decide +kernel,by decide +kernel⟩
theorem sc_asking:FnScope ["_law_question"] ["_law_question"] (defScope (top 80)):=⟨rfl,rfl,rfl,by decide +kernel,rfl,by decide +kernel,by decide +kernel⟩
theorem sc_cut:FnScope ["_law_text_here","_law_found","_law_at","_law_word","_law_rest"] ["_law_text_here"] (defScope (top 81)):=⟨rfl,rfl,rfl,by decide +kernel,rfl,by decide +kernel,by decide +kernel⟩
theorem sc_is_name:FnScope ["_law_word"] ["_law_word"] (defScope (top 82)):=⟨rfl,rfl,rfl,by decide +kernel,rfl,by decide +kernel,by decide +kernel⟩
theorem sc_names:FnScope ["_law_words","_law_at","_law_end"] ["_law_words","_law_at"] (defScope (top 83)):=⟨rfl,rfl,rfl,by decide +kernel,rfl,by decide +kernel,by decide +kernel⟩
theorem sc_fixed:FnScope ["_law_words","_law_at","_law_pattern","_law_kind","_law_word","_law_figure","_law_good"] ["_law_words","_law_at","_law_pattern"] (defScope (top 84)):=⟨rfl,rfl,rfl,by decide +kernel,rfl,by decide +kernel,by decide +kernel⟩
theorem sc_by_end:FnScope ["_law_words","_law_at"] ["_law_words","_law_at"] (defScope (top 85)):=⟨rfl,rfl,rfl,by decide +kernel,rfl,by decide +kernel,by decide +kernel⟩
theorem sc_fold_end:FnScope ["_law_words","_law_at","_law_good","_law_more","_law_pattern"] ["_law_words","_law_at"] (defScope (top 86)):=⟨rfl,rfl,rfl,by decide +kernel,rfl,by decide +kernel,by decide +kernel⟩
theorem sc_stage_end:FnScope ["_law_words","_law_at","_law_first","_law_word","_law_plain","_law_known","_law_good"] ["_law_words","_law_at","_law_first"] (defScope (top 87)):=⟨rfl,rfl,rfl,by decide +kernel,rfl,by decide +kernel,by decide +kernel⟩
theorem sc_wrong:FnScope ["_law_text_here","_law_things","_law_words","_law_at","_law_good","_law_stages"] ["_law_text_here"] (defScope (top 88)):=⟨rfl,rfl,rfl,by decide +kernel,rfl,by decide +kernel,by decide +kernel⟩
theorem sc_stage_plain:FnScope ["_law_draw","_law_name","_law_other","_law_fork","_law_some","_law_folds"] ["_law_draw"] (defScope (top 89)):=⟨rfl,rfl,rfl,by decide +kernel,rfl,by decide +kernel,by decide +kernel⟩
theorem sc_law:FnScope ["_law_script","_law_draw","_law_turn","_law_many","_law_stages","_law_text_here","_law_words","_law_at","_law_fork","_law_some","_law_wrong_here","_law_found","e"] ["_law_script"] (defScope (top 90)):=⟨rfl,rfl,rfl,by decide +kernel,rfl,by decide +kernel,by decide +kernel⟩
theorem sc_Reader__init:FnScope ["self","text"] ["self","text"] (defScope (inClass (top 25) 0)):=⟨rfl,rfl,rfl,by decide +kernel,rfl,by decide +kernel,by decide +kernel⟩
theorem sc_Reader__place:FnScope ["self"] ["self"] (defScope (inClass (top 25) 1)):=⟨rfl,rfl,rfl,by decide +kernel,rfl,by decide +kernel,by decide +kernel⟩
theorem sc_Reader__sees:FnScope ["self","kind"] ["self","kind"] (defScope (inClass (top 25) 2)):=⟨rfl,rfl,rfl,by decide +kernel,rfl,by decide +kernel,by decide +kernel⟩
theorem sc_Reader__sees_one:FnScope ["self","kind","things"] ["self","kind","things"] (defScope (inClass (top 25) 3)):=⟨rfl,rfl,rfl,by decide +kernel,rfl,by decide +kernel,by decide +kernel⟩
theorem sc_Reader__take:FnScope ["self","thing"] ["self"] (defScope (inClass (top 25) 4)):=⟨rfl,rfl,rfl,by decide +kernel,rfl,by decide +kernel,by decide +kernel⟩
theorem sc_Reader__take_kind:FnScope ["self","kind"] ["self","kind"] (defScope (inClass (top 25) 5)):=⟨rfl,rfl,rfl,by decide +kernel,rfl,by decide +kernel,by decide +kernel⟩
theorem sc_Reader__take_one:FnScope ["self","kind","things"] ["self","kind","things"] (defScope (inClass (top 25) 6)):=⟨rfl,rfl,rfl,by decide +kernel,rfl,by decide +kernel,by decide +kernel⟩
theorem sN_ {H:Hp} {p:Addr} (h:H p=none) (o:HO):Same H (upd H p o):=fun b u q=>by rw [upd_ne (ne_of_none q h)];exact q
theorem small {n:Nat} (h:n≤1000):n≤sizeLine:=Nat.le_of_lt (small1000 h)
def kw:List Str:=["and","or","not","has","yes","no","by","up","down","count","sum","least","most","unlike","all","within"]
def kept (x:Str):Bool:=inV (.str x) (kw.map V.str)
def isLet (c:Nat):Bool:=decide (97≤c)&&decide (c≤122)
def isFig (c:Nat):Bool:=decide (48≤c)&&decide (c≤57)
def sz (x:Str):Bool:=decide (1≤x.length)&&decide (x.length≤12)
def bwl (x:Str):Bool:=match x.cps.toList with
  | []=>false
  | c :: _=>isLet c
def nsg (c:Nat):Bool:=isLet c || c == 95
def wsg (c:Nat):Bool:=isLet c || isFig c
def nameB (x:Str):Bool:=sz x&&(bwl x&&(x.cps.toList.all nsg&&!kept x))
def wordB (x:Str):Bool:=sz x&&(bwl x&&x.cps.toList.all wsg)
theorem in_small (L:List Nat) (p:Nat→Bool) (h1:∀ x ∈ L,x < 128) (h2:∀ c,128≤c→p c=false) (h3:((List.range 128).all fun c=>decide (c ∈ L) == p c)=true) (c:Nat):decide (c ∈ L)=p c:=by
  by_cases h:c < 128
  · exact eq_of_beq (List.all_eq_true.mp h3 c (List.mem_range.mpr h))
  · rw [h2 c (by omega)];exact decide_eq_false fun z=>h (h1 c z)
theorem let_big (c:Nat) (h:128≤c):isLet c=false:=by unfold isLet;rw [decide_eq_false (show ¬ c≤122 by omega),Bool.and_false]
theorem fig_big (c:Nat) (h:128≤c):isFig c=false:=by unfold isFig;rw [decide_eq_false (show ¬ c≤57 by omega),Bool.and_false]
theorem let_in (c:Nat):decide (c ∈ (("abcdefghijklmnopqrstuvwxyz":Str)).cps.toList)=isLet c:=in_small _ _ (by decide +kernel) let_big (by decide +kernel) c
theorem nsg_in (c:Nat):decide (c ∈ (("abcdefghijklmnopqrstuvwxyz_":Str)).cps.toList)=nsg c:=in_small _ _ (by decide +kernel) (fun c h=>by unfold nsg;rw [let_big c h,Bool.false_or,beq_eq_false_iff_ne];omega) (by decide +kernel) c
theorem wsg_in (c:Nat):decide (c ∈ (("abcdefghijklmnopqrstuvwxyz0123456789":Str)).cps.toList)=wsg c:=in_small _ _ (by decide +kernel) (fun c h=>by unfold wsg;rw [let_big c h,fig_big c h];rfl) (by decide +kernel) c
theorem lt_sign (c d:Nat):(([c]:List Nat) < [d]) ↔ c < d:=by
  rw [List.cons_lt_cons_iff]
  simp
theorem ge_sign (c d:Nat):(!decide (([c]:List Nat) < [d]))=decide (d≤c):=by
  rw [Bool.eq_iff_iff]
  simp only [Bool.not_eq_true',decide_eq_false_iff_not,decide_eq_true_eq,lt_sign]
  omega
theorem comp_its {z:Str} {im:List (Option Nat)} {σ:St} {H:Hp} {Q:VK} {te:TE} (p:Nat→Bool) (hz:z.cps.size≤sizeLine)
    (he:∀ c (R:VK),R (.bl (p c)) H→te ((inner im σ).set 0 (some (.str ⟨#[c]⟩))) H R)
    (hq:∀ D,H D=none→Q (.ref D) (upd H D (.lst ((z.cps.toList.map p).map V.bl)))) :
    CompAt im (gName 0) tNoIf te σ Q (Its z) H:=by
  have hs:z.cps.size=z.cps.toList.length:=by simp
  refine ⟨fun i m ys H'=>m=z.cps.size - i∧i≤z.cps.size∧ys=((z.cps.toList.take i).map p).map V.bl∧H'=H,⟨z.cps.size,by simp⟩,?_⟩
  rintro i m ys H' ⟨rfl,hi,rfl,rfl⟩
  refine ⟨by rw [List.length_map,List.length_map,List.length_take];omega,?_⟩
  by_cases hlt:i < z.cps.size
  · refine .inr ⟨hlt,fun x H'' y=>?_⟩
    obtain ⟨e,c,hc,rfl⟩:=y
    subst e
    refine he c _ ⟨z.cps.size - (i+1),by omega,rfl,hlt,?_,rfl⟩
    have hc':z.cps.toList[i]?=some c:=by rw [Array.getElem?_toList];exact hc
    rw [List.take_add_one,hc']
    simp
  · have e:i=z.cps.size:=by omega
    subst e
    refine .inl ⟨rfl,fun D hD=>?_⟩
    rw [hs,List.take_length]
    exact hq D hD
section
variable {P:Program} {w:World} {K:PySem.W.Frag} {mg:Str→Option Value} {base:Heap} {a:Adr}
def spTB (p:Str→Bool):Sp:=fun vs H Q _=>∃ x,vs=[.str x]∧x.length≤sizeLine∧∀ H',Same H H'→Q (.bl (p x)) H'
theorem ok_begins_with_letter (T:Txt K mg a):FnOk P w K mg base CX0 1 a.f_begins_with_letter a.d_begins_with_letter ["text"] (spTB bwl):=by
  refine T.F_begins_with_letter.ok sc_begins_with_letter (fun vs H Q E h=>?_) (fun cdv A outer s H vs Q E hr h=>?_)
  · obtain ⟨x,rfl,_⟩:=h;rfl
  obtain ⟨x,rfl,hx,q⟩:=h
  refine ⟨_,(sO_ (ps_ret (pe_and (pR_ op_ne (pv 0) pS_ (nM_ _)) (pe_one (pR_ op_in_str (pe_ix ix_str (pv 0) pI_ (fun _ _=>rfl)) (pe_glob rfl T.g_LETTERS.1 T.g_LETTERS.2) (by with_unfolding_all rfl)))))),?_⟩
  refine ⟨_,rfl,rfl,_,rfl,?_⟩
  refine ite2 (fun c=>?_) (fun c=>?_)
  · have hne:x.cps.toList≠[]:=fun e=>by
      have:x="":=by
        obtain ⟨cps⟩:=x
        have e':cps=#[]:=by simpa using e
        subst e'
        decide +kernel
      rw [this] at c
      exact absurd c (by decide +kernel)
    obtain ⟨d,r,hd⟩:∃ d r,x.cps.toList=d :: r:=by
      cases e:x.cps.toList with
      | nil=>exact absurd e hne
      | cons d r=>exact ⟨d,r,rfl⟩
    refine ⟨_,rfl,x,0,d,rfl,rfl,hx,?_,_,_,rfl,rfl,?_⟩
    · rw [hd];exact atI_nat (j:=0) rfl
    · show Q (.bl (!(Builtin.Str.occurrences _ _ 0 _ 1).isEmpty)) H
      rw [PySem.StrLaws.found_one,let_in]
      have:bwl x=isLet d:=by unfold bwl;rw [hd]
      rw [← this]
      exact q H (Same.refl H)
  · have e:x="":=by
      by_cases e:x=""
      · exact e
      · exact absurd (by simpa using e) c
    subst e
    have z:=q H (Same.refl H)
    have:bwl ""=false:=by decide +kernel
    rw [this] at z
    exact z
def inT (s:Str) (c:Nat):Bool:=decide (c ∈ s.cps.toList)
def spHO:Sp:=fun vs H Q _=>∃ x s n,vs=[.str x,.str s,.int n]∧x.length≤sizeLine∧∀ H',Same H H'→Q (.bl (decide (1≤(x.length:Int))&&(decide ((x.length:Int)≤n)&&x.cps.toList.all (inT s)))) H'
theorem ok_has_only (T:Txt K mg a):FnOk P w K mg base CX0 1 a.f_has_only a.d_has_only ["text","signs","most"] spHO:=by
  refine T.F_has_only.ok sc_has_only (fun vs H Q E h=>?_) (fun cdv A outer s H vs Q E hr h=>?_)
  · obtain ⟨x,s,n,rfl,_⟩:=h;rfl
  obtain ⟨x,sg,n,rfl,hx,q⟩:=h
  refine ⟨_,(sO_ (ps_ret (pe_and (pe_chain op_le op_le pI_ (pB_ call_len_str rfl T.n_len PySem.boot_len (pC_ (pv 0) pa_nil)) (pv 2)) (pe_one (pB_ (call_all rfl) rfl T.n_all (by decide +kernel) (pC_ (pe_comp ["sign","signs"] [none,some 1] (pi_str (pv 0)) (fun _ _ _ _ _=>(pg_name (i:=0) (show List.Nodup (["sign","signs"]:List Str) from by decide +kernel) rfl (Or.inl rfl) (Or.inr rfl))) (fun _ _ _ _ _=>pts_nil) (fun _ _ _ _ _=>(pR_ op_in_str (pv 0) (pv 1) (by with_unfolding_all rfl)))) pa_nil)))))),?_⟩
  refine ⟨_,rfl,_,rfl,hx,_,_,rfl,rfl,_,rfl,?_⟩
  refine ite2 (fun c=>?_) (fun c=>?_)
  · rw [c] at q
    refine ⟨_,rfl,_,_,rfl,rfl,_,rfl,?_⟩
    refine ite2 (fun c2=>?_) (fun c2=>?_)
    · rw [c2] at q
      refine ⟨_,rfl,_,rfl,comp_its (inT sg) hx (fun c R hR=>?_) (fun D hD=>?_)⟩
      · refine ⟨_,rfl,_,rfl,_,_,rfl,rfl,?_⟩
        show R (.bl (!(Builtin.Str.occurrences _ _ 0 _ 1).isEmpty)) H
        rw [PySem.StrLaws.found_one]
        exact hR
      · refine ⟨D,_,rfl,SqL.of uS_,?_⟩
        have z:=q _ (sN_ hD (.lst ((x.cps.toList.map (inT sg)).map V.bl)))
        have e:(x.cps.toList.map (inT sg)).all id=x.cps.toList.all (inT sg):=by rw [List.all_map];rfl
        rw [e]
        exact z
    · rw [Bool.eq_false_iff.mpr c2] at q
      exact q H (Same.refl H)
  · rw [Bool.eq_false_iff.mpr c] at q
    exact ⟨_,rfl,iteF (q H (Same.refl H))⟩
theorem ok_is_word (T:Txt K mg a):FnOk P w K mg base CX0 2 a.f_is_word a.d_is_word ["text"] (spTB wordB):=by
  refine T.F_is_word.ok sc_is_word (fun vs H Q E h=>?_) (fun cdv A outer s H vs Q E hr h=>?_)
  · obtain ⟨x,rfl,_⟩:=h;rfl
  obtain ⟨x,rfl,hx,q⟩:=h
  refine ⟨_,(sO_ (ps_ret (pe_and (pL_ (ok_begins_with_letter T) (hr.mono (by decide)) rfl T.m_begins_with_letter T.F_begins_with_letter.kp T.b_begins_with_letter .nil pass0 (pC_ (pv 0) pa_nil)) (pe_one (pL_ (ok_has_only T) (hr.mono (by decide)) rfl T.m_has_only T.F_has_only.kp T.b_has_only .nil pass0 (pC_ (pv 0) (pC_ (pe_glob rfl T.g_WORD_SIGNS.1 T.g_WORD_SIGNS.2) (pC_ (pe_glob rfl T.g_MOST_SIGNS.1 T.g_MOST_SIGNS.2) pa_nil)))))))),?_⟩
  refine ⟨_,rfl,x,rfl,hx,fun H1 g1=>⟨_,rfl,?_⟩⟩
  refine ite2 (fun c=>?_) (fun c=>?_)
  · refine ⟨_,rfl,x,_,_,rfl,hx,fun H2 g2=>?_⟩
    have z:=q H2 (g1.trans g2)
    have e:wordB x=(decide (1≤(x.length:Int))&&(decide ((x.length:Int)≤12)&&x.cps.toList.all (inT "abcdefghijklmnopqrstuvwxyz0123456789"))):=by
      unfold wordB sz
      rw [c,Bool.true_and]
      have e1:x.cps.toList.all wsg=x.cps.toList.all (inT "abcdefghijklmnopqrstuvwxyz0123456789"):=by
        congr 1;funext d;unfold inT;rw [wsg_in]
      rw [e1,Bool.and_assoc]
      congr 1
      · rw [Bool.eq_iff_iff];simp only [decide_eq_true_eq];omega
      · congr 1;rw [Bool.eq_iff_iff];simp only [decide_eq_true_eq];omega
    rw [e] at z
    exact z
  · have z:=q H1 g1
    have e:wordB x=false:=by unfold wordB;rw [Bool.eq_false_iff.mpr c,Bool.false_and,Bool.and_false]
    rw [e] at z
    exact z
abbrev kwT:Str:="and or not has yes no by up down count sum least most unlike all within"
theorem kw_split:Txt.split kwT " "=kw:=by decide +kernel
theorem kw_parts:(Builtin.Str.partsBetween kwT (Builtin.Str.occurrences kwT " " 0 kwT.length (kwT.length+1)) (" ":Str).length).length=16:=by decide +kernel
theorem kw_len:kwT.length=71:=by decide +kernel
theorem split_kw {H:Hp} {Q:VK} (q:∀ p,H p=none→Q (.ref p) (upd H p (.lst (kw.map V.str)))):rSplit (.str kwT) [.str " "] H Q :=
  ⟨kwT," ",rfl,rfl,by decide +kernel,by rw [kw_len];exact small (by decide),by rw [kw_parts];exact small (by decide),by rw [kw_split];exact small (by decide),by rw [kw_split];exact q⟩
theorem ok_kept_word (T:Txt K mg a):FnOk P w K mg base CX0 1 a.f_kept_word a.d_kept_word ["_law_text_here"] (spTB kept):=by
  refine T.F_kept_word.ok sc_kept_word (fun vs H Q E h=>?_) (fun cdv A outer s H vs Q E hr h=>?_)
  · obtain ⟨x,rfl,_⟩:=h;rfl
  obtain ⟨x,rfl,hx,q⟩:=h
  refine ⟨_,(sC_ (zS_ (i:=1) sc_kept_word.nd rfl (by first | exact Or.inl rfl | exact Or.inr rfl) pS_) (sO_ (ps_ret (pR_ op_in_seq (pv 0) (pe_bm PySem.F.plainAttrs_str PySem.F.slot_str_split PySem.F.type_str_split mt_split (pv 1) (pC_ pS_ pa_nil)) (by with_unfolding_all rfl))))),?_⟩
  refine ⟨_,rfl,_,rfl,rfl,?_⟩
  dsimp only [tCons,tC,tNil]
  refine split_kw fun p hp=>?_
  exact ⟨p,kw.map V.str,rfl,.inl (SqL.of uS_),rfl,(by decide +kernel),q _ (sN_ hp _)⟩
end
end My
namespace My
open PySem L2
def Drw (H:Hp) (d:Addr):Prop:=∃ (l:Addr) (ns:List Int) (p c s:Int),H d=some (.lst [.ref l,.int p,.int c,.int s])∧H l=some (.lst (ns.map V.int))∧0≤p∧0≤s∧s < 2305843009213693951
def Fst (H:Hp) (d l:Addr):Prop:=∃ xs,H d=some (.lst (.ref l :: xs))
structure Ev (d:Addr) (H H':Hp):Prop where
  same:∀ b o,b≠d→H b=some o→H' b=some o
  fst:∀ l,Fst H d l→Fst H' d l
  drw:Drw H' d
theorem fstT {H H':Hp} {d l:Addr} {xs ys:List V} (hd:H d=some (.lst (.ref l :: xs))) (h:H' d=some (.lst (.ref l :: ys))):∀ l',Fst H d l'→Fst H' d l':=fun l' ⟨zs,e⟩=>by
  rw [hd] at e;cases e;exact ⟨ys,h⟩
theorem Ev.trans {d:Addr} {H H1 H2:Hp} (e1:Ev d H H1) (e2:Ev d H1 H2):Ev d H H2:=⟨fun b o hb e=>e2.same b o hb (e1.same b o hb e),fun l h=>e2.fst l (e1.fst l h),e2.drw⟩
theorem Ev.refl {d:Addr} {H:Hp} (h:Drw H d):Ev d H H:=⟨fun _ _ _ e=>e,fun _ h=>h,h⟩
theorem Drw.keep {d:Addr} {H H':Hp} (h:Drw H d) (g:Same H H'):Drw H' d:=by
  obtain ⟨l,ns,p,c,s,h1,h2,r⟩:=h
  exact ⟨l,ns,p,c,s,g _ _ h1,g _ _ h2,r⟩
theorem Ev.of {d:Addr} {H H':Hp} (h:Drw H d) (g:Same H H'):Ev d H H':=⟨fun b o _ e=>g b o e,fun l z=>let ⟨xs,e⟩:=z;⟨xs,g _ _ e⟩,h.keep g⟩
theorem Ev.then {d:Addr} {H H1 H2:Hp} (e:Ev d H H1) (g:Same H1 H2):Ev d H H2:=e.trans (Ev.of e.drw g)
theorem Drw.some {d:Addr} {H:Hp} (h:Drw H d):∃ xs,H d=some (.lst xs):=by obtain ⟨l,ns,p,c,s,h1,_⟩:=h;exact ⟨_,h1⟩
theorem Drw.ne_of_none {d b:Addr} {H:Hp} (h:Drw H d) (hb:H b=Option.none):b≠d:=fun z=>by
  obtain ⟨xs,e⟩:=h.some
  rw [z,e] at hb;cases hb
theorem ixd {K:PySem.W.Frag} {σ:St} {H:Hp} {Q:VK} {d:Addr} {xs:List V} {i:Nat} (k:Nat) {v:V} (hσ:σ[i]?=some (some (.ref d))) (hd:H d=some (.lst xs)) (hk:xs[k]?=some v) (q:Q v H):tOp (rIxL K) (tVar i) (tC (.int (k:Nat))) σ H Q :=
  ⟨_,hσ,d,xs,_,v,rfl,rfl,SqL.of hd,atI_nat hk,q⟩
def spTake:Sp:=fun vs H Q _=>∃ (d:Addr) (m:Int),vs=[.ref d,.int m]∧Drw H d∧1≤m∧m < 2 ^ 200∧∀ r H',0≤r→r < m→Ev d H H'→Q (.int r) H'
section
variable {P:Program} {w:World} {K:PySem.W.Frag} {mg:Str→Option Value} {base:Heap} {a:Adr}
theorem ok_take (T:Txt K mg a):FnOk P w K mg base CX0 1 a.f_take a.d_take ["_law_draw","_law_many"] spTake:=by
  refine T.F_take.ok sc_take (fun vs H Q E h=>?_) (fun cdv A outer s H vs Q E hr h=>?_)
  · obtain ⟨x,s,rfl,_⟩:=h;rfl
  obtain ⟨d,m,rfl,hD,hm1,hm2,q⟩:=h
  obtain ⟨l,ns,p,c,s0,hd,hl,hp,hs0,hs1⟩:=hD
  have hld:l≠d:=fun z=>by
    subst z
    rw [hd] at hl
    cases ns with
    | nil=>cases hl
    | cons n ns=>injection hl with hl;injection hl with hl;injection hl with h1 _;cases h1
  refine ⟨_,(sC_ (ps_if (PW.pt (pw_and (tR_ op_lt (pe_ix ix_list (pv 0) pI_ (fun _ _=>rfl)) (pv 1) (nM_ _)) (pw_and1 (tR_ op_lt (pe_ix ix_list (pv 0) pI_ (fun _ _=>rfl)) (pB_ call_len rfl T.n_len PySem.boot_len (pC_ (pe_ix ix_list (pv 0) pI_ (fun _ _=>rfl)) pa_nil)) (nM_ _))))) (sC_ (zS_ (i:=2) sc_take.nd rfl (by first | exact Or.inl rfl | exact Or.inr rfl) (pe_ix ix_seq (pe_ix ix_list (pv 0) pI_ (fun _ _=>rfl)) (pe_ix ix_list (pv 0) pI_ (fun _ _=>rfl)) (fun _ _=>rfl))) (sC_ (ps_asg (pO_ op_add (pe_ix ix_list (pv 0) pI_ (fun _ _=>rfl)) pI_) (pg_sub (pv 0) pI_ set_list)) (sC_ (ps_asg pI_ (pg_sub (pv 0) pI_ set_list)) (sC_ (ps_if (tR_ op_ge (pv 2) (pO_ op_pow pI_ pI_) (nM_ _)) (sO_ (ps_asg (pv 2) (pg_sub (pv 0) pI_ set_list))) pss_nil) (sO_ (ps_asg (pO_ op_mod (pO_ op_add (pO_ op_add (pO_ op_mul (pe_ix ix_list (pv 0) pI_ (fun _ _=>rfl)) pI_) (pO_ op_mul (pv 2) pI_)) (pe_ix ix_list (pv 0) pI_ (fun _ _=>rfl))) pI_) (pg_sub (pv 0) pI_ set_list))))))) pss_nil) (sC_ (ps_if (tR_ op_ge (pe_ix ix_list (pv 0) pI_ (fun _ _=>rfl)) (pv 1) (nM_ _)) (sC_ (zS_ (i:=3) sc_take.nd rfl (by first | exact Or.inl rfl | exact Or.inr rfl) (pO_ op_mod (pe_ix ix_list (pv 0) pI_ (fun _ _=>rfl)) (pv 1))) (sC_ (ps_asg (pO_ op_fdivB (pe_ix ix_list (pv 0) pI_ (fun _ _=>rfl)) (pv 1)) (pg_sub (pv 0) pI_ set_list)) (sO_ (ps_ret (pv 3))))) pss_nil) (sC_ (zS_ (i:=4) sc_take.nd rfl (by first | exact Or.inl rfl | exact Or.inr rfl) (pO_ op_mod (pO_ op_mul (pe_ix ix_list (pv 0) pI_ (fun _ _=>rfl)) (pe_ix ix_list (pv 0) pI_ (fun _ _=>rfl))) pI_)) (sC_ (ps_asg (pO_ op_mod (pO_ op_add (pO_ op_add (pO_ op_mul (pv 4) pI_) (pO_ op_mul (pe_ix ix_list (pv 0) pI_ (fun _ _=>rfl)) pI_)) pI_) pI_) (pg_sub (pv 0) pI_ set_list)) (sO_ (ps_ret (pO_ op_mod (pO_ op_fdivB (pe_ix ix_list (pv 0) pI_ (fun _ _=>rfl)) pI_) (pv 1)))))))),?_⟩
  refine ixd 2 rfl hd rfl ⟨_,rfl,_,_,rfl,rfl,_,rfl,?_⟩
  refine ite2 (fun c1=>?_) (fun c1=>?_)
  · refine ixd 1 rfl hd rfl (ixd 0 rfl hd rfl ⟨_,_,rfl,.inl ⟨_,SqL.of hl,rfl⟩,_,_,rfl,rfl,_,rfl,?_⟩)
    refine ite2 (fun c2=>?_) (fun c2=>?_)
    · have c2':p < (ns.map V.int).length:=of_decide_eq_true c2
      rw [List.length_map] at c2'
      obtain ⟨cell,hcell⟩:∃ v,ns[p.toNat]?=some v:=⟨ns[p.toNat]'(by omega),List.getElem?_eq_getElem _⟩
      have hat:atI (ns.map V.int) p=some (.int cell):=by
        have z:atI (ns.map V.int) ((p.toNat:Nat):Int)=some (.int cell):=atI_nat (by rw [List.getElem?_map,hcell];rfl)
        have e:((p.toNat:Nat):Int)=p:=by omega
        rw [e] at z;exact z
      refine ixd 0 rfl hd rfl (ixd 1 rfl hd rfl (.inl ⟨l,_,_,_,rfl,rfl,SqL.of hl,hat,?_⟩))
      refine ixd 1 rfl hd rfl ⟨_,_,rfl,rfl,_,rfl,d,_,_,1,rfl,rfl,hd,rfl,?_⟩
      refine ⟨_,rfl,d,_,_,2,rfl,rfl,uS_,rfl,?_⟩
      refine ⟨_,rfl,_,_,rfl,rfl,⟨by decide,by decide,by decide⟩,_,_,rfl,rfl,_,rfl,?_⟩
      refine ite2 (fun c3=>?_) (fun c3=>?_)
      · refine ⟨_,rfl,_,rfl,d,_,_,2,rfl,rfl,uS_,rfl,?_⟩
        refine ixd 3 rfl uS_ rfl ⟨_,_,rfl,rfl,.inr ⟨by decide,by decide⟩,_,rfl,_,_,rfl,rfl,.inr ⟨by decide,by decide⟩,_,_,rfl,rfl,ixd 1 rfl uS_ rfl ⟨_,_,rfl,rfl,_,_,rfl,rfl,(show (0:Int) < 2305843009213693951 by decide),?_⟩⟩
        refine ⟨_,rfl,d,_,_,3,rfl,rfl,uS_,rfl,?_⟩
        refine ixd 2 rfl uS_ rfl ⟨_,rfl,_,_,rfl,rfl,_,rfl,?_⟩
        refine ite2 (fun k1=>?_) (fun k1=>?_)
        · refine ixd 2 rfl uS_ rfl ⟨_,rfl,_,_,rfl,rfl,(show 0 < m by omega),?_⟩
          refine ixd 2 rfl uS_ rfl ⟨_,rfl,_,_,rfl,rfl,(show CDivB _ m from ⟨by omega,hm2⟩),_,rfl,d,_,_,2,rfl,rfl,uS_,rfl,?_⟩
          refine ⟨_,rfl,q _ _ (Int.emod_nonneg _ (by omega)) (Int.emod_lt_of_pos _ (by omega)) ⟨fun b o hb e=>by simp only [upd_ne hb];exact e,fstT hd uS_,l,ns,_,_,_,uS_,by simp only [upd_ne hld];exact hl,by omega,by omega,by omega⟩⟩
        · refine ixd 3 rfl uS_ rfl (ixd 3 rfl uS_ rfl ⟨_,_,rfl,rfl,.inl ⟨by omega,by omega⟩,_,_,rfl,rfl,(show (0:Int) < 2305843009213693951 by decide),?_⟩)
          refine ⟨_,rfl,_,_,rfl,rfl,.inr ⟨by decide,by decide⟩,ixd 3 rfl uS_ rfl ⟨_,_,rfl,rfl,.inr ⟨by decide,by decide⟩,_,_,rfl,rfl,_,_,rfl,rfl,_,_,rfl,rfl,(show (0:Int) < 2305843009213693951 by decide),?_⟩⟩
          refine ⟨_,rfl,d,_,_,3,rfl,rfl,uS_,rfl,?_⟩
          refine ixd 3 rfl uS_ rfl ⟨_,_,rfl,rfl,(show CDivB _ 1021 from ⟨by decide,by decide⟩),_,rfl,_,_,rfl,rfl,(show 0 < m by omega),?_⟩
          exact q _ _ (Int.emod_nonneg _ (by omega)) (Int.emod_lt_of_pos _ (by omega)) ⟨fun b o hb e=>by simp only [upd_ne hb];exact e,fstT hd uS_,l,ns,_,_,_,uS_,by simp only [upd_ne hld];exact hl,by omega,by omega,by omega⟩
      · refine ixd 3 rfl uS_ rfl ⟨_,_,rfl,rfl,.inr ⟨by decide,by decide⟩,_,rfl,_,_,rfl,rfl,.inr ⟨by decide,by decide⟩,_,_,rfl,rfl,ixd 1 rfl uS_ rfl ⟨_,_,rfl,rfl,_,_,rfl,rfl,(show (0:Int) < 2305843009213693951 by decide),?_⟩⟩
        refine ⟨_,rfl,d,_,_,3,rfl,rfl,uS_,rfl,?_⟩
        refine ixd 2 rfl uS_ rfl ⟨_,rfl,_,_,rfl,rfl,_,rfl,?_⟩
        refine ite2 (fun k1=>?_) (fun k1=>?_)
        · refine ixd 2 rfl uS_ rfl ⟨_,rfl,_,_,rfl,rfl,(show 0 < m by omega),?_⟩
          refine ixd 2 rfl uS_ rfl ⟨_,rfl,_,_,rfl,rfl,(show CDivB _ m from ⟨by omega,hm2⟩),_,rfl,d,_,_,2,rfl,rfl,uS_,rfl,?_⟩
          refine ⟨_,rfl,q _ _ (Int.emod_nonneg _ (by omega)) (Int.emod_lt_of_pos _ (by omega)) ⟨fun b o hb e=>by simp only [upd_ne hb];exact e,fstT hd uS_,l,ns,_,_,_,uS_,by simp only [upd_ne hld];exact hl,by omega,by omega,by omega⟩⟩
        · refine ixd 3 rfl uS_ rfl (ixd 3 rfl uS_ rfl ⟨_,_,rfl,rfl,.inl ⟨by omega,by omega⟩,_,_,rfl,rfl,(show (0:Int) < 2305843009213693951 by decide),?_⟩)
          refine ⟨_,rfl,_,_,rfl,rfl,.inr ⟨by decide,by decide⟩,ixd 3 rfl uS_ rfl ⟨_,_,rfl,rfl,.inr ⟨by decide,by decide⟩,_,_,rfl,rfl,_,_,rfl,rfl,_,_,rfl,rfl,(show (0:Int) < 2305843009213693951 by decide),?_⟩⟩
          refine ⟨_,rfl,d,_,_,3,rfl,rfl,uS_,rfl,?_⟩
          refine ixd 3 rfl uS_ rfl ⟨_,_,rfl,rfl,(show CDivB _ 1021 from ⟨by decide,by decide⟩),_,rfl,_,_,rfl,rfl,(show 0 < m by omega),?_⟩
          exact q _ _ (Int.emod_nonneg _ (by omega)) (Int.emod_lt_of_pos _ (by omega)) ⟨fun b o hb e=>by simp only [upd_ne hb];exact e,fstT hd uS_,l,ns,_,_,_,uS_,by simp only [upd_ne hld];exact hl,by omega,by omega,by omega⟩
    · refine ixd 2 rfl hd rfl ⟨_,rfl,_,_,rfl,rfl,_,rfl,?_⟩
      refine ite2 (fun k1=>?_) (fun k1=>?_)
      · refine ixd 2 rfl hd rfl ⟨_,rfl,_,_,rfl,rfl,(show 0 < m by omega),?_⟩
        refine ixd 2 rfl hd rfl ⟨_,rfl,_,_,rfl,rfl,(show CDivB _ m from ⟨by omega,hm2⟩),_,rfl,d,_,_,2,rfl,rfl,hd,rfl,?_⟩
        refine ⟨_,rfl,q _ _ (Int.emod_nonneg _ (by omega)) (Int.emod_lt_of_pos _ (by omega)) ⟨fun b o hb e=>by simp only [upd_ne hb];exact e,fstT hd uS_,l,ns,_,_,_,uS_,by simp only [upd_ne hld];exact hl,by omega,by omega,by omega⟩⟩
      · refine ixd 3 rfl hd rfl (ixd 3 rfl hd rfl ⟨_,_,rfl,rfl,.inl ⟨by omega,by omega⟩,_,_,rfl,rfl,(show (0:Int) < 2305843009213693951 by decide),?_⟩)
        refine ⟨_,rfl,_,_,rfl,rfl,.inr ⟨by decide,by decide⟩,ixd 3 rfl hd rfl ⟨_,_,rfl,rfl,.inr ⟨by decide,by decide⟩,_,_,rfl,rfl,_,_,rfl,rfl,_,_,rfl,rfl,(show (0:Int) < 2305843009213693951 by decide),?_⟩⟩
        refine ⟨_,rfl,d,_,_,3,rfl,rfl,hd,rfl,?_⟩
        refine ixd 3 rfl uS_ rfl ⟨_,_,rfl,rfl,(show CDivB _ 1021 from ⟨by decide,by decide⟩),_,rfl,_,_,rfl,rfl,(show 0 < m by omega),?_⟩
        exact q _ _ (Int.emod_nonneg _ (by omega)) (Int.emod_lt_of_pos _ (by omega)) ⟨fun b o hb e=>by simp only [upd_ne hb];exact e,fstT hd uS_,l,ns,_,_,_,uS_,by simp only [upd_ne hld];exact hl,by omega,by omega,by omega⟩
  · refine ixd 2 rfl hd rfl ⟨_,rfl,_,_,rfl,rfl,_,rfl,?_⟩
    refine ite2 (fun k1=>?_) (fun k1=>?_)
    · refine ixd 2 rfl hd rfl ⟨_,rfl,_,_,rfl,rfl,(show 0 < m by omega),?_⟩
      refine ixd 2 rfl hd rfl ⟨_,rfl,_,_,rfl,rfl,(show CDivB _ m from ⟨by omega,hm2⟩),_,rfl,d,_,_,2,rfl,rfl,hd,rfl,?_⟩
      refine ⟨_,rfl,q _ _ (Int.emod_nonneg _ (by omega)) (Int.emod_lt_of_pos _ (by omega)) ⟨fun b o hb e=>by simp only [upd_ne hb];exact e,fstT hd uS_,l,ns,_,_,_,uS_,by simp only [upd_ne hld];exact hl,by omega,by omega,by omega⟩⟩
    · refine ixd 3 rfl hd rfl (ixd 3 rfl hd rfl ⟨_,_,rfl,rfl,.inl ⟨by omega,by omega⟩,_,_,rfl,rfl,(show (0:Int) < 2305843009213693951 by decide),?_⟩)
      refine ⟨_,rfl,_,_,rfl,rfl,.inr ⟨by decide,by decide⟩,ixd 3 rfl hd rfl ⟨_,_,rfl,rfl,.inr ⟨by decide,by decide⟩,_,_,rfl,rfl,_,_,rfl,rfl,_,_,rfl,rfl,(show (0:Int) < 2305843009213693951 by decide),?_⟩⟩
      refine ⟨_,rfl,d,_,_,3,rfl,rfl,hd,rfl,?_⟩
      refine ixd 3 rfl uS_ rfl ⟨_,_,rfl,rfl,(show CDivB _ 1021 from ⟨by decide,by decide⟩),_,rfl,_,_,rfl,rfl,(show 0 < m by omega),?_⟩
      exact q _ _ (Int.emod_nonneg _ (by omega)) (Int.emod_lt_of_pos _ (by omega)) ⟨fun b o hb e=>by simp only [upd_ne hb];exact e,fstT hd uS_,l,ns,_,_,_,uS_,by simp only [upd_ne hld];exact hl,by omega,by omega,by omega⟩
end
end My
namespace My
open PySem L2
theorem slice_len (x:Str) (l u:Option Int):(Txt.slice x l u).length≤x.length:=by
  unfold Txt.slice
  split
  · exact Nat.le_refl _
  · show (List.toArray _).size≤_
    rw [List.size_toArray]
    exact Nat.le_trans (List.length_filterMap_le _ _) (sliceIndices_le _ _ _)
theorem cL_ (x y:Str):(x++y).length=x.length+y.length:=by
  show (x.cps++y.cps).size=x.cps.size+y.cps.size
  rw [Array.size_append]
theorem str_ext {x y:Str} (h:x.cps.toList=y.cps.toList):x=y:=by
  cases x;cases y
  simp only at h
  rw [Array.toList_inj.mp h]
theorem len_list (x:Str):x.cps.toList.length=x.length:=by simp [Str.length]
theorem q_list:("'":Str).cps.toList=[39]:=by decide +kernel
theorem m_list:("-":Str).cps.toList=[45]:=by decide +kernel
theorem starts1 {x y:Str} {d:Nat} (hy:y.cps.toList=[d]):Txt.startswith x y=(x.cps.toList.head? == some d):=by
  have ly:y.length=1:=by rw [← len_list,hy];rfl
  have lx:=len_list x
  unfold Txt.startswith
  rw [StrLaws.subAt_eq,hy,ly]
  cases e:x.cps.toList with
  | nil =>
    rw [e] at lx
    have:x.length=0:=lx.symm
    rw [this];rfl
  | cons c r =>
    rw [e] at lx
    have:0+1≤x.length:=by rw [← lx];simp
    rw [decide_eq_true this]
    simp
theorem slice_to1 (x:Str):(Txt.slice x none (some 1)).cps.toList=x.cps.toList.take 1:=by
  cases e:x.cps.toList with
  | nil =>
    have h:=slice_len x none (some 1)
    have lx:=len_list x
    rw [e] at lx
    have l2:=len_list (Txt.slice x none (some 1))
    have:(Txt.slice x none (some 1)).cps.toList.length=0:=by
      have:x.length=0:=lx.symm
      omega
    rw [List.length_eq_zero_iff.mp this];rfl
  | cons c r =>
    have z:Txt.slice x none (some 1)=StrLaws.sliceText x none (some 1):=rfl
    rw [z,StrLaws.sliceText_to ⟨by decide,by rw [e,List.length_cons];omega⟩,e]
    rfl
theorem slice_from1 {x:Str} {c:Nat} {r:List Nat} (e:x.cps.toList=c :: r):(Txt.slice x (some 1) none).cps.toList=r:=by
  have z:Txt.slice x (some 1) none=StrLaws.sliceText x (some 1) none:=rfl
  rw [z,StrLaws.sliceText_from ⟨by decide,by rw [e,List.length_cons];omega⟩,e]
  simp
def figs (x:Str):Str:=if (x.cps.toList.head? == some 45)=true then Txt.slice x (some 1) none else x
theorem remove_minus (x:Str):Txt.removeprefix x "-"=figs x:=by
  have ly:("-":Str).length=1:=by decide +kernel
  have lx:=len_list x
  rw [StrLaws.removeprefix_eq,StrLaws.subAt_eq,ly,m_list]
  unfold figs
  cases e:x.cps.toList with
  | nil =>
    rw [e] at lx
    have:x.length=0:=lx.symm
    rw [this];rfl
  | cons c r =>
    rw [e] at lx
    have h1:0+1≤x.length:=by rw [← lx];simp
    rw [decide_eq_true h1,Bool.true_and]
    by_cases hc:c=45
    · subst hc
      rw [if_pos (by simp),if_pos (by simp)]
      apply str_ext
      rw [slice_from1 e]
      have:x.length - 1=r.length:=by rw [← lx];simp
      rw [this]
      simp
    · rw [if_neg (by simp [hc]),if_neg (by simp [hc])]
def figB (f:Str):Bool:=decide (1≤f.length)&&(decide (f.length≤30)&&f.cps.toList.all isFig)
def head0 (f:Str):Bool:=f.cps.toList.head? == some 48
def numV (x:Str):Option V:=if figB (figs x)=true then (if (head0 (figs x)&&!decide (x="0"))=true then none else (PySem.intText? x).map V.int) else none
def q1 (x:Str):Bool:=Txt.startswith x "'"&&Txt.endswith x "'"
def wrdV (x:Str):Option V:=if wordB (Txt.slice x (some 1) (some (-1)))=true then some (.str (Txt.slice x (some 1) (some (-1)))) else none
def rdV (x:Str):Option V:=if x="yes" then some (.bl true) else if x="no" then some (.bl false) else if q1 x=true then wrdV x else numV x
theorem fig_in (c:Nat):inT "0123456789" c=isFig c:=in_small _ _ (by decide +kernel) fig_big (by decide +kernel) c
theorem figB_of (f:Str):(decide (1≤(f.length:Int))&&(decide ((f.length:Int)≤30)&&f.cps.toList.all (inT "0123456789")))=figB f:=by
  unfold figB
  have e1:f.cps.toList.all (inT "0123456789")=f.cps.toList.all isFig:=by congr 1;funext c;exact fig_in c
  rw [e1]
  congr 1
  · rw [Bool.eq_iff_iff];simp only [decide_eq_true_eq];omega
  · congr 1;rw [Bool.eq_iff_iff];simp only [decide_eq_true_eq];omega
theorem all_fig {l:List Nat} (h:l.all isFig=true):NumText.AllDigits l:=by
  intro c hc
  have:=List.all_eq_true.mp h c hc
  unfold isFig at this
  simpa using this
theorem figs_cases (x:Str):(∃ r,x.cps.toList=45 :: r∧(figs x).cps.toList=r)∨(x.cps.toList.head?≠some 45∧figs x=x):=by
  unfold figs
  cases e:x.cps.toList with
  | nil=>exact .inr ⟨by simp,by rw [if_neg (by simp)]⟩
  | cons c r =>
    by_cases hc:c=45
    · subst hc
      exact .inl ⟨r,rfl,by rw [if_pos (by simp)];exact slice_from1 e⟩
    · exact .inr ⟨by simp [hc],by rw [if_neg (by simp [hc])]⟩
theorem figB_parts {f:Str} (h:figB f=true):1≤f.length∧f.length≤30∧f.cps.toList.all isFig=true:=by
  unfold figB at h
  simp only [Bool.and_eq_true,decide_eq_true_eq] at h
  exact ⟨h.1,h.2.1,h.2.2⟩
theorem int_of_figs {x:Str} (h:figB (figs x)=true) (hx:x.length≤640):∃ n,PySem.intText? x=some n:=by
  obtain ⟨h1,h2,h3⟩:=figB_parts h
  have hl:=len_list (figs x)
  rcases figs_cases x with ⟨r,e,er⟩ | ⟨_,e⟩
  · rw [er] at h3 hl
    exact ⟨_,intText_neg e (all_fig h3) (fun z=>by rw [z] at hl;simp at hl;omega) (by omega)⟩
  · rw [e] at h1 h3 hl
    exact ⟨_,intText_digits (all_fig h3) (fun z=>by rw [z] at hl;simp at hl;omega) (by omega)⟩
theorem z_list:("0":Str).cps.toList=[48]:=by decide +kernel
theorem yes_list:("yes":Str).cps.toList=[121,101,115]:=by decide +kernel
theorem no_list:("no":Str).cps.toList=[110,111]:=by decide +kernel
theorem ne_head {x y:Str} {c d:Nat} {r s:List Nat} (hx:x.cps.toList=c :: r) (hy:y.cps.toList=d :: s) (h:c≠d):x≠y:=fun e=>by
  rw [e,hy] at hx
  injection hx with hx _
  exact h hx.symm
def dig (m:Nat):List Nat:=(Nat.toDigits 10 m).map Char.toNat
theorem dig_small {m:Nat} (h:m < 10):dig m=[48+m]:=by
  unfold dig
  rw [Nat.toDigits_of_lt_base h]
  have:∀ d:Nat,d < 10→(Nat.digitChar d).toNat=48+d:=by decide
  rw [List.map_singleton,this m h]
theorem dig_big {m:Nat} (h:10≤m):dig m=dig (m / 10)++[48+m % 10]:=by
  have hm:m % 10 < 10:=Nat.mod_lt m (by decide)
  have t:Nat.toDigits 10 (m / 10)++Nat.toDigits 10 (m % 10)=Nat.toDigits 10 (10 * (m / 10)+m % 10):=Nat.toDigits_append_toDigits (by decide) (by omega) hm
  rw [Nat.div_add_mod] at t
  have e:=dig_small hm
  unfold dig at e ⊢
  rw [← t,List.map_append,e]
theorem dig_facts (m:Nat):∃ c r,dig m=c :: r∧(c=48→m=0)∧(dig m).all isFig=true∧∀ k,1≤k→m < 10 ^ k→(dig m).length≤k:=by
  induction m using Nat.strongRecOn with
  | _ m ih =>
    by_cases h:m < 10
    · refine ⟨48+m,[],dig_small h,by omega,?_,fun k hk _=>?_⟩
      · rw [dig_small h]
        simp only [List.all_cons,List.all_nil,Bool.and_true]
        unfold isFig
        simp only [Bool.and_eq_true,decide_eq_true_eq]
        omega
      · rw [dig_small h];simpa using hk
    · obtain ⟨c,r,e,h0,h1,h2⟩:=ih (m / 10) (by omega)
      have e2:=dig_big (m:=m) (by omega)
      refine ⟨c,r++[48+m % 10],by rw [e2,e];rfl,fun z=>?_,?_,fun k hk hm=>?_⟩
      · have:=h0 z;omega
      · rw [e2,List.all_append,h1]
        simp only [List.all_cons,List.all_nil,Bool.and_true,Bool.true_and]
        unfold isFig
        simp only [Bool.and_eq_true,decide_eq_true_eq]
        omega
      · rw [e2,List.length_append,List.length_singleton]
        obtain ⟨k',rfl⟩:∃ k',k=k'+1:=⟨k - 1,by omega⟩
        rw [Nat.pow_succ] at hm
        have hk':1≤k':=by
          cases k' with
          | zero=>simp at hm;omega
          | succ n=>omega
        have:=h2 k' hk' (by omega)
        omega
theorem pos_list (m:Nat):(Str.ofString (toString ((m:Nat):Int))).cps.toList=dig m:=PySem.W.KIN.signs_num m
theorem neg_list (m:Nat):(Str.ofString (toString (Int.negSucc m))).cps.toList=45 :: dig (m+1):=by
  rw [PyProof.Rows.signs_ofString]
  show (("-":String)++Nat.repr (m+1)).toList.map Char.toNat=_
  rw [String.toList_append,List.map_append,Nat.toList_repr]
  rfl
theorem rd_num {x:Str} {n:Int} {f:List Nat} {c:Nat} {r:List Nat} (hf:(figs x).cps.toList=f) (e:f=c :: r) (hd:f.all isFig=true) (hl:f.length≤30) (h0:c=48→x="0") (hq:x.cps.toList.head?≠some 39∧x≠"yes"∧x≠"no") (hn:PySem.intText? x=some n):rdV x=some (.int n):=by
  have l:=len_list (figs x)
  rw [hf] at l
  have hB:figB (figs x)=true:=by
    unfold figB
    rw [← l,hf,hd,e,decide_eq_true (by simp),decide_eq_true (by rw [← e];exact hl)]
    rfl
  unfold rdV
  rw [if_neg hq.2.1,if_neg hq.2.2]
  have hq1:q1 x=false:=by
    unfold q1
    rw [starts1 q_list,beq_eq_false_iff_ne.mpr hq.1,Bool.false_and]
  rw [hq1,if_neg (by decide)]
  unfold numV
  rw [if_pos hB,hn]
  have hz:(head0 (figs x)&&!decide (x="0"))=false:=by
    unfold head0
    rw [hf,e]
    by_cases hc:c=48
    · rw [decide_eq_true (h0 hc)];simp
    · have:((c :: r).head? == some 48)=false:=by simpa using hc
      rw [this,Bool.false_and]
  rw [hz,if_neg (by decide)]
  rfl
theorem fig_range {c:Nat} {r:List Nat} (h:(c :: r).all isFig=true):48≤c∧c≤57:=(all_fig h).head
theorem rd_int {i:Int} (h0:-(10 ^ 29) < i) (h1:i < 10 ^ 29):rdV (Str.ofString (toString i))=some (.int i)∧(Str.ofString (toString i)).length≤30:=by
  cases i with
  | ofNat m =>
    have e:=pos_list m
    obtain ⟨c,r,ec,hc,hd,hl⟩:=dig_facts m
    have hl:=hl 29 (by decide) (by have h1':(m:Int) < 10 ^ 29:=h1;omega)
    have l:=len_list (Str.ofString (toString ((m:Nat):Int)))
    rw [e] at l
    have v:NumText.digitsVal (dig m)=m:=PySem.W.KIN.val_back m
    show rdV (Str.ofString (toString ((m:Nat):Int)))=_∧(Str.ofString (toString ((m:Nat):Int))).length≤30
    generalize hx:Str.ofString (toString ((m:Nat):Int))=x at e l ⊢
    have hcr:=fig_range (ec ▸ hd)
    have e':x.cps.toList=c :: r:=e.trans ec
    have hfx:figs x=x:=by
      rcases figs_cases x with ⟨r',z,_⟩ | ⟨_,z⟩
      · rw [e'] at z;injection z with z _;omega
      · exact z
    refine ⟨rd_num (f:=dig m) (by rw [hfx];exact e) ec hd (by omega) (fun z=>?_) ⟨by rw [e'];simp;omega,ne_head e' yes_list (by omega),ne_head e' no_list (by omega)⟩ ?_,by omega⟩
    · have hm:=hc z
      subst hm
      apply str_ext
      rw [e,z_list]
      decide +kernel
    · rw [intText_digits (x:=x) (by rw [e];exact all_fig hd) (by rw [e'];simp) (by omega),e,v]
      rfl
  | negSucc m =>
    have e:=neg_list m
    obtain ⟨c,r,ec,hc,hd,hl⟩:=dig_facts (m+1)
    have hl:=hl 29 (by decide) (by have h0':-(10 ^ 29:Int) < Int.negSucc m:=h0;omega)
    have l:=len_list (Str.ofString (toString (Int.negSucc m)))
    rw [e,List.length_cons] at l
    have v:NumText.digitsVal (dig (m+1))=m+1:=PySem.W.KIN.val_back (m+1)
    generalize hx:Str.ofString (toString (Int.negSucc m))=x at e l ⊢
    have hcr:=fig_range (ec ▸ hd)
    have hfx:(figs x).cps.toList=dig (m+1):=by
      rcases figs_cases x with ⟨r',z,z2⟩ | ⟨z,_⟩
      · rw [e] at z;injection z with _ z;rw [z2,z]
      · rw [e] at z;exact absurd rfl z
    refine ⟨rd_num hfx ec hd (by omega) (fun z=>?_) ⟨by rw [e];simp,ne_head e yes_list (by omega),ne_head e no_list (by omega)⟩ ?_,by omega⟩
    · have hm:=hc z;omega
    · rw [intText_neg (x:=x) e (all_fig hd) (by rw [ec];simp) (by omega),v]
      rfl
theorem figs_le (x:Str):x.length≤(figs x).length+1:=by
  have l1:=len_list x
  have l2:=len_list (figs x)
  rcases figs_cases x with ⟨r,e,er⟩ | ⟨_,e⟩
  · rw [e] at l1;rw [er] at l2;simp at l1 l2;omega
  · rw [e];omega
theorem line_ok {n:Nat} (h:n≤9000000):n≤sizeLine:=by rw [sizeLine_eq];omega
section
variable {P:Program} {w:World} {K:PySem.W.Frag} {mg:Str→Option Value} {base:Heap} {a:Adr}
theorem log_of {i:Int} (h0:-(10 ^ 29) < i) (h1:i < 10 ^ 29):i.natAbs.log2 < 1920:=by
  by_cases h:i.natAbs=0
  · rw [h];decide
  · rw [Nat.log2_lt h]
    have:i.natAbs < 10 ^ 29:=by omega
    exact Nat.lt_of_lt_of_le this (Nat.le_trans (show (10:Nat) ^ 29≤2 ^ 100 by decide) (Nat.pow_le_pow_right (by decide) (by decide)))
def nOr:Option V→V:=fun o=>o.getD .non
def spTN (p:Str→Option V):Sp:=fun vs H Q _=>∃ x,vs=[.str x]∧x.length≤100000∧∀ H',Same H H'→Q (nOr (p x)) H'
theorem figs_len (x:Str):(figs x).length≤x.length:=by
  unfold figs
  split
  · exact slice_len x _ _
  · exact Nat.le_refl _
theorem head_at {x:Str} (h:1≤x.length):∃ c r,x.cps.toList=c :: r:=by
  have l:=len_list x
  cases e:x.cps.toList with
  | nil=>rw [e] at l;simp at l;omega
  | cons c r=>exact ⟨c,r,rfl⟩
theorem one_is {c d:Nat} {y:Str} (hy:y.cps.toList=[d]):decide (V.str ⟨#[c]⟩=V.str y)=(c == d):=by
  rw [Bool.eq_iff_iff,decide_eq_true_eq,beq_iff_eq]
  constructor
  · intro h
    injection h with h
    have e:=congrArg (fun z:Str=>z.cps.toList) h
    rw [hy] at e
    simpa using e
  · intro h
    congr 1
    apply str_ext
    rw [hy,h]
theorem ok_number_in (T:Txt K mg a):FnOk P w K mg base CX0 2 a.f_number_in a.d_number_in ["text"] (spTN numV):=by
  refine T.F_number_in.ok sc_number_in (fun vs H Q E h=>?_) (fun cdv A outer s H vs Q E hr h=>?_)
  · obtain ⟨x,rfl,_⟩:=h;rfl
  obtain ⟨x,rfl,hx,q⟩:=h
  have fl:=figs_len x
  refine ⟨_,(sC_ (zS_ (i:=1) sc_number_in.nd rfl (by first | exact Or.inl rfl | exact Or.inr rfl) (pe_bm PySem.F.plainAttrs_str PySem.F.slot_str_removeprefix PySem.F.type_str_removeprefix mt_removeprefix (pv 0) (pC_ pS_ pa_nil))) (sC_ (ps_if (pt_not (pt_val (pL_ (ok_has_only T) (hr.mono (by decide)) rfl T.m_has_only T.F_has_only.kp T.b_has_only .nil pass0 (pC_ (pv 1) (pC_ (pe_glob rfl T.g_FIGURES.1 T.g_FIGURES.2) (pC_ (pe_glob rfl T.g_MOST_FIGURES.1 T.g_MOST_FIGURES.2) pa_nil)))))) (sO_ (ps_ret pe_non)) pss_nil) (sC_ (ps_if (PW.pt (pw_and (tR_ op_eq (pe_ix ix_str (pv 1) pI_ (fun _ _=>rfl)) pS_ (nM_ _)) (pw_and1 (tR_ op_ne (pv 0) pS_ (nM_ _))))) (sO_ (ps_ret pe_non)) pss_nil) (sO_ (ps_ret (pT_ call_int_text rfl T.n_int (by decide +kernel) (pC_ (pv 0) pa_nil))))))),?_⟩
  refine ⟨_,rfl,rfl,x,_,rfl,rfl,line_ok (by omega),?_⟩
  rw [remove_minus]
  refine ⟨_,rfl,_,_,_,rfl,line_ok (by omega),fun H1 g1=>⟨_,rfl,?_⟩⟩
  rw [figB_of]
  have z:=q H1 g1
  unfold numV nOr at z
  refine ite2 (fun k=>?_) (fun k=>?_)
  · have k':figB (figs x)=false:=by simpa using k
    rw [k',if_neg (by decide)] at z
    exact z
  · have k':figB (figs x)=true:=by simpa using k
    rw [k',if_pos rfl] at z
    obtain ⟨h1,h2,h3⟩:=figB_parts k'
    have hx31:=figs_le x
    obtain ⟨c,r,e⟩:=head_at h1
    obtain ⟨n,hn⟩:=int_of_figs k' (by omega)
    have h0:head0 (figs x)=(c == 48):=by unfold head0;rw [e];rfl
    rw [hn,h0] at z
    refine ⟨_,rfl,_,_,c,rfl,rfl,line_ok (by omega),by rw [e];exact atI_nat (j:=0) rfl,rfl,_,rfl,?_⟩
    rw [one_is z_list]
    refine ite2 (fun k2=>?_) (fun k2=>?_)
    · rw [k2,Bool.true_and] at z
      refine ⟨_,rfl,rfl,_,rfl,?_⟩
      have ex:decide (x="0")=decide (V.str x=V.str "0"):=by rw [Bool.eq_iff_iff];simp
      rw [ex] at z
      refine ite2 (fun k3=>?_) (fun k3=>?_)
      · rw [k3,if_pos rfl] at z
        exact z
      · rw [Bool.eq_false_iff.mpr k3,if_neg (by decide)] at z
        exact ⟨_,rfl,x,n,rfl,hn,by omega,z⟩
    · rw [Bool.eq_false_iff.mpr k2,Bool.false_and,if_neg (by decide)] at z
      exact ⟨_,rfl,x,n,rfl,hn,by omega,z⟩
end
end My
namespace My
open PySem L2
def posL (d:Nat):Nat→List Nat→List Nat
  | _,[]=>[]
  | i,c :: r=>if c=d then i :: posL d (i+1) r else posL d (i+1) r
theorem posL_app (d:Nat):∀ (w t:List Nat) (i:Nat),posL d i (w++t)=posL d i w++posL d (i+w.length) t
  | [],t,i=>by simp [posL]
  | c :: w,t,i=>by
    have e:i+1+w.length=i+(c :: w).length:=by rw [List.length_cons];omega
    rw [List.cons_append,posL,posL,posL_app d w t (i+1),e]
    split
    · rw [List.cons_append]
    · rfl
theorem posL_no (d:Nat):∀ (w:List Nat) (i:Nat),d ∉ w→posL d i w=[]
  | [],_,_=>rfl
  | c :: w,i,h=>by
    rw [posL,if_neg fun e=>h (by rw [e];exact List.mem_cons_self)]
    exact posL_no d w (i+1) fun z=>h (List.mem_cons_of_mem _ z)
theorem occ_walk {x y:Str} {d:Nat} (hy:y.cps.toList=[d]) (lim:Nat):∀ (k i:Nat) (st:Array Nat × Nat),i+k=x.length+1→st.snd≤i→st.fst.size≤lim →
    (forIn (List.range' i k) st (StrLaws.occBody x y x.length lim)).run.fst.toList=st.fst.toList++(posL d i (x.cps.toList.drop i)).take (lim - st.fst.size)
  | 0,i,st,hk,_,_=>by
    have e:x.cps.toList.drop i=[]:=List.drop_eq_nil_of_le (by rw [len_list];omega)
    rw [e]
    simp [posL]
  | k + 1, i,st,hk,hs,hl=>by
    have ly:y.length=1:=by rw [← len_list,hy];rfl
    rw [List.range'_succ,List.forIn_cons]
    unfold StrLaws.occBody
    by_cases hlt:i < x.length
    · have hg:x.cps.toList[i]?=some (x.cps.toList[i]'(by rw [len_list];exact hlt)):=List.getElem?_eq_getElem _
      have ed:x.cps.toList.drop i=x.cps.toList[i]'(by rw [len_list];exact hlt) :: x.cps.toList.drop (i+1):=List.drop_eq_getElem_cons _
      have hsub:(Builtin.Str.subAt x y i=true) ↔ x.cps.toList[i]'(by rw [len_list];exact hlt)=d:=by
        rw [StrLaws.subAt_eq,hy,ly,StrLaws.take1_drop,hg]
        simp
      rw [ed,posL]
      by_cases hc:x.cps.toList[i]'(by rw [len_list];exact hlt)=d
      · rw [if_pos hc]
        by_cases hz:st.fst.size < lim
        · rw [if_pos ⟨⟨⟨hz,hs⟩,by rw [ly];omega⟩,hsub.mpr hc⟩]
          have ih:=occ_walk (x:=x) hy lim k (i+1) (st.fst.push i,i+y.length) (by omega) (by show i+y.length≤i+1;omega) (by show (st.fst.push i).size≤lim;rw [Array.size_push];omega)
          have e1:lim - st.fst.size=lim - (st.fst.push i).size+1:=by rw [Array.size_push];omega
          rw [e1,List.take_succ_cons]
          refine Eq.trans ih ?_
          simp
        · rw [if_neg fun z=>hz z.1.1.1]
          have ih:=occ_walk (x:=x) hy lim k (i+1) (st.fst,st.snd) (by omega) (by show st.snd≤i+1;omega) hl
          have e1:lim - st.fst.size=0:=by omega
          refine Eq.trans ih ?_
          rw [e1];simp
      · rw [if_neg hc,if_neg fun z=>hc (hsub.mp z.2)]
        exact occ_walk (x:=x) hy lim k (i+1) (st.fst,st.snd) (by omega) (by show st.snd≤i+1;omega) hl
    · have e:x.cps.toList.drop i=[]:=List.drop_eq_nil_of_le (by rw [len_list];omega)
      have e1:x.cps.toList.drop (i+1)=[]:=List.drop_eq_nil_of_le (by rw [len_list];omega)
      rw [if_neg fun z=>by have:=z.1.2;rw [ly] at this;omega]
      have ih:=occ_walk (x:=x) hy lim k (i+1) (st.fst,st.snd) (by omega) (by show st.snd≤i+1;omega) hl
      refine Eq.trans ih ?_
      rw [e,e1];rfl
theorem occ_pos {x y:Str} {d:Nat} (hy:y.cps.toList=[d]) (lim:Nat):Builtin.Str.occurrences x y 0 x.length lim=(posL d 0 x.cps.toList).take lim:=by
  rw [StrLaws.occ_eq]
  have z:=occ_walk (x:=x) hy lim (x.length+1 - 0) 0 ((#[]:Array Nat),0) (by omega) (Nat.le_refl _) (Nat.zero_le _)
  refine Eq.trans z ?_
  simp
theorem posL_len (d:Nat):∀ (w:List Nat) (i:Nat),(posL d i w).length≤w.length
  | [],_=>Nat.le_refl _
  | c :: w,i=>by
    have:=posL_len d w (i+1)
    rw [posL,List.length_cons]
    split
    · rw [List.length_cons];omega
    · omega
def prt (X:List Nat) (off:Nat) (cuts:List Nat):List (List Nat):=((off :: cuts.map (·+1)).zip (cuts++[X.length])).map fun ij=>(X.drop ij.1).take (ij.2 - ij.1)
theorem prt_cons (X:List Nat) (off c:Nat) (cs:List Nat):prt X off (c :: cs)=(X.drop off).take (c - off) :: prt X (c+1) cs:=by
  unfold prt
  rw [List.cons_append,List.zip_cons_cons,List.map_cons,List.map_cons]
theorem prt_nil (X:List Nat) (off:Nat):prt X off []=[X.drop off]:=by
  unfold prt
  have e:(X.drop off).take (X.length - off)=X.drop off:=List.take_of_length_le (by rw [List.length_drop];omega)
  simp [e]
def joinL (d:Nat) (w:List Nat) (ws:List (List Nat)):List Nat:=w++ws.flatMap fun r=>d :: r
theorem prt_join (d:Nat) (X:List Nat):∀ (ws:List (List Nat)) (w:List Nat) (off:Nat),X.drop off=joinL d w ws→d ∉ w→(∀ r ∈ ws,d ∉ r)→prt X off (posL d off (X.drop off))=w :: ws
  | [],w,off,e,hw,_=>by
    have e':X.drop off=w:=by rw [e];simp [joinL]
    rw [e',posL_no d w off hw,prt_nil,e']
  | r :: ws,w,off,e,hw,hr=>by
    have e1:joinL d w (r :: ws)=w++(d :: joinL d r ws):=by simp [joinL]
    have e2:X.drop (off+w.length+1)=joinL d r ws:=by
      have:X.drop (off+w.length+1)=(X.drop off).drop (w.length+1):=by rw [List.drop_drop];congr 1
      rw [this,e,e1,List.drop_append,List.drop_eq_nil_of_le (Nat.le_succ _)]
      have e0:w.length+1 - w.length=1:=by omega
      rw [e0];rfl
    have e3:posL d off (X.drop off)=(off+w.length) :: posL d (off+w.length+1) (X.drop (off+w.length+1)):=by
      rw [e,e1,posL_app,posL_no d w off hw,List.nil_append,posL,if_pos rfl,e2]
    rw [e3,prt_cons,prt_join d X ws r (off+w.length+1) e2 (hr r List.mem_cons_self) fun q hq=>hr q (List.mem_cons_of_mem _ hq)]
    congr 1
    rw [e,e1]
    have e0:off+w.length - off=w.length:=by omega
    rw [e0,List.take_left']
    rfl
theorem glue_list (y:Str) (ws:List Str):∀ (acc:Array Nat),(ws.foldl (fun acc p=>acc++y.cps++p.cps) acc).toList=acc.toList++ws.flatMap fun r=>y.cps.toList++r.cps.toList:=by
  induction ws with
  | nil=>intro acc;simp
  | cons w ws ih =>
    intro acc
    rw [List.foldl_cons,ih,Array.toList_append,Array.toList_append,List.flatMap_cons]
    simp
theorem join_list {y:Str} {d:Nat} (hy:y.cps.toList=[d]) (w:Str) (ws:List Str):(Txt.join y (w :: ws)).cps.toList=joinL d w.cps.toList (ws.map fun r=>r.cps.toList):=by
  show (List.foldl _ _ _:Array Nat).toList=_
  rw [List.drop_succ_cons,List.drop_zero,List.headD_cons,glue_list,hy]
  unfold joinL
  rw [List.flatMap_map]
  rfl
theorem parts_list (x:Str) (cuts:List Nat):(Builtin.Str.partsBetween x cuts 1).map (fun r=>r.cps.toList)=prt x.cps.toList 0 cuts:=by
  unfold Builtin.Str.partsBetween prt
  rw [List.map_map,len_list]
  apply List.map_congr_left
  rintro ⟨i,j⟩ _
  exact StrLaws.strSub_toList x i j
theorem strs_ext:∀ {xs ys:List Str},(xs.map fun r=>r.cps.toList)=(ys.map fun r=>r.cps.toList)→xs=ys
  | [],[],_=>rfl
  | [],_ :: _,h=>by simp at h
  | _ :: _,[],h=>by simp at h
  | x :: xs,y :: ys,h=>by
    rw [List.map_cons,List.map_cons] at h
    injection h with h1 h2
    rw [str_ext h1,strs_ext h2]
theorem split_cases {x y:Str} {d:Nat} (hy:y.cps.toList=[d]) (hk:Builtin.Str.strKind y=1):Txt.split x y=if d ∈ x.cps.toList then Builtin.Str.partsBetween x (posL d 0 x.cps.toList) 1 else [x]:=by
  have ly:y.length=1:=by rw [← len_list,hy];rfl
  have hk1:¬ Builtin.Str.strKind x < Builtin.Str.strKind y:=by
    rw [hk]
    unfold Builtin.Str.strKind
    split
    · omega
    · split <;> omega
  have eo:Builtin.Str.occurrences x y 0 x.length (x.length+1)=posL d 0 x.cps.toList:=by
    rw [occ_pos hy,List.take_of_length_le]
    have:=posL_len d x.cps.toList 0
    rw [len_list] at this;omega
  unfold Txt.split
  rw [eo,ly]
  by_cases hd:d ∈ x.cps.toList
  · rw [if_pos hd]
    have hx:¬ x.length < 1:=fun z=>by
      have:x.cps.toList=[]:=List.length_eq_zero_iff.mp (by rw [len_list];omega)
      rw [this] at hd;cases hd
    rw [if_neg (by simp [hx,hk1]),if_neg]
    intro z
    obtain ⟨a,b,e⟩:=List.append_of_mem hd
    rw [e,posL_app,posL,if_pos rfl] at z
    simp at z
  · rw [if_neg hd,posL_no d _ _ hd]
    split
    · rfl
    · rfl
theorem split_join {y:Str} {d:Nat} (hy:y.cps.toList=[d]) (hk:Builtin.Str.strKind y=1) {w:Str} {ws:List Str} (hw:∀ r ∈ w :: ws,d ∉ r.cps.toList):Txt.split (Txt.join y (w :: ws)) y=w :: ws:=by
  have ej:=join_list hy w ws
  rw [split_cases hy hk]
  have hw0:=hw w List.mem_cons_self
  have hws:∀ r ∈ ws.map (fun r=>r.cps.toList),d ∉ r:=fun r hr=>by
    obtain ⟨q,hq,rfl⟩:=List.mem_map.mp hr
    exact hw q (List.mem_cons_of_mem _ hq)
  cases ws with
  | nil =>
    have e:Txt.join y [w]=w:=str_ext (by rw [ej];simp [joinL])
    rw [e,if_neg hw0]
  | cons r rs =>
    rw [if_pos (by rw [ej];simp [joinL])]
    apply strs_ext
    rw [parts_list,List.map_cons]
    have z:=prt_join d (Txt.join y (w :: r :: rs)).cps.toList ((r :: rs).map fun r=>r.cps.toList) w.cps.toList 0 (by rw [List.drop_zero];exact ej) hw0 hws
    rw [List.drop_zero] at z
    exact z
theorem split_lens (x y:Str):∀ r ∈ Txt.split x y,r.length≤x.length:=by
  unfold Txt.split
  split
  · intro r hr;rw [List.mem_singleton.mp hr];exact Nat.le_refl _
  · split
    · intro r hr;rw [List.mem_singleton.mp hr];exact Nat.le_refl _
    · intro r hr
      unfold Builtin.Str.partsBetween at hr
      obtain ⟨⟨i,j⟩,_,rfl⟩:=List.mem_map.mp hr
      exact strSub_length_le x i j
theorem parts_len (x:Str) (cuts:List Nat) (k:Nat):(Builtin.Str.partsBetween x cuts k).length=cuts.length+1:=by
  unfold Builtin.Str.partsBetween
  simp
theorem split_many (x y:Str):(Txt.split x y).length≤x.length+2:=by
  have:=StrLaws.occ_length_le x y 0 x.length (x.length+1)
  unfold Txt.split
  split
  · simp
  · split
    · simp
    · rw [parts_len];omega
theorem split_ok {z y:Str} {H:Hp} {Q:VK} (h0:(y.length == 0)=false) (hz:z.length≤900) (q:∀ p,H p=none→Q (.ref p) (upd H p (.lst ((Txt.split z y).map V.str)))):rSplit (.str z) [.str y] H Q :=
  ⟨z,y,rfl,rfl,h0,small (by omega),by rw [parts_len];have:=StrLaws.occ_length_le z y 0 z.length (z.length+1);exact small (by omega),by have:=split_many z y;exact small (by omega),q⟩
abbrev big:Nat:=100000
theorem big_line {n:Nat} (h:n≤100000):n≤sizeLine:=line_ok (by omega)
def runN (p:Nat→Bool) (cs:List Nat) (i:Nat):Nat:=i+((cs.drop i).takeWhile p).length
theorem runN_go {p:Nat→Bool} {cs:List Nat} {i c:Nat} (h:cs[i]?=some c) (hp:p c=true):runN p cs i=runN p cs (i+1):=by
  obtain ⟨h1,h2⟩:=List.getElem?_eq_some_iff.mp h
  unfold runN
  rw [List.drop_eq_getElem_cons h1,h2,List.takeWhile_cons,if_pos hp,List.length_cons]
  omega
theorem runN_stop {p:Nat→Bool} {cs:List Nat} {i c:Nat} (h:cs[i]?=some c) (hp:p c=false):runN p cs i=i:=by
  obtain ⟨h1,h2⟩:=List.getElem?_eq_some_iff.mp h
  unfold runN
  rw [List.drop_eq_getElem_cons h1,h2,List.takeWhile_cons,if_neg (by simp [hp])]
  rfl
theorem runN_end {p:Nat→Bool} {cs:List Nat} {i:Nat} (h:cs.length≤i):runN p cs i=i:=by
  unfold runN
  rw [List.drop_eq_nil_of_le h]
  rfl
theorem runN_ge (p:Nat→Bool) (cs:List Nat) (i:Nat):i≤runN p cs i:=Nat.le_add_right _ _
section
variable {P:Program} {w:World} {K:PySem.W.Frag} {mg:Str→Option Value} {base:Heap} {a:Adr}
theorem at_c {x:Str} {i:Nat} (h:i < x.length):∃ c,x.cps.toList[i]?=some c∧atI x.cps.toList (i:Int)=some c:=by
  have l:=len_list x
  have h':i < x.cps.toList.length:=by omega
  exact ⟨_,List.getElem?_eq_getElem h',atI_nat (List.getElem?_eq_getElem h')⟩
theorem occ_in (s:Str) (c:Nat):(!(Builtin.Str.occurrences s ⟨#[c]⟩ 0 s.length 1).isEmpty)=inT s c:=by
  rw [PySem.StrLaws.found_one];rfl
def spRun:Sp:=fun vs H Q _=>∃ (x:Str) (i:Nat) (sg:Str),vs=[.str x,.int (i:Int),.str sg]∧x.length≤big∧Q (.int ((runN (inT sg) x.cps.toList i:Nat):Int)) H
theorem ok_end_of_run (T:Txt K mg a):FnOk P w K mg base CX0 1 a.f_end_of_run a.d_end_of_run ["text","at","signs"] spRun:=by
  refine T.F_end_of_run.ok sc_end_of_run (fun vs H Q E h=>?_) (fun cdv A outer s H vs Q E hr h=>?_)
  · obtain ⟨_,_,_,rfl,_⟩:=h;rfl
  obtain ⟨x,i0,sg,rfl,hx,q⟩:=h
  have l:=len_list x
  refine ⟨_,(sC_ (ps_while PassesOwn.never (PW.pt (pw_and (tR_ op_lt (pv 1) (pB_ call_len_str rfl T.n_len PySem.boot_len (pC_ (pv 0) pa_nil)) (nM_ _)) (pw_and1 (tR_ op_in_str (pe_ix ix_str (pv 0) (pv 1) (fun _ _=>rfl)) (pv 2) (by with_unfolding_all rfl))))) (sO_ (ps_aug (i:=1) sc_end_of_run.nd rfl (by first | exact Or.inl rfl | exact Or.inr rfl) pI_ ip_add))) (sO_ (ps_ret (pv 1)))),?_⟩
  refine while_by (fun σ H'=>∃ i:Nat,σ=[some (.str x),some (.int (i:Int)),some (.str sg)]∧H'=H∧runN (inT sg) x.cps.toList i=runN (inT sg) x.cps.toList i0) (fun σ _=>match σ with | [_,some (.int i),_]=>x.length - i.toNat | _=>0) ⟨i0,rfl,rfl,rfl⟩ (fun σ H' hP=>?_) (fun σ H' Q Q' hQ h=>?_)
  · obtain ⟨i,rfl,rfl,hi⟩:=hP
    refine ⟨_,rfl,_,rfl,_,rfl,big_line hx,_,_,rfl,rfl,_,rfl,ite2 (fun k=>?_) (fun k=>?_)⟩
    · have k':i < x.length:=by have:(i:Int) < (x.length:Int):=of_decide_eq_true k;omega
      obtain ⟨c,hc,hat⟩:=at_c k'
      refine ⟨_,rfl,_,rfl,x,_,c,rfl,rfl,big_line hx,hat,_,rfl,_,_,rfl,rfl,_,rfl,?_⟩
      rw [occ_in]
      refine ite2 (fun k2=>?_) (fun k2=>?_)
      · refine ⟨_,rfl,_,_,rfl,rfl,⟨i+1,rfl,rfl,?_⟩,?_⟩
        · rw [← runN_go hc k2];exact hi
        · show x.length - ((i:Int)+1).toNat < x.length - (i:Int).toNat
          omega
      · refine ⟨_,rfl,?_⟩
        rw [runN_stop hc (by simpa using k2)] at hi
        rw [hi];exact q
    · refine iteF ⟨_,rfl,?_⟩
      have k':x.length≤i:=by
        have:¬ (i:Int) < (x.length:Int):=fun z=>k (decide_eq_true z)
        omega
      rw [runN_end (by omega)] at hi
      rw [hi];exact q
  · obtain ⟨v1,e1,v2,e2,y,e3,h3,i,j,e4,e5,k,e6,h⟩:=h
    refine ⟨v1,e1,v2,e2,y,e3,h3,i,j,e4,e5,k,e6,?_⟩
    cases k with
    | false=>exact hQ _ _ h
    | true =>
      obtain ⟨w1,f1,w2,f2,z,i',c,f3,f4,f5,f6,w3,f7,i2,j2,f8,f9,b2,f10,h⟩:=h
      exact ⟨w1,f1,w2,f2,z,i',c,f3,f4,f5,f6,w3,f7,i2,j2,f8,f9,b2,f10,hQ _ _ h⟩
def spFigAt:Sp:=fun vs H Q _=>∃ (x:Str) (i:Nat),vs=[.str x,.int (i:Int)]∧x.length≤big∧Q (.bl (match x.cps.toList[i]? with | some c=>isFig c | none=>false)) H
theorem ok_is_figure_at (T:Txt K mg a):FnOk P w K mg base CX0 1 a.f_is_figure_at a.d_is_figure_at ["text","at"] spFigAt:=by
  refine T.F_is_figure_at.ok sc_is_figure_at (fun vs H Q E h=>?_) (fun cdv A outer s H vs Q E hr h=>?_)
  · obtain ⟨_,_,rfl,_⟩:=h;rfl
  obtain ⟨x,i,rfl,hx,q⟩:=h
  have l:=len_list x
  refine ⟨_,(sO_ (ps_ret (pe_and (pR_ op_lt (pv 1) (pB_ call_len_str rfl T.n_len PySem.boot_len (pC_ (pv 0) pa_nil)) (nM_ _)) (pe_one (pR_ op_in_str (pe_ix ix_str (pv 0) (pv 1) (fun _ _=>rfl)) (pe_glob rfl T.g_FIGURES.1 T.g_FIGURES.2) (by with_unfolding_all rfl)))))),?_⟩
  refine ⟨_,rfl,_,rfl,_,rfl,big_line hx,_,_,rfl,rfl,_,rfl,ite2 (fun k=>?_) (fun k=>?_)⟩
  · have k':i < x.length:=by have:(i:Int) < (x.length:Int):=of_decide_eq_true k;omega
    obtain ⟨c,hc,hat⟩:=at_c k'
    refine ⟨_,rfl,_,rfl,x,_,c,rfl,rfl,big_line hx,hat,_,_,rfl,rfl,?_⟩
    rw [occ_in,fig_in]
    rw [hc] at q
    exact q
  · have k':x.length≤i:=by
      have:¬ (i:Int) < (x.length:Int):=fun z=>k (decide_eq_true z)
      omega
    rw [List.getElem?_eq_none (by omega)] at q
    exact q
def cutN (x:Str) (i j:Nat):Str:=Txt.slice x (some (i:Int)) (some (j:Int))
def nameAt (x:Str) (i:Nat):Option (Str × V × Nat) :=
  if 20 < (cutN x i (runN nsg x.cps.toList i)).length then none
  else some ((if kept (cutN x i (runN nsg x.cps.toList i))=true then "mark" else "name":Str),V.str (cutN x i (runN nsg x.cps.toList i)),runN nsg x.cps.toList i)
def numAt (x:Str) (i:Nat):Option (Str × V × Nat) :=
  match numV (cutN x i (runN isFig x.cps.toList (i+1))) with
  | none=>none
  | some v=>some ("number",v,runN isFig x.cps.toList (i+1))
def wordAt (x:Str) (i:Nat):Option (Str × V × Nat) :=
  let e:=Txt.find3 x "'" ((i:Int)+1)
  if e < 0 then none else if wordB (Txt.slice x (some ((i:Int)+1)) (some e))=true then some ("word",.str (Txt.slice x (some ((i:Int)+1)) (some e)),(e+1).toNat) else none
abbrev longS:List Str:=["!=","<=",">="]
def markAt (x:Str) (i:Nat):Option (Str × V × Nat) :=
  if inV (.str (cutN x i (i+2))) (longS.map V.str)=true then some ("mark",.str (cutN x i (i+2)),i+2)
  else match x.cps.toList[i]? with
    | none=>none
    | some c=>if inT "=<>+-*()|,@" c=true then some ("mark",.str ⟨#[c]⟩,i+1) else none
theorem bad_same {H:Hp} {t dx:Addr} {o o':HO} (ht:H t=none) (hd:H dx=none) (hne:dx≠t):Same H (upd (upd H t o) dx o'):=by
  have hd':upd H t o dx=none:=by rw [upd_ne hne];exact hd
  exact (sN_ ht o).trans (sN_ hd' o')
theorem numV_ne {x:Str} {v:V} (h:numV x=some v):v≠.non:=fun z=>by
  subst z
  unfold numV at h
  split at h
  · split at h
    · cases h
    · cases e:PySem.intText? x <;> rw [e] at h <;> cases h
  · cases h
def spSig (f:Str→Nat→Option (Str × V × Nat)) (C:Addr):Sp:=fun vs H Q E=>∃ (x:Str) (i:Nat),vs=[.str x,.int (i:Int)]∧x.length≤big∧i < x.length ∧
  (f x i=none→∀ H' dx,Same H H'→H' dx=some (.xd [("at",.int (i:Int))])→E (.ref C) (some dx) H') ∧
  (∀ k v e,f x i=some (k,v,e)→∀ t H',Same H H'→H' t=some (.tup [.str k,v,.int (e:Int)])→Q (.ref t) H')
theorem ok_name_at (T:Txt K mg a):FnOk P w K mg base (CX1 P w) 3 a.f_name_at a.d_name_at ["text","at"] (spSig nameAt a.c_BadText):=by
  refine T.F_name_at.ok1 sc_name_at (fun vs H Q E h=>?_) (fun cdv A outer s H vs Q E hr h=>?_)
  · obtain ⟨_,_,rfl,_⟩:=h;rfl
  obtain ⟨x,i,rfl,hx,hi,qe,q⟩:=h
  refine ⟨_,(sC_ (zS_ (i:=2) sc_name_at.nd rfl (by first | exact Or.inl rfl | exact Or.inr rfl) (pL_ (ok_end_of_run T) (hr.mono (by decide)) rfl T.m_end_of_run T.F_end_of_run.kp T.b_end_of_run .nil pass0 (pC_ (pv 0) (pC_ (pv 1) (pC_ (pe_glob rfl T.g_NAME_SIGNS.1 T.g_NAME_SIGNS.2) pa_nil))))) (sC_ (zS_ (i:=3) sc_name_at.nd rfl (by first | exact Or.inl rfl | exact Or.inr rfl) (pZ_ sl_str (pv 0) (po_some (pv 1)) (po_some (pv 2)))) (sC_ (ps_if (tR_ op_gt (pB_ call_len_str rfl T.n_len PySem.boot_len (pC_ (pv 3) pa_nil)) (pe_glob rfl T.g_MOST_NAME_SIGNS.1 T.g_MOST_NAME_SIGNS.2) (nM_ _)) (sO_ (ps_raise T.x_BadText.made.choose_spec (ok_BadText__init T) T.x_BadText.tk (hr.mono (by decide)) T.x_BadText.bd rfl rfl T.m_BadText (pv 1))) pss_nil) (sO_ (ps_ret (pe_tup (pC_ (pe_ifExp (tR_ op_in_seq (pv 3) (pe_glob rfl T.g_KEPT_WORDS.1 T.g_KEPT_WORDS.2) (by with_unfolding_all rfl)) (pe_glob rfl T.g_MARK.1 T.g_MARK.2) (pe_glob rfl T.g_NAME.1 T.g_NAME.2)) (pC_ (pv 3) (pC_ (pv 2) pa_nil))))))))),?_⟩
  refine ⟨_,rfl,_,rfl,x,i,_,rfl,hx,?_⟩
  have er:inT "abcdefghijklmnopqrstuvwxyz_"=nsg:=funext fun c=>nsg_in c
  rw [er]
  refine ⟨_,rfl,_,rfl,_,rfl,_,rfl,_,rfl,x,rfl,big_line hx,?_⟩
  have sl:=slice_len x (some (i:Int)) (some ((runN nsg x.cps.toList i:Nat):Int))
  refine ⟨_,rfl,_,rfl,big_line (Nat.le_trans sl hx),_,_,rfl,rfl,_,rfl,ite2 (fun k=>?_) (fun k=>?_)⟩
  · have k':20 < (cutN x i (runN nsg x.cps.toList i)).length:=by
      have:((cutN x i (runN nsg x.cps.toList i)).length:Int) > 20:=of_decide_eq_true k
      omega
    have hno:nameAt x i=none:=by unfold nameAt;rw [if_pos k']
    exact ⟨_,rfl,_,rfl,fun t dx ht hdx hne=>qe hno _ dx (bad_same ht hdx hne) uS_⟩
  · have k':¬ 20 < (cutN x i (runN nsg x.cps.toList i)).length:=fun z=>k (decide_eq_true (by
      show ((cutN x i (runN nsg x.cps.toList i)).length:Int) > 20
      omega))
    have hsome:nameAt x i=some ((if kept (cutN x i (runN nsg x.cps.toList i))=true then "mark" else "name":Str),V.str (cutN x i (runN nsg x.cps.toList i)),runN nsg x.cps.toList i):=by unfold nameAt;rw [if_neg k']
    have q':=q _ _ _ hsome
    refine ⟨_,rfl,a.a_KEPT_WORDS,_,rfl,.inr (T.t_KEPT_WORDS H),rfl,rfl,_,rfl,?_⟩
    have ek:inV (.str (cutN x i (runN nsg x.cps.toList i))) (kw.map V.str)=kept (cutN x i (runN nsg x.cps.toList i)):=rfl
    refine ite2 (fun k2=>?_) (fun k2=>?_)
    · have k3:kept (cutN x i (runN nsg x.cps.toList i))=true:=k2
      rw [if_pos k3] at q'
      exact ⟨_,rfl,_,rfl,small (n:=3) (by decide),fun t ht=>q' t _ (sN_ ht _) uS_⟩
    · have k3:¬ kept (cutN x i (runN nsg x.cps.toList i))=true:=k2
      rw [if_neg k3] at q'
      exact ⟨_,rfl,_,rfl,small (n:=3) (by decide),fun t ht=>q' t _ (sN_ ht _) uS_⟩
theorem ok_number_at (T:Txt K mg a):FnOk P w K mg base (CX1 P w) 3 a.f_number_at a.d_number_at ["text","at"] (spSig numAt a.c_BadText):=by
  refine T.F_number_at.ok1 sc_number_at (fun vs H Q E h=>?_) (fun cdv A outer s H vs Q E hr h=>?_)
  · obtain ⟨_,_,rfl,_⟩:=h;rfl
  obtain ⟨x,i,rfl,hx,hi,qe,q⟩:=h
  refine ⟨_,(sC_ (zS_ (i:=2) sc_number_at.nd rfl (by first | exact Or.inl rfl | exact Or.inr rfl) (pL_ (ok_end_of_run T) (hr.mono (by decide)) rfl T.m_end_of_run T.F_end_of_run.kp T.b_end_of_run .nil pass0 (pC_ (pv 0) (pC_ (pO_ op_add (pv 1) pI_) (pC_ (pe_glob rfl T.g_FIGURES.1 T.g_FIGURES.2) pa_nil))))) (sC_ (zS_ (i:=3) sc_number_at.nd rfl (by first | exact Or.inl rfl | exact Or.inr rfl) (pL_ (ok_number_in T) (hr.mono (by decide)) rfl T.m_number_in T.F_number_in.kp T.b_number_in .nil pass0 (pC_ (pZ_ sl_str (pv 0) (po_some (pv 1)) (po_some (pv 2))) pa_nil))) (sC_ (ps_if (tR_ op_isN (pv 3) pe_non (nM_ _)) (sO_ (ps_raise T.x_BadText.made.choose_spec (ok_BadText__init T) T.x_BadText.tk (hr.mono (by decide)) T.x_BadText.bd rfl rfl T.m_BadText (pv 1))) pss_nil) (sO_ (ps_ret (pe_tup (pC_ (pe_glob rfl T.g_NUMBER.1 T.g_NUMBER.2) (pC_ (pv 3) (pC_ (pv 2) pa_nil))))))))),?_⟩
  refine ⟨_,rfl,_,rfl,_,_,rfl,rfl,x,i+1,_,rfl,hx,?_⟩
  have er:inT "0123456789"=isFig:=funext fun c=>fig_in c
  rw [er]
  have sl:=slice_len x (some (i:Int)) (some ((runN isFig x.cps.toList (i+1):Nat):Int))
  refine ⟨_,rfl,_,rfl,_,rfl,_,rfl,_,rfl,x,rfl,big_line hx,_,rfl,Nat.le_trans sl hx,fun H1 g1=>?_⟩
  cases e:numV (cutN x i (runN isFig x.cps.toList (i+1))) with
  | none =>
    have hno:numAt x i=none:=by unfold numAt;rw [e]
    have e':numV (Txt.slice x (some (i:Int)) (some ((runN isFig x.cps.toList (i+1):Nat):Int)))=none:=e
    rw [e']
    exact ⟨_,rfl,rfl,_,rfl,iteT ⟨_,rfl,_,rfl,fun t dx ht hdx hne=>qe hno _ dx (g1.trans (bad_same ht hdx hne)) uS_⟩⟩
  | some v =>
    have hsome:numAt x i=some (("number":Str),v,runN isFig x.cps.toList (i+1)):=by unfold numAt;rw [e]
    have e':numV (Txt.slice x (some (i:Int)) (some ((runN isFig x.cps.toList (i+1):Nat):Int)))=some v:=e
    rw [e']
    refine ⟨_,rfl,rfl,_,rfl,?_⟩
    refine ite2 (fun k=>absurd (of_decide_eq_true k) (numV_ne e)) (fun _=>?_)
    exact ⟨_,rfl,_,rfl,small (n:=3) (by decide),fun t ht=>q _ _ _ hsome t _ (g1.trans (sN_ ht _)) uS_⟩
theorem ok_word_at (T:Txt K mg a):FnOk P w K mg base (CX1 P w) 3 a.f_word_at a.d_word_at ["text","at"] (spSig wordAt a.c_BadText):=by
  refine T.F_word_at.ok1 sc_word_at (fun vs H Q E h=>?_) (fun cdv A outer s H vs Q E hr h=>?_)
  · obtain ⟨_,_,rfl,_⟩:=h;rfl
  obtain ⟨x,i,rfl,hx,hi,qe,q⟩:=h
  refine ⟨_,(sC_ (zS_ (i:=2) sc_word_at.nd rfl (by first | exact Or.inl rfl | exact Or.inr rfl) (pe_bm PySem.F.plainAttrs_str PySem.F.slot_str_find PySem.F.type_str_find mt_find (pv 0) (pC_ pS_ (pC_ (pO_ op_add (pv 1) pI_) pa_nil)))) (sC_ (zS_ (i:=3) sc_word_at.nd rfl (by first | exact Or.inl rfl | exact Or.inr rfl) (pZ_ sl_str (pv 0) (po_some (pO_ op_add (pv 1) pI_)) (po_some (pv 2)))) (sC_ (ps_if (PW.pt (pw_or (tR_ op_lt (pv 2) pI_ (nM_ _)) (pw_or1 (pt_not (pt_val (pL_ (ok_is_word T) (hr.mono (by decide)) rfl T.m_is_word T.F_is_word.kp T.b_is_word .nil pass0 (pC_ (pv 3) pa_nil))))))) (sO_ (ps_raise T.x_BadText.made.choose_spec (ok_BadText__init T) T.x_BadText.tk (hr.mono (by decide)) T.x_BadText.bd rfl rfl T.m_BadText (pv 1))) pss_nil) (sO_ (ps_ret (pe_tup (pC_ (pe_glob rfl T.g_WORD.1 T.g_WORD.2) (pC_ (pv 3) (pC_ (pO_ op_add (pv 2) pI_) pa_nil))))))))),?_⟩
  refine ⟨_,rfl,rfl,_,rfl,_,_,rfl,rfl,x,"'",_,rfl,rfl,?_⟩
  have sl:=slice_len x (some ((i:Int)+1)) (some (Txt.find3 x "'" ((i:Int)+1)))
  refine ⟨_,rfl,_,rfl,_,_,rfl,rfl,_,rfl,_,rfl,_,rfl,x,rfl,big_line hx,?_⟩
  have un:∀ {r},wordAt x i=r→(if Txt.find3 x "'" ((i:Int)+1) < 0 then none else if wordB (Txt.slice x (some ((i:Int)+1)) (some (Txt.find3 x "'" ((i:Int)+1))))=true then some (("word":Str),V.str (Txt.slice x (some ((i:Int)+1)) (some (Txt.find3 x "'" ((i:Int)+1)))),(Txt.find3 x "'" ((i:Int)+1)+1).toNat) else none)=r:=fun h=>h
  refine ⟨_,rfl,_,_,rfl,rfl,_,rfl,ite2 (fun k=>iteT ?_) (fun k=>?_)⟩
  · have k':Txt.find3 x "'" ((i:Int)+1) < 0:=of_decide_eq_true k
    have hno:wordAt x i=none:=by unfold wordAt;rw [if_pos k']
    exact ⟨_,rfl,_,rfl,fun t dx ht hdx hne=>qe hno _ dx (bad_same ht hdx hne) uS_⟩
  · have k':¬ Txt.find3 x "'" ((i:Int)+1) < 0:=fun z=>k (decide_eq_true z)
    refine ⟨_,rfl,_,rfl,Nat.le_trans sl (big_line hx),fun H1 g1=>⟨_,rfl,?_⟩⟩
    cases e:wordB (Txt.slice x (some ((i:Int)+1)) (some (Txt.find3 x "'" ((i:Int)+1)))) with
    | false =>
      have hno:wordAt x i=none:=by unfold wordAt;rw [if_neg k',e];rfl
      exact iteT ⟨_,rfl,_,rfl,fun t dx ht hdx hne=>qe hno _ dx (g1.trans (bad_same ht hdx hne)) uS_⟩
    | true =>
      have hsome:wordAt x i=some (("word":Str),V.str (Txt.slice x (some ((i:Int)+1)) (some (Txt.find3 x "'" ((i:Int)+1)))),(Txt.find3 x "'" ((i:Int)+1)+1).toNat):=by unfold wordAt;rw [if_neg k',e];rfl
      refine iteF ⟨_,rfl,_,rfl,_,_,rfl,rfl,small (n:=3) (by decide),fun t ht=>q _ _ _ hsome t _ (g1.trans (sN_ ht _)) ?_⟩
      have en:(((Txt.find3 x "'" ((i:Int)+1)+1).toNat:Nat):Int)=Txt.find3 x "'" ((i:Int)+1)+1:=by omega
      rw [en];exact uS_
theorem ok_mark_at (T:Txt K mg a):FnOk P w K mg base (CX1 P w) 3 a.f_mark_at a.d_mark_at ["text","at"] (spSig markAt a.c_BadText):=by
  refine T.F_mark_at.ok1 sc_mark_at (fun vs H Q E h=>?_) (fun cdv A outer s H vs Q E hr h=>?_)
  · obtain ⟨_,_,rfl,_⟩:=h;rfl
  obtain ⟨x,i,rfl,hx,hi,qe,q⟩:=h
  refine ⟨_,(sC_ (ps_if (tR_ op_in_seq (pZ_ sl_str (pv 0) (po_some (pv 1)) (po_some (pO_ op_add (pv 1) pI_))) (pe_glob rfl T.g_LONG_MARKS.1 T.g_LONG_MARKS.2) (by with_unfolding_all rfl)) (sO_ (ps_ret (pe_tup (pC_ (pe_glob rfl T.g_MARK.1 T.g_MARK.2) (pC_ (pZ_ sl_str (pv 0) (po_some (pv 1)) (po_some (pO_ op_add (pv 1) pI_))) (pC_ (pO_ op_add (pv 1) pI_) pa_nil)))))) pss_nil) (sC_ (ps_if (tR_ op_in_str (pe_ix ix_str (pv 0) (pv 1) (fun _ _=>rfl)) (pe_glob rfl T.g_SHORT_MARKS.1 T.g_SHORT_MARKS.2) (by with_unfolding_all rfl)) (sO_ (ps_ret (pe_tup (pC_ (pe_glob rfl T.g_MARK.1 T.g_MARK.2) (pC_ (pe_ix ix_str (pv 0) (pv 1) (fun _ _=>rfl)) (pC_ (pO_ op_add (pv 1) pI_) pa_nil)))))) pss_nil) (sO_ (ps_raise T.x_BadText.made.choose_spec (ok_BadText__init T) T.x_BadText.tk (hr.mono (by decide)) T.x_BadText.bd rfl rfl T.m_BadText (pv 1))))),?_⟩
  obtain ⟨c,hc,hat⟩:=at_c hi
  refine ⟨_,rfl,_,rfl,_,rfl,_,rfl,_,_,rfl,rfl,_,rfl,x,rfl,big_line hx,a.a_LONG_MARKS,_,rfl,.inr (T.t_LONG_MARKS H),rfl,rfl,_,rfl,ite2 (fun k=>?_) (fun k=>?_)⟩
  · have k':inV (.str (cutN x i (i+2))) (longS.map V.str)=true:=k
    have hsome:markAt x i=some (("mark":Str),V.str (cutN x i (i+2)),i+2):=by unfold markAt;rw [if_pos k']
    exact ⟨_,rfl,_,rfl,_,rfl,_,rfl,_,_,rfl,rfl,_,rfl,x,rfl,big_line hx,_,rfl,_,_,rfl,rfl,small (n:=3) (by decide),fun t ht=>q _ _ _ hsome t _ (sN_ ht _) uS_⟩
  · have k':¬ inV (.str (cutN x i (i+2))) (longS.map V.str)=true:=k
    refine ⟨_,rfl,_,rfl,x,_,c,rfl,rfl,big_line hx,hat,_,_,rfl,rfl,_,rfl,?_⟩
    rw [occ_in]
    cases e:inT "=<>+-*()|,@" c with
    | false =>
      have hno:markAt x i=none:=by unfold markAt;rw [if_neg k',hc];show (if inT "=<>+-*()|,@" c=true then _ else none)=none;rw [e];rfl
      exact iteF ⟨_,rfl,_,rfl,fun t dx ht hdx hne=>qe hno _ dx (bad_same ht hdx hne) uS_⟩
    | true =>
      have hsome:markAt x i=some (("mark":Str),V.str ⟨#[c]⟩,i+1):=by unfold markAt;rw [if_neg k',hc];show (if inT "=<>+-*()|,@" c=true then some (("mark":Str),V.str ⟨#[c]⟩,i+1) else none)=_;rw [e];rfl
      exact iteT ⟨_,rfl,_,rfl,x,_,c,rfl,rfl,big_line hx,hat,_,rfl,_,_,rfl,rfl,small (n:=3) (by decide),fun t ht=>q _ _ _ hsome t _ (sN_ ht _) uS_⟩
end
end My
namespace My
open PySem L2
theorem same_upd {H H2:Hp} {p:Addr} {o:HO} (g:Same H H2) (h:H p=none):Same H (upd H2 p o):=fun b u q=>by
  have hb:b≠p:=fun z=>by rw [z,h] at q;cases q
  rw [upd_ne hb];exact g b u q
theorem posL_ge (d:Nat):∀ (w:List Nat) (i:Nat),∀ k ∈ posL d i w,i≤k
  | [],_,k,h=>by simp [posL] at h
  | c :: w,i,k,h=>by
    rw [posL] at h
    split at h
    · rcases List.mem_cons.mp h with e | h
      · omega
      · have:=posL_ge d w (i+1) k h;omega
    · have:=posL_ge d w (i+1) k h;omega
theorem occ_from {x y:Str} {d:Nat} (hy:y.cps.toList=[d]) (lo:Nat) (h:lo≤x.length):Builtin.Str.occurrences x y lo x.length 1=(posL d lo (x.cps.toList.drop lo)).take 1:=by
  rw [StrLaws.occ_eq]
  have z:=occ_walk (x:=x) hy 1 (x.length+1 - lo) lo ((#[]:Array Nat),lo) (by omega) (Nat.le_refl _) (Nat.zero_le _)
  refine Eq.trans z ?_
  simp
theorem find_q (x:Str) (i:Nat) (h:i≤x.length):Txt.find3 x "'" (i:Int)=match posL 39 i (x.cps.toList.drop i) with | k :: _=>(k:Int) | []=>-1:=by
  unfold Txt.find3
  have e:fromIndex x.length (i:Int)=i:=by unfold fromIndex;rw [if_neg (by omega)];omega
  rw [e,occ_from q_list i h]
  cases posL 39 i (x.cps.toList.drop i) <;> rfl
theorem find_ge (x:Str) (i:Nat) (h:i≤x.length) (h0:¬ Txt.find3 x "'" (i:Int) < 0):(i:Int)≤Txt.find3 x "'" (i:Int):=by
  rw [find_q x i h] at h0 ⊢
  cases e:posL 39 i (x.cps.toList.drop i) with
  | nil=>rw [e] at h0;exact absurd (show (-1:Int) < 0 by decide) h0
  | cons k r =>
    have:=posL_ge 39 _ i k (by rw [e];exact List.mem_cons_self)
    show (i:Int)≤(k:Int)
    omega
def figAt (x:Str) (i:Nat):Bool:=match x.cps.toList[i]? with | some c=>isFig c | none=>false
def sigAt (x:Str) (i:Nat):Option (Str × V × Nat) :=
  match x.cps.toList[i]? with
  | none=>none
  | some c=>if isLet c=true then nameAt x i else if c=39 then wordAt x i else if (isFig c || (c == 45&&figAt x (i+1)))=true then numAt x i else markAt x i
structure Tok where
  k:Str
  v:V
  p:Nat
def lexN:Nat→Str→Nat→Sum Nat (List Tok)
  | 0,x,_=>.inr [⟨"end",.str "",x.length⟩]
  | f + 1,x,i=>match x.cps.toList[i]? with
    | none=>.inr [⟨"end",.str "",x.length⟩]
    | some c=>if c=32 then lexN f x (i+1) else match sigAt x i with
      | none=>.inl i
      | some (k,v,e)=>match lexN f x e with
        | .inl p=>.inl p
        | .inr ts=>.inr (⟨k,v,i⟩ :: ts)
theorem sig_up {x:Str} {i:Nat} {k:Str} {v:V} {e:Nat} (hi:i < x.length) (h:sigAt x i=some (k,v,e)):i < e:=by
  obtain ⟨c,hc,_⟩:=at_c hi
  have l:=len_list x
  unfold sigAt at h
  rw [hc] at h
  dsimp only at h
  split at h
  · rename_i hl
    unfold nameAt at h
    split at h
    · cases h
    · have hn:nsg c=true:=by unfold nsg;rw [hl];rfl
      have:=runN_go (p:=nsg) hc hn
      have:=runN_ge nsg x.cps.toList (i+1)
      cases h
      omega
  · split at h
    · unfold wordAt at h
      dsimp only at h
      split at h
      · cases h
      · split at h
        · rename_i h0 _
          have:=find_ge x (i+1) (by omega) h0
          have e1:(((i+1:Nat)):Int)=(i:Int)+1:=by omega
          rw [e1] at this
          cases h
          omega
        · cases h
    · split at h
      · unfold numAt at h
        split at h
        · cases h
        · have:=runN_ge isFig x.cps.toList (i+1)
          cases h
          omega
      · unfold markAt at h
        split at h
        · cases h;omega
        · rw [hc] at h
          dsimp only at h
          split at h
          · cases h;omega
          · cases h
def TokAt (H:Hp) (v:V) (t:Tok):Prop:=∃ p,v=.ref p∧H p=some (.tup [.str t.k,t.v,.int (t.p:Int)])
section
variable {P:Program} {w:World} {K:PySem.W.Frag} {mg:Str→Option Value} {base:Heap} {a:Adr}
theorem ok_sign_at (T:Txt K mg a):FnOk P w K mg base (CX1 P w) 4 a.f_sign_at a.d_sign_at ["text","at"] (spSig sigAt a.c_BadText):=by
  refine T.F_sign_at.ok1 sc_sign_at (fun vs H Q E h=>?_) (fun cdv A outer s H vs Q E hr h=>?_)
  · obtain ⟨_,_,rfl,_⟩:=h;rfl
  obtain ⟨x,i,rfl,hx,hi,qe,q⟩:=h
  refine ⟨_,(sC_ (ps_if (tR_ op_in_str (pe_ix ix_str (pv 0) (pv 1) (fun _ _=>rfl)) (pe_glob rfl T.g_LETTERS.1 T.g_LETTERS.2) (by with_unfolding_all rfl)) (sO_ (ps_ret (pL_ (ok_name_at T) (hr.mono (by decide)) rfl T.m_name_at T.F_name_at.kp T.b_name_at .nil pass1 (pC_ (pv 0) (pC_ (pv 1) pa_nil))))) pss_nil) (sC_ (ps_if (tR_ op_eq (pe_ix ix_str (pv 0) (pv 1) (fun _ _=>rfl)) pS_ (nM_ _)) (sO_ (ps_ret (pL_ (ok_word_at T) (hr.mono (by decide)) rfl T.m_word_at T.F_word_at.kp T.b_word_at .nil pass1 (pC_ (pv 0) (pC_ (pv 1) pa_nil))))) pss_nil) (sC_ (ps_if (PW.pt (pw_or (pt_val (pL_ (ok_is_figure_at T) (hr.mono (by decide)) rfl T.m_is_figure_at T.F_is_figure_at.kp T.b_is_figure_at .nil pass0 (pC_ (pv 0) (pC_ (pv 1) pa_nil)))) (pw_or1 (PW.pt (pw_and (tR_ op_eq (pe_ix ix_str (pv 0) (pv 1) (fun _ _=>rfl)) pS_ (nM_ _)) (pw_and1 (pt_val (pL_ (ok_is_figure_at T) (hr.mono (by decide)) rfl T.m_is_figure_at T.F_is_figure_at.kp T.b_is_figure_at .nil pass0 (pC_ (pv 0) (pC_ (pO_ op_add (pv 1) pI_) pa_nil)))))))))) (sO_ (ps_ret (pL_ (ok_number_at T) (hr.mono (by decide)) rfl T.m_number_at T.F_number_at.kp T.b_number_at .nil pass1 (pC_ (pv 0) (pC_ (pv 1) pa_nil))))) pss_nil) (sO_ (ps_ret (pL_ (ok_mark_at T) (hr.mono (by decide)) rfl T.m_mark_at T.F_mark_at.kp T.b_mark_at .nil pass1 (pC_ (pv 0) (pC_ (pv 1) pa_nil)))))))),?_⟩
  obtain ⟨c,hc,hat⟩:=at_c hi
  have sub:∀ f:Str→Nat→Option (Str × V × Nat),sigAt x i=f x i→spSig f a.c_BadText [.str x,.int (i:Int)] H Q E:=fun f e=>⟨x,i,rfl,hx,hi,fun h=>qe (e.trans h),fun k v e' h=>q k v e' (e.trans h)⟩
  refine ⟨_,rfl,_,rfl,x,_,c,rfl,rfl,big_line hx,hat,_,_,rfl,rfl,_,rfl,?_⟩
  rw [occ_in,show inT "abcdefghijklmnopqrstuvwxyz" c=isLet c from let_in c]
  refine ite2 (fun k=>?_) (fun k=>?_)
  · exact ⟨_,rfl,_,rfl,sub nameAt (by unfold sigAt;rw [hc];exact if_pos k)⟩
  refine ⟨_,rfl,_,rfl,x,_,c,rfl,rfl,big_line hx,hat,rfl,_,rfl,?_⟩
  rw [show decide (V.str ⟨#[c]⟩=V.str "'")=(c == 39) from one_is q_list]
  refine ite2 (fun k2=>?_) (fun k2=>?_)
  · have k2':c=39:=by simpa using k2
    exact ⟨_,rfl,_,rfl,sub wordAt (by unfold sigAt;rw [hc];show (if isLet c=true then nameAt x i else if c=39 then wordAt x i else _)=_;rw [if_neg k,if_pos k2'])⟩
  have k2':¬ c=39:=fun z=>k2 (by simp [z])
  have hnum:(isFig c || (c == 45&&figAt x (i+1)))=true→sigAt x i=numAt x i:=fun z=>by
    unfold sigAt;rw [hc]
    show (if isLet c=true then nameAt x i else if c=39 then wordAt x i else if (isFig c || (c == 45&&figAt x (i+1)))=true then numAt x i else markAt x i)=_
    rw [if_neg k,if_neg k2',if_pos z]
  have hmark:(isFig c || (c == 45&&figAt x (i+1)))=false→sigAt x i=markAt x i:=fun z=>by
    unfold sigAt;rw [hc]
    show (if isLet c=true then nameAt x i else if c=39 then wordAt x i else if (isFig c || (c == 45&&figAt x (i+1)))=true then numAt x i else markAt x i)=_
    rw [if_neg k,if_neg k2',z];rfl
  refine ⟨_,rfl,_,rfl,x,i,rfl,hx,?_⟩
  rw [hc]
  refine ⟨_,rfl,ite2 (fun k3=>iteT ?_) (fun k3=>?_)⟩
  · exact ⟨_,rfl,_,rfl,sub numAt (hnum (by rw [show isFig c=true from k3];rfl))⟩
  have k3':isFig c=false:=by simpa using k3
  refine ⟨_,rfl,_,rfl,x,_,c,rfl,rfl,big_line hx,hat,rfl,_,rfl,?_⟩
  rw [show decide (V.str ⟨#[c]⟩=V.str "-")=(c == 45) from one_is m_list]
  refine ite2 (fun k4=>?_) (fun k4=>?_)
  · refine ⟨_,rfl,_,rfl,_,_,rfl,rfl,x,i+1,rfl,hx,_,rfl,?_⟩
    refine ite2 (fun k5=>?_) (fun k5=>?_)
    · have k6:figAt x (i+1)=true:=k5
      exact ⟨_,rfl,_,rfl,sub numAt (hnum (by rw [k3',k4,k6];rfl))⟩
    · have k6:¬ figAt x (i+1)=true:=k5
      exact ⟨_,rfl,_,rfl,sub markAt (hmark (by rw [k3',k4,Bool.eq_false_iff.mpr k6];rfl))⟩
  · exact iteF ⟨_,rfl,_,rfl,sub markAt (hmark (by rw [k3',Bool.eq_false_iff.mpr k4];rfl))⟩
def lexR (f:Nat) (x:Str) (i:Nat) (done:List Tok):Sum Nat (List Tok):=match lexN f x i with
  | .inl p=>.inl p
  | .inr ts=>.inr (done++ts)
def spSigns (C:Addr):Sp:=fun vs H Q E=>∃ x:Str,vs=[.str x]∧x.length≤10000 ∧
  (∀ p,lexN (x.length+1) x 0=.inl p→∀ H' dx,Same H H'→H' dx=some (.xd [("at",.int (p:Int))])→E (.ref C) (some dx) H') ∧
  (∀ ts,lexN (x.length+1) x 0=.inr ts→∀ l xs H',H l=none→Same H H'→H' l=some (.lst xs)→Paired (TokAt H') xs ts→Q (.ref l) H')
theorem ok_signs_in (T:Txt K mg a):FnOk P w K mg base (CX1 P w) 5 a.f_signs_in a.d_signs_in ["text"] (spSigns a.c_BadText):=by
  refine T.F_signs_in.ok1 sc_signs_in (fun vs H Q E h=>?_) (fun cdv A outer s H vs Q E hr h=>?_)
  · obtain ⟨_,rfl,_⟩:=h;rfl
  obtain ⟨x,rfl,hx,qe,q⟩:=h
  have hx':x.length≤big:=Nat.le_trans hx (by decide)
  have lx:=len_list x
  refine ⟨_,(sC_ (zS_ (i:=1) sc_signs_in.nd rfl (by first | exact Or.inl rfl | exact Or.inr rfl) (pe_lst pa_nil)) (sC_ (zS_ (i:=2) sc_signs_in.nd rfl (by first | exact Or.inl rfl | exact Or.inr rfl) pI_) (sC_ (ps_while PassesOwn.leaving (tR_ op_lt (pv 2) (pB_ call_len_str rfl T.n_len PySem.boot_len (pC_ (pv 0) pa_nil)) (nM_ _)) (sO_ (ps_if (tR_ op_eq (pe_ix ix_str (pv 0) (pv 2) (fun _ _=>rfl)) pS_ (nM_ _)) (sO_ (ps_aug (i:=2) sc_signs_in.nd rfl (by first | exact Or.inl rfl | exact Or.inr rfl) pI_ ip_add)) (sC_ (ps_asg (pL_ (ok_sign_at T) (hr.mono (by decide)) rfl T.m_sign_at T.F_sign_at.kp T.b_sign_at .nil pass1 (pC_ (pv 0) (pC_ (pv 2) pa_nil))) (pg_tup (n:=3) rfl (pgs_cons (pg_name (i:=3) sc_signs_in.nd rfl (by first | exact Or.inl rfl | exact Or.inr rfl)) (pgs_cons (pg_name (i:=4) sc_signs_in.nd rfl (by first | exact Or.inl rfl | exact Or.inr rfl)) (pgs_cons (pg_name (i:=5) sc_signs_in.nd rfl (by first | exact Or.inl rfl | exact Or.inr rfl)) pgs_nil))))) (sC_ (ps_expr (pe_bm PySem.F.plainAttrs_list PySem.F.slot_list_append PySem.F.type_list_append mt_append (pv 1) (pC_ (pe_tup (pC_ (pv 3) (pC_ (pv 4) (pC_ (pv 2) pa_nil)))) pa_nil))) (sO_ (zS_ (i:=2) sc_signs_in.nd rfl (by first | exact Or.inl rfl | exact Or.inr rfl) (pv 5)))))))) (sC_ (ps_expr (pe_bm PySem.F.plainAttrs_list PySem.F.slot_list_append PySem.F.type_list_append mt_append (pv 1) (pC_ (pe_tup (pC_ (pe_glob rfl T.g_END.1 T.g_END.2) (pC_ pS_ (pC_ (pB_ call_len_str rfl T.n_len PySem.boot_len (pC_ (pv 0) pa_nil)) pa_nil)))) pa_nil))) (sO_ (ps_ret (pv 1))))))),?_⟩
  refine ⟨small (n:=0) (by decide),fun l hl=>?_⟩
  have gl:=sN_ hl (.lst [])
  refine while_by (fun σ H'=>∃ (i f:Nat) (done:List Tok) (xs:List V) (s3 s4 s5:Option V),σ=[some (.str x),some (.ref l),some (.int (i:Int)),s3,s4,s5]∧Same H H'∧H' l=some (.lst xs)∧Paired (TokAt H') xs done∧done.length≤i∧done.length≤x.length∧x.length+1≤f+i∧lexR f x i done=lexN (x.length+1) x 0)
    (fun σ _=>match σ with | [_,_,some (.int i),_,_,_]=>x.length - i.toNat | _=>0) ⟨0,x.length+1,[],[],_,_,_,rfl,gl,uS_,.nil,Nat.le_refl _,Nat.zero_le _,by omega,?_⟩ (fun σ H' hP=>?_) (fun σ H' Q Q' hQ h=>?_)
  · unfold lexR
    cases lexN (x.length+1) x 0 <;> rfl
  · obtain ⟨i, f,done,xs,s3,s4,s5,rfl,g,hl',hxs,ld,ld2,lf,hR⟩:=hP
    have lxs:=hxs.length
    refine ⟨_,rfl,_,rfl,_,rfl,big_line hx',_,_,rfl,rfl,_,rfl,ite2 (fun k=>?_) (fun k=>?_)⟩
    · have k' : i < x.length:=by have:(i:Int) < (x.length:Int):=of_decide_eq_true k;omega
      obtain ⟨c,hc,hat⟩:=at_c k'
      obtain ⟨f,rfl⟩:∃ f',f=f'+1:=⟨f - 1,by omega⟩
      refine ⟨_,rfl,_,rfl,x,_,c,rfl,rfl,big_line hx',hat,rfl,_,rfl,?_⟩
      rw [show decide (V.str ⟨#[c]⟩=V.str " ")=(c == 32) from one_is (show (" ":Str).cps.toList=[32] by decide +kernel)]
      refine ite2 (fun k2=>?_) (fun k2=>?_)
      · have k2':c=32:=by simpa using k2
        refine ⟨_,rfl,_,_,rfl,rfl,⟨i+1,f,done,xs,_,_,_,rfl,g,hl',hxs,by omega,ld2,by omega,?_⟩,?_⟩
        · rw [← hR]
          unfold lexR
          have:lexN (f+1) x i=lexN f x (i+1):=by
            show (match x.cps.toList[i]? with | none=>_ | some c=>if c=32 then lexN f x (i+1) else _)=_
            rw [hc];exact if_pos k2'
          rw [this]
        · show x.length - ((i:Int)+1).toNat < x.length - (i:Int).toNat
          omega
      · have k2':¬ c=32:=fun z=>k2 (by simp [z])
        have hstep:lexN (f+1) x i=match sigAt x i with
            | none=>.inl i
            | some (k,v,e)=>match lexN f x e with
              | .inl p=>.inl p
              | .inr ts=>.inr (⟨k,v,i⟩ :: ts):=by
          show (match x.cps.toList[i]? with | none=>_ | some c=>if c=32 then lexN f x (i+1) else match sigAt x i with | none=>.inl i | some (k,v,e)=>match lexN f x e with | .inl p=>.inl p | .inr ts=>.inr (⟨k,v,i⟩ :: ts))=_
          rw [hc];exact if_neg k2'
        refine ⟨_,rfl,_,rfl,x,i,rfl,hx',k',fun hno H1 dx g1 hdx=>?_,fun kd v e hsig t H1 g1 ht=>?_⟩
        · refine qe i ?_ H1 dx (g.trans g1) hdx
          rw [← hR];unfold lexR;rw [hstep,hno]
        · have hup:=sig_up k' hsig
          refine ⟨t,_,rfl,SqT.of ht,rfl,_,_,rfl,_,_,rfl,_,_,rfl,rfl,?_⟩
          refine ⟨_,rfl,.inl ⟨rfl,_,SqL.of (g1 _ _ hl')⟩,_,rfl,_,rfl,_,rfl,small (n:=3) (by decide),fun t2 ht2=>?_⟩
          have g2:=sN_ ht2 (.tup [.str kd,v,.int (i:Int)])
          have hl2:=g2 _ _ (g1 _ _ hl')
          refine ⟨l,xs,.ref t2,rfl,rfl,hl2,(by rw [sizeLine_eq];omega),?_⟩
          refine ⟨_,rfl,⟨e,f,done++[⟨kd,v,i⟩],xs++[.ref t2],_,_,_,rfl,same_upd (g.trans (g1.trans g2)) hl,uS_,?_,by rw [List.length_append,List.length_singleton];omega,by rw [List.length_append,List.length_singleton];omega,by omega,?_⟩,?_⟩
          · have kp:∀ b ys,upd H1 t2 (.tup [.str kd,v,.int (i:Int)]) b=some (.tup ys)→upd (upd H1 t2 (.tup [.str kd,v,.int (i:Int)])) l (.lst (xs++[.ref t2])) b=some (.tup ys):=fun b ys e=>by rw [upd_ne (ne_of e hl2 fun z=>nomatch z)];exact e
            refine Paired.snoc (Paired.mapP hxs fun _ _ z=>?_) ⟨t2,rfl,kp _ _ uS_⟩
            obtain ⟨p,e1,e2⟩:=z
            exact ⟨p,e1,kp _ _ (g2 _ _ (g1 _ _ e2))⟩
          · rw [← hR]
            have h2:lexN (f+1) x i=match lexN f x e with
              | .inl p=>.inl p
              | .inr ts=>.inr (⟨kd,v,i⟩ :: ts):=by rw [hstep,hsig]
            unfold lexR
            rw [h2]
            cases lexN f x e <;> simp [List.append_assoc]
          · show x.length - (e:Int).toNat < x.length - (i:Int).toNat
            omega
    · have k':x.length≤i:=by
        have:¬ (i:Int) < (x.length:Int):=fun z=>k (decide_eq_true z)
        omega
      have hend:lexN f x i=.inr [⟨"end",.str "",x.length⟩]:=by
        cases f with
        | zero=>rfl
        | succ f =>
          show (match x.cps.toList[i]? with | none=>_ | some c=>_)=_
          rw [List.getElem?_eq_none (by omega)]
      have hfin:lexN (x.length+1) x 0=.inr (done++[⟨"end",.str "",x.length⟩]):=by
        rw [← hR];unfold lexR;rw [hend]
      refine ⟨_,rfl,.inl ⟨rfl,_,SqL.of hl'⟩,_,rfl,_,rfl,big_line hx',small (n:=3) (by decide),fun t2 ht2=>?_⟩
      have g2:=sN_ ht2 (.tup [.str "end",.str "",.int (x.length:Int)])
      have hl2:=g2 _ _ hl'
      have kp:∀ b ys,upd H' t2 (.tup [.str "end",.str "",.int (x.length:Int)]) b=some (.tup ys)→upd (upd H' t2 (.tup [.str "end",.str "",.int (x.length:Int)])) l (.lst (xs++[.ref t2])) b=some (.tup ys):=fun b ys e=>by rw [upd_ne (ne_of e hl2 fun z=>nomatch z)];exact e
      refine ⟨l,xs,.ref t2,rfl,rfl,hl2,(by rw [sizeLine_eq];omega),_,rfl,?_⟩
      refine q _ hfin l (xs++[.ref t2]) _ hl (same_upd (g.trans g2) hl) uS_ (Paired.snoc (Paired.mapP hxs fun _ _ z=>?_) ⟨t2,rfl,kp _ _ uS_⟩)
      obtain ⟨p,e1,e2⟩:=z
      exact ⟨p,e1,kp _ _ (g2 _ _ e2)⟩
  · obtain ⟨v1,e1,v2,e2,y,e3,h3,i,j,e4,e5,k,e6,h⟩:=h
    exact ⟨v1,e1,v2,e2,y,e3,h3,i,j,e4,e5,k,e6,hQ _ _ h⟩
end
end My
namespace My
open PySem L2
theorem rdk:¬ (("signs":Str)="passed"):=by decide +kernel
def rf (l:Addr) (i:Int):List (Str × V):=putF "passed" (.int i) (putF "signs" (.ref l) [])
theorem rf_eq (l:Addr) (i:Int):rf l i=([("signs",V.ref l),("passed",V.int i)]:List (Str × V)):=by
  show (if ("signs":Str)="passed" then [(("signs":Str),V.int i)] else (("signs":Str),V.ref l) :: putF "passed" (V.int i) [])=_
  rw [if_neg rdk]
  all_goals rfl
theorem rf_signs (l:Addr) (i:Int):(rf l i).lookup ("signs":Str)=some (.ref l):=by
  unfold rf
  rw [lookup_putF,if_neg rdk,lookup_putF,if_pos rfl]
theorem rf_passed (l:Addr) (i:Int):(rf l i).lookup ("passed":Str)=some (.int i):=by
  unfold rf
  rw [lookup_putF,if_pos rfl]
theorem rf_no (l:Addr) (i:Int) {m:Str} (h1:¬ m="passed") (h2:¬ m="signs"):(rf l i).lookup m=none:=by
  unfold rf
  rw [lookup_putF,if_neg h1,lookup_putF,if_neg h2]
  all_goals rfl
theorem rf_put (l:Addr) (i j:Int):putF "passed" (.int j) (rf l i)=rf l j:=by
  rw [rf_eq,rf_eq]
  show (if ("signs":Str)="passed" then _ else (("signs":Str),V.ref l) :: (if ("passed":Str)="passed" then [(("passed":Str),V.int j)] else _))=([("signs",V.ref l),("passed",V.int j)]:List (Str × V))
  rw [if_neg rdk,if_pos rfl]
structure RdAt (C:Addr) (H:Hp) (r:Addr) (toks:List Tok) (i:Nat):Prop where
  ob:∃ dx l xs,H r=some (.ins C dx (rf l (i:Int)))∧H l=some (.lst xs)∧Paired (TokAt H) xs toks
def SameR (r:Addr) (H H':Hp):Prop:=∀ b o,b≠r→H b=some o→H' b=some o
theorem RdAt.same {C r:Addr} {H H':Hp} {toks:List Tok} {i:Nat} (h:RdAt C H r toks i) (g:Same H H'):RdAt C H' r toks i:=by
  obtain ⟨dx,l,xs,h1,h2,h3⟩:=h.ob
  exact ⟨dx,l,xs,g _ _ h1,g _ _ h2,Paired.mapP h3 fun _ _ z=>let ⟨p,e,q⟩:=z;⟨p,e,g _ _ q⟩⟩
theorem pair_at {α β:Type} {R:α→β→Prop}:∀ {xs:List α} {ys:List β} {i:Nat} {y:β},Paired R xs ys→ys[i]?=some y→∃ x,xs[i]?=some x∧R x y
  | _,_,0,_,.cons (a:=x) h _,e=>by cases e;exact ⟨x,rfl,h⟩
  | _,_,i+1,_,.cons _ t,e=>pair_at (i:=i) t (by simpa using e)
  | _,_,_,_,.nil,e=>by simp at e
section
variable {P:Program} {w:World} {K:PySem.W.Frag} {mg:Str→Option Value} {base:Heap} {a:Adr}
def spPlace (C:Addr):Sp:=fun vs H Q _=>∃ r toks i t,vs=[.ref r]∧RdAt C H r toks i∧toks[i]?=some t∧Q (.int (t.p:Int)) H
theorem ok_Reader__place (T:Txt K mg a):FnOk P w K mg base CX0 1 a.f_Reader__place a.d_Reader__place ["self"] (spPlace a.c_Reader):=by
  refine T.F_Reader__place.ok sc_Reader__place (fun vs H Q E h=>?_) (fun cdv A outer s H vs Q E hr h=>?_)
  · obtain ⟨_,_,_,_,rfl,_⟩:=h;rfl
  obtain ⟨r,toks,i,t,rfl,hR,ht,q⟩:=h
  obtain ⟨dx,l,xs,h1,h2,h3⟩:=hR.ob
  obtain ⟨x,hx,p,rfl,hp⟩:=pair_at h3 ht
  refine ⟨_,(sO_ (ps_ret (pe_ix ix_tup (pe_ix ix_list (pe_fld (pv 0) rfl) (pe_fld (pv 0) rfl) (fun _ _=>rfl)) pI_ (fun _ _=>rfl)))),?_⟩
  exact ⟨_,rfl,r,a.c_Reader,dx,_,_,rfl,h1,T.cl_Reader,T.no_Reader_signs,rf_signs _ _,_,rfl,r,a.c_Reader,dx,_,_,rfl,h1,T.cl_Reader,T.no_Reader_passed,rf_passed _ _,l,xs,_,_,rfl,rfl,SqL.of h2,atI_nat hx,p,_,_,_,rfl,rfl,SqT.of hp,atI_nat (j:=2) rfl,q⟩
def spSees (C:Addr):Sp:=fun vs H Q _=>∃ r toks i t kd,vs=[.ref r,.str kd]∧RdAt C H r toks i∧toks[i]?=some t∧Q (.bl (decide (V.str t.k=V.str kd))) H
theorem ok_Reader__sees (T:Txt K mg a):FnOk P w K mg base CX0 1 a.f_Reader__sees a.d_Reader__sees ["self","kind"] (spSees a.c_Reader):=by
  refine T.F_Reader__sees.ok sc_Reader__sees (fun vs H Q E h=>?_) (fun cdv A outer s H vs Q E hr h=>?_)
  · obtain ⟨_,_,_,_,_,rfl,_⟩:=h;rfl
  obtain ⟨r,toks,i,t,kd,rfl,hR,ht,q⟩:=h
  obtain ⟨dx,l,xs,h1,h2,h3⟩:=hR.ob
  obtain ⟨x,hx,p,rfl,hp⟩:=pair_at h3 ht
  refine ⟨_,(sO_ (ps_ret (pR_ op_eq (pe_ix ix_tup (pe_ix ix_list (pe_fld (pv 0) rfl) (pe_fld (pv 0) rfl) (fun _ _=>rfl)) pI_ (fun _ _=>rfl)) (pv 1) (nM_ _)))),?_⟩
  exact ⟨_,rfl,r,a.c_Reader,dx,_,_,rfl,h1,T.cl_Reader,T.no_Reader_signs,rf_signs _ _,_,rfl,r,a.c_Reader,dx,_,_,rfl,h1,T.cl_Reader,T.no_Reader_passed,rf_passed _ _,l,xs,_,_,rfl,rfl,SqL.of h2,atI_nat hx,p,_,_,_,rfl,rfl,SqT.of hp,atI_nat (j:=0) rfl,_,rfl,rfl,q⟩
def spSees1 (K:PySem.W.Frag) (C:Addr):Sp:=fun vs H Q _=>∃ r toks i t kd u ss,vs=[.ref r,.str kd,.ref u]∧RdAt C H r toks i∧toks[i]?=some t∧flatV t.v=true∧(SqL K H u (List.map V.str ss)∨SqT K H u (List.map V.str ss))∧Q (.bl (decide (V.str t.k=V.str kd)&&inV t.v (List.map V.str ss))) H
theorem flat_s (ns:List Str):(ns.map V.str).all flatV=true:=by
  rw [List.all_eq_true]
  intro x hx
  obtain ⟨s,_,rfl⟩:=List.mem_map.mp hx
  rfl
theorem ok_Reader__sees_one (T:Txt K mg a):FnOk P w K mg base CX0 2 a.f_Reader__sees_one a.d_Reader__sees_one ["self","kind","things"] (spSees1 K a.c_Reader):=by
  refine T.F_Reader__sees_one.ok sc_Reader__sees_one (fun vs H Q E h=>?_) (fun cdv A outer s H vs Q E hr h=>?_)
  · obtain ⟨_,_,_,_,_,_,_,rfl,_⟩:=h;rfl
  obtain ⟨r,toks,i,t,kd,u,ss,rfl,hR,ht,hf,hu,q⟩:=h
  obtain ⟨dx,l,xs,h1,h2,h3⟩:=hR.ob
  obtain ⟨x,hx,p,rfl,hp⟩:=pair_at h3 ht
  refine ⟨_,(sO_ (ps_ret (pe_and (pe_meth (pv 0) T.cl_Reader T.me_Reader__sees (ok_Reader__sees T) (hr.mono (by decide)) T.b_Reader__sees .nil pass0 (pC_ (pv 1) pa_nil)) (pe_one (pR_ op_in_seq (pe_ix ix_tup (pe_ix ix_list (pe_fld (pv 0) rfl) (pe_fld (pv 0) rfl) (fun _ _=>rfl)) pI_ (fun _ _=>rfl)) (pv 2) (by with_unfolding_all rfl)))))),?_⟩
  refine ⟨_,rfl,r,dx,_,rfl,h1,rf_no _ _ (by decide +kernel) (by decide +kernel),_,rfl,r,toks,i,t,kd,rfl,hR,ht,_,rfl,?_⟩
  cases e:decide (V.str t.k=V.str kd) with
  | false=>rw [e] at q;exact q
  | true =>
    rw [e,Bool.true_and] at q
    exact ⟨_,rfl,r,a.c_Reader,dx,_,_,rfl,h1,T.cl_Reader,T.no_Reader_signs,rf_signs _ _,_,rfl,r,a.c_Reader,dx,_,_,rfl,h1,T.cl_Reader,T.no_Reader_passed,rf_passed _ _,l,xs,_,_,rfl,rfl,SqL.of h2,atI_nat hx,p,_,_,_,rfl,rfl,SqT.of hp,atI_nat (j:=1) rfl,_,rfl,u,_,rfl,hu,hf,flat_s ss,q⟩
def spTakeT (C:Addr):Sp:=fun vs H Q _=>∃ r toks i t,vs=[.ref r]∧RdAt C H r toks i∧toks[i]?=some t∧∀ H',RdAt C H' r toks (i+1)→SameR r H H'→Q t.v H'
theorem ok_Reader__take (T:Txt K mg a):FnOk P w K mg base CX0 1 a.f_Reader__take a.d_Reader__take ["self"] (spTakeT a.c_Reader):=by
  refine T.F_Reader__take.ok sc_Reader__take (fun vs H Q E h=>?_) (fun cdv A outer s H vs Q E hr h=>?_)
  · obtain ⟨_,_,_,_,rfl,_⟩:=h;rfl
  obtain ⟨r,toks,i,t,rfl,hR,ht,q⟩:=h
  obtain ⟨dx,l,xs,h1,h2,h3⟩:=hR.ob
  obtain ⟨x,hx,p,rfl,hp⟩:=pair_at h3 ht
  refine ⟨_,(sC_ (zS_ (i:=1) sc_Reader__take.nd rfl (by first | exact Or.inl rfl | exact Or.inr rfl) (pe_ix ix_tup (pe_ix ix_list (pe_fld (pv 0) rfl) (pe_fld (pv 0) rfl) (fun _ _=>rfl)) pI_ (fun _ _=>rfl))) (sC_ (ps_fldaug (pv 0) pI_ in_add) (sO_ (ps_ret (pv 1))))),?_⟩
  refine ⟨_,rfl,r,a.c_Reader,dx,_,_,rfl,h1,T.cl_Reader,T.no_Reader_signs,rf_signs _ _,_,rfl,r,a.c_Reader,dx,_,_,rfl,h1,T.cl_Reader,T.no_Reader_passed,rf_passed _ _,l,xs,_,_,rfl,rfl,SqL.of h2,atI_nat hx,p,_,_,_,rfl,rfl,SqT.of hp,atI_nat (j:=1) rfl,?_⟩
  refine ⟨_,rfl,r,a.c_Reader,dx,_,_,rfl,h1,T.cl_Reader,T.no_Reader_passed,rf_passed _ _,?_⟩
  refine ⟨_,_,rfl,rfl,dx,_,h1,(by rw [rf_eq];show 2 < 1000;decide),_,rfl,?_⟩
  have e1:putF "passed" (.int ((i:Int)+1)) (rf l (i:Int))=rf l (((i+1:Nat)):Int):=rf_put _ _ _
  refine q _ ⟨dx,l,xs,Eq.trans uS_ (congrArg (fun z=>some (HO.ins a.c_Reader dx z)) e1),by rw [upd_ne (ne_of h2 h1 fun z=>nomatch z)];exact h2,Paired.mapP h3 fun _ _ z=>?_⟩ fun b o hb e=>by rw [upd_ne hb];exact e
  obtain ⟨p2,e2,q2⟩:=z
  exact ⟨p2,e2,by rw [upd_ne (ne_of q2 h1 fun z=>nomatch z)];exact q2⟩
def spTakeK (C EC:Addr):Sp:=fun vs H Q E=>∃ r toks i t kd,vs=[.ref r,.str kd]∧RdAt C H r toks i∧toks[i]?=some t ∧
  (t.k≠kd→∀ H' dx,Same H H'→H' dx=some (.xd [("at",.int (t.p:Int))])→E (.ref EC) (some dx) H') ∧
  (t.k=kd→∀ H',RdAt C H' r toks (i+1)→SameR r H H'→Q t.v H')
theorem ok_Reader__take_kind (T:Txt K mg a):FnOk P w K mg base (CX1 P w) 3 a.f_Reader__take_kind a.d_Reader__take_kind ["self","kind"] (spTakeK a.c_Reader a.c_BadText):=by
  refine T.F_Reader__take_kind.ok1 sc_Reader__take_kind (fun vs H Q E h=>?_) (fun cdv A outer s H vs Q E hr h=>?_)
  · obtain ⟨_,_,_,_,_,rfl,_⟩:=h;rfl
  obtain ⟨r,toks,i,t,kd,rfl,hR,ht,qe,q⟩:=h
  obtain ⟨dx,l,xs,h1,h2,h3⟩:=hR.ob
  refine ⟨_,(sC_ (ps_if (pt_not (pt_truth (pe_meth (pv 0) T.cl_Reader T.me_Reader__sees (ok_Reader__sees T) (hr.mono (by decide)) T.b_Reader__sees .nil pass0 (pC_ (pv 1) pa_nil)) (fun _=>rfl))) (sO_ (ps_raise T.x_BadText.made.choose_spec (ok_BadText__init T) T.x_BadText.tk (hr.mono (by decide)) T.x_BadText.bd rfl rfl T.m_BadText (pe_meth0 (pv 0) T.cl_Reader T.me_Reader__place (ok_Reader__place T) (hr.mono (by decide)) T.b_Reader__place .nil pass0))) pss_nil) (sO_ (ps_ret (pe_meth0 (pv 0) T.cl_Reader T.me_Reader__take (ok_Reader__take T) (hr.mono (by decide)) T.b_Reader__take .nil pass0)))),?_⟩
  refine ⟨_,rfl,r,dx,_,rfl,h1,rf_no _ _ (by decide +kernel) (by decide +kernel),_,rfl,r,toks,i,t,kd,rfl,hR,ht,_,rfl,?_⟩
  by_cases e:t.k=kd
  · rw [show decide (V.str t.k=V.str kd)=true from decide_eq_true (by rw [e])]
    exact iteF ⟨_,rfl,r,dx,_,rfl,h1,rf_no _ _ (by decide +kernel) (by decide +kernel),r,toks,i,t,rfl,hR,ht,q e⟩
  · rw [show decide (V.str t.k=V.str kd)=false from decide_eq_false (fun z=>e (by injection z))]
    exact iteT ⟨_,rfl,r,dx,_,rfl,h1,rf_no _ _ (by decide +kernel) (by decide +kernel),r,toks,i,t,rfl,hR,ht,_,rfl,fun t2 dx2 ht2 hdx hne=>qe e _ dx2 (bad_same ht2 hdx hne) uS_⟩
def one1 (t:Tok) (kd:Str) (ss:List Str):Bool:=decide (V.str t.k=V.str kd)&&inV t.v (List.map V.str ss)
def spTakeO (K:PySem.W.Frag) (C EC:Addr):Sp:=fun vs H Q E=>∃ r toks i t kd u ss,vs=[.ref r,.str kd,.ref u]∧RdAt C H r toks i∧toks[i]?=some t∧flatV t.v=true∧(SqL K H u (List.map V.str ss)∨SqT K H u (List.map V.str ss)) ∧
  (one1 t kd ss=false→∀ H' dx,Same H H'→H' dx=some (.xd [("at",.int (t.p:Int))])→E (.ref EC) (some dx) H') ∧
  (one1 t kd ss=true→∀ H',RdAt C H' r toks (i+1)→SameR r H H'→Q t.v H')
theorem ok_Reader__take_one (T:Txt K mg a):FnOk P w K mg base (CX1 P w) 3 a.f_Reader__take_one a.d_Reader__take_one ["self","kind","things"] (spTakeO K a.c_Reader a.c_BadText):=by
  refine T.F_Reader__take_one.ok1 sc_Reader__take_one (fun vs H Q E h=>?_) (fun cdv A outer s H vs Q E hr h=>?_)
  · obtain ⟨_,_,_,_,_,_,_,rfl,_⟩:=h;rfl
  obtain ⟨r,toks,i,t,kd,u,ss,rfl,hR,ht,hf,hu,qe,q⟩:=h
  obtain ⟨dx,l,xs,h1,h2,h3⟩:=hR.ob
  refine ⟨_,(sC_ (ps_if (pt_not (pt_truth (pe_meth (pv 0) T.cl_Reader T.me_Reader__sees_one (ok_Reader__sees_one T) (hr.mono (by decide)) T.b_Reader__sees_one .nil pass0 (pC_ (pv 1) (pC_ (pv 2) pa_nil))) (fun _=>rfl))) (sO_ (ps_raise T.x_BadText.made.choose_spec (ok_BadText__init T) T.x_BadText.tk (hr.mono (by decide)) T.x_BadText.bd rfl rfl T.m_BadText (pe_meth0 (pv 0) T.cl_Reader T.me_Reader__place (ok_Reader__place T) (hr.mono (by decide)) T.b_Reader__place .nil pass0))) pss_nil) (sO_ (ps_ret (pe_meth0 (pv 0) T.cl_Reader T.me_Reader__take (ok_Reader__take T) (hr.mono (by decide)) T.b_Reader__take .nil pass0)))),?_⟩
  refine ⟨_,rfl,r,dx,_,rfl,h1,rf_no _ _ (by decide +kernel) (by decide +kernel),_,rfl,_,rfl,r,toks,i,t,kd,u,ss,rfl,hR,ht,hf,hu,_,rfl,?_⟩
  cases e:one1 t kd ss with
  | true =>
    rw [show (decide (V.str t.k=V.str kd)&&inV t.v (List.map V.str ss))=true from e]
    exact iteF ⟨_,rfl,r,dx,_,rfl,h1,rf_no _ _ (by decide +kernel) (by decide +kernel),r,toks,i,t,rfl,hR,ht,q e⟩
  | false =>
    rw [show (decide (V.str t.k=V.str kd)&&inV t.v (List.map V.str ss))=false from e]
    exact iteT ⟨_,rfl,r,dx,_,rfl,h1,rf_no _ _ (by decide +kernel) (by decide +kernel),r,toks,i,t,rfl,hR,ht,_,rfl,fun t2 dx2 ht2 hdx hne=>qe e _ dx2 (bad_same ht2 hdx hne) uS_⟩
def spInit (C EC:Addr):Sp:=fun vs H Q E=>∃ r dx x,vs=[.ref r,.str x]∧H r=some (.ins C dx [])∧x.length≤10000 ∧
  (∀ p,lexN (x.length+1) x 0=.inl p→∀ H' dx,Same H H'→H' dx=some (.xd [("at",.int (p:Int))])→E (.ref EC) (some dx) H') ∧
  (∀ ts,lexN (x.length+1) x 0=.inr ts→∀ H',RdAt C H' r ts 0→SameR r H H'→Q .non H')
theorem ok_Reader__init (T:Txt K mg a):FnOk P w K mg base (CX1 P w) 6 a.f_Reader__init a.d_Reader__init ["self","text"] (spInit a.c_Reader a.c_BadText):=by
  refine T.F_Reader__init.ok1 sc_Reader__init (fun vs H Q E h=>?_) (fun cdv A outer s H vs Q E hr h=>?_)
  · obtain ⟨_,_,_,rfl,_⟩:=h;rfl
  obtain ⟨r,dx,x,rfl,hr0,hx,qe,q⟩:=h
  refine ⟨_,(sC_ (ps_fld (pv 0) (pL_ (ok_signs_in T) (hr.mono (by decide)) rfl T.m_signs_in T.F_signs_in.kp T.b_signs_in .nil pass1 (pC_ (pv 1) pa_nil)) rfl) (sO_ (ps_fld (pv 0) pI_ rfl))),?_⟩
  refine ⟨_,rfl,x,rfl,hx,qe,fun ts hts l xs H1 hl g1 hl1 hxs=>?_⟩
  have h1:=g1 _ _ hr0
  refine ⟨_,rfl,r,a.c_Reader,dx,[],rfl,h1,T.cl_Reader,T.no_Reader_signs,(by show 0 < 1000;decide),_,rfl,r,a.c_Reader,dx,_,rfl,uS_,T.cl_Reader,T.no_Reader_passed,(by show 1 < 1000;decide),?_⟩
  rw [upd_upd]
  refine q ts hts _ ⟨dx,l,xs,uS_,by rw [upd_ne (ne_of hl1 h1 fun z=>nomatch z)];exact hl1,Paired.mapP hxs fun _ _ z=>?_⟩ fun b o hb e=>by rw [upd_ne hb];exact g1 _ _ e
  obtain ⟨p2,e2,q2⟩:=z
  exact ⟨p2,e2,by rw [upd_ne (ne_of q2 h1 fun z=>nomatch z)];exact q2⟩
end
end My
namespace My
open PySem L2
def tkA (ts:List Tok) (i:Nat):Tok:=(ts[i]?).getD ⟨"end",.str "",0⟩
def sgn:V→Str
  | .str s=>s
  | _=>""
structure TsOk (ts:List Tok):Prop where
  fl:∀ t ∈ ts,flatV t.v=true
  st:∀ t ∈ ts,t.k≠("number":Str)→∃ s,t.v=.str s
  nd:∀ (i:Nat) (t:Tok),ts[i]?=some t→t.k≠("end":Str)→i+1 < ts.length
theorem tk_at {ts:List Tok} {i:Nat} (h:i < ts.length):ts[i]?=some (tkA ts i):=by
  unfold tkA
  rw [List.getElem?_eq_getElem h];rfl
theorem TsOk.more {ts:List Tok} (h:TsOk ts) {i:Nat} (hi:i < ts.length) (hk:(tkA ts i).k≠("end":Str)):i+1 < ts.length:=h.nd i _ (tk_at hi) hk
theorem TsOk.str {ts:List Tok} (h:TsOk ts) {i:Nat} (hi:i < ts.length) (hk:(tkA ts i).k≠("number":Str)):(tkA ts i).v=.str (sgn (tkA ts i).v):=by
  obtain ⟨s,e⟩:=h.st _ (List.mem_of_getElem? (tk_at hi)) hk
  rw [e];rfl
theorem TsOk.flat {ts:List Tok} (h:TsOk ts) {i:Nat} (hi:i < ts.length):flatV (tkA ts i).v=true:=h.fl _ (List.mem_of_getElem? (tk_at hi))
theorem one1_k {t:Tok} {kd:Str} {ss:List Str} (h:one1 t kd ss=true):t.k=kd:=by
  unfold one1 at h
  have:=(Bool.and_eq_true _ _ ▸ h).1
  have:=of_decide_eq_true this
  injection this
theorem mark_no:("mark":Str)≠"end"∧("mark":Str)≠"number"∧("name":Str)≠"end"∧("name":Str)≠"number"∧("number":Str)≠"end"∧("word":Str)≠"end":=by decide +kernel
theorem SameR.trans {r:Addr} {H H1 H2:Hp} (a:SameR r H H1) (b:SameR r H1 H2):SameR r H H2:=fun c o hc e=>b c o hc (a c o hc e)
theorem Same.toR {r:Addr} {H H':Hp} (g:Same H H'):SameR r H H':=fun b o _ e=>g b o e
theorem RdAt.tup {C r:Addr} {H H':Hp} {toks:List Tok} {i:Nat} (h:RdAt C H r toks i) (g:SameR r H H'):∀ b xs,H b=some (.tup xs)→H' b=some (.tup xs):=fun b xs e=>by
  obtain ⟨dx,l,ys,h1,_⟩:=h.ob
  exact g b _ (fun z=>by rw [z,h1] at e;cases e) e
abbrev QR (α:Type):=Sum Nat (α × Nat)
def nameP (ts:List Tok) (i:Nat):QR Str:=if (tkA ts i).k="name" then .inr (sgn (tkA ts i).v,i+1) else .inl (tkA ts i).p
def oneP (kd:Str) (ss:List Str) (ts:List Tok) (i:Nat):QR Str:=if one1 (tkA ts i) kd ss=true then .inr (sgn (tkA ts i).v,i+1) else .inl (tkA ts i).p
def namesL (ts:List Tok):Nat→Nat→List Str→List Str × Nat
  | 0,i,ns=>(ns,i)
  | n+1,i,ns=>if (tkA ts i).k="name" then namesL ts n (i+1) (ns++[sgn (tkA ts i).v]) else (ns,i)
def namesP (ts:List Tok) (i:Nat):QR (List Str):=if (tkA ts i).k="name" then .inr (namesL ts ts.length (i+1) [sgn (tkA ts i).v]) else .inl (tkA ts i).p
def numP (least:Int) (ts:List Tok) (i:Nat):QR Int:=if (tkA ts i).k="number" then (match (tkA ts i).v with | .int n=>if n < least then .inl (tkA ts i).p else .inr (n,i+1) | _=>.inl 0) else .inl (tkA ts i).p
def byP (ts:List Tok) (i:Nat):QR (List Str):=if one1 (tkA ts i) "mark" ["by"]=true then namesP ts (i+1) else .inr ([],i)
structure RdOk (C:Addr) (H:Hp) (r:Addr) (ts:List Tok) (i:Nat):Prop where
  rd:RdAt C H r ts i
  ok:TsOk ts
  lt:i < ts.length
  sz:ts.length≤20000
  nu:∀ t ∈ ts,t.k=("number":Str)→∃ n:Int,t.v=.int n
theorem RdOk.to {C:Addr} {H H':Hp} {r:Addr} {ts:List Tok} {i j:Nat} (h:RdOk C H r ts i) (hR:RdAt C H' r ts j) (hj:j < ts.length):RdOk C H' r ts j:=⟨hR,h.ok,hj,h.sz,h.nu⟩
def ZEnd {α:Type} (C EC r:Addr) (ts:List Tok) (H:Hp) (Q:VK) (E:XK) (At:Hp→V→α→Prop) (z:QR α):Prop :=
  (∀ p,z=.inl p→∀ H' dx,SameR r H H'→H' dx=some (.xd [("at",.int (p:Int))])→E (.ref EC) (some dx) H') ∧
  (∀ a j,z=.inr (a,j)→∀ v H',SameR r H H'→RdAt C H' r ts j→At H' v a→Q v H')
def NsAt (H:Hp) (v:V) (ns:List Str):Prop:=∃ p,v=.ref p∧H p=some (.tup (ns.map V.str))
theorem NsAt.keep {H H':Hp} (g:∀ b xs,H b=some (.tup xs)→H' b=some (.tup xs)) {v:V} {ns:List Str} (h:NsAt H v ns):NsAt H' v ns:=let ⟨p,e,q⟩:=h;⟨p,e,g _ _ q⟩
theorem RdAt.updL {C:Addr} {H:Hp} {r b:Addr} {ts:List Tok} {i:Nat} {ys zs:List V} (h:RdAt C H r ts i) (hb:H b=some (.lst ys)) (hne:¬ Paired (TokAt H) ys ts):RdAt C (upd H b (.lst zs)) r ts i:=by
  obtain ⟨dx,l,xs,h1,h2,h3⟩:=h.ob
  refine ⟨dx,l,xs,by rw [upd_ne (ne_of h1 hb fun z=>nomatch z)];exact h1,?_,Paired.mapP h3 fun _ _ z=>?_⟩
  · rw [upd_ne (fun z=>by rw [z,hb] at h2;cases h2;exact hne h3)];exact h2
  · obtain ⟨p,e,q⟩:=z
    exact ⟨p,e,by rw [upd_ne (ne_of q hb fun z=>nomatch z)];exact q⟩
theorem strs_no {H:Hp} {ns:List Str} {ts:List Tok} (h:0 < ts.length):¬ Paired (TokAt H) (ns.map V.str) ts:=by
  intro z
  cases ts with
  | nil=>simp at h
  | cons t ts =>
    cases ns with
    | nil=>cases z
    | cons s ns =>
      cases z with
      | cons a _=>obtain ⟨p,e,_⟩:=a;cases e
section
variable {P:Program} {w:World} {K:PySem.W.Frag} {mg:Str→Option Value} {base:Heap} {a:Adr}
def spNames (C EC:Addr):Sp:=fun vs H Q E=>∃ r ts i,vs=[.ref r]∧RdOk C H r ts i∧ZEnd C EC r ts H Q E NsAt (namesP ts i)
theorem ok_take_names (T:Txt K mg a):FnOk P w K mg base (CX1 P w) 4 a.f_take_names a.d_take_names ["reader"] (spNames a.c_Reader a.c_BadText):=by
  refine T.F_take_names.ok1 sc_take_names (fun vs H Q E h=>?_) (fun cdv A outer s H vs Q E hr h=>?_)
  · obtain ⟨_,_,_,rfl,_⟩:=h;rfl
  obtain ⟨r,ts,i,rfl,hO,qe,q⟩:=h
  have hR:=hO.rd
  have hT:=hO.ok
  have hi:=hO.lt
  have hz:=hO.sz
  obtain ⟨dx,l,xs,h1,h2,h3⟩:=hR.ob
  refine ⟨_,(sC_ (zS_ (i:=1) sc_take_names.nd rfl (by first | exact Or.inl rfl | exact Or.inr rfl) (pe_lst (pC_ (pe_meth (pv 0) T.cl_Reader T.me_Reader__take_kind (ok_Reader__take_kind T) (hr.mono (by omega)) T.b_Reader__take_kind .nil pass1 (pC_ (pe_glob rfl T.g_NAME.1 T.g_NAME.2) pa_nil)) pa_nil))) (sC_ (ps_while PassesOwn.leaving (pt_truth (pe_meth (pv 0) T.cl_Reader T.me_Reader__sees (ok_Reader__sees T) (hr.mono (by omega)) T.b_Reader__sees .nil pass0 (pC_ (pe_glob rfl T.g_NAME.1 T.g_NAME.2) pa_nil)) (fun _=>rfl)) (sO_ (ps_expr (pe_bm PySem.F.plainAttrs_list PySem.F.slot_list_append PySem.F.type_list_append mt_append (pv 1) (pC_ (pe_meth0 (pv 0) T.cl_Reader T.me_Reader__take (ok_Reader__take T) (hr.mono (by omega)) T.b_Reader__take .nil pass0) pa_nil))))) (sO_ (ps_ret (pT_ call_tuple_of rfl T.n_tuple (by decide +kernel) (pC_ (pv 1) pa_nil)))))),?_⟩
  refine ⟨_,rfl,r,dx,_,rfl,h1,rf_no _ _ (by decide +kernel) (by decide +kernel),r,ts,i,_,_,rfl,hR,tk_at hi,fun hk H1 dx1 g1 hdx=>?_,fun hk H1 hR1 g1=>⟨small (n:=1) (by decide),fun l2 hl2=>?_⟩⟩
  · exact qe _ (by unfold namesP;rw [if_neg hk]) H1 dx1 (Same.toR g1) hdx
  have g2:=sN_ hl2 (.lst [(tkA ts i).v])
  have hs:=hT.str hi (by rw [hk];exact mark_no.2.2.2.1)
  have hi1:=hT.more hi (by rw [hk];exact mark_no.2.2.1)
  have hf:namesP ts i=.inr (namesL ts ts.length (i+1) [sgn (tkA ts i).v]):=by unfold namesP;rw [if_pos hk]
  unfold gName
  dsimp only
  unfold tSeq
  refine while_by (fun σ H'=>∃ j m ns,σ=[some (.ref r),some (.ref l2)]∧SameR r H H'∧RdAt a.c_Reader H' r ts j∧H' l2=some (.lst (ns.map V.str))∧j < ts.length∧ts.length≤m+j∧ns.length≤j∧namesP ts i=.inr (namesL ts m j ns))
    (fun _ H'=>match H' r with | some (.ins _ _ fs)=>(match fs.lookup ("passed":Str) with | some (.int j)=>ts.length - j.toNat | _=>0) | _=>0) ⟨i+1,ts.length,[sgn (tkA ts i).v],rfl,g1.trans (Same.toR g2),hR1.same g2,by rw [hs];exact uS_,hi1,by omega,by simp,hf⟩ (fun σ H' hP=>?_) (fun σ H' Q Q' hQ h=>?_)
  · obtain ⟨j,m,ns,rfl,g,hRj,hlj,hjl,hm,hns,hZ⟩:=hP
    obtain ⟨dx,l,xs,h1,h2,h3⟩:=hRj.ob
    refine ⟨_,rfl,r,dx,_,rfl,h1,rf_no _ _ (by decide +kernel) (by decide +kernel),r,ts,j,_,_,rfl,hRj,tk_at hjl,_,rfl,?_⟩
    obtain ⟨m,rfl⟩:∃ m',m=m'+1:=⟨m - 1,by omega⟩
    by_cases k:(tkA ts j).k="name"
    · rw [show decide (V.str (tkA ts j).k=V.str "name")=true from decide_eq_true (by rw [k])]
      have hsj:=hT.str hjl (by rw [k];exact mark_no.2.2.2.1)
      have hj1:=hT.more hjl (by rw [k];exact mark_no.2.2.1)
      have hrl:l2≠r:=fun z=>by rw [z,h1] at hlj;cases hlj
      refine iteT ⟨_,rfl,.inl ⟨rfl,_,SqL.of hlj⟩,_,rfl,r,dx,_,rfl,h1,rf_no _ _ (by decide +kernel) (by decide +kernel),r,ts,j,_,rfl,hRj,tk_at hjl,fun H2 hR2 g3=>?_⟩
      have hl3:=g3 _ _ hrl hlj
      refine ⟨l2,ns.map V.str,_,rfl,rfl,hl3,(by rw [sizeLine_eq,List.length_map];omega),⟨j+1,m,ns++[sgn (tkA ts j).v],rfl,?_,?_,?_,hj1,by omega,by simp;omega,?_⟩,?_⟩
      · intro b o hb e
        have hbl:b≠l2:=fun z=>by have:=g1 _ _ hb e;rw [z,hl2] at this;cases this
        rw [upd_ne hbl]
        exact g3 _ _ hb (g _ _ hb e)
      · exact hR2.updL hl3 (strs_no (by omega))
      · rw [hsj,uS_,List.map_append];rfl
      · rw [hZ,namesL,if_pos k]
      · obtain ⟨dx4,l4,xs4,h14,_⟩:=hR2.ob
        rw [upd_ne (fun z=>hrl z.symm),h14,h1]
        dsimp only
        rw [rf_passed,rf_passed]
        show ts.length - ((j+1:Nat):Int).toNat < ts.length - ((j:Nat):Int).toNat
        omega
    · rw [show decide (V.str (tkA ts j).k=V.str "name")=false from decide_eq_false (fun z=>k (by injection z))]
      have hz':namesP ts i=.inr (ns,j):=by rw [hZ,namesL,if_neg k]
      refine iteF ⟨_,rfl,l2,_,rfl,.inl ⟨SqL.of hlj,fun t ht=>?_⟩⟩
      have g4:=sN_ ht (.tup (ns.map V.str))
      exact q _ _ hz' _ _ (g.trans (Same.toR g4)) (hRj.same g4) ⟨t,rfl,uS_⟩
  · obtain ⟨v0,e0,r1,dx0,fs0,e1,e2,e3,r2,ts1,i2,t1,kd1,e4,e5,e6,b,e7,h⟩:=h
    exact ⟨v0,e0,r1,dx0,fs0,e1,e2,e3,r2,ts1,i2,t1,kd1,e4,e5,e6,b,e7,hQ _ _ h⟩
end
end My
namespace My
open PySem L2
inductive Sg
  | frm (ns:List Str)
  | nms (k:Str) (ns:List Str)
  | srt (x:Str) (b:Bool)
  | num (k:Str) (i:Int)
  | ses (i:Int) (ns:List Str)
  | joi (s x:Str) (i:Int)
  | fld (ths:List (Str × Str × Option Str)) (ns:List Str)
def optV:Option Str→V
  | none=>.non
  | some x=>.str x
def ThAt (H:Hp) (v:V) (t:Str × Str × Option Str):Prop:=∃ p,v=.ref p∧H p=some (.tup [.str t.1,.str t.2.1,optV t.2.2])
def SgAt (H:Hp):V→Sg→Prop
  | v,.frm ns=>∃ p u,v=.ref p∧H p=some (.tup [.str "from",u])∧NsAt H u ns
  | v,.nms k ns=>∃ p u,v=.ref p∧H p=some (.tup [.str k,u])∧NsAt H u ns
  | v,.srt x b=>∃ p,v=.ref p∧H p=some (.tup [.str "sort",.str x,.bl b])
  | v,.num k i=>∃ p,v=.ref p∧H p=some (.tup [.str k,.int i])
  | v,.ses i ns=>∃ p u,v=.ref p∧H p=some (.tup [.str "sessions",.int i,u])∧NsAt H u ns
  | v,.joi s x i=>∃ p,v=.ref p∧H p=some (.tup [.str "join",.str s,.str x,.int i])
  | v,.fld ths ns=>∃ p u1 u2 q xs,v=.ref p∧H p=some (.tup [.str "fold",u1,u2])∧u1=.ref q∧H q=some (.tup xs)∧Paired (ThAt H) xs ths∧NsAt H u2 ns
def IntAt (_:Hp) (v:V) (n:Int):Prop:=v=.int n
def bindR {α β:Type} (z:QR α) (f:α→Nat→QR β):QR β:=match z with
  | .inl p=>.inl p
  | .inr (a,j)=>f a j
theorem bindR_l {α β:Type} {z:QR α} {f:α→Nat→QR β} {p:Nat} (h:z=.inl p):bindR z f=.inl p:=by rw [h];rfl
theorem bindR_r {α β:Type} {z:QR α} {f:α→Nat→QR β} {a:α} {j:Nat} (h:z=.inr (a,j)):bindR z f=f a j:=by rw [h];rfl
def listP (k:Str) (ts:List Tok) (i:Nat):QR Sg:=bindR (namesP ts i) fun ns j=>.inr (.nms k ns,j)
def cntP (k:Str) (least:Int) (ts:List Tok) (i:Nat):QR Sg:=bindR (numP least ts i) fun n j=>.inr (.num k n,j)
def sesP (ts:List Tok) (i:Nat):QR Sg:=bindR (numP 0 ts i) fun n j=>bindR (byP ts j) fun ns j2=>.inr (.ses n ns,j2)
theorem namesL_up {ts:List Tok} (h:TsOk ts):∀ m i ns ns' j,i < ts.length→namesL ts m i ns=(ns',j)→i≤j∧j < ts.length
  | 0,i,ns,ns',j,hi,e=>by cases e;exact ⟨Nat.le_refl _,hi⟩
  | m + 1,i,ns,ns',j,hi,e=>by
    rw [namesL] at e
    split at e
    · rename_i k
      have:=namesL_up h m _ _ _ _ (h.more hi (by rw [k];exact mark_no.2.2.1)) e
      exact ⟨by omega,this.2⟩
    · cases e;exact ⟨Nat.le_refl _,hi⟩
theorem namesP_up {ts:List Tok} (h:TsOk ts) {i j:Nat} {ns:List Str} (hi:i < ts.length) (e:namesP ts i=.inr (ns,j)):i < j∧j < ts.length:=by
  unfold namesP at e
  split at e
  · rename_i k
    have:=namesL_up h _ _ _ _ _ (h.more hi (by rw [k];exact mark_no.2.2.1)) (Sum.inr.inj e)
    exact ⟨by omega,this.2⟩
  · cases e
theorem numP_up {ts:List Tok} (h:TsOk ts) {i j:Nat} {l n:Int} (hi:i < ts.length) (e:numP l ts i=.inr (n,j)):i < j∧j < ts.length:=by
  unfold numP at e
  split at e
  · rename_i k
    have hm:=h.more hi (by rw [k];exact mark_no.2.2.2.2.1)
    split at e
    · split at e
      · cases e
      · cases e;exact ⟨by omega,hm⟩
    · cases e
  · cases e
theorem byP_up {ts:List Tok} (h:TsOk ts) {i j:Nat} {ns:List Str} (hi:i < ts.length) (e:byP ts i=.inr (ns,j)):i≤j∧j < ts.length:=by
  unfold byP at e
  split at e
  · rename_i k
    have:=namesP_up h (h.more hi (by rw [one1_k k];exact mark_no.1)) e
    exact ⟨by omega,this.2⟩
  · cases e;exact ⟨Nat.le_refl _,hi⟩
section
variable {P:Program} {w:World} {K:PySem.W.Frag} {mg:Str→Option Value} {base:Heap} {a:Adr}
def spNumR (C EC:Addr):Sp:=fun vs H Q E=>∃ r ts i n,vs=[.ref r,.int n]∧RdOk C H r ts i∧ZEnd C EC r ts H Q E IntAt (numP n ts i)
theorem ok_take_number (T:Txt K mg a):FnOk P w K mg base (CX1 P w) 4 a.f_take_number a.d_take_number ["reader","least"] (spNumR a.c_Reader a.c_BadText):=by
  refine T.F_take_number.ok1 sc_take_number (fun vs H Q E h=>?_) (fun cdv A outer s H vs Q E hr h=>?_)
  · obtain ⟨_,_,_,_,rfl,_⟩:=h;rfl
  obtain ⟨r,ts,i,n,rfl,hO,qe,q⟩:=h
  have hR:=hO.rd
  have hi:=hO.lt
  obtain ⟨dx,l,xs,h1,h2,h3⟩:=hR.ob
  refine ⟨_,(sC_ (zS_ (i:=2) sc_take_number.nd rfl (by first | exact Or.inl rfl | exact Or.inr rfl) (pe_meth0 (pv 0) T.cl_Reader T.me_Reader__place (ok_Reader__place T) (hr.mono (by omega)) T.b_Reader__place .nil pass0)) (sC_ (zS_ (i:=3) sc_take_number.nd rfl (by first | exact Or.inl rfl | exact Or.inr rfl) (pe_meth (pv 0) T.cl_Reader T.me_Reader__take_kind (ok_Reader__take_kind T) (hr.mono (by omega)) T.b_Reader__take_kind .nil pass1 (pC_ (pe_glob rfl T.g_NUMBER.1 T.g_NUMBER.2) pa_nil))) (sC_ (ps_if (tR_ op_lt (pv 3) (pv 1) (nM_ _)) (sO_ (ps_raise T.x_BadText.made.choose_spec (ok_BadText__init T) T.x_BadText.tk (hr.mono (by decide)) T.x_BadText.bd rfl rfl T.m_BadText (pv 2))) pss_nil) (sO_ (ps_ret (pv 3)))))),?_⟩
  refine ⟨_,rfl,r,dx,_,rfl,h1,rf_no _ _ (by decide +kernel) (by decide +kernel),r,ts,i,_,rfl,hR,tk_at hi,?_⟩
  refine ⟨_,rfl,r,dx,_,rfl,h1,rf_no _ _ (by decide +kernel) (by decide +kernel),r,ts,i,_,_,rfl,hR,tk_at hi,fun hk H1 dx1 g1 hdx=>?_,fun hk H1 hR1 g1=>?_⟩
  · exact qe _ (by unfold numP;rw [if_neg hk]) H1 dx1 (Same.toR g1) hdx
  obtain ⟨m,hm⟩:=hO.nu _ (List.mem_of_getElem? (tk_at hi)) hk
  have hf:numP n ts i=if m < n then .inl (tkA ts i).p else .inr (m,i+1):=by unfold numP;rw [if_pos hk,hm]
  rw [hm]
  refine ⟨_,rfl,_,rfl,_,_,rfl,rfl,_,rfl,ite2 (fun k=>?_) (fun k=>?_)⟩
  · have k':m < n:=of_decide_eq_true k
    exact ⟨_,rfl,_,rfl,fun t2 dx2 ht2 hdx hne=>qe _ (by rw [hf,if_pos k']) _ dx2 (g1.trans (Same.toR (bad_same ht2 hdx hne))) uS_⟩
  · have k':¬ m < n:=fun z=>k (decide_eq_true z)
    exact ⟨_,rfl,q m _ (by rw [hf,if_neg k']) _ _ g1 hR1 rfl⟩
def spByR (C EC:Addr):Sp:=fun vs H Q E=>∃ r ts i,vs=[.ref r]∧RdOk C H r ts i∧ZEnd C EC r ts H Q E NsAt (byP ts i)
theorem ok_take_by (T:Txt K mg a):FnOk P w K mg base (CX1 P w) 5 a.f_take_by a.d_take_by ["reader"] (spByR a.c_Reader a.c_BadText):=by
  refine T.F_take_by.ok1 sc_take_by (fun vs H Q E h=>?_) (fun cdv A outer s H vs Q E hr h=>?_)
  · obtain ⟨_,_,_,rfl,_⟩:=h;rfl
  obtain ⟨r,ts,i,rfl,hO,qe,q⟩:=h
  have hR:=hO.rd
  have hT:=hO.ok
  have hi:=hO.lt
  obtain ⟨dx,l,xs,h1,h2,h3⟩:=hR.ob
  refine ⟨_,(sC_ (ps_if (pt_not (pt_truth (pe_meth (pv 0) T.cl_Reader T.me_Reader__sees_one (ok_Reader__sees_one T) (hr.mono (by omega)) T.b_Reader__sees_one .nil pass0 (pC_ (pe_glob rfl T.g_MARK.1 T.g_MARK.2) (pC_ (pe_tup (pC_ pS_ pa_nil)) pa_nil))) (fun _=>rfl))) (sO_ (ps_ret (pe_tup pa_nil))) pss_nil) (sC_ (ps_expr (pe_meth0 (pv 0) T.cl_Reader T.me_Reader__take (ok_Reader__take T) (hr.mono (by omega)) T.b_Reader__take .nil pass0)) (sO_ (ps_ret (pL_ (ok_take_names T) (hr.mono (by omega)) rfl T.m_take_names T.F_take_names.kp T.b_take_names .nil pass1 (pC_ (pv 0) pa_nil)))))),?_⟩
  refine ⟨_,rfl,r,dx,_,rfl,h1,rf_no _ _ (by decide +kernel) (by decide +kernel),small (n:=1) (by decide),fun u hu=>?_⟩
  have g0:=sN_ hu (.tup [.str "by"])
  have hR0:=hR.same g0
  have h10:=g0 _ _ h1
  refine ⟨r,ts,i,_,_,u,["by"],rfl,hR0,tk_at hi,hT.flat hi,.inr (SqT.of uS_),_,rfl,?_⟩
  generalize upd H u (.tup [.str "by"])=H0 at g0 hR0 h10 ⊢
  show if (!(one1 (tkA ts i) "mark" ["by"]))=true then _ else _
  cases e:one1 (tkA ts i) "mark" ["by"] with
  | false =>
    refine iteT ⟨small (n:=0) (by decide),fun t ht=>?_⟩
    have g4:=sN_ ht (.tup [])
    exact q [] i (by unfold byP;rw [if_neg (by rw [e];decide)]) _ _ (Same.toR (g0.trans g4)) (hR0.same g4) ⟨t,rfl,uS_⟩
  | true =>
    have hj:=hT.more hi (by rw [one1_k e];exact mark_no.1)
    have hz:byP ts i=namesP ts (i+1):=by unfold byP;rw [if_pos e]
    refine iteF ⟨_,rfl,r,dx,_,rfl,h10,rf_no _ _ (by decide +kernel) (by decide +kernel),r,ts,i,_,rfl,hR0,tk_at hi,fun H2 hR2 g2=>?_⟩
    exact ⟨_,rfl,r,ts,i+1,rfl,hO.to hR2 hj,fun p hp H3 dx3 g3 hdx=>qe p (hz.trans hp) H3 dx3 ((Same.toR g0).trans (g2.trans g3)) hdx,fun ns j hp v H3 g3 hR3 hv=>q ns j (hz.trans hp) v H3 ((Same.toR g0).trans (g2.trans g3)) hR3 hv⟩
def spStage (C EC:Addr) (wd:Str→Prop) (f:Str→List Tok→Nat→QR Sg):Sp:=fun vs H Q E=>∃ k r ts i,vs=[.str k,.ref r]∧wd k∧RdOk C H r ts i∧ZEnd C EC r ts H Q E SgAt (f k ts i)
theorem ok_take_list (T:Txt K mg a):FnOk P w K mg base (CX1 P w) 5 a.f_take_list a.d_take_list ["word","reader"] (spStage a.c_Reader a.c_BadText (fun _=>True) listP):=by
  refine T.F_take_list.ok1 sc_take_list (fun vs H Q E h=>?_) (fun cdv A outer s H vs Q E hr h=>?_)
  · obtain ⟨_,_,_,_,rfl,_⟩:=h;rfl
  obtain ⟨k,r,ts,i,rfl,_,hO,qe,q⟩:=h
  refine ⟨_,(sO_ (ps_ret (pe_tup (pC_ (pv 0) (pC_ (pL_ (ok_take_names T) (hr.mono (by omega)) rfl T.m_take_names T.F_take_names.kp T.b_take_names .nil pass1 (pC_ (pv 1) pa_nil)) pa_nil))))),?_⟩
  refine ⟨_,rfl,_,rfl,r,ts,i,rfl,hO,fun p hp H3 dx3 g3 hdx=>qe p (bindR_l hp) H3 dx3 g3 hdx,fun ns j hp v H3 g3 hR3 hv=>⟨small (n:=2) (by decide),fun t ht=>?_⟩⟩
  have g4:=sN_ ht (.tup [.str k,v])
  exact q _ _ (bindR_r hp) _ _ (g3.trans (Same.toR g4)) (hR3.same g4) ⟨t,v,rfl,uS_,hv.keep fun b xs e=>g4 _ _ e⟩
theorem ok_take_first (T:Txt K mg a):FnOk P w K mg base (CX1 P w) 5 a.f_take_first a.d_take_first ["word","reader"] (spStage a.c_Reader a.c_BadText (fun _=>True) (fun k=>cntP k 0)):=by
  refine T.F_take_first.ok1 sc_take_first (fun vs H Q E h=>?_) (fun cdv A outer s H vs Q E hr h=>?_)
  · obtain ⟨_,_,_,_,rfl,_⟩:=h;rfl
  obtain ⟨k,r,ts,i,rfl,_,hO,qe,q⟩:=h
  refine ⟨_,(sO_ (ps_ret (pe_tup (pC_ (pv 0) (pC_ (pL_ (ok_take_number T) (hr.mono (by omega)) rfl T.m_take_number T.F_take_number.kp T.b_take_number .nil pass1 (pC_ (pv 1) (pC_ pI_ pa_nil))) pa_nil))))),?_⟩
  refine ⟨_,rfl,_,rfl,r,ts,i,_,rfl,hO,fun p hp H3 dx3 g3 hdx=>qe p (bindR_l hp) H3 dx3 g3 hdx,fun n j hp v H3 g3 hR3 hv=>⟨small (n:=2) (by decide),fun t ht=>?_⟩⟩
  have g4:=sN_ ht (.tup [.str k,v])
  exact q _ _ (bindR_r hp) _ _ (g3.trans (Same.toR g4)) (hR3.same g4) ⟨t,rfl,by rw [show v=.int n from hv];exact uS_⟩
theorem ok_take_every (T:Txt K mg a):FnOk P w K mg base (CX1 P w) 5 a.f_take_every a.d_take_every ["word","reader"] (spStage a.c_Reader a.c_BadText (fun _=>True) (fun k=>cntP k 1)):=by
  refine T.F_take_every.ok1 sc_take_every (fun vs H Q E h=>?_) (fun cdv A outer s H vs Q E hr h=>?_)
  · obtain ⟨_,_,_,_,rfl,_⟩:=h;rfl
  obtain ⟨k,r,ts,i,rfl,_,hO,qe,q⟩:=h
  refine ⟨_,(sO_ (ps_ret (pe_tup (pC_ (pv 0) (pC_ (pL_ (ok_take_number T) (hr.mono (by omega)) rfl T.m_take_number T.F_take_number.kp T.b_take_number .nil pass1 (pC_ (pv 1) (pC_ pI_ pa_nil))) pa_nil))))),?_⟩
  refine ⟨_,rfl,_,rfl,r,ts,i,_,rfl,hO,fun p hp H3 dx3 g3 hdx=>qe p (bindR_l hp) H3 dx3 g3 hdx,fun n j hp v H3 g3 hR3 hv=>⟨small (n:=2) (by decide),fun t ht=>?_⟩⟩
  have g4:=sN_ ht (.tup [.str k,v])
  exact q _ _ (bindR_r hp) _ _ (g3.trans (Same.toR g4)) (hR3.same g4) ⟨t,rfl,by rw [show v=.int n from hv];exact uS_⟩
theorem ok_take_sessions (T:Txt K mg a):FnOk P w K mg base (CX1 P w) 6 a.f_take_sessions a.d_take_sessions ["word","reader"] (spStage a.c_Reader a.c_BadText (fun k=>k="sessions") (fun _=>sesP)):=by
  refine T.F_take_sessions.ok1 sc_take_sessions (fun vs H Q E h=>?_) (fun cdv A outer s H vs Q E hr h=>?_)
  · obtain ⟨_,_,_,_,rfl,_⟩:=h;rfl
  obtain ⟨k,r,ts,i,rfl,rfl,hO,qe,q⟩:=h
  refine ⟨_,(sC_ (zS_ (i:=2) sc_take_sessions.nd rfl (by first | exact Or.inl rfl | exact Or.inr rfl) (pL_ (ok_take_number T) (hr.mono (by omega)) rfl T.m_take_number T.F_take_number.kp T.b_take_number .nil pass1 (pC_ (pv 1) (pC_ pI_ pa_nil)))) (sO_ (ps_ret (pe_tup (pC_ (pv 0) (pC_ (pv 2) (pC_ (pL_ (ok_take_by T) (hr.mono (by omega)) rfl T.m_take_by T.F_take_by.kp T.b_take_by .nil pass1 (pC_ (pv 1) pa_nil)) pa_nil))))))),?_⟩
  refine ⟨_,rfl,r,ts,i,_,rfl,hO,fun p hp H3 dx3 g3 hdx=>qe p (bindR_l hp) H3 dx3 g3 hdx,fun n j hp v H3 g3 hR3 hv=>?_⟩
  have hj:=(numP_up hO.ok hO.lt hp).2
  refine ⟨_,rfl,_,rfl,_,rfl,r,ts,j,rfl,hO.to hR3 hj,fun p hp2 H4 dx4 g4 hdx=>qe p ((bindR_r hp).trans (bindR_l hp2)) H4 dx4 (g3.trans g4) hdx,fun ns j2 hp2 v2 H4 g4 hR4 hv2=>⟨small (n:=3) (by decide),fun t ht=>?_⟩⟩
  have g5:=sN_ ht (.tup [.str "sessions",v,v2])
  exact q _ _ ((bindR_r hp).trans (bindR_r hp2)) _ _ (g3.trans (g4.trans (Same.toR g5))) (hR4.same g5) ⟨t,v2,rfl,by rw [show v=.int n from hv];exact uS_,hv2.keep fun b xs e=>g5 _ _ e⟩
end
end My
namespace My
open PySem L2
abbrev how5:List Str:=["count","sum","least","most","unlike"]
abbrev how4:List Str:=["sum","least","most","unlike"]
def fromP (ts:List Tok) (i:Nat):QR Sg:=if one1 (tkA ts i) "mark" ["all"]=true then .inr (.frm [],i+1) else if one1 (tkA ts i) "mark" ["@"]=true then bindR (nameP ts (i+1)) fun x j=>.inr (.frm [sgn (tkA ts i).v,x],j) else bindR (namesP ts i) fun ns j=>.inr (.frm ns,j)
def sortP (ts:List Tok) (i:Nat):QR Sg:=bindR (nameP ts i) fun x j=>bindR (oneP "mark" ["up","down"] ts j) fun y j2=>.inr (.srt x (decide (V.str y=V.str "down")),j2)
def joinP (ts:List Tok) (i:Nat):QR Sg:=bindR (nameP ts i) fun s j=>bindR (oneP "mark" ["by"] ts j) fun _ j2=>bindR (nameP ts j2) fun x j3=>bindR (oneP "mark" ["within"] ts j3) fun _ j4=>bindR (numP 0 ts j4) fun n j5=>.inr (.joi s x n,j5)
def thingP (ts:List Tok) (i:Nat):QR (Str × Str × Option Str):=bindR (nameP ts i) fun x j=>bindR (oneP "mark" ["="] ts j) fun _ j2=>bindR (oneP "mark" how5 ts j2) fun y j3=>if inV (.str y) (how4.map V.str)=true then bindR (nameP ts j3) fun f j4=>.inr ((x,y,some f),j4) else .inr ((x,y,none),j3)
section
variable {P:Program} {w:World} {K:PySem.W.Frag} {mg:Str→Option Value} {base:Heap} {a:Adr}
theorem nameP_r {ts:List Tok} {i:Nat} (hk:(tkA ts i).k="name"):nameP ts i=.inr (sgn (tkA ts i).v,i+1):=by unfold nameP;rw [if_pos hk]
theorem nameP_l {ts:List Tok} {i:Nat} (hk:(tkA ts i).k≠"name"):nameP ts i=.inl (tkA ts i).p:=by unfold nameP;rw [if_neg hk]
theorem oneP_r {kd:Str} {ss:List Str} {ts:List Tok} {i:Nat} (hk:one1 (tkA ts i) kd ss=true):oneP kd ss ts i=.inr (sgn (tkA ts i).v,i+1):=by unfold oneP;rw [if_pos hk]
theorem oneP_l {kd:Str} {ss:List Str} {ts:List Tok} {i:Nat} (hk:one1 (tkA ts i) kd ss=false):oneP kd ss ts i=.inl (tkA ts i).p:=by unfold oneP;rw [if_neg (by rw [hk];decide)]
theorem ok_take_from (T:Txt K mg a):FnOk P w K mg base (CX1 P w) 5 a.f_take_from a.d_take_from ["word","reader"] (spStage a.c_Reader a.c_BadText (fun k=>k="from") (fun _=>fromP)):=by
  refine T.F_take_from.ok1 sc_take_from (fun vs H Q E h=>?_) (fun cdv A outer s H vs Q E hr h=>?_)
  · obtain ⟨_,_,_,_,rfl,_⟩:=h;rfl
  obtain ⟨k,r,ts,i,rfl,rfl,hO,qe,q⟩:=h
  have hR:=hO.rd
  have hT:=hO.ok
  have hi:=hO.lt
  obtain ⟨dx,l,xs,h1,h2,h3⟩:=hR.ob
  refine ⟨_,(sC_ (ps_if (pt_truth (pe_meth (pv 1) T.cl_Reader T.me_Reader__sees_one (ok_Reader__sees_one T) (hr.mono (by omega)) T.b_Reader__sees_one .nil pass0 (pC_ (pe_glob rfl T.g_MARK.1 T.g_MARK.2) (pC_ (pe_tup (pC_ pS_ pa_nil)) pa_nil))) (fun _=>rfl)) (sC_ (ps_expr (pe_meth0 (pv 1) T.cl_Reader T.me_Reader__take (ok_Reader__take T) (hr.mono (by omega)) T.b_Reader__take .nil pass0)) (sO_ (ps_ret (pe_tup (pC_ (pv 0) (pC_ (pe_tup pa_nil) pa_nil)))))) pss_nil) (sC_ (ps_if (pt_truth (pe_meth (pv 1) T.cl_Reader T.me_Reader__sees_one (ok_Reader__sees_one T) (hr.mono (by omega)) T.b_Reader__sees_one .nil pass0 (pC_ (pe_glob rfl T.g_MARK.1 T.g_MARK.2) (pC_ (pe_tup (pC_ (pe_glob rfl T.g_KEPT.1 T.g_KEPT.2) pa_nil)) pa_nil))) (fun _=>rfl)) (sO_ (ps_ret (pe_tup (pC_ (pv 0) (pC_ (pe_tup (pC_ (pe_meth0 (pv 1) T.cl_Reader T.me_Reader__take (ok_Reader__take T) (hr.mono (by omega)) T.b_Reader__take .nil pass0) (pC_ (pe_meth (pv 1) T.cl_Reader T.me_Reader__take_kind (ok_Reader__take_kind T) (hr.mono (by omega)) T.b_Reader__take_kind .nil pass1 (pC_ (pe_glob rfl T.g_NAME.1 T.g_NAME.2) pa_nil)) pa_nil))) pa_nil))))) pss_nil) (sO_ (ps_ret (pe_tup (pC_ (pv 0) (pC_ (pL_ (ok_take_names T) (hr.mono (by omega)) rfl T.m_take_names T.F_take_names.kp T.b_take_names .nil pass1 (pC_ (pv 1) pa_nil)) pa_nil))))))),?_⟩
  refine ⟨_,rfl,r,dx,_,rfl,h1,rf_no _ _ (by decide +kernel) (by decide +kernel),small (n:=1) (by decide),fun u hu=>?_⟩
  have g0:=sN_ hu (.tup [.str "all"])
  have hR0:=hR.same g0
  have h10:=g0 _ _ h1
  refine ⟨r,ts,i,_,_,u,["all"],rfl,hR0,tk_at hi,hT.flat hi,.inr (SqT.of uS_),_,rfl,?_⟩
  generalize upd H u (.tup [.str "all"])=H0 at g0 hR0 h10 ⊢
  show if (one1 (tkA ts i) "mark" ["all"])=true then _ else _
  cases e:one1 (tkA ts i) "mark" ["all"] with
  | true =>
    refine iteT ⟨_,rfl,r,dx,_,rfl,h10,rf_no _ _ (by decide +kernel) (by decide +kernel),r,ts,i,_,rfl,hR0,tk_at hi,fun H2 hR2 g2=>?_⟩
    refine ⟨_,rfl,small (n:=0) (by decide),fun u2 hu2=>⟨small (n:=2) (by decide),fun t ht=>?_⟩⟩
    have g3:=sN_ hu2 (.tup [])
    have g4:=sN_ ht (.tup [.str "from",.ref u2])
    exact q (.frm []) (i+1) (by show fromP ts i=_;unfold fromP;rw [if_pos e]) _ _ ((Same.toR g0).trans (g2.trans (Same.toR (g3.trans g4)))) ((hR2.same g3).same g4) ⟨t,.ref u2,rfl,uS_,u2,rfl,g4 _ _ uS_⟩
  | false =>
    refine iteF ⟨_,rfl,r,dx,_,rfl,h10,rf_no _ _ (by decide +kernel) (by decide +kernel),small (n:=1) (by decide),fun u2 hu2=>?_⟩
    have g1:=sN_ hu2 (.tup [.str "@"])
    have hR1:=hR0.same g1
    have h11:=g1 _ _ h10
    refine ⟨r,ts,i,_,_,u2,["@"],rfl,hR1,tk_at hi,hT.flat hi,.inr (SqT.of uS_),_,rfl,?_⟩
    generalize upd H0 u2 (.tup [.str "@"])=H1 at g1 hR1 h11 ⊢
    show if (one1 (tkA ts i) "mark" ["@"])=true then _ else _
    have gg:=(Same.toR (r:=r) g0).trans (Same.toR g1)
    cases e2:one1 (tkA ts i) "mark" ["@"] with
    | true =>
      have hj:=hT.more hi (by rw [one1_k e2];exact mark_no.1)
      have hs:=hT.str hi (by rw [one1_k e2];exact mark_no.2.1)
      have hz:fromP ts i=bindR (nameP ts (i+1)) fun x j=>.inr (.frm [sgn (tkA ts i).v,x],j):=by unfold fromP;rw [if_neg (by rw [e];decide),if_pos e2]
      refine iteT ⟨_,rfl,_,rfl,r,dx,_,rfl,h11,rf_no _ _ (by decide +kernel) (by decide +kernel),r,ts,i,_,rfl,hR1,tk_at hi,fun H2 hR2 g2=>?_⟩
      obtain ⟨dx2,l2,xs2,h12,_⟩:=hR2.ob
      refine ⟨_,rfl,r,dx2,_,rfl,h12,rf_no _ _ (by decide +kernel) (by decide +kernel),r,ts,i+1,_,_,rfl,hR2,tk_at hj,fun hk H3 dx3 g3 hdx=>?_,fun hk H3 hR3 g3=>⟨small (n:=2) (by decide),fun u3 hu3=>⟨small (n:=2) (by decide),fun t ht=>?_⟩⟩⟩
      · exact qe _ (hz.trans (bindR_l (nameP_l hk))) H3 dx3 (gg.trans (g2.trans (Same.toR g3))) hdx
      · have hs2:=hT.str hj (by rw [hk];exact mark_no.2.2.2.1)
        have g4:=sN_ hu3 (.tup [(tkA ts i).v,(tkA ts (i+1)).v])
        have g5:=sN_ ht (.tup [.str "from",.ref u3])
        exact q _ _ (hz.trans (bindR_r (nameP_r hk))) _ _ (gg.trans (g2.trans (g3.trans (Same.toR (g4.trans g5))))) ((hR3.same g4).same g5) ⟨t,.ref u3,rfl,uS_,u3,rfl,g5 _ _ (by show upd H3 u3 _ u3=some (.tup [V.str (sgn (tkA ts i).v),V.str (sgn (tkA ts (i+1)).v)]);rw [← hs,← hs2];exact uS_)⟩
    | false =>
      have hz:fromP ts i=bindR (namesP ts i) fun ns j=>.inr (.frm ns,j):=by unfold fromP;rw [if_neg (by rw [e];decide),if_neg (by rw [e2];decide)]
      refine iteF ⟨_,rfl,_,rfl,r,ts,i,rfl,hO.to hR1 hi,fun p hp H3 dx3 g3 hdx=>qe p (hz.trans (bindR_l hp)) H3 dx3 (gg.trans g3) hdx,fun ns j hp v H3 g3 hR3 hv=>⟨small (n:=2) (by decide),fun t ht=>?_⟩⟩
      have g4:=sN_ ht (.tup [.str "from",v])
      exact q _ _ (hz.trans (bindR_r hp)) _ _ (gg.trans (g3.trans (Same.toR g4))) (hR3.same g4) ⟨t,v,rfl,uS_,hv.keep fun b xs e=>g4 _ _ e⟩
theorem ok_take_sort (T:Txt K mg a):FnOk P w K mg base (CX1 P w) 5 a.f_take_sort a.d_take_sort ["word","reader"] (spStage a.c_Reader a.c_BadText (fun k=>k="sort") (fun _=>sortP)):=by
  refine T.F_take_sort.ok1 sc_take_sort (fun vs H Q E h=>?_) (fun cdv A outer s H vs Q E hr h=>?_)
  · obtain ⟨_,_,_,_,rfl,_⟩:=h;rfl
  obtain ⟨k,r,ts,i,rfl,rfl,hO,qe,q⟩:=h
  have hR:=hO.rd
  have hT:=hO.ok
  have hi:=hO.lt
  obtain ⟨dx,l,xs,h1,h2,h3⟩:=hR.ob
  refine ⟨_,(sC_ (zS_ (i:=2) sc_take_sort.nd rfl (by first | exact Or.inl rfl | exact Or.inr rfl) (pe_meth (pv 1) T.cl_Reader T.me_Reader__take_kind (ok_Reader__take_kind T) (hr.mono (by omega)) T.b_Reader__take_kind .nil pass1 (pC_ (pe_glob rfl T.g_NAME.1 T.g_NAME.2) pa_nil))) (sO_ (ps_ret (pe_tup (pC_ (pv 0) (pC_ (pv 2) (pC_ (pR_ op_eq (pe_meth (pv 1) T.cl_Reader T.me_Reader__take_one (ok_Reader__take_one T) (hr.mono (by omega)) T.b_Reader__take_one .nil pass1 (pC_ (pe_glob rfl T.g_MARK.1 T.g_MARK.2) (pC_ (pe_tup (pC_ pS_ (pC_ pS_ pa_nil))) pa_nil))) pS_ (nM_ _)) pa_nil))))))),?_⟩
  refine ⟨_,rfl,r,dx,_,rfl,h1,rf_no _ _ (by decide +kernel) (by decide +kernel),r,ts,i,_,_,rfl,hR,tk_at hi,fun hk H1 dx1 g1 hdx=>qe _ (bindR_l (nameP_l hk)) H1 dx1 (Same.toR g1) hdx,fun hk H1 hR1 g1=>?_⟩
  have hs:=hT.str hi (by rw [hk];exact mark_no.2.2.2.1)
  have hj:=hT.more hi (by rw [hk];exact mark_no.2.2.1)
  obtain ⟨dx1,l1,xs1,h11,_⟩:=hR1.ob
  refine ⟨_,rfl,_,rfl,_,rfl,r,dx1,_,rfl,h11,rf_no _ _ (by decide +kernel) (by decide +kernel),small (n:=2) (by decide),fun u hu=>?_⟩
  have g2:=sN_ hu (.tup [.str "up",.str "down"])
  refine ⟨r,ts,i+1,_,_,u,["up","down"],rfl,hR1.same g2,tk_at hj,hT.flat hj,.inr (SqT.of uS_),fun e H3 dx3 g3 hdx=>?_,fun e H3 hR3 g3=>?_⟩
  · exact qe _ ((bindR_r (nameP_r hk)).trans (bindR_l (oneP_l e))) H3 dx3 (g1.trans (Same.toR (g2.trans g3))) hdx
  · have hs2:=hT.str hj (by rw [one1_k e];exact mark_no.2.1)
    rw [hs2]
    refine ⟨rfl,small (n:=3) (by decide),fun t ht=>?_⟩
    have g4:=sN_ ht (.tup [.str "sort",(tkA ts i).v,.bl (decide (V.str (sgn (tkA ts (i+1)).v)=V.str "down"))])
    exact q _ _ ((bindR_r (nameP_r hk)).trans (bindR_r (oneP_r e))) _ _ (g1.trans ((Same.toR g2).trans (g3.trans (Same.toR g4)))) (hR3.same g4) ⟨t,rfl,by rw [← hs];exact uS_⟩
theorem ok_take_join (T:Txt K mg a):FnOk P w K mg base (CX1 P w) 6 a.f_take_join a.d_take_join ["word","reader"] (spStage a.c_Reader a.c_BadText (fun k=>k="join") (fun _=>joinP)):=by
  refine T.F_take_join.ok1 sc_take_join (fun vs H Q E h=>?_) (fun cdv A outer s H vs Q E hr h=>?_)
  · obtain ⟨_,_,_,_,rfl,_⟩:=h;rfl
  obtain ⟨k,r,ts,i,rfl,rfl,hO,qe,q⟩:=h
  have hR:=hO.rd
  have hT:=hO.ok
  have hi:=hO.lt
  obtain ⟨dx,l,xs,h1,h2,h3⟩:=hR.ob
  refine ⟨_,(sC_ (zS_ (i:=2) sc_take_join.nd rfl (by first | exact Or.inl rfl | exact Or.inr rfl) (pe_meth (pv 1) T.cl_Reader T.me_Reader__take_kind (ok_Reader__take_kind T) (hr.mono (by omega)) T.b_Reader__take_kind .nil pass1 (pC_ (pe_glob rfl T.g_NAME.1 T.g_NAME.2) pa_nil))) (sC_ (ps_expr (pe_meth (pv 1) T.cl_Reader T.me_Reader__take_one (ok_Reader__take_one T) (hr.mono (by omega)) T.b_Reader__take_one .nil pass1 (pC_ (pe_glob rfl T.g_MARK.1 T.g_MARK.2) (pC_ (pe_tup (pC_ pS_ pa_nil)) pa_nil)))) (sC_ (zS_ (i:=3) sc_take_join.nd rfl (by first | exact Or.inl rfl | exact Or.inr rfl) (pe_meth (pv 1) T.cl_Reader T.me_Reader__take_kind (ok_Reader__take_kind T) (hr.mono (by omega)) T.b_Reader__take_kind .nil pass1 (pC_ (pe_glob rfl T.g_NAME.1 T.g_NAME.2) pa_nil))) (sC_ (ps_expr (pe_meth (pv 1) T.cl_Reader T.me_Reader__take_one (ok_Reader__take_one T) (hr.mono (by omega)) T.b_Reader__take_one .nil pass1 (pC_ (pe_glob rfl T.g_MARK.1 T.g_MARK.2) (pC_ (pe_tup (pC_ pS_ pa_nil)) pa_nil)))) (sO_ (ps_ret (pe_tup (pC_ (pv 0) (pC_ (pv 2) (pC_ (pv 3) (pC_ (pL_ (ok_take_number T) (hr.mono (by omega)) rfl T.m_take_number T.F_take_number.kp T.b_take_number .nil pass1 (pC_ (pv 1) (pC_ pI_ pa_nil))) pa_nil))))))))))),?_⟩
  refine ⟨_,rfl,r,dx,_,rfl,h1,rf_no _ _ (by decide +kernel) (by decide +kernel),r,ts,i,_,_,rfl,hR,tk_at hi,fun hk H1 dx1 g1 hdx=>qe _ (bindR_l (nameP_l hk)) H1 dx1 (Same.toR g1) hdx,fun hk H1 hR1 g1=>?_⟩
  have hs:=hT.str hi (by rw [hk];exact mark_no.2.2.2.1)
  have hj:=hT.more hi (by rw [hk];exact mark_no.2.2.1)
  have z1:joinP ts i=bindR (oneP "mark" ["by"] ts (i+1)) fun _ j2=>bindR (nameP ts j2) fun x j3=>bindR (oneP "mark" ["within"] ts j3) fun _ j4=>bindR (numP 0 ts j4) fun n j5=>.inr (.joi (sgn (tkA ts i).v) x n,j5):=bindR_r (nameP_r hk)
  obtain ⟨dx1,l1,xs1,h11,_⟩:=hR1.ob
  refine ⟨_,rfl,r,dx1,_,rfl,h11,rf_no _ _ (by decide +kernel) (by decide +kernel),small (n:=1) (by decide),fun u hu=>?_⟩
  have g2:=sN_ hu (.tup [.str "by"])
  refine ⟨r,ts,i+1,_,_,u,["by"],rfl,hR1.same g2,tk_at hj,hT.flat hj,.inr (SqT.of uS_),fun e H3 dx3 g3 hdx=>qe _ (z1.trans (bindR_l (oneP_l e))) H3 dx3 (g1.trans (Same.toR (g2.trans g3))) hdx,fun e H3 hR3 g3=>?_⟩
  have hj2:=hT.more hj (by rw [one1_k e];exact mark_no.1)
  have z2:=z1.trans (bindR_r (oneP_r e))
  have gg:=g1.trans ((Same.toR g2).trans g3)
  obtain ⟨dx3,l3,xs3,h13,_⟩:=hR3.ob
  refine ⟨_,rfl,r,dx3,_,rfl,h13,rf_no _ _ (by decide +kernel) (by decide +kernel),r,ts,i+1+1,_,_,rfl,hR3,tk_at hj2,fun hk2 H4 dx4 g4 hdx=>qe _ (z2.trans (bindR_l (nameP_l hk2))) H4 dx4 (gg.trans (Same.toR g4)) hdx,fun hk2 H4 hR4 g4=>?_⟩
  have hs2:=hT.str hj2 (by rw [hk2];exact mark_no.2.2.2.1)
  have hj3:=hT.more hj2 (by rw [hk2];exact mark_no.2.2.1)
  have z3:=z2.trans (bindR_r (nameP_r hk2))
  obtain ⟨dx4,l4,xs4,h14,_⟩:=hR4.ob
  refine ⟨_,rfl,r,dx4,_,rfl,h14,rf_no _ _ (by decide +kernel) (by decide +kernel),small (n:=1) (by decide),fun u2 hu2=>?_⟩
  have g5:=sN_ hu2 (.tup [.str "within"])
  refine ⟨r,ts,i+1+1+1,_,_,u2,["within"],rfl,hR4.same g5,tk_at hj3,hT.flat hj3,.inr (SqT.of uS_),fun e2 H6 dx6 g6 hdx=>qe _ (z3.trans (bindR_l (oneP_l e2))) H6 dx6 (gg.trans (g4.trans (Same.toR (g5.trans g6)))) hdx,fun e2 H6 hR6 g6=>?_⟩
  have hj4:=hT.more hj3 (by rw [one1_k e2];exact mark_no.1)
  have z4:=z3.trans (bindR_r (oneP_r e2))
  have g7:=gg.trans (g4.trans ((Same.toR g5).trans g6))
  refine ⟨_,rfl,_,rfl,_,rfl,_,rfl,r,ts,i+1+1+1+1,_,rfl,hO.to hR6 hj4,fun p hp H8 dx8 g8 hdx=>qe p (z4.trans (bindR_l hp)) H8 dx8 (g7.trans g8) hdx,fun n j hp v H8 g8 hR8 hv=>⟨small (n:=4) (by decide),fun t ht=>?_⟩⟩
  have g9:=sN_ ht (.tup [.str "join",(tkA ts i).v,(tkA ts (i+1+1)).v,v])
  exact q _ _ (z4.trans (bindR_r hp)) _ _ (g7.trans (g8.trans (Same.toR g9))) (hR8.same g9) ⟨t,rfl,by rw [show v=.int n from hv,← hs,← hs2];exact uS_⟩
def spThingR (C EC:Addr):Sp:=fun vs H Q E=>∃ r ts i,vs=[.ref r]∧RdOk C H r ts i∧ZEnd C EC r ts H Q E ThAt (thingP ts i)
theorem ok_take_thing (T:Txt K mg a):FnOk P w K mg base (CX1 P w) 5 a.f_take_thing a.d_take_thing ["reader"] (spThingR a.c_Reader a.c_BadText):=by
  refine T.F_take_thing.ok1 sc_take_thing (fun vs H Q E h=>?_) (fun cdv A outer s H vs Q E hr h=>?_)
  · obtain ⟨_,_,_,rfl,_⟩:=h;rfl
  obtain ⟨r,ts,i,rfl,hO,qe,q⟩:=h
  have hR:=hO.rd
  have hT:=hO.ok
  have hi:=hO.lt
  obtain ⟨dx,l,xs,h1,h2,h3⟩:=hR.ob
  refine ⟨_,(sC_ (zS_ (i:=1) sc_take_thing.nd rfl (by first | exact Or.inl rfl | exact Or.inr rfl) (pe_meth (pv 0) T.cl_Reader T.me_Reader__take_kind (ok_Reader__take_kind T) (hr.mono (by omega)) T.b_Reader__take_kind .nil pass1 (pC_ (pe_glob rfl T.g_NAME.1 T.g_NAME.2) pa_nil))) (sC_ (ps_expr (pe_meth (pv 0) T.cl_Reader T.me_Reader__take_one (ok_Reader__take_one T) (hr.mono (by omega)) T.b_Reader__take_one .nil pass1 (pC_ (pe_glob rfl T.g_MARK.1 T.g_MARK.2) (pC_ (pe_tup (pC_ pS_ pa_nil)) pa_nil)))) (sC_ (zS_ (i:=2) sc_take_thing.nd rfl (by first | exact Or.inl rfl | exact Or.inr rfl) (pe_meth (pv 0) T.cl_Reader T.me_Reader__take_one (ok_Reader__take_one T) (hr.mono (by omega)) T.b_Reader__take_one .nil pass1 (pC_ (pe_glob rfl T.g_MARK.1 T.g_MARK.2) (pC_ (pe_tup (pC_ pS_ (pa_star (pe_glob rfl T.g_HOWS_WITH_FIELD.1 T.g_HOWS_WITH_FIELD.2) pa_nil))) pa_nil)))) (sC_ (zS_ (i:=3) sc_take_thing.nd rfl (by first | exact Or.inl rfl | exact Or.inr rfl) (pe_ifExp (tR_ op_in_seq (pv 2) (pe_glob rfl T.g_HOWS_WITH_FIELD.1 T.g_HOWS_WITH_FIELD.2) (by with_unfolding_all rfl)) (pe_meth (pv 0) T.cl_Reader T.me_Reader__take_kind (ok_Reader__take_kind T) (hr.mono (by omega)) T.b_Reader__take_kind .nil pass1 (pC_ (pe_glob rfl T.g_NAME.1 T.g_NAME.2) pa_nil)) pe_non)) (sO_ (ps_ret (pe_tup (pC_ (pv 1) (pC_ (pv 2) (pC_ (pv 3) pa_nil)))))))))),?_⟩
  refine ⟨_,rfl,r,dx,_,rfl,h1,rf_no _ _ (by decide +kernel) (by decide +kernel),r,ts,i,_,_,rfl,hR,tk_at hi,fun hk H1 dx1 g1 hdx=>qe _ (bindR_l (nameP_l hk)) H1 dx1 (Same.toR g1) hdx,fun hk H1 hR1 g1=>?_⟩
  have hs:=hT.str hi (by rw [hk];exact mark_no.2.2.2.1)
  have hj:=hT.more hi (by rw [hk];exact mark_no.2.2.1)
  have z1:thingP ts i=bindR (oneP "mark" ["="] ts (i+1)) fun _ j2=>bindR (oneP "mark" how5 ts j2) fun y j3=>if inV (.str y) (how4.map V.str)=true then bindR (nameP ts j3) fun f j4=>.inr ((sgn (tkA ts i).v,y,some f),j4) else .inr ((sgn (tkA ts i).v,y,none),j3):=bindR_r (nameP_r hk)
  obtain ⟨dx1,l1,xs1,h11,_⟩:=hR1.ob
  refine ⟨_,rfl,r,dx1,_,rfl,h11,rf_no _ _ (by decide +kernel) (by decide +kernel),small (n:=1) (by decide),fun u hu=>?_⟩
  have g2:=sN_ hu (.tup [.str "="])
  refine ⟨r,ts,i+1,_,_,u,["="],rfl,hR1.same g2,tk_at hj,hT.flat hj,.inr (SqT.of uS_),fun e H3 dx3 g3 hdx=>qe _ (z1.trans (bindR_l (oneP_l e))) H3 dx3 (g1.trans (Same.toR (g2.trans g3))) hdx,fun e H3 hR3 g3=>?_⟩
  have hj2:=hT.more hj (by rw [one1_k e];exact mark_no.1)
  have z2:=z1.trans (bindR_r (oneP_r e))
  have gg:=g1.trans ((Same.toR g2).trans g3)
  obtain ⟨dx3,l3,xs3,h13,_⟩:=hR3.ob
  refine ⟨_,rfl,r,dx3,_,rfl,h13,rf_no _ _ (by decide +kernel) (by decide +kernel),_,_,rfl,T.t_HOWS_WITH_FIELD _,by decide,small (n:=5) (by decide),fun u2 hu2=>?_⟩
  have g4:=sN_ hu2 (.tup (how5.map V.str))
  refine ⟨r,ts,i+1+1,_,_,u2,how5,rfl,hR3.same g4,tk_at hj2,hT.flat hj2,.inr (SqT.of uS_),fun e2 H5 dx5 g5 hdx=>qe _ (z2.trans (bindR_l (oneP_l e2))) H5 dx5 (gg.trans (Same.toR (g4.trans g5))) hdx,fun e2 H5 hR5 g5=>?_⟩
  have hs2:=hT.str hj2 (by rw [one1_k e2];exact mark_no.2.1)
  have hj3:=hT.more hj2 (by rw [one1_k e2];exact mark_no.1)
  have z3:=z2.trans (bindR_r (oneP_r e2))
  have g6:=gg.trans ((Same.toR g4).trans g5)
  rw [hs2]
  refine ⟨_,rfl,_,_,rfl,.inr (T.t_HOWS_WITH_FIELD _),rfl,rfl,_,rfl,?_⟩
  show if inV (.str (sgn (tkA ts (i+1+1)).v)) (how4.map V.str)=true then _ else _
  cases e3:inV (.str (sgn (tkA ts (i+1+1)).v)) (how4.map V.str) with
  | true =>
    have z4:=z3.trans (if_pos e3)
    obtain ⟨dx5,l5,xs5,h15,_⟩:=hR5.ob
    refine iteT ⟨_,rfl,r,dx5,_,rfl,h15,rf_no _ _ (by decide +kernel) (by decide +kernel),r,ts,i+1+1+1,_,_,rfl,hR5,tk_at hj3,fun hk2 H7 dx7 g7 hdx=>qe _ (z4.trans (bindR_l (nameP_l hk2))) H7 dx7 (g6.trans (Same.toR g7)) hdx,fun hk2 H7 hR7 g7=>?_⟩
    have hs3:=hT.str hj3 (by rw [hk2];exact mark_no.2.2.2.1)
    refine ⟨_,rfl,_,rfl,_,rfl,small (n:=3) (by decide),fun t ht=>?_⟩
    have g8:=sN_ ht (.tup [(tkA ts i).v,.str (sgn (tkA ts (i+1+1)).v),(tkA ts (i+1+1+1)).v])
    exact q _ _ (z4.trans (bindR_r (nameP_r hk2))) _ _ (g6.trans (g7.trans (Same.toR g8))) (hR7.same g8) ⟨t,rfl,by show _=some (HO.tup [V.str (sgn (tkA ts i).v),_,V.str (sgn (tkA ts (i+1+1+1)).v)]);rw [← hs,← hs3];exact uS_⟩
  | false =>
    have z4:=z3.trans (if_neg (by rw [e3];decide))
    refine iteF ⟨_,rfl,_,rfl,_,rfl,small (n:=3) (by decide),fun t ht=>?_⟩
    have g8:=sN_ ht (.tup [(tkA ts i).v,.str (sgn (tkA ts (i+1+1)).v),.non])
    exact q _ _ z4 _ _ (g6.trans (Same.toR g8)) (hR5.same g8) ⟨t,rfl,by show _=some (HO.tup [V.str (sgn (tkA ts i).v),_,_]);rw [← hs];exact uS_⟩
end
end My
namespace My
open PySem L2
def thingsL (ts:List Tok):Nat→Nat→List (Str × Str × Option Str)→QR (List (Str × Str × Option Str))
  | 0,i,ths=>.inr (ths,i)
  | n+1,i,ths=>if one1 (tkA ts i) "mark" [","]=true then bindR (thingP ts (i+1)) fun t j=>thingsL ts n j (ths++[t]) else .inr (ths,i)
def foldP (ts:List Tok) (i:Nat):QR Sg:=bindR (thingP ts i) fun t j=>bindR (thingsL ts ts.length j [t]) fun ths j2=>bindR (byP ts j2) fun ns j3=>.inr (.fld ths ns,j3)
theorem bindR_inr {α β:Type} {z:QR α} {f:α→Nat→QR β} {b:β} {j:Nat} (h:bindR z f=.inr (b,j)):∃ a i,z=.inr (a,i)∧f a i=.inr (b,j):=by
  cases z with
  | inl p=>cases h
  | inr x=>obtain ⟨a,i⟩:=x;exact ⟨a,i,rfl,h⟩
theorem nameP_up {ts:List Tok} (h:TsOk ts) {i j:Nat} {n:Str} (hi:i < ts.length) (e:nameP ts i=.inr (n,j)):i < j∧j < ts.length:=by
  unfold nameP at e
  split at e
  · rename_i k
    have:=h.more hi (by rw [k];exact mark_no.2.2.1)
    cases e;exact ⟨by omega,this⟩
  · cases e
theorem oneP_up {ts:List Tok} (h:TsOk ts) {ss:List Str} {i j:Nat} {n:Str} (hi:i < ts.length) (e:oneP "mark" ss ts i=.inr (n,j)):i < j∧j < ts.length:=by
  unfold oneP at e
  split at e
  · rename_i k
    have:=h.more hi (by rw [one1_k k];exact mark_no.1)
    cases e;exact ⟨by omega,this⟩
  · cases e
theorem thingP_up {ts:List Tok} (h:TsOk ts) {i j:Nat} {t:Str × Str × Option Str} (hi:i < ts.length) (e:thingP ts i=.inr (t,j)):i < j∧j < ts.length:=by
  unfold thingP at e
  obtain ⟨x,j1,e1,e⟩:=bindR_inr e
  have u1:=nameP_up h hi e1
  obtain ⟨_,j2,e2,e⟩:=bindR_inr e
  have u2:=oneP_up h u1.2 e2
  obtain ⟨y,j3,e3,e⟩:=bindR_inr e
  have u3:=oneP_up h u2.2 e3
  split at e
  · obtain ⟨f,j4,e4,e⟩:=bindR_inr e
    have u4:=nameP_up h u3.2 e4
    cases e;exact ⟨by omega,u4.2⟩
  · cases e;exact ⟨by omega,u3.2⟩
theorem thingsL_up {ts:List Tok} (h:TsOk ts):∀ m i ths ths' j,i < ts.length→thingsL ts m i ths=.inr (ths',j)→i≤j∧j < ts.length
  | 0,i,ns,ns',j,hi,e=>by cases e;exact ⟨Nat.le_refl _,hi⟩
  | m + 1,i,ns,ns',j,hi,e=>by
    rw [thingsL] at e
    split at e
    · rename_i k
      obtain ⟨t,j1,e1,e⟩:=bindR_inr e
      have u:=thingP_up h (h.more hi (by rw [one1_k k];exact mark_no.1)) e1
      have:=thingsL_up h m _ _ _ _ u.2 e
      exact ⟨by omega,this.2⟩
    · cases e;exact ⟨Nat.le_refl _,hi⟩
theorem ThAt.keep {H H':Hp} (g:∀ b xs,H b=some (.tup xs)→H' b=some (.tup xs)) {v:V} {t:Str × Str × Option Str} (h:ThAt H v t):ThAt H' v t:=let ⟨p,e,q⟩:=h;⟨p,e,g _ _ q⟩
theorem things_no {H:Hp} {ys:List V} {t:Str × Str × Option Str} {ths:List (Str × Str × Option Str)} {ts:List Tok} (hy:Paired (ThAt H) ys (t :: ths)):¬ Paired (TokAt H) ys ts:=by
  intro z
  cases hy with
  | cons a _ =>
    cases z with
    | cons b _ =>
      obtain ⟨p,e1,e2⟩:=a
      obtain ⟨p',e3,e4⟩:=b
      rw [e1] at e3;cases e3
      rw [e2] at e4
      obtain ⟨_,_,o⟩:=t
      simp only [Option.some.injEq,HO.tup.injEq,List.cons.injEq] at e4
      obtain ⟨_,_,e5,_⟩:=e4
      cases o with
      | none=>exact nomatch (show V.non=V.int _ from e5)
      | some f=>exact nomatch (show V.str f=V.int _ from e5)
section
variable {P:Program} {w:World} {K:PySem.W.Frag} {mg:Str→Option Value} {base:Heap} {a:Adr}
theorem ok_take_fold (T:Txt K mg a):FnOk P w K mg base (CX1 P w) 6 a.f_take_fold a.d_take_fold ["word","reader"] (spStage a.c_Reader a.c_BadText (fun k=>k="fold") (fun _=>foldP)):=by
  refine T.F_take_fold.ok1 sc_take_fold (fun vs H Q E h=>?_) (fun cdv A outer s H vs Q E hr h=>?_)
  · obtain ⟨_,_,_,_,rfl,_⟩:=h;rfl
  obtain ⟨k,r,ts,i,rfl,rfl,hO,qe,q⟩:=h
  have hT:=hO.ok
  have hi:=hO.lt
  have hz:=hO.sz
  refine ⟨_,(sC_ (zS_ (i:=2) sc_take_fold.nd rfl (by first | exact Or.inl rfl | exact Or.inr rfl) (pe_lst (pC_ (pL_ (ok_take_thing T) (hr.mono (by omega)) rfl T.m_take_thing T.F_take_thing.kp T.b_take_thing .nil pass1 (pC_ (pv 1) pa_nil)) pa_nil))) (sC_ (ps_while PassesOwn.leaving (pt_truth (pe_meth (pv 1) T.cl_Reader T.me_Reader__sees_one (ok_Reader__sees_one T) (hr.mono (by omega)) T.b_Reader__sees_one .nil pass0 (pC_ (pe_glob rfl T.g_MARK.1 T.g_MARK.2) (pC_ (pe_tup (pC_ pS_ pa_nil)) pa_nil))) (fun _=>rfl)) (sC_ (ps_expr (pe_meth0 (pv 1) T.cl_Reader T.me_Reader__take (ok_Reader__take T) (hr.mono (by omega)) T.b_Reader__take .nil pass0)) (sO_ (ps_expr (pe_bm PySem.F.plainAttrs_list PySem.F.slot_list_append PySem.F.type_list_append mt_append (pv 2) (pC_ (pL_ (ok_take_thing T) (hr.mono (by omega)) rfl T.m_take_thing T.F_take_thing.kp T.b_take_thing .nil pass1 (pC_ (pv 1) pa_nil)) pa_nil)))))) (sO_ (ps_ret (pe_tup (pC_ (pv 0) (pC_ (pT_ call_tuple_of rfl T.n_tuple (by decide +kernel) (pC_ (pv 2) pa_nil)) (pC_ (pL_ (ok_take_by T) (hr.mono (by omega)) rfl T.m_take_by T.F_take_by.kp T.b_take_by .nil pass1 (pC_ (pv 1) pa_nil)) pa_nil)))))))),?_⟩
  refine ⟨_,rfl,r,ts,i,rfl,hO,fun p hp H1 dx1 g1 hdx=>qe _ (bindR_l hp) H1 dx1 g1 hdx,fun t j hp v H1 g1 hR1 hv=>⟨small (n:=1) (by decide),fun l2 hl2=>?_⟩⟩
  have g2:=sN_ hl2 (.lst [v])
  have hu:=thingP_up hT hi hp
  have z1:foldP ts i=bindR (thingsL ts ts.length j [t]) fun ths j2=>bindR (byP ts j2) fun ns j3=>.inr (.fld ths ns,j3):=bindR_r hp
  have hb:∀ b o,b≠r→H b=some o→b≠l2:=fun b o hb e z=>by have:=g1 _ _ hb e;rw [z,hl2] at this;cases this
  unfold gName
  dsimp only
  unfold tSeq
  refine while_by (fun σ H'=>∃ j m ys t ths,σ=[some (.str "fold"),some (.ref r),some (.ref l2)]∧SameR r H H'∧RdAt a.c_Reader H' r ts j∧H' l2=some (.lst ys)∧Paired (ThAt H') ys (t :: ths)∧j < ts.length∧ts.length≤m+j∧(t :: ths).length≤j∧foldP ts i=bindR (thingsL ts m j (t :: ths)) fun ths j2=>bindR (byP ts j2) fun ns j3=>.inr (.fld ths ns,j3))
    (fun _ H'=>match H' r with | some (.ins _ _ fs)=>(match fs.lookup ("passed":Str) with | some (.int j)=>ts.length - j.toNat | _=>0) | _=>0) ⟨j,ts.length,[v],t,[],rfl,g1.trans (Same.toR g2),hR1.same g2,uS_,.cons (hv.keep fun b xs e=>g2 _ _ e) .nil,hu.2,by omega,by simp;omega,z1⟩ (fun σ H' hP=>?_) (fun σ H' Q Q' hQ h=>?_)
  · obtain ⟨j,m,ys,t,ths,rfl,g,hRj,hlj,hys,hjl,hm,hns,hZ⟩:=hP
    obtain ⟨dx,l,xs,h1,h2,h3⟩:=hRj.ob
    refine ⟨_,rfl,r,dx,_,rfl,h1,rf_no _ _ (by decide +kernel) (by decide +kernel),small (n:=1) (by decide),fun u hu=>?_⟩
    have g0:=sN_ hu (.tup [.str ","])
    have hR0:=hRj.same g0
    have h10:=g0 _ _ h1
    have hl0:=g0 _ _ hlj
    have hys0:Paired (ThAt (upd H' u (.tup [.str ","]))) ys (t :: ths):=Paired.mapP hys fun _ _ z=>z.keep fun b xs e=>g0 _ _ e
    refine ⟨r,ts,j,_,_,u,[","],rfl,hR0,tk_at hjl,hT.flat hjl,.inr (SqT.of uS_),_,rfl,?_⟩
    have gg:=g.trans (Same.toR (r:=r) g0)
    have e0:H' r=(upd H' u (.tup [.str ","])) r:=h1.trans h10.symm
    generalize upd H' u (.tup [.str ","])=H0 at g0 hR0 h10 hl0 hys0 gg e0 ⊢
    show if (one1 (tkA ts j) "mark" [","])=true then _ else _
    obtain ⟨m,rfl⟩:∃ m',m=m'+1:=⟨m - 1,by omega⟩
    cases e:one1 (tkA ts j) "mark" [","] with
    | true =>
      have hj1:=hT.more hjl (by rw [one1_k e];exact mark_no.1)
      have hrl:l2≠r:=fun z=>by rw [z,h10] at hl0;cases hl0
      have z2:foldP ts i=bindR (bindR (thingP ts (j+1)) fun t' j'=>thingsL ts m j' ((t :: ths)++[t'])) fun ths j2=>bindR (byP ts j2) fun ns j3=>.inr (.fld ths ns,j3):=by rw [hZ,thingsL,if_pos e]
      refine iteT ⟨_,rfl,r,dx,_,rfl,h10,rf_no _ _ (by decide +kernel) (by decide +kernel),r,ts,j,_,rfl,hR0,tk_at hjl,fun H2 hR2 g2=>?_⟩
      have hl2':=g2 _ _ hrl hl0
      have hys2:Paired (ThAt H2) ys (t :: ths):=Paired.mapP hys0 fun _ _ z=>z.keep (hR0.tup g2)
      refine ⟨_,rfl,.inl ⟨rfl,_,SqL.of hl2'⟩,_,rfl,r,ts,j+1,rfl,hO.to hR2 hj1,fun p hp H3 dx3 g3 hdx=>qe p (z2.trans (by rw [hp];rfl)) H3 dx3 (gg.trans (g2.trans g3)) hdx,fun t' j' hp v' H3 g3 hR3 hv'=>?_⟩
      have hu3:=thingP_up hT hj1 hp
      have hl3:=g3 _ _ hrl hl2'
      have hys3:Paired (ThAt H3) ys (t :: ths):=Paired.mapP hys2 fun _ _ z=>z.keep (hR2.tup g3)
      have lys:=hys3.length
      have kp:∀ b xs,H3 b=some (.tup xs)→upd H3 l2 (.lst (ys++[v'])) b=some (.tup xs):=fun b xs e=>by rw [upd_ne (ne_of e hl3 fun z=>nomatch z)];exact e
      have g4:=gg.trans (g2.trans g3)
      refine ⟨l2,ys,_,rfl,rfl,hl3,(by rw [sizeLine_eq];omega),⟨j',m,ys++[v'],t,ths++[t'],rfl,?_,hR3.updL hl3 (things_no hys3),uS_,Paired.snoc (Paired.mapP hys3 fun _ _ z=>z.keep kp) (hv'.keep kp),hu3.2,by omega,?_,?_⟩,?_⟩
      · intro b o hbr e
        rw [upd_ne (hb b o hbr e)]
        exact g4 _ _ hbr e
      · have:(t :: (ths++[t'])).length=(t :: ths).length+1:=by simp
        omega
      · rw [z2,bindR_r hp];rfl
      · obtain ⟨dx4,l4,xs4,h14,_⟩:=hR3.ob
        rw [upd_ne (fun z=>hrl z.symm),h14,h1]
        dsimp only
        rw [rf_passed,rf_passed]
        show ts.length - ((j':Nat):Int).toNat < ts.length - ((j:Nat):Int).toNat
        omega
    | false =>
      have z2:foldP ts i=bindR (byP ts j) fun ns j3=>.inr (.fld (t :: ths) ns,j3):=by rw [hZ,thingsL,if_neg (by rw [e];decide)];rfl
      refine iteF ⟨_,rfl,_,rfl,l2,_,rfl,.inl ⟨SqL.of hl0,fun u3 hu3=>?_⟩⟩
      have g3:=sN_ hu3 (.tup ys)
      have hR3:=hR0.same g3
      refine ⟨_,rfl,r,ts,j,rfl,hO.to hR3 hjl,fun p hp H4 dx4 g4 hdx=>qe p (z2.trans (bindR_l hp)) H4 dx4 (gg.trans ((Same.toR g3).trans g4)) hdx,fun ns j' hp v' H4 g4 hR4 hv'=>⟨small (n:=3) (by decide),fun t4 ht4=>?_⟩⟩
      have g5:=sN_ ht4 (.tup [.str "fold",.ref u3,v'])
      have hu4:H4 u3=some (.tup ys):=hR3.tup g4 _ _ uS_
      exact q _ _ (z2.trans (bindR_r hp)) _ _ (gg.trans ((Same.toR g3).trans (g4.trans (Same.toR g5)))) (hR4.same g5) ⟨t4,.ref u3,v',u3,ys,rfl,uS_,rfl,g5 _ _ hu4,Paired.mapP hys0 fun _ _ z=>z.keep fun b xs e=>g5 _ _ (hR3.tup g4 _ _ (g3 _ _ e)),hv'.keep fun b xs e=>g5 _ _ e⟩
  · obtain ⟨v0,e0,r1,dx0,fs0,e1,e2,e3,hsz,h⟩:=h
    refine ⟨v0,e0,r1,dx0,fs0,e1,e2,e3,hsz,fun u hu=>?_⟩
    obtain ⟨r2,ts1,i2,t1,kd1,u1,ss1,e4,e5,e6,e7,e8,b,e9,h⟩:=h u hu
    exact ⟨r2,ts1,i2,t1,kd1,u1,ss1,e4,e5,e6,e7,e8,b,e9,hQ _ _ h⟩
end
end My
namespace My
open PySem L2
theorem inV_of {v:V} {ss:List Str} (h:inV v (ss.map V.str)=true):∃ s ∈ ss,v=.str s:=by
  unfold inV at h
  obtain ⟨y,hy,e⟩:=List.any_eq_true.mp h
  obtain ⟨s,hs,rfl⟩:=List.mem_map.mp hy
  refine ⟨s,hs,?_⟩
  cases v with
  | str z =>
    have e:(s == z)=true:=e
    rw [eq_of_beq e]
  | _=>cases e
abbrev taken:List Str:=["where","with","keep","drop","sort","first","every","sessions","join","fold"]
def stP (k:Str) (ts:List Tok) (i:Nat):QR Sg:=if k="keep"∨k="drop" then listP k ts i else if k="sort" then sortP ts i else if k="first" then cntP k 0 ts i else if k="every" then cntP k 1 ts i else if k="sessions" then sesP ts i else if k="join" then joinP ts i else foldP ts i
def stageP (ts:List Tok) (i:Nat):QR Sg:=if one1 (tkA ts i) "name" taken=true then stP (sgn (tkA ts i).v) ts (i+1) else .inl (tkA ts i).p
def noTerm (ts:List Tok) (i:Nat):Prop:=sgn (tkA ts i).v≠"where"∧sgn (tkA ts i).v≠"with"
section
variable {P:Program} {w:World} {K:PySem.W.Frag} {mg:Str→Option Value} {base:Heap} {a:Adr}
def spStageR (C EC:Addr):Sp:=fun vs H Q E=>∃ r ts i,vs=[.ref r]∧RdOk C H r ts i∧noTerm ts i∧ZEnd C EC r ts H Q E SgAt (stageP ts i)
abbrev takD (a:Adr):List (Str × V):=[("where",.ref a.f_take_where),("with",.ref a.f_take_with),("keep",.ref a.f_take_list),("drop",.ref a.f_take_list),("sort",.ref a.f_take_sort),("first",.ref a.f_take_first),("every",.ref a.f_take_every),("sessions",.ref a.f_take_sessions),("join",.ref a.f_take_join),("fold",.ref a.f_take_fold)]
theorem stage_way (T:Txt K mg a) {ts:List Tok} {i:Nat} (hT:TsOk ts) (hi:i < ts.length) (hn:noTerm ts i):∃ (f:Addr) (fd:FuncData) (wd:Str→Prop) (g:Str→List Tok→Nat→QR Sg) (k0:Str),
    FnOk P w K mg base (CX1 P w) 6 f fd ["word","reader"] (spStage a.c_Reader a.c_BadText wd g)∧PySem.W.keepIn K (.ref f)=true∧Binds K fd ["word","reader"] []∧PyProof.Rows.KTD.datumAt k0 (takD a)=some (V.ref f)∧wd k0 ∧
    (one1 (tkA ts i) "name" taken=true→(tkA ts i).v=.str k0∧stageP ts i=g k0 ts (i+1)):=by
  have L:=(ok_take_list (P:=P) (w:=w) (base:=base) T).mono (show 5≤6 by decide)
  cases e:one1 (tkA ts i) "name" taken with
  | false=>exact ⟨_,_,_,_,"keep",L,T.F_take_list.kp,T.b_take_list,rfl,trivial,fun z=>nomatch z⟩
  | true =>
    have hs:stageP ts i=stP (sgn (tkA ts i).v) ts (i+1):=by unfold stageP;rw [if_pos e]
    have hv:inV (tkA ts i).v (taken.map V.str)=true:=(Bool.and_eq_true _ _ ▸ e).2
    obtain ⟨s,hm,hv⟩:=inV_of hv
    have hg:sgn (tkA ts i).v=s:=by rw [hv];rfl
    rw [hg] at hs
    obtain ⟨n1,n2⟩:=hn
    rw [hg] at n1 n2
    simp only [taken,List.mem_cons,List.not_mem_nil,or_false] at hm
    rcases hm with h | h | h | h | h | h | h | h | h | h
    · exact absurd h n1
    · exact absurd h n2
    · subst h;exact ⟨_,_,_,_,"keep",L,T.F_take_list.kp,T.b_take_list,rfl,trivial,fun _=>⟨hv,hs.trans (by unfold stP;rw [if_pos (.inl rfl)])⟩⟩
    · subst h;exact ⟨_,_,_,_,"drop",L,T.F_take_list.kp,T.b_take_list,rfl,trivial,fun _=>⟨hv,hs.trans (by unfold stP;rw [if_pos (.inr rfl)])⟩⟩
    · subst h;exact ⟨_,_,_,_,"sort",(ok_take_sort (P:=P) (w:=w) (base:=base) T).mono (show 5≤6 by decide),T.F_take_sort.kp,T.b_take_sort,rfl,rfl,fun _=>⟨hv,hs.trans (by unfold stP;rw [if_neg (by decide +kernel),if_pos rfl])⟩⟩
    · subst h;exact ⟨_,_,_,_,"first",(ok_take_first (P:=P) (w:=w) (base:=base) T).mono (show 5≤6 by decide),T.F_take_first.kp,T.b_take_first,rfl,trivial,fun _=>⟨hv,hs.trans (by unfold stP;rw [if_neg (by decide +kernel),if_neg (by decide +kernel),if_pos rfl])⟩⟩
    · subst h;exact ⟨_,_,_,_,"every",(ok_take_every (P:=P) (w:=w) (base:=base) T).mono (show 5≤6 by decide),T.F_take_every.kp,T.b_take_every,rfl,trivial,fun _=>⟨hv,hs.trans (by unfold stP;rw [if_neg (by decide +kernel),if_neg (by decide +kernel),if_neg (by decide +kernel),if_pos rfl])⟩⟩
    · subst h;exact ⟨_,_,_,_,"sessions",ok_take_sessions T,T.F_take_sessions.kp,T.b_take_sessions,rfl,rfl,fun _=>⟨hv,hs.trans (by unfold stP;rw [if_neg (by decide +kernel),if_neg (by decide +kernel),if_neg (by decide +kernel),if_neg (by decide +kernel),if_pos rfl])⟩⟩
    · subst h;exact ⟨_,_,_,_,"join",ok_take_join T,T.F_take_join.kp,T.b_take_join,rfl,rfl,fun _=>⟨hv,hs.trans (by unfold stP;rw [if_neg (by decide +kernel),if_neg (by decide +kernel),if_neg (by decide +kernel),if_neg (by decide +kernel),if_neg (by decide +kernel),if_pos rfl])⟩⟩
    · subst h;exact ⟨_,_,_,_,"fold",ok_take_fold T,T.F_take_fold.kp,T.b_take_fold,rfl,rfl,fun _=>⟨hv,hs.trans (by unfold stP;rw [if_neg (by decide +kernel),if_neg (by decide +kernel),if_neg (by decide +kernel),if_neg (by decide +kernel),if_neg (by decide +kernel),if_neg (by decide +kernel)])⟩⟩
theorem ok_take_stage (T:Txt K mg a):FnOk P w K mg base (CX1 P w) 7 a.f_take_stage a.d_take_stage ["reader"] (spStageR a.c_Reader a.c_BadText):=by
  refine T.F_take_stage.ok1 sc_take_stage (fun vs H Q E h=>?_) (fun cdv A outer s H vs Q E hr h=>?_)
  · obtain ⟨_,_,_,rfl,_⟩:=h;rfl
  obtain ⟨r,ts,i,rfl,hO,hn,qe,q⟩:=h
  have hR:=hO.rd
  have hT:=hO.ok
  have hi:=hO.lt
  obtain ⟨dx,l,xs,h1,h2,h3⟩:=hR.ob
  obtain ⟨f,fd,wd,g,k0,FF,hk0,hb,hd,hw,hsel⟩:=stage_way (P:=P) (w:=w) (base:=base) T hT hi hn
  have hk:KeptBy P w K base f (spStage a.c_Reader a.c_BadText wd g):=kept_in hk0
  refine ⟨_,(sC_ (zS_ (i:=1) sc_take_stage.nd rfl (by first | exact Or.inl rfl | exact Or.inr rfl) (pe_meth (pv 0) T.cl_Reader T.me_Reader__take_one (ok_Reader__take_one T) (hr.mono (by omega)) T.b_Reader__take_one .nil pass1 (pC_ (pe_glob rfl T.g_NAME.1 T.g_NAME.2) (pC_ (pT_ (call_listTab rfl) rfl T.n_list (by decide +kernel) (pC_ (pe_glob rfl T.g_TAKERS.1 T.g_TAKERS.2) pa_nil)) pa_nil)))) (sC_ (zS_ (i:=2) sc_take_stage.nd rfl (by first | exact Or.inl rfl | exact Or.inr rfl) (pe_tabget (pe_glob rfl T.g_TAKERS.1 T.g_TAKERS.2) (pv 1) (fun _ _=>rfl))) (sO_ (ps_ret (pe_callV (i:=2) FF (hr.mono (by omega)) rfl (by first | exact Or.inl rfl | exact Or.inr (Or.inl rfl) | exact Or.inr (Or.inr rfl)) hk hb .nil pass1 (pC_ (pv 1) (pC_ (pv 0) pa_nil))))))),?_⟩
  refine ⟨_,rfl,r,dx,_,rfl,h1,rf_no _ _ (by decide +kernel) (by decide +kernel),_,takD a,rfl,T.t_TAKERS,T.s_TAKERS,(by show 10≤1000;decide),fun u hu=>?_⟩
  have g0:=sN_ hu (.lst (taken.map V.str))
  refine ⟨r,ts,i,_,_,u,taken,rfl,hR.same g0,tk_at hi,hT.flat hi,.inl (SqL.of uS_),fun e H3 dx3 g3 hdx=>qe _ (by unfold stageP;rw [if_neg (by rw [e];decide)]) H3 dx3 (Same.toR (g0.trans g3)) hdx,fun e H3 hR3 g3=>?_⟩
  obtain ⟨hv,hz⟩:=hsel e
  have hj:=hT.more hi (by rw [one1_k e];exact mark_no.2.2.1)
  have gg:=(Same.toR (r:=r) g0).trans g3
  rw [hv]
  refine ⟨_,rfl,_,takD a,k0,_,rfl,T.t_TAKERS,rfl,hd,?_⟩
  exact ⟨rfl,_,rfl,_,rfl,k0,r,ts,i+1,rfl,hw,hO.to hR3 hj,fun p hp H4 dx4 g4 hdx=>qe p (hz.trans hp) H4 dx4 (gg.trans g4) hdx,fun s j hp v H4 g4 hR4 hv4=>q s j (hz.trans hp) v H4 (gg.trans g4) hR4 hv4⟩
end
end My
namespace My
open PySem L2
def stagesL (ts:List Tok):Nat→Nat→List Sg→QR (List Sg)
  | 0,i,sts=>.inr (sts,i)
  | n+1,i,sts=>if one1 (tkA ts i) "mark" ["|"]=true then (if sts.length=12 then .inl (tkA ts i).p else bindR (stageP ts (i+1)) fun s j=>stagesL ts n j (sts++[s])) else .inr (sts,i)
def questR (ts:List Tok):QR (List Sg):=bindR (oneP "name" ["from"] ts 0) fun _ j=>bindR (fromP ts j) fun s j2=>stagesL ts ts.length j2 [s]
def questZ (ts:List Tok):Sum Nat (List Sg):=match questR ts with
  | .inl p=>.inl p
  | .inr (sts,j)=>if (tkA ts j).k="end" then .inr sts else .inl (tkA ts j).p
theorem listP_up {k:Str} {ts:List Tok} (h:TsOk ts) {i j:Nat} {s:Sg} (hi:i < ts.length) (e:listP k ts i=.inr (s,j)):i < j∧j < ts.length:=by
  obtain ⟨_,_,e1,e⟩:=bindR_inr e
  have u:=namesP_up h hi e1
  cases e;exact u
theorem cntP_up {k:Str} {l:Int} {ts:List Tok} (h:TsOk ts) {i j:Nat} {s:Sg} (hi:i < ts.length) (e:cntP k l ts i=.inr (s,j)):i < j∧j < ts.length:=by
  obtain ⟨_,_,e1,e⟩:=bindR_inr e
  have u:=numP_up h hi e1
  cases e;exact u
theorem sesP_up {ts:List Tok} (h:TsOk ts) {i j:Nat} {s:Sg} (hi:i < ts.length) (e:sesP ts i=.inr (s,j)):i < j∧j < ts.length:=by
  obtain ⟨_,_,e1,e⟩:=bindR_inr e
  have u:=numP_up h hi e1
  obtain ⟨_,_,e2,e⟩:=bindR_inr e
  have u2:=byP_up h u.2 e2
  cases e;exact ⟨by omega,u2.2⟩
theorem sortP_up {ts:List Tok} (h:TsOk ts) {i j:Nat} {s:Sg} (hi:i < ts.length) (e:sortP ts i=.inr (s,j)):i < j∧j < ts.length:=by
  obtain ⟨_,_,e1,e⟩:=bindR_inr e
  have u:=nameP_up h hi e1
  obtain ⟨_,_,e2,e⟩:=bindR_inr e
  have u2:=oneP_up h u.2 e2
  cases e;exact ⟨by omega,u2.2⟩
theorem joinP_up {ts:List Tok} (h:TsOk ts) {i j:Nat} {s:Sg} (hi:i < ts.length) (e:joinP ts i=.inr (s,j)):i < j∧j < ts.length:=by
  obtain ⟨_,_,e1,e⟩:=bindR_inr e
  have u:=nameP_up h hi e1
  obtain ⟨_,_,e2,e⟩:=bindR_inr e
  have u2:=oneP_up h u.2 e2
  obtain ⟨_,_,e3,e⟩:=bindR_inr e
  have u3:=nameP_up h u2.2 e3
  obtain ⟨_,_,e4,e⟩:=bindR_inr e
  have u4:=oneP_up h u3.2 e4
  obtain ⟨_,_,e5,e⟩:=bindR_inr e
  have u5:=numP_up h u4.2 e5
  cases e;exact ⟨by omega,u5.2⟩
theorem foldP_up {ts:List Tok} (h:TsOk ts) {i j:Nat} {s:Sg} (hi:i < ts.length) (e:foldP ts i=.inr (s,j)):i < j∧j < ts.length:=by
  obtain ⟨_,_,e1,e⟩:=bindR_inr e
  have u:=thingP_up h hi e1
  obtain ⟨_,_,e2,e⟩:=bindR_inr e
  have u2:=thingsL_up h _ _ _ _ _ u.2 e2
  obtain ⟨_,_,e3,e⟩:=bindR_inr e
  have u3:=byP_up h u2.2 e3
  cases e;exact ⟨by omega,u3.2⟩
theorem stP_up {k:Str} {ts:List Tok} (h:TsOk ts) {i j:Nat} {s:Sg} (hi:i < ts.length) (e:stP k ts i=.inr (s,j)):i < j∧j < ts.length:=by
  unfold stP at e
  split at e
  · exact listP_up h hi e
  split at e
  · exact sortP_up h hi e
  split at e
  · exact cntP_up h hi e
  split at e
  · exact cntP_up h hi e
  split at e
  · exact sesP_up h hi e
  split at e
  · exact joinP_up h hi e
  · exact foldP_up h hi e
theorem stageP_up {ts:List Tok} (h:TsOk ts) {i j:Nat} {s:Sg} (hi:i < ts.length) (e:stageP ts i=.inr (s,j)):i < j∧j < ts.length:=by
  unfold stageP at e
  split at e
  · rename_i k
    have u:=stP_up h (h.more hi (by rw [one1_k k];exact mark_no.2.2.1)) e
    exact ⟨by omega,u.2⟩
  · cases e
theorem fromP_up {ts:List Tok} (h:TsOk ts) {i j:Nat} {s:Sg} (hi:i < ts.length) (e:fromP ts i=.inr (s,j)):i < j∧j < ts.length∧∃ ns,s=.frm ns:=by
  unfold fromP at e
  split at e
  · rename_i k
    have:=h.more hi (by rw [one1_k k];exact mark_no.1)
    cases e;exact ⟨by omega,this,_,rfl⟩
  split at e
  · rename_i k
    have:=h.more hi (by rw [one1_k k];exact mark_no.1)
    obtain ⟨_,_,e1,e⟩:=bindR_inr e
    have u:=nameP_up h this e1
    cases e;exact ⟨by omega,u.2,_,rfl⟩
  · obtain ⟨_,_,e1,e⟩:=bindR_inr e
    have u:=namesP_up h hi e1
    cases e;exact ⟨by omega,u.2,_,rfl⟩
theorem SgAt.keep {H H':Hp} (g:∀ b xs,H b=some (.tup xs)→H' b=some (.tup xs)):∀ {s:Sg} {v:V},SgAt H v s→SgAt H' v s
  | .frm _,_,⟨p,u,e,h,r⟩=>⟨p,u,e,g _ _ h,r.keep g⟩
  | .nms _ _,_,⟨p,u,e,h,r⟩=>⟨p,u,e,g _ _ h,r.keep g⟩
  | .srt _ _,_,⟨p,e,h⟩=>⟨p,e,g _ _ h⟩
  | .num _ _,_,⟨p,e,h⟩=>⟨p,e,g _ _ h⟩
  | .ses _ _,_,⟨p,u,e,h,r⟩=>⟨p,u,e,g _ _ h,r.keep g⟩
  | .joi _ _ _,_,⟨p,e,h⟩=>⟨p,e,g _ _ h⟩
  | .fld _ _,_,⟨p,u1,u2,q,xs,e,h,e2,h2,r,r2⟩=>⟨p,u1,u2,q,xs,e,g _ _ h,e2,g _ _ h2,Paired.mapP r fun _ _ z=>z.keep g,r2.keep g⟩
theorem stages_no {H:Hp} {ys:List V} {ns:List Str} {sts:List Sg} {ts:List Tok} (hy:Paired (SgAt H) ys (.frm ns :: sts)):¬ Paired (TokAt H) ys ts:=by
  intro z
  cases hy with
  | cons a _ =>
    cases z with
    | cons b _ =>
      obtain ⟨p,u,e1,e2,_⟩:=a
      obtain ⟨p',e3,e4⟩:=b
      rw [e1] at e3;cases e3
      rw [e2] at e4
      simp only [Option.some.injEq,HO.tup.injEq,List.cons.injEq] at e4
      exact nomatch e4.2.2
end My
namespace My
open PySem L2
section
variable {P:Program} {w:World} {K:PySem.W.Frag} {mg:Str→Option Value} {base:Heap} {a:Adr}
def QAt (H:Hp) (v:V) (sts:List Sg):Prop:=∃ p ys,v=.ref p∧H p=some (.tup ys)∧Paired (SgAt H) ys sts
def spReadQ (EC:Addr):Sp:=fun vs H Q E=>∃ x:Str,vs=[.str x]∧x.length≤10000 ∧
  (∀ p,lexN (x.length+1) x 0=.inl p→∀ H' dx,Same H H'→H' dx=some (.xd [("at",.int (p:Int))])→E (.ref EC) (some dx) H') ∧
  (∀ ts,lexN (x.length+1) x 0=.inr ts→TsOk ts∧ts.length≤20000∧0 < ts.length∧(∀ t ∈ ts,t.k=("number":Str)→∃ n:Int,t.v=.int n)∧(∀ i,noTerm ts i) ∧
    (∀ p,questZ ts=.inl p→∀ H' dx,Same H H'→H' dx=some (.xd [("at",.int (p:Int))])→E (.ref EC) (some dx) H') ∧
    (∀ q,questZ ts=.inr q→∀ v H',Same H H'→QAt H' v q→Q v H'))
theorem ok_read_question (T:Txt K mg a):FnOk P w K mg base (CX1 P w) 8 a.f_read_question a.d_read_question ["text"] (spReadQ a.c_BadText):=by
  refine T.F_read_question.ok1 sc_read_question (fun vs H Q E h=>?_) (fun cdv A outer s H vs Q E hr h=>?_)
  · obtain ⟨_,rfl,_⟩:=h;rfl
  obtain ⟨x,rfl,hx,qe,q⟩:=h
  refine ⟨_,(sC_ (zS_ (i:=1) sc_read_question.nd rfl (by first | exact Or.inl rfl | exact Or.inr rfl) (pe_make T.mk_Reader (ok_Reader__init T) (hr.mono (by decide)) rfl T.m_Reader T.b_Reader__init .nil pass1 (pC_ (pv 0) pa_nil))) (sC_ (zS_ (i:=2) sc_read_question.nd rfl (by first | exact Or.inl rfl | exact Or.inr rfl) (pe_lst (pC_ (pL_ (ok_take_from T) (hr.mono (by omega)) rfl T.m_take_from T.F_take_from.kp T.b_take_from .nil pass1 (pC_ (pe_meth (pv 1) T.cl_Reader T.me_Reader__take_one (ok_Reader__take_one T) (hr.mono (by omega)) T.b_Reader__take_one .nil pass1 (pC_ (pe_glob rfl T.g_NAME.1 T.g_NAME.2) (pC_ (pe_tup (pC_ pS_ pa_nil)) pa_nil))) (pC_ (pv 1) pa_nil))) pa_nil))) (sC_ (ps_while PassesOwn.leaving (pt_truth (pe_meth (pv 1) T.cl_Reader T.me_Reader__sees_one (ok_Reader__sees_one T) (hr.mono (by omega)) T.b_Reader__sees_one .nil pass0 (pC_ (pe_glob rfl T.g_MARK.1 T.g_MARK.2) (pC_ (pe_tup (pC_ pS_ pa_nil)) pa_nil))) (fun _=>rfl)) (sC_ (ps_if (tR_ op_eq (pB_ call_len_seq rfl T.n_len PySem.boot_len (pC_ (pv 2) pa_nil)) (pe_glob rfl T.g_MOST_STAGES.1 T.g_MOST_STAGES.2) (nM_ _)) (sO_ (ps_raise T.x_BadText.made.choose_spec (ok_BadText__init T) T.x_BadText.tk (hr.mono (by decide)) T.x_BadText.bd rfl rfl T.m_BadText (pe_meth0 (pv 1) T.cl_Reader T.me_Reader__place (ok_Reader__place T) (hr.mono (by omega)) T.b_Reader__place .nil pass0))) pss_nil) (sC_ (ps_expr (pe_meth0 (pv 1) T.cl_Reader T.me_Reader__take (ok_Reader__take T) (hr.mono (by omega)) T.b_Reader__take .nil pass0)) (sO_ (ps_expr (pe_bm PySem.F.plainAttrs_list PySem.F.slot_list_append PySem.F.type_list_append mt_append (pv 2) (pC_ (pL_ (ok_take_stage T) (hr.mono (by omega)) rfl T.m_take_stage T.F_take_stage.kp T.b_take_stage .nil pass1 (pC_ (pv 1) pa_nil)) pa_nil))))))) (sC_ (ps_expr (pe_meth (pv 1) T.cl_Reader T.me_Reader__take_kind (ok_Reader__take_kind T) (hr.mono (by omega)) T.b_Reader__take_kind .nil pass1 (pC_ (pe_glob rfl T.g_END.1 T.g_END.2) pa_nil))) (sO_ (ps_ret (pT_ call_tuple_of rfl T.n_tuple (by decide +kernel) (pC_ (pv 2) pa_nil)))))))),?_⟩
  refine ⟨_,rfl,?_⟩
  intro r dx nr ndx nex
  have s0:Same H (upd (upd H dx (.own r)) r (.ins a.c_Reader dx [])):=fun b o e=>by
    rw [upd_ne (ne_of_none e nr),upd_ne (ne_of_none e ndx)]
    exact e
  refine ⟨r,dx,x,rfl,uS_,hx,fun p hp H1 dx1 g1 hdx=>qe p hp H1 dx1 (s0.trans g1) hdx,fun ts hts H1 hR g1=>⟨rfl,?_⟩⟩
  obtain ⟨hT,hl,h0,hnu,hno,qte,qt⟩:=q ts hts
  have hO:RdOk a.c_Reader H1 r ts 0:=⟨hR,hT,h0,hl,hnu⟩
  have up:∀ {H2:Hp},SameR r H1 H2→Same H H2:=fun {H2} g b o e=>g b o (ne_of_none e nr) (g1 b o (ne_of_none e nr) (s0 b o e))
  have ze:∀ p,questR ts=.inl p→questZ ts=.inl p:=fun p hp=>by unfold questZ;rw [hp]
  obtain ⟨dx1,l1,xs1,h11,_⟩:=hR.ob
  refine ⟨_,rfl,r,dx1,_,rfl,h11,rf_no _ _ (by decide +kernel) (by decide +kernel),small (n:=1) (by decide),fun u hu=>?_⟩
  have g2:=sN_ hu (.tup [.str "from"])
  refine ⟨r,ts,0,_,_,u,["from"],rfl,hR.same g2,tk_at h0,hT.flat h0,.inr (SqT.of uS_),fun e H3 dx3 g3 hdx=>qte _ (ze _ (bindR_l (oneP_l e))) H3 dx3 (up (Same.toR (g2.trans g3))) hdx,fun e H3 hR3 g3=>?_⟩
  have hv:(tkA ts 0).v=.str "from":=by
    obtain ⟨s,hm,hv⟩:=inV_of (ss:=["from"]) (Bool.and_eq_true _ _ ▸ e:decide (V.str (tkA ts 0).k=V.str "name")=true∧inV (tkA ts 0).v (List.map V.str ["from"])=true).2
    rw [hv,List.mem_singleton.mp hm]
  have hj:=hT.more h0 (by rw [one1_k e];exact mark_no.2.2.1)
  have z1:questR ts=bindR (fromP ts 1) fun s j2=>stagesL ts ts.length j2 [s]:=bindR_r (oneP_r e)
  have gg:=(Same.toR (r:=r) g2).trans g3
  rw [hv]
  refine ⟨_,rfl,_,r,ts,1,rfl,rfl,hO.to hR3 hj,fun p hp H4 dx4 g4 hdx=>qte _ (ze _ (z1.trans (bindR_l hp))) H4 dx4 (up (gg.trans g4)) hdx,fun s j hp v H4 g4 hR4 hv4=>⟨small (n:=1) (by decide),fun l2 hl2=>?_⟩⟩
  obtain ⟨hj1,hj2,ns,rfl⟩:=fromP_up hT hj hp
  have z2:questR ts=stagesL ts ts.length j [.frm ns]:=z1.trans (bindR_r hp)
  have g5:=gg.trans g4
  have g6:=sN_ hl2 (.lst [v])
  have hb:∀ b o,b≠r→H1 b=some o→b≠l2:=fun b o hb e z=>by have:=g5 _ _ hb e;rw [z,hl2] at this;cases this
  unfold gName
  dsimp only
  unfold tSeq
  refine while_by (fun σ H'=>∃ j m ys sts,σ=[some (.str x),some (.ref r),some (.ref l2)]∧SameR r H1 H'∧RdAt a.c_Reader H' r ts j∧H' l2=some (.lst ys)∧Paired (SgAt H') ys (.frm ns :: sts)∧j < ts.length∧ts.length≤m+j∧(Sg.frm ns :: sts).length≤j∧questR ts=stagesL ts m j (.frm ns :: sts))
    (fun _ H'=>match H' r with | some (.ins _ _ fs)=>(match fs.lookup ("passed":Str) with | some (.int j)=>ts.length - j.toNat | _=>0) | _=>0) ⟨j,ts.length,[v],[],rfl,g5.trans (Same.toR g6),hR4.same g6,uS_,.cons (hv4.keep fun b xs e=>g6 _ _ e) .nil,hj2,by omega,by simp;omega,z2⟩ (fun σ H' hP=>?_) (fun σ H' Q Q' hQ h=>?_)
  · obtain ⟨j,m,ys,sts,rfl,g,hRj,hlj,hys,hjl,hm,hns,hZ⟩:=hP
    obtain ⟨dx,l,xs,h1,h2,h3⟩:=hRj.ob
    refine ⟨_,rfl,r,dx,_,rfl,h1,rf_no _ _ (by decide +kernel) (by decide +kernel),small (n:=1) (by decide),fun u hu=>?_⟩
    have g0:=sN_ hu (.tup [.str "|"])
    have hR0:=hRj.same g0
    have h10:=g0 _ _ h1
    have hl0:=g0 _ _ hlj
    have hys0:Paired (SgAt (upd H' u (.tup [.str "|"]))) ys (.frm ns :: sts):=Paired.mapP hys fun _ _ z=>z.keep fun b xs e=>g0 _ _ e
    refine ⟨r,ts,j,_,_,u,["|"],rfl,hR0,tk_at hjl,hT.flat hjl,.inr (SqT.of uS_),_,rfl,?_⟩
    have gg:=g.trans (Same.toR (r:=r) g0)
    generalize upd H' u (.tup [.str "|"])=H0 at g0 hR0 h10 hl0 hys0 gg ⊢
    show if (one1 (tkA ts j) "mark" ["|"])=true then _ else _
    have lys:=hys0.length
    obtain ⟨m,rfl⟩:∃ m',m=m'+1:=⟨m - 1,by omega⟩
    cases e:one1 (tkA ts j) "mark" ["|"] with
    | true =>
      have hj1:=hT.more hjl (by rw [one1_k e];exact mark_no.1)
      have hrl:l2≠r:=fun z=>by rw [z,h10] at hl0;cases hl0
      refine iteT ⟨_,rfl,l2,ys,rfl,.inl (SqL.of hl0),rfl,_,rfl,ite2 (fun k=>?_) (fun k=>?_)⟩
      · have k':(Sg.frm ns :: sts).length=12:=by have:=of_decide_eq_true k;injection this with this;omega
        exact ⟨_,rfl,r,dx,_,rfl,h10,rf_no _ _ (by decide +kernel) (by decide +kernel),r,ts,j,_,rfl,hR0,tk_at hjl,_,rfl,fun t2 dx2 ht2 hdx hne=>qte _ (ze _ (by rw [hZ,stagesL,if_pos e,if_pos k'])) _ dx2 (up (gg.trans (Same.toR (bad_same ht2 hdx hne)))) uS_⟩
      · have k':¬ (Sg.frm ns :: sts).length=12:=fun z=>k (decide_eq_true (by rw [lys,z];rfl))
        have z3:questR ts=bindR (stageP ts (j+1)) fun s j=>stagesL ts m j ((Sg.frm ns :: sts)++[s]):=by rw [hZ,stagesL,if_pos e,if_neg k']
        refine ⟨_,rfl,r,dx,_,rfl,h10,rf_no _ _ (by decide +kernel) (by decide +kernel),r,ts,j,_,rfl,hR0,tk_at hjl,fun H2 hR2 g2=>?_⟩
        have hl2':=g2 _ _ hrl hl0
        have hys2:Paired (SgAt H2) ys (.frm ns :: sts):=Paired.mapP hys0 fun _ _ z=>z.keep (hR0.tup g2)
        refine ⟨_,rfl,.inl ⟨rfl,_,SqL.of hl2'⟩,_,rfl,r,ts,j+1,rfl,hO.to hR2 hj1,hno _,fun p hp H3 dx3 g3 hdx=>qte p (ze _ (z3.trans (bindR_l hp))) H3 dx3 (up (gg.trans (g2.trans g3))) hdx,fun s' j' hp v' H3 g3 hR3 hv'=>?_⟩
        have hu3:=stageP_up hT hj1 hp
        have hl3:=g3 _ _ hrl hl2'
        have hys3:Paired (SgAt H3) ys (.frm ns :: sts):=Paired.mapP hys2 fun _ _ z=>z.keep (hR2.tup g3)
        have kp:∀ b xs,H3 b=some (.tup xs)→upd H3 l2 (.lst (ys++[v'])) b=some (.tup xs):=fun b xs e=>by rw [upd_ne (ne_of e hl3 fun z=>nomatch z)];exact e
        have g4:=gg.trans (g2.trans g3)
        refine ⟨l2,ys,_,rfl,rfl,hl3,(by rw [sizeLine_eq];omega),⟨j',m,ys++[v'],sts++[s'],rfl,?_,hR3.updL hl3 (stages_no hys3),uS_,Paired.snoc (Paired.mapP hys3 fun _ _ z=>z.keep kp) (hv'.keep kp),hu3.2,by omega,?_,?_⟩,?_⟩
        · intro b o hbr e
          rw [upd_ne (hb b o hbr e)]
          exact g4 _ _ hbr e
        · have:(Sg.frm ns :: (sts++[s'])).length=(Sg.frm ns :: sts).length+1:=by simp
          omega
        · rw [z3,bindR_r hp];rfl
        · obtain ⟨dx4,l4,xs4,h14,_⟩:=hR3.ob
          rw [upd_ne (fun z=>hrl z.symm),h14,h1]
          dsimp only
          rw [rf_passed,rf_passed]
          show ts.length - ((j':Nat):Int).toNat < ts.length - ((j:Nat):Int).toNat
          omega
    | false =>
      have z3:questR ts=.inr (.frm ns :: sts,j):=by rw [hZ,stagesL,if_neg (by rw [e];decide)]
      have z4:questZ ts=if (tkA ts j).k="end" then .inr (.frm ns :: sts) else .inl (tkA ts j).p:=by unfold questZ;rw [z3]
      refine iteF ⟨_,rfl,r,dx,_,rfl,h10,rf_no _ _ (by decide +kernel) (by decide +kernel),r,ts,j,_,_,rfl,hR0,tk_at hjl,fun hk H3 dx3 g3 hdx=>qte _ (z4.trans (if_neg hk)) H3 dx3 (up (gg.trans (Same.toR g3))) hdx,fun hk H3 hR3 g3=>?_⟩
      have hrl:l2≠r:=fun z=>by rw [z,h10] at hl0;cases hl0
      refine ⟨_,rfl,l2,_,rfl,.inl ⟨SqL.of (g3 _ _ hrl hl0),fun t ht=>?_⟩⟩
      have g7:=sN_ ht (.tup ys)
      exact qt _ (z4.trans (if_pos hk)) _ _ (up (gg.trans (g3.trans (Same.toR g7)))) ⟨t,ys,rfl,uS_,Paired.mapP hys0 fun _ _ z=>z.keep fun b xs e=>g7 _ _ (hR0.tup g3 _ _ e)⟩
  · obtain ⟨v0,e0,r1,dx0,fs0,e1,e2,e3,hsz,h⟩:=h
    refine ⟨v0,e0,r1,dx0,fs0,e1,e2,e3,hsz,fun u hu=>?_⟩
    obtain ⟨r2,ts1,i2,t1,kd1,u1,ss1,e4,e5,e6,e7,e8,b,e9,h⟩:=h u hu
    exact ⟨r2,ts1,i2,t1,kd1,u1,ss1,e4,e5,e6,e7,e8,b,e9,hQ _ _ h⟩
end
end My
namespace My
open PySem L2
def nmB (x:Str):Bool:=bwl x&&!kept x
section
variable {P:Program} {w:World} {K:PySem.W.Frag} {mg:Str→Option Value} {base:Heap} {a:Adr}
def spNm:Sp:=fun vs H Q _=>∃ x:Str,vs=[.str x]∧x.length≤100000∧∀ H',Same H H'→Q (.bl (nmB x)) H'
theorem ok_law_is_name (T:Txt K mg a):FnOk P w K mg base CX0 2 a.f_is_name a.d_is_name ["_law_word"] spNm:=by
  refine T.F_is_name.ok sc_is_name (fun vs H Q E h=>?_) (fun cdv A outer s H vs Q E hr h=>?_)
  · obtain ⟨x,rfl,_⟩:=h;rfl
  obtain ⟨x,rfl,hx,q⟩:=h
  refine ⟨_,(sO_ (ps_ret (pe_and (pR_ op_ne (pv 0) pS_ (nM_ _)) (pe_and (pe_chain op_le_str op_le_str pS_ (pe_ix ix_str (pv 0) pI_ (fun _ _=>rfl)) pS_) (pe_one (pe_not (pL_ (ok_kept_word T) (hr.mono (by decide)) rfl T.m_kept_word T.F_kept_word.kp T.b_kept_word .nil pass0 (pC_ (pv 0) pa_nil)))))))),?_⟩
  have lx:=len_list x
  refine ⟨_,rfl,rfl,_,rfl,ite2 (fun k=>?_) (fun k=>?_)⟩
  · have hne:x.cps.toList≠[]:=fun e=>by
      have:x="":=by
        obtain ⟨cps⟩:=x
        have e':cps=#[]:=by simpa using e
        subst e'
        decide +kernel
      rw [this] at k
      exact absurd k (by decide +kernel)
    obtain ⟨d,r,hd⟩:∃ d r,x.cps.toList=d :: r:=by
      cases e:x.cps.toList with
      | nil=>exact absurd e hne
      | cons d r=>exact ⟨d,r,rfl⟩
    have e1:("a":Str).cps.toList=[97]:=by decide +kernel
    have e2:("z":Str).cps.toList=[122]:=by decide +kernel
    have hb:bwl x=isLet d:=by unfold bwl;rw [hd]
    refine ⟨_,rfl,x,0,d,rfl,rfl,Nat.le_trans hx (by rw [sizeLine_eq];decide),by rw [hd];exact atI_nat (j:=0) rfl,?_⟩
    refine ⟨_,_,rfl,rfl,?_⟩
    have f1:(!decide ((⟨#[d]⟩:Str).cps.toList < ("a":Str).cps.toList))=decide (97≤d):=by rw [e1];exact ge_sign d 97
    have f2:(!decide (("z":Str).cps.toList < (⟨#[d]⟩:Str).cps.toList))=decide (d≤122):=by rw [e2];exact ge_sign 122 d
    have z0:∀ {b:Bool},nmB x=b→Q (.bl b) H:=fun {b} e=>by rw [← e];exact q H (Same.refl H)
    refine ⟨_,rfl,?_⟩
    rw [f1]
    refine ite2 (fun k1=>?_) (fun k1=>?_)
    · refine ⟨_,_,rfl,rfl,_,rfl,?_⟩
      rw [f2]
      refine ite2 (fun k2=>?_) (fun k2=>?_)
      · refine ⟨_,rfl,x,rfl,Nat.le_trans hx (by rw [sizeLine_eq];decide),fun H1 g1=>⟨_,rfl,?_⟩⟩
        have:nmB x=!kept x:=by unfold nmB;rw [hb];unfold isLet;rw [k1,k2];rfl
        rw [← this]
        exact q H1 g1
      · exact z0 (by unfold nmB;rw [hb];unfold isLet;rw [Bool.eq_false_iff.mpr k2,Bool.and_false,Bool.false_and])
    · exact ⟨_,rfl,z0 (by unfold nmB;rw [hb];unfold isLet;rw [Bool.eq_false_iff.mpr k1,Bool.false_and,Bool.false_and])⟩
  · have hx0:bwl x=false:=by
      have k:x="":=by simpa using k
      rw [k];decide +kernel
    have z:=q H (Same.refl H)
    rw [show nmB x=false from by unfold nmB;rw [hx0,Bool.false_and]] at z
    exact z
end
structure WOk (ws:List Str):Prop where
  sz:ws.length≤20000
  wd:∀ x ∈ ws,x.length≤100000
  nd:∀ (i:Nat) (x:Str),ws[i]?=some x→x≠""→i+1 < ws.length
def wAt (ws:List Str) (i:Nat):Str:=(ws[i]?).getD ""
theorem w_at {ws:List Str} {i:Nat} (h:i < ws.length):ws[i]?=some (wAt ws i):=by
  unfold wAt
  rw [List.getElem?_eq_getElem h];rfl
def nmEnd (ws:List Str):Nat→Nat→Nat
  | 0,i=>i
  | n+1,i=>if nmB (wAt ws i)=true then nmEnd ws n (i+1) else i
theorem nmB_ne {x:Str} (h:nmB x=true):x≠"":=fun z=>by rw [z] at h;exact absurd h (by decide +kernel)
theorem WOk.more {ws:List Str} (h:WOk ws) {i:Nat} (hi:i < ws.length) (hx:wAt ws i≠""):i+1 < ws.length:=h.nd i _ (w_at hi) hx
theorem WOk.le {ws:List Str} (h:WOk ws) {i:Nat} (hi:i < ws.length):(wAt ws i).length≤100000:=h.wd _ (List.mem_of_getElem? (w_at hi))
theorem nmEnd_up {ws:List Str} (h:WOk ws):∀ n i,i < ws.length→i≤nmEnd ws n i∧nmEnd ws n i < ws.length
  | 0,i,hi=>⟨Nat.le_refl _,hi⟩
  | n + 1,i,hi=>by
    rw [nmEnd]
    split
    · rename_i k
      have:=nmEnd_up h n (i+1) (h.more hi (nmB_ne k))
      exact ⟨by omega,this.2⟩
    · exact ⟨Nat.le_refl _,hi⟩
section
variable {P:Program} {w:World} {K:PySem.W.Frag} {mg:Str→Option Value} {base:Heap} {a:Adr}
def PlQ (H:Hp) (Q:VK) (z:Nat × Bool):Prop:=∀ t H',Same H H'→H' t=some (.tup [.int (z.1:Int),.bl z.2])→Q (.ref t) H'
def spWN:Sp:=fun vs H Q _=>∃ l ws i,vs=[.ref l,.int ((i:Nat):Int)]∧H l=some (.lst (ws.map V.str))∧WOk ws∧i < ws.length∧PlQ H Q (nmEnd ws ws.length i,decide (i < nmEnd ws ws.length i))
theorem atW {ws:List Str} {i:Nat} (h:i < ws.length):(ws.map V.str)[i]?=some (.str (wAt ws i)):=by rw [List.getElem?_map,w_at h];rfl
theorem ok_law_names (T:Txt K mg a):FnOk P w K mg base CX0 3 a.f_names a.d_names ["_law_words","_law_at"] spWN:=by
  refine T.F_names.ok sc_names (fun vs H Q E h=>?_) (fun cdv A outer s H vs Q E hr h=>?_)
  · obtain ⟨_,_,_,rfl,_⟩:=h;rfl
  obtain ⟨l,ws,i,rfl,hl,hW,hi,q⟩:=h
  refine ⟨_,(sC_ (zS_ (i:=2) sc_names.nd rfl (by first | exact Or.inl rfl | exact Or.inr rfl) (pv 1)) (sC_ (ps_while PassesOwn.never (pt_val (pL_ (ok_law_is_name T) (hr.mono (by decide)) rfl T.m_is_name T.F_is_name.kp T.b_is_name .nil pass0 (pC_ (pe_ix ix_list (pv 0) (pv 2) (fun _ _=>rfl)) pa_nil))) (sO_ (zS_ (i:=2) sc_names.nd rfl (by first | exact Or.inl rfl | exact Or.inr rfl) (pO_ op_add (pv 2) pI_)))) (sO_ (ps_ret (pe_tup (pC_ (pv 2) (pC_ (pR_ op_gt (pv 2) (pv 1) (nM_ _)) pa_nil))))))),?_⟩
  refine ⟨_,rfl,?_⟩
  unfold gName
  dsimp only
  unfold tSeq
  refine while_by (fun σ H'=>∃ j m,σ=[some (.ref l),some (.int ((i:Nat):Int)),some (.int ((j:Nat):Int))]∧Same H H'∧i≤j∧j < ws.length∧ws.length≤m+j∧nmEnd ws ws.length i=nmEnd ws m j)
    (fun σ _=>match σ with | [_,_,some (.int j)]=>ws.length - j.toNat | _=>0) ⟨i,ws.length,rfl,Same.refl H,Nat.le_refl _,hi,by omega,rfl⟩ (fun σ H' hP=>?_) (fun σ H' Q Q' hQ h=>?_)
  · obtain ⟨j,m,rfl,g,hij,hjl,hm,hZ⟩:=hP
    have hl':=g _ _ hl
    obtain ⟨m,rfl⟩:∃ m',m=m'+1:=⟨m - 1,by omega⟩
    refine ⟨_,rfl,_,rfl,l,_,_,_,rfl,rfl,SqL.of hl',atI_nat (atW hjl),wAt ws j,rfl,hW.le hjl,fun H1 g1=>⟨_,rfl,?_⟩⟩
    refine ite2 (fun k=>?_) (fun k=>?_)
    · have hj1:=hW.more hjl (nmB_ne k)
      refine ⟨_,rfl,_,_,rfl,rfl,⟨j+1,m,rfl,g.trans g1,by omega,hj1,by omega,by rw [hZ,nmEnd,if_pos k]⟩,?_⟩
      show ws.length - ((j:Int)+1).toNat < ws.length - (j:Int).toNat
      omega
    · have hz:nmEnd ws ws.length i=j:=by rw [hZ,nmEnd,if_neg k]
      rw [hz] at q
      refine ⟨_,rfl,_,rfl,_,rfl,_,_,rfl,rfl,small (n:=2) (by decide),fun t ht=>?_⟩
      have g4:=sN_ ht (.tup [.int (j:Int),.bl (decide ((i:Int) < (j:Int)))])
      exact q t _ (g.trans (g1.trans g4)) (by
        have e:decide ((i:Int) < (j:Int))=decide (i < j):=by rw [Bool.eq_iff_iff];simp only [decide_eq_true_eq];omega
        rw [← e];exact uS_)
  · obtain ⟨v0,e0,v1,e1,p,xs,i1,y,e2,e3,e4,e5,x,e6,e7,h⟩:=h
    exact ⟨v0,e0,v1,e1,p,xs,i1,y,e2,e3,e4,e5,x,e6,e7,fun H1 g1=>let ⟨b,eb,z⟩:=h H1 g1;⟨b,eb,hQ _ _ z⟩⟩
end
end My
namespace My
open PySem L2
def byEnd (ws:List Str) (i:Nat):Nat × Bool:=if wAt ws i="by" then (nmEnd ws ws.length (i+1),decide (i+1 < nmEnd ws ws.length (i+1))) else (i,true)
section
variable {P:Program} {w:World} {K:PySem.W.Frag} {mg:Str→Option Value} {base:Heap} {a:Adr}
def spWB:Sp:=fun vs H Q _=>∃ l ws i,vs=[.ref l,.int ((i:Nat):Int)]∧H l=some (.lst (ws.map V.str))∧WOk ws∧i < ws.length∧PlQ H Q (byEnd ws i)
theorem by_ne:("by":Str)≠"":=by decide +kernel
theorem ok_law_by_end (T:Txt K mg a):FnOk P w K mg base CX0 4 a.f_by_end a.d_by_end ["_law_words","_law_at"] spWB:=by
  refine T.F_by_end.ok sc_by_end (fun vs H Q E h=>?_) (fun cdv A outer s H vs Q E hr h=>?_)
  · obtain ⟨_,_,_,rfl,_⟩:=h;rfl
  obtain ⟨l,ws,i,rfl,hl,hW,hi,q⟩:=h
  refine ⟨_,(sO_ (ps_ret (pe_ifExp (tR_ op_eq (pe_ix ix_list (pv 0) (pv 1) (fun _ _=>rfl)) pS_ (nM_ _)) (pL_ (ok_law_names T) (hr.mono (by decide)) rfl T.m_names T.F_names.kp T.b_names .nil pass0 (pC_ (pv 0) (pC_ (pO_ op_add (pv 1) pI_) pa_nil))) (pe_tup (pC_ (pv 1) (pC_ pe_bl pa_nil)))))),?_⟩
  refine ⟨_,rfl,_,rfl,l,_,_,_,rfl,rfl,SqL.of hl,atI_nat (atW hi),rfl,_,rfl,ite2 (fun k=>?_) (fun k=>?_)⟩
  · have k':wAt ws i="by":=by simpa using k
    have hj:=hW.more hi (by rw [k'];exact by_ne)
    refine ⟨_,rfl,_,rfl,_,_,rfl,rfl,l,ws,i+1,rfl,hl,hW,hj,?_⟩
    have e:byEnd ws i=(nmEnd ws ws.length (i+1),decide (i+1 < nmEnd ws ws.length (i+1))):=by unfold byEnd;rw [if_pos k']
    rw [← e]
    exact q
  · have k':¬ wAt ws i="by":=by simpa using k
    have e:byEnd ws i=(i,true):=by unfold byEnd;rw [if_neg k']
    rw [e] at q
    refine ⟨_,rfl,small (n:=2) (by decide),fun t ht=>?_⟩
    exact q t _ (sN_ ht _) uS_
end
end My
namespace My
open PySem L2
theorem inV_str (n:Str) (acc:List Str):inV (.str n) (acc.map V.str)=decide (n ∈ acc):=by
  unfold inV
  induction acc with
  | nil=>simp
  | cons x xs ih =>
    rw [List.map_cons,List.any_cons,ih]
    rw [Bool.eq_iff_iff]
    simp only [Bool.or_eq_true,decide_eq_true_eq,List.mem_cons]
    constructor
    · rintro (h | h)
      · left
        have:(x == n)=true:=h
        exact (by simpa using this:x=n).symm
      · exact .inr h
    · rintro (h | h)
      · left
        subst h
        show (n == n)=true
        simp
      · exact .inr h
theorem inV_signs (y:Str):inV (.str y) (sgnsV "0123456789")=(decide (y.length=1)&&match y.cps.toList[0]? with | some c=>isFig c | none=>false):=by
  have e:sgnsV "0123456789"=(["0","1","2","3","4","5","6","7","8","9"]:List Str).map V.str:=by decide +kernel
  rw [e,inV_str]
  have l:=len_list y
  rw [Bool.eq_iff_iff,decide_eq_true_eq,Bool.and_eq_true,decide_eq_true_eq]
  constructor
  · intro h
    have:∀ y ∈ (["0","1","2","3","4","5","6","7","8","9"]:List Str),y.length=1∧(match y.cps.toList[0]? with | some c=>isFig c | none=>false)=true:=by decide +kernel
    exact this y h
  · rintro ⟨h1,h2⟩
    rw [h1] at l
    cases e:y.cps.toList with
    | nil=>rw [e] at l;cases l
    | cons c r =>
      rw [e] at l h2
      have hr:r=[]:=by cases r with
        | nil=>rfl
        | cons a b=>simp at l
      subst hr
      have h2:isFig c=true:=h2
      unfold isFig at h2
      simp only [Bool.and_eq_true,decide_eq_true_eq] at h2
      have hy:y=⟨#[c]⟩:=str_ext e
      rw [hy]
      have:∀ c,48≤c∧c≤57→(⟨#[c]⟩:Str) ∈ (["0","1","2","3","4","5","6","7","8","9"]:List Str):=by
        intro c hc
        have hc':c=48∨c=49∨c=50∨c=51∨c=52∨c=53∨c=54∨c=55∨c=56∨c=57:=by omega
        rcases hc' with rfl | rfl | rfl | rfl | rfl | rfl | rfl | rfl | rfl | rfl <;> decide +kernel
      exact this c h2
def fst1 (x:Str):Str:=Txt.slice x none (some 1)
def figW (x:Str):Bool:=inV (.str (fst1 x)) (sgnsV "0123456789") || (decide (fst1 x="-")&&decide (1 < x.length))
def intW (x:Str):Int:=(PySem.intText? x).getD 0
def goodK (k x:Str):Bool:=if k="NAME" then nmB x else if k="0"∨k="1" then figW x&&decide (intW k≤intW x) else if k="way" then decide (x="up"∨x="down") else decide (x=k)
def fixE (ws:List Str):List Str→Nat→Nat × Bool
  | [],i=>(i,true)
  | k :: ks,i=>if goodK k (wAt ws i)=true then fixE ws ks (i+1) else (i,false)
def FOk (ws:List Str):Prop:=∀ x ∈ ws,figW x=true→∃ n,PySem.intText? x=some n∧x.length≤640
theorem goodK_ne {k x:Str} (hk:k≠"") (h:goodK k x=true):x≠"":=by
  intro z
  subst z
  unfold goodK at h
  split at h
  · exact absurd h (by decide +kernel)
  · split at h
    · rw [show figW ""=false by decide +kernel] at h;cases h
    · split at h
      · exact absurd h (by decide +kernel)
      · exact hk (of_decide_eq_true h).symm
theorem fixE_up {ws:List Str} (h:WOk ws):∀ (ks:List Str) (i:Nat),(∀ k ∈ ks,k≠"")→i < ws.length→i≤(fixE ws ks i).1∧(fixE ws ks i).1 < ws.length
  | [],i,_,hi=>⟨Nat.le_refl _,hi⟩
  | k :: ks,i,hk,hi=>by
    rw [fixE]
    split
    · rename_i g
      have:=fixE_up h ks (i+1) (fun k' hk'=>hk k' (List.mem_cons_of_mem _ hk')) (h.more hi (goodK_ne (hk k List.mem_cons_self) g))
      exact ⟨by omega,this.2⟩
    · exact ⟨Nat.le_refl _,hi⟩
theorem fix_rest {D:Ends} {s0 s2 s3 s4 s5:Option V} {n:Nat} {b:Bool} {H:Hp} (h1:b=true→D.nx [s0,some (.int ((n+1:Nat):Int)),s2,s3,s4,s5,some (.bl b)] H) (h0:b=false→∀ t,H t=none→D.rt (.ref t) (upd H t (.tup [.int ((n:Nat):Int),.bl false]))) :
    tSeq (tIfS (tNot (tB (tVar 6))) (tRet (tTup (tCons (tVar 1) (tCons (tC (V.bl false)) tNil)))) tNext) (tAsg (tOp (rI0 fun i j=>V.int (i+j)) (tVar 1) (tC (V.int 1))) (gName 1)) D [s0,some (.int ((n:Nat):Int)),s2,s3,s4,s5,some (.bl b)] H:=by
  refine ⟨_,rfl,b,rfl,?_⟩
  cases b with
  | false=>exact iteT ⟨_,rfl,small (n:=2) (by decide),h0 rfl⟩
  | true=>exact iteF ⟨_,rfl,_,_,rfl,rfl,h1 rfl⟩
theorem fix_good {K0:PySem.W.Frag} {D:Ends} {rest:TS} {s0 s1 s2 s6:Option V} {k x:Str} {fb:Bool} {H:Hp} (efb:fb=figW x) (hx:x.length≤100000) (hF:figW x=true→∃ n,PySem.intText? x=some n∧x.length≤640)
    (h:∀ H',Same H H'→rest D [s0,s1,s2,some (.str k),some (.str x),some (.bl (figW x)),some (.bl (goodK k x))] H') :
    tSeq (tIfS (tTest (tOp rEq (tVar 3) (tC (V.str "NAME")))) (tAsg (tCall spNm [] E0 (tCons (tVar 4) tNil)) (gName 6))
      (tIfS (tTest (tOp (rIn K0 false) (tVar 3) (tTup (tCons (tC (V.str "0")) (tCons (tC (V.str "1")) tNil))))) (tAsg (tAndV (tVar 5) (tOp (rI0 fun i j=>V.bl (decide (j≤i))) (tCB (fun xs H Q=>∃ x n,xs=[V.str x]∧PySem.intText? x=some n∧x.length≤640∧Q (V.int n) H) (tCons (tVar 4) tNil)) (tCB (fun xs H Q=>∃ x n,xs=[V.str x]∧PySem.intText? x=some n∧x.length≤640∧Q (V.int n) H) (tCons (tVar 3) tNil)))) (gName 6))
        (tIfS (tTest (tOp rEq (tVar 3) (tC (V.str "way")))) (tAsg (tOp (rIn K0 false) (tVar 4) (tTup (tCons (tC (V.str "up")) (tCons (tC (V.str "down")) tNil)))) (gName 6))
          (tAsg (tOp rEq (tVar 4) (tVar 3)) (gName 6))))) rest D [s0,s1,s2,some (.str k),some (.str x),some (.bl fb),s6] H:=by
  subst efb
  refine ⟨_,rfl,rfl,_,rfl,ite2 (fun k1=>?_) (fun k1=>?_)⟩
  · have e:k="NAME":=by simpa using k1
    refine ⟨_,rfl,x,rfl,hx,fun H1 g1=>?_⟩
    have:=h H1 g1
    unfold goodK at this
    rw [if_pos e] at this
    exact this
  have e1:¬ k="NAME":=fun z=>k1 (by rw [z];decide +kernel)
  refine ⟨_,rfl,small (n:=2) (by decide),fun t ht=>?_⟩
  have gt:=sN_ ht (.tup [.str "0",.str "1"])
  refine ⟨t,_,rfl,.inr (SqT.of uS_),rfl,rfl,_,rfl,?_⟩
  have e01:inV (.str k) [.str "0",.str "1"]=decide (k="0"∨k="1"):=by
    have:=inV_str k ["0","1"]
    rw [show ([.str "0",.str "1"]:List V)=(["0","1"]:List Str).map V.str from rfl,this]
    simp
  rw [e01]
  refine ite2 (fun k2=>?_) (fun k2=>?_)
  · have e2:k="0"∨k="1":=of_decide_eq_true k2
    have hg:goodK k x=(figW x&&decide (intW k≤intW x)):=by unfold goodK;rw [if_neg e1,if_pos e2]
    rw [hg] at h
    refine ⟨_,rfl,_,rfl,?_⟩
    cases hf:figW x with
    | false =>
      have:=h _ gt
      rw [hf] at this
      exact this
    | true =>
      obtain ⟨n,hn,hl⟩:=hF hf
      have hi:intW x=n:=by unfold intW;rw [hn];rfl
      obtain ⟨m,hm,hml⟩:∃ m,PySem.intText? k=some m∧k.length≤640:=by
        rcases e2 with rfl | rfl
        · exact ⟨0,by decide +kernel,by decide +kernel⟩
        · exact ⟨1,by decide +kernel,by decide +kernel⟩
      have hk:intW k=m:=by unfold intW;rw [hm];rfl
      have:=h _ gt
      rw [hf,hi,hk] at this
      exact ⟨_,rfl,x,n,rfl,hn,hl,_,rfl,k,m,rfl,hm,hml,_,_,rfl,rfl,this⟩
  · have e2:¬ (k="0"∨k="1"):=fun z=>k2 (decide_eq_true z)
    refine ⟨_,rfl,rfl,_,rfl,ite2 (fun k3=>?_) (fun k3=>?_)⟩
    · have e3:k="way":=by simpa using k3
      have hg:goodK k x=decide (x="up"∨x="down"):=by unfold goodK;rw [if_neg e1,if_neg e2,if_pos e3]
      rw [hg] at h
      refine ⟨_,rfl,small (n:=2) (by decide),fun u hu=>?_⟩
      have gu:=sN_ hu (.tup [.str "up",.str "down"])
      refine ⟨u,_,rfl,.inr (SqT.of uS_),rfl,rfl,?_⟩
      have e01:inV (.str x) [.str "up",.str "down"]=decide (x="up"∨x="down"):=by
        have:=inV_str x ["up","down"]
        rw [show ([.str "up",.str "down"]:List V)=(["up","down"]:List Str).map V.str from rfl,this]
        simp
      rw [e01]
      exact h _ (gt.trans gu)
    · have e3:¬ k="way":=fun z=>k3 (by rw [z];decide +kernel)
      have hg:goodK k x=decide (x=k):=by unfold goodK;rw [if_neg e1,if_neg e2,if_neg e3]
      rw [hg] at h
      have:=h _ gt
      refine ⟨_,rfl,_,rfl,rfl,?_⟩
      have e4:decide (x=k)=decide (V.str x=V.str k):=by rw [Bool.eq_iff_iff];simp
      rw [e4] at this
      exact this
section
variable {P:Program} {w:World} {K:PySem.W.Frag} {mg:Str→Option Value} {base:Heap} {a:Adr}
def spWF:Sp:=fun vs H Q _=>∃ l ws i pat,vs=[.ref l,.int ((i:Nat):Int),.str pat]∧H l=some (.lst (ws.map V.str))∧WOk ws∧FOk ws∧i < ws.length∧pat.length≤100∧(∀ k ∈ Txt.split pat " ",k≠"")∧PlQ H Q (fixE ws (Txt.split pat " ") i)
theorem ok_fixed (T:Txt K mg a):FnOk P w K mg base CX0 4 a.f_fixed a.d_fixed ["_law_words","_law_at","_law_pattern"] spWF:=by
  refine T.F_fixed.ok sc_fixed (fun vs H Q E h=>?_) (fun cdv A outer s H vs Q E hr h=>?_)
  · obtain ⟨_,_,_,_,rfl,_⟩:=h;rfl
  obtain ⟨l,ws,i,pat,rfl,hl,hW,hF,hi,hpl,hks,q⟩:=h
  refine ⟨_,(sC_ (ps_for PassesOwn.never rfl (pi_list (pe_bm PySem.F.plainAttrs_str PySem.F.slot_str_split PySem.F.type_str_split mt_split (pv 2) (pC_ pS_ pa_nil))) (pg_name (i:=3) sc_fixed.nd rfl (by first | exact Or.inl rfl | exact Or.inr rfl)) (sC_ (zS_ (i:=4) sc_fixed.nd rfl (by first | exact Or.inl rfl | exact Or.inr rfl) (pe_ix ix_list (pv 0) (pv 1) (fun _ _=>rfl))) (sC_ (zS_ (i:=5) sc_fixed.nd rfl (by first | exact Or.inl rfl | exact Or.inr rfl) (pe_or (pR_ op_in_seq (pZ_ sl_str (pv 4) po_none (po_some pI_)) (pT_ (call_tuple_text rfl) rfl T.n_tuple (by decide +kernel) (pC_ pS_ pa_nil)) (by with_unfolding_all rfl)) (pe_one (pe_and (pR_ op_eq (pZ_ sl_str (pv 4) po_none (po_some pI_)) pS_ (nM_ _)) (pe_one (pR_ op_gt (pB_ call_len_str rfl T.n_len PySem.boot_len (pC_ (pv 4) pa_nil)) pI_ (nM_ _))))))) (sC_ (ps_if (tR_ op_eq (pv 3) pS_ (nM_ _)) (sO_ (zS_ (i:=6) sc_fixed.nd rfl (by first | exact Or.inl rfl | exact Or.inr rfl) (pL_ (ok_law_is_name T) (hr.mono (by decide)) rfl T.m_is_name T.F_is_name.kp T.b_is_name .nil pass0 (pC_ (pv 4) pa_nil)))) (sO_ (ps_if (tR_ op_in_seq (pv 3) (pe_tup (pC_ pS_ (pC_ pS_ pa_nil))) (by with_unfolding_all rfl)) (sO_ (zS_ (i:=6) sc_fixed.nd rfl (by first | exact Or.inl rfl | exact Or.inr rfl) (pe_and (pv 5) (pe_one (pR_ op_ge (pT_ call_int_text rfl T.n_int (by decide +kernel) (pC_ (pv 4) pa_nil)) (pT_ call_int_text rfl T.n_int (by decide +kernel) (pC_ (pv 3) pa_nil)) (nM_ _)))))) (sO_ (ps_if (tR_ op_eq (pv 3) pS_ (nM_ _)) (sO_ (zS_ (i:=6) sc_fixed.nd rfl (by first | exact Or.inl rfl | exact Or.inr rfl) (pR_ op_in_seq (pv 4) (pe_tup (pC_ pS_ (pC_ pS_ pa_nil))) (by with_unfolding_all rfl)))) (sO_ (zS_ (i:=6) sc_fixed.nd rfl (by first | exact Or.inl rfl | exact Or.inr rfl) (pR_ op_eq (pv 4) (pv 3) (nM_ _))))))))) (sC_ (ps_if (pt_not (pt_val (pv 6))) (sO_ (ps_ret (pe_tup (pC_ (pv 1) (pC_ pe_bl pa_nil))))) pss_nil) (sO_ (zS_ (i:=1) sc_fixed.nd rfl (by first | exact Or.inl rfl | exact Or.inr rfl) (pO_ op_add (pv 1) pI_)))))))) (sO_ (ps_ret (pe_tup (pC_ (pv 1) (pC_ pe_bl pa_nil)))))),?_⟩
  refine ⟨_,rfl,rfl,?_⟩
  dsimp only [tCons,tC,tNil]
  refine split_ok (z:=pat) (y:=" ") (by decide +kernel) (by omega) fun p hp=>?_
  have gp:=sN_ hp (.lst ((Txt.split pat " ").map V.str))
  generalize hK:Txt.split pat " "=ks at *
  refine ⟨_,rfl,⟨_,SqL.of uS_⟩,?_⟩
  refine for_list (D:={ nx:=tRet (tTup (tCons (tVar 1) (tCons (tC (V.bl true)) tNil))) { nx:=fun x H'=>Q V.non H',rt:=Q },rt:=Q }) (σ:=[some (.ref l),some (.int ((i:Nat):Int)),some (.str pat),none,none,none,none]) (xs:=ks.map V.str) (fun j σ H'=>∃ s3 s4 s5 s6,σ=[some (.ref l),some (.int ((i+j:Nat):Int)),some (.str pat),s3,s4,s5,s6]∧Same H H'∧H' p=some (.lst (ks.map V.str))∧i+j < ws.length∧fixE ws ks i=fixE ws (ks.drop j) (i+j))
    ⟨none,none,none,none,rfl,gp,uS_,hi,rfl⟩ (fun j σ H' hj hP=>?_) (fun j x σ H' hx hP=>?_) (fun σ H' hP=>?_)
  · obtain ⟨s3,s4,s5,s6,rfl,g,hp',_⟩:=hP
    exact SqL.of hp'
  · obtain ⟨s3,s4,s5,s6,rfl,g,hp',hlt,hZ⟩:=hP
    rw [List.getElem?_map] at hx
    obtain ⟨k,hk,rfl⟩:=Option.map_eq_some_iff.mp hx
    have hl':=g _ _ hl
    have hdrop:ks.drop j=k :: ks.drop (j+1):=by
      obtain ⟨h1,h2⟩:=List.getElem?_eq_some_iff.mp hk
      rw [List.drop_eq_getElem_cons h1,h2]
    rw [hdrop,fixE] at hZ
    refine ⟨_,rfl,_,rfl,l,_,_,_,rfl,rfl,SqL.of hl',atI_nat (atW hlt),?_⟩
    have hlw:=hW.le hlt
    have hFx:=hF _ (List.mem_of_getElem? (w_at hlt))
    have kne:=hks k (List.mem_of_getElem? hk)
    have hmore:goodK k (wAt ws (i+j))=true→i+j+1 < ws.length:=fun h=>hW.more hlt (goodK_ne kne h)
    generalize wAt ws (i+j)=x at *
    have hxs:x.length≤sizeLine:=Nat.le_trans hlw (by rw [sizeLine_eq];decide)
    refine ⟨_,rfl,_,rfl,x,rfl,hxs,_,rfl,by decide +kernel,fun t ht=>?_⟩
    have gt:=sN_ ht (.tup (sgnsV "0123456789"))
    have g2:=g.trans gt
    refine ⟨t,_,rfl,.inr (SqT.of uS_),rfl,by decide +kernel,?_⟩
    have nx:goodK k x=true→∀ H',Same H H'→H' p=some (.lst (ks.map V.str))→i+(j+1) < ws.length∧fixE ws ks i=fixE ws (ks.drop (j+1)) (i+(j+1)):=fun hb H' g' hp''=>⟨hmore hb,by rw [hZ,if_pos hb];rfl⟩
    have rt:goodK k x=false→∀ H' t,Same H H'→H' t=none→Q (.ref t) (upd H' t (.tup [.int ((i+j:Nat):Int),.bl false])):=fun hb H' t g' ht=>by
      rw [hZ,if_neg (by rw [hb];decide)] at q
      exact q t _ (g'.trans (sN_ ht _)) uS_
    have hpt:=gt _ _ hp'
    have go:∀ H3,Same (upd _ t (.tup (sgnsV "0123456789"))) H3→Same H H3∧H3 p=some (.lst (ks.map V.str)):=fun H3 g3=>⟨g2.trans g3,g3 _ _ hpt⟩
    refine ⟨_,rfl,ite2 (fun k1=>?_) (fun k1=>?_)⟩
    · have e:true=figW x:=by unfold figW fst1;rw [show inV (.str (Txt.slice x none (some 1))) (sgnsV "0123456789")=true from k1];rfl
      exact fix_good e hlw hFx fun H3 g3=>fix_rest (fun hb=>⟨_,_,_,_,rfl,(go H3 g3).1,(go H3 g3).2,(nx hb H3 (go H3 g3).1 (go H3 g3).2).1,(nx hb H3 (go H3 g3).1 (go H3 g3).2).2⟩) (fun hb t ht=>rt hb _ t (go H3 g3).1 ht)
    · have k1':inV (.str (fst1 x)) (sgnsV "0123456789")=false:=Bool.eq_false_iff.mpr k1
      refine ⟨_,rfl,_,rfl,x,rfl,hxs,rfl,?_⟩
      refine ⟨_,rfl,ite2 (fun k2=>?_) (fun k2=>?_)⟩
      · refine ⟨_,rfl,x,rfl,hxs,_,_,rfl,rfl,?_⟩
        have e:decide ((1:Int) < ((x.length:Nat):Int))=figW x:=by
          have k2':fst1 x="-":=by simpa [fst1] using k2
          unfold figW
          rw [k1',decide_eq_true k2',Bool.false_or,Bool.true_and,Bool.eq_iff_iff]
          simp only [decide_eq_true_eq];omega
        exact fix_good e hlw hFx fun H3 g3=>fix_rest (fun hb=>⟨_,_,_,_,rfl,(go H3 g3).1,(go H3 g3).2,(nx hb H3 (go H3 g3).1 (go H3 g3).2).1,(nx hb H3 (go H3 g3).1 (go H3 g3).2).2⟩) (fun hb t ht=>rt hb _ t (go H3 g3).1 ht)
      · have e:false=figW x:=by
          have k2':¬ fst1 x="-":=by simpa [fst1] using k2
          unfold figW
          rw [k1',decide_eq_false k2'];rfl
        exact fix_good e hlw hFx fun H3 g3=>fix_rest (fun hb=>⟨_,_,_,_,rfl,(go H3 g3).1,(go H3 g3).2,(nx hb H3 (go H3 g3).1 (go H3 g3).2).1,(nx hb H3 (go H3 g3).1 (go H3 g3).2).2⟩) (fun hb t ht=>rt hb _ t (go H3 g3).1 ht)
  · obtain ⟨s3,s4,s5,s6,rfl,g,hp',hlt,hZ⟩:=hP
    rw [List.length_map] at hZ hlt
    refine ⟨_,rfl,small (n:=2) (by decide),fun t ht=>?_⟩
    rw [List.drop_length,fixE] at hZ
    rw [hZ] at q
    rw [List.length_map]
    exact q t _ (g.trans (sN_ ht _)) uS_
end
end My
namespace My
open PySem L2
theorem sig_fit {x:Str} {i:Nat} {k:Str} {v:V} {e:Nat} (h:sigAt x i=some (k,v,e)):k≠("end":Str)∧((∃ n,v=.int n)∧k="number"∨∃ s,v=.str s):=by
  have n1:("name":Str)≠"end":=by decide +kernel
  have n2:("mark":Str)≠"end":=by decide +kernel
  have n3:("word":Str)≠"end":=by decide +kernel
  have n4:("number":Str)≠"end":=by decide +kernel
  unfold sigAt at h
  split at h
  · cases h
  · split at h
    · unfold nameAt at h
      split at h
      · cases h
      · cases h
        refine ⟨?_,.inr ⟨_,rfl⟩⟩
        split
        · exact n2
        · exact n1
    · split at h
      · unfold wordAt at h
        dsimp only at h
        split at h
        · cases h
        · split at h
          · cases h;exact ⟨n3,.inr ⟨_,rfl⟩⟩
          · cases h
      · split at h
        · unfold numAt at h
          split at h
          · cases h
          · rename_i v0 hv
            cases h
            refine ⟨n4,.inl ⟨?_,rfl⟩⟩
            unfold numV at hv
            split at hv
            · split at hv
              · cases hv
              · cases e1:PySem.intText? (cutN x i (runN isFig x.cps.toList (i+1))) with
                | none=>rw [e1] at hv;cases hv
                | some n=>rw [e1] at hv;cases hv;exact ⟨n,rfl⟩
            · cases hv
        · unfold markAt at h
          split at h
          · cases h;exact ⟨n2,.inr ⟨_,rfl⟩⟩
          · split at h
            · cases h
            · split at h
              · cases h;exact ⟨n2,.inr ⟨_,rfl⟩⟩
              · cases h
theorem ts_end (x:Str):TsOk [⟨"end",.str "",x.length⟩]∧([⟨"end",.str "",x.length⟩]:List Tok).length=1:=by
  refine ⟨⟨fun t ht=>?_,fun t ht _=>?_,fun i t ht hk=>?_⟩,rfl⟩
  · rw [List.mem_singleton.mp ht];rfl
  · rw [List.mem_singleton.mp ht];exact ⟨_,rfl⟩
  · have hm:=List.mem_of_getElem? ht
    rw [List.mem_singleton.mp hm] at hk
    exact absurd rfl hk
theorem lex_ok (x : Str):∀ f i ts,lexN f x i=.inr ts→TsOk ts∧0 < ts.length∧ts.length≤f+1
  | 0,i,ts,h=>by
    have h:Sum.inr [(⟨"end",.str "",x.length⟩:Tok)]=(Sum.inr ts:Sum Nat (List Tok)):=h
    cases h
    exact ⟨(ts_end x).1,by simp,by simp⟩
  | f + 1, i, ts, h=>by
    rw [lexN] at h
    split at h
    · cases h
      exact ⟨(ts_end x).1,by simp,by simp⟩
    · split at h
      · obtain ⟨h1,h2,h3⟩:=lex_ok x f _ ts h
        exact ⟨h1,h2,by omega⟩
      · split at h
        · cases h
        · rename_i k v e hs
          split at h
          · cases h
          · rename_i ts1 h1
            cases h
            obtain ⟨a1,a2,a3⟩:=lex_ok x f _ ts1 h1
            obtain ⟨b1,b2⟩:=sig_fit hs
            refine ⟨⟨fun t ht=>?_,fun t ht hk=>?_,fun j t ht hk=>?_⟩,by simp,by simp;omega⟩
            · rcases List.mem_cons.mp ht with rfl | ht
              · rcases b2 with ⟨⟨n,e1⟩,_⟩ | ⟨s,e1⟩
                · show flatV v=true
                  rw [e1];rfl
                · show flatV v=true
                  rw [e1];rfl
              · exact a1.fl t ht
            · rcases List.mem_cons.mp ht with rfl | ht
              · rcases b2 with ⟨_,e2⟩ | b2
                · exact absurd e2 hk
                · exact b2
              · exact a1.st t ht hk
            · cases j with
              | zero=>simp;omega
              | succ j =>
                have:=a1.nd j t (by simpa using ht) hk
                simp;omega
abbrev KV:=Str × V
theorem lex_fuel {x:Str}:∀ f f' i,x.length+1≤f+i→x.length+1≤f'+i→i≤x.length→lexN f x i=lexN f' x i
  | 0,_,i,h,_,hi=>by omega
  | f+1,0,i,_,h,hi=>by omega
  | f + 1, f' + 1,i,h,h',hi=>by
    have l:=len_list x
    rw [lexN,lexN]
    cases hc:x.cps.toList[i]? with
    | none=>rfl
    | some c =>
      have hi':i < x.length:=by
        have:=(List.getElem?_eq_some_iff.mp hc).1
        omega
      dsimp only
      by_cases h32:c=32
      · rw [if_pos h32,if_pos h32]
        exact lex_fuel f f' (i+1) (by omega) (by omega) (by omega)
      · rw [if_neg h32,if_neg h32]
        cases hs:sigAt x i with
        | none=>rfl
        | some z =>
          obtain ⟨k,v,e⟩:=z
          have up:=sig_up hi' hs
          dsimp only
          by_cases he:e≤x.length
          · rw [lex_fuel f f' e (by omega) (by omega) he]
          · have hn:x.cps.toList[e]?=none:=List.getElem?_eq_none (by omega)
            have z:∀ f,lexN f x e=.inr [⟨"end",.str "",x.length⟩]:=fun f=>by
              cases f with
              | zero=>rfl
              | succ f=>rw [lexN,hn]
            rw [z f,z f']
theorem run_mid {p:Nat→Bool} {A B C:List Nat} (hB:∀ c ∈ B,p c=true) (hC:∀ c,C[0]?=some c→p c=false):runN p (A++B++C) A.length=A.length+B.length:=by
  unfold runN
  rw [List.append_assoc,List.drop_left]
  congr 1
  induction B with
  | nil =>
    cases C with
    | nil=>rfl
    | cons c C=>rw [List.nil_append,List.takeWhile_cons,if_neg (by rw [hC c rfl];decide)]
  | cons b B ih=>rw [List.cons_append,List.takeWhile_cons,if_pos (hB b List.mem_cons_self),List.length_cons,List.length_cons,ih (fun c hc=>hB c (List.mem_cons_of_mem _ hc))]
theorem cut_mid {x y:Str} {A C:List Nat} (e:x.cps.toList=A++y.cps.toList++C):cutN x A.length (A.length+y.length)=y:=by
  have lx:=len_list x
  have lx0:=lx
  have ly:=len_list y
  rw [e,List.length_append,List.length_append] at lx
  refine str_ext ?_
  unfold cutN
  have z:Txt.slice x (some (A.length:Int)) (some ((A.length+y.length:Nat):Int))=StrLaws.sliceText x (some (A.length:Int)) (some ((A.length+y.length:Nat):Int)):=rfl
  rw [z,StrLaws.sliceText_plain ⟨by omega,by omega,by omega⟩,e]
  have h1:((A.length:Nat):Int).toNat=A.length:=by omega
  have h2:((A.length+y.length:Nat):Int).toNat=A.length+y.length:=by omega
  simp only [h1,List.append_assoc]
  rw [List.drop_left,show (((A.length+y.length:Nat):Int) - (A.length:Int)).toNat=y.cps.toList.length by omega,List.take_left]
theorem name_mid {x y:Str} {A C:List Nat} (e:x.cps.toList=A++y.cps.toList++C) {c:Nat} (h0:y.cps.toList[0]?=some c) (hc:isLet c=true) (hy:∀ c ∈ y.cps.toList,nsg c=true) (hl:y.length≤20) (hC:∀ c,C[0]?=some c→nsg c=false) :
    sigAt x A.length=some ((if kept y=true then "mark" else "name":Str),.str y,A.length+y.length):=by
  have ly:=len_list y
  have hn:0 < y.cps.toList.length:=(List.getElem?_eq_some_iff.mp h0).1
  have hat:x.cps.toList[A.length]?=some c:=by
    rw [e,List.append_assoc,List.getElem?_append_right (Nat.le_refl _),Nat.sub_self,List.getElem?_append_left hn,h0]
  have hr:runN nsg x.cps.toList A.length=A.length+y.length:=by rw [e,run_mid hy hC,ly]
  unfold sigAt
  rw [hat]
  dsimp only
  rw [if_pos hc]
  unfold nameAt
  rw [hr,cut_mid e,if_neg (by omega)]
theorem cut2 {x:Str} {i:Nat} (hi:i < x.length):(cutN x i (i+2)).cps.toList=(x.cps.toList.drop i).take 2:=by
  have lx:=len_list x
  have z:cutN x i (i+2)=StrLaws.sliceText x (some (i:Int)) (some ((i+2:Nat):Int)):=rfl
  rw [z]
  by_cases h:i+2≤x.length
  · rw [StrLaws.sliceText_plain ⟨by omega,by omega,by omega⟩]
    have h1:((i:Nat):Int).toNat=i:=by omega
    have h2:(((i+2:Nat):Int) - (i:Int)).toNat=2:=by omega
    simp only [h1,h2]
  · have hc:Builtin.Str.strSliceIndices (some (i:Int)) (some ((i+2:Nat):Int)) 1 x.length=Builtin.Str.strSliceIndices (some (i:Int)) (some (x.length:Int)) 1 x.length:=by
      have a:¬ ((x.length:Int) < 0):=by omega
      have b:¬ (((i+2:Nat):Int) < 0):=by omega
      have c:min ((i+2:Nat):Int) (x.length:Int)=min (x.length:Int) (x.length:Int):=by omega
      unfold Builtin.Str.strSliceIndices
      simp only [if_neg a,if_neg b,c,if_pos (show (1:Int) > 0 by decide)]
    have hz:StrLaws.sliceText x (some (i:Int)) (some ((i+2:Nat):Int))=StrLaws.sliceText x (some (i:Int)) (some (x.length:Int)):=by
      unfold StrLaws.sliceText
      rw [hc]
    rw [hz,StrLaws.sliceText_plain ⟨by omega,by omega,by omega⟩]
    have h1:((i:Nat):Int).toNat=i:=by omega
    simp only [h1]
    rw [List.take_of_length_le (by rw [List.length_drop];omega),List.take_of_length_le (by rw [List.length_drop];omega)]
theorem mark_mid0 {x:Str} {c:Nat} {A C:List Nat} (e:x.cps.toList=A++[c]++C) (hc:inT "=<>+-*()|,@" c=true) (hL:¬ inV (.str (cutN x A.length (A.length+2))) (longS.map V.str)=true) (hC:∀ d,C[0]?=some d→c=45→isFig d=false):sigAt x A.length=some (("mark":Str),V.str ⟨#[c]⟩,A.length+1):=by
  have lx:=len_list x
  have hat:x.cps.toList[A.length]?=some c:=by
    rw [e,List.append_assoc,List.getElem?_append_right (Nat.le_refl _),Nat.sub_self];rfl
  have hnx:x.cps.toList[A.length+1]?=C[0]?:=by
    rw [e,List.getElem?_append_right (by simp)];simp
  have hfa:(c == 45&&figAt x (A.length+1))=false:=by
    by_cases h45:c=45
    · have:figAt x (A.length+1)=false:=by
        unfold figAt
        rw [hnx]
        cases hz:C[0]? with
        | none=>rfl
        | some d=>exact hC d hz h45
      rw [this,Bool.and_false]
    · have:(c == 45)=false:=by simpa using h45
      rw [this];rfl
  have hk:c ∈ ([61,60,62,43,45,42,40,41,124,44,64]:List Nat):=by
    have hs:("=<>+-*()|,@":Str).cps.toList=[61,60,62,43,45,42,40,41,124,44,64]:=by decide +kernel
    unfold inT at hc
    rw [hs] at hc
    exact of_decide_eq_true hc
  have hn:∀ c ∈ ([61,60,62,43,45,42,40,41,124,44,64]:List Nat),isLet c=false∧c≠39∧isFig c=false:=by decide
  obtain ⟨b1,b2,b3⟩:=hn c hk
  unfold sigAt
  rw [hat]
  dsimp only
  rw [if_neg (by rw [b1];decide),if_neg b2,if_neg (by rw [b3,hfa];decide)]
  unfold markAt
  rw [if_neg hL,hat]
  dsimp only
  rw [if_pos hc]
theorem long_one {z:Str} (h:inV (.str z) (longS.map V.str)=true):z.cps.toList[0]?=some 33∨z.cps.toList[0]?=some 60∨z.cps.toList[0]?=some 62:=by
  have hm:z ∈ longS:=by
    unfold inV at h
    simp [eqV] at h
    simpa [eq_comm] using h
  have:∀ z ∈ longS,z.cps.toList[0]?=some 33∨z.cps.toList[0]?=some 60∨z.cps.toList[0]?=some 62:=by decide +kernel
  exact this z hm
theorem paren_mid {x:Str} {c:Nat} {A C:List Nat} (e:x.cps.toList=A++[c]++C) (hc:inT "=<>+-*()|,@" c=true) (h45:c≠45∧c≠60∧c≠62):sigAt x A.length=some (("mark":Str),V.str ⟨#[c]⟩,A.length+1):=by
  refine mark_mid0 e hc (fun z=>?_) fun d hd z=>absurd z h45.1
  have lx:=len_list x
  have hle:A.length < x.length:=by rw [e] at lx;simp at lx;omega
  have hat:x.cps.toList[A.length]?=some c:=by
    rw [e,List.append_assoc,List.getElem?_append_right (Nat.le_refl _),Nat.sub_self];rfl
  have z:=long_one z
  rw [cut2 hle,List.getElem?_take,if_pos (by decide),List.getElem?_drop,Nat.add_zero,hat] at z
  have hk:inT "=<>+-*()|,@" 33=false:=by decide +kernel
  rcases z with z | z | z
  · cases z;rw [hk] at hc;cases hc
  · cases z;exact h45.2.1 rfl
  · cases z;exact h45.2.2 rfl
theorem num_mid {x y:Str} {v:V} {c:Nat} {A B C:List Nat} (e:x.cps.toList=A++y.cps.toList++C) (hy:y.cps.toList=c :: B) (hc:isFig c=true∨c=45∧B≠[]) (hB:∀ d ∈ B,isFig d=true) (hC:∀ d,C[0]?=some d→isFig d=false) (hv:numV y=some v) :
    sigAt x A.length=some (("number":Str),v,A.length+y.length):=by
  have ly:=len_list y
  have hyl:y.length=B.length+1:=by rw [← ly,hy];rfl
  have e':x.cps.toList=(A++[c])++B++C:=by rw [e,hy];simp
  have hat:x.cps.toList[A.length]?=some c:=by
    rw [e,hy,List.append_assoc,List.getElem?_append_right (Nat.le_refl _),Nat.sub_self];rfl
  have hr:runN isFig x.cps.toList (A.length+1)=A.length+y.length:=by
    have z:=run_mid (p:=isFig) (A:=A++[c]) (B:=B) (C:=C) hB hC
    rw [← e',show (A++[c]).length=A.length+1 by simp] at z
    rw [z];omega
  have hno:isLet c=false∧c≠39:=by
    rcases hc with h | ⟨h,_⟩
    · unfold isFig at h
      simp only [Bool.and_eq_true,decide_eq_true_eq] at h
      refine ⟨?_,by omega⟩
      unfold isLet
      rw [decide_eq_false (by omega)];rfl
    · subst h;exact ⟨by decide,by decide⟩
  have hk : (isFig c || (c == 45&&figAt x (A.length+1)))=true:=by
    rcases hc with h | ⟨h,hne⟩
    · rw [h];rfl
    · subst h
      cases B with
      | nil=>exact absurd rfl hne
      | cons b B =>
        have hn:x.cps.toList[A.length+1]?=some b:=by
          rw [e',List.append_assoc,List.getElem?_append_right (by simp)];simp
        have:figAt x (A.length+1)=true:=by unfold figAt;rw [hn];exact hB b List.mem_cons_self
        rw [this];rfl
  unfold sigAt
  rw [hat]
  dsimp only
  rw [if_neg (by rw [hno.1];decide),if_neg hno.2,if_pos hk]
  unfold numAt
  rw [hr,cut_mid e,hv]
def blanks (n:Nat):List Nat:=List.replicate n 32
theorem lex_blanks {x:Str}:∀ (n f:Nat) (A C:List Nat),x.cps.toList=A++blanks n++C→x.length+1≤f+A.length→lexN f x A.length=lexN f x (A.length+n)
  | 0,f,A,C,_,_=>rfl
  | n + 1,f,A,C,e,hf=>by
    have lx:=len_list x
    have hlx:=lx
    rw [e] at hlx
    simp only [List.length_append,blanks,List.length_replicate] at hlx
    have hat:x.cps.toList[A.length]?=some 32:=by
      rw [e,List.append_assoc,List.getElem?_append_right (Nat.le_refl _),Nat.sub_self];rfl
    have e':x.cps.toList=(A++[32])++blanks n++C:=by rw [e];simp [blanks,List.replicate_succ]
    cases f with
    | zero=>omega
    | succ f =>
      have z:=lex_blanks n (f+1) (A++[32]) C e' (by simp;omega)
      have e1:(A++[32]:List Nat).length=A.length+1:=by simp
      rw [e1] at z
      rw [show A.length+(n+1)=A.length+1+n by omega,← z,lexN,hat]
      dsimp only
      rw [if_pos rfl]
      exact lex_fuel f (f+1) _ (by omega) (by omega) (by omega)
theorem lex_step {x y:Str} {k:KV} {f:Nat} {A C:List Nat} {ts:List Tok} (hw:(∃ c,y.cps.toList[0]?=some c∧c≠32)) (hs:sigAt x A.length=some (k.1,k.2,A.length+y.length)) (e:x.cps.toList=A++y.cps.toList++C) (hf:x.length+1≤f+A.length)
    (h:lexN f x (A.length+y.length)=.inr ts):lexN f x A.length=.inr (⟨k.1,k.2,A.length⟩ :: ts):=by
  have lx:=len_list x
  have ly:=len_list y
  have hlx:=lx
  rw [e] at hlx
  simp only [List.length_append] at hlx
  obtain ⟨c,h0,h32⟩:=hw
  have hn:0 < y.cps.toList.length:=(List.getElem?_eq_some_iff.mp h0).1
  have hat:x.cps.toList[A.length]?=some c:=by
    rw [e,List.append_assoc,List.getElem?_append_right (Nat.le_refl _),Nat.sub_self,List.getElem?_append_left hn,h0]
  cases f with
  | zero=>omega
  | succ f =>
    rw [lex_fuel (f+1) f _ (by omega) (by omega) (by omega)] at h
    rw [lexN,hat]
    dsimp only
    rw [if_neg h32,hs]
    dsimp only
    rw [h]
theorem lex_end {x:Str} {f:Nat}:lexN f x x.length=.inr [⟨"end",.str "",x.length⟩]:=by
  have lx:=len_list x
  cases f with
  | zero=>rfl
  | succ f=>rw [lexN,List.getElem?_eq_none (by omega)]
abbrev Pcs:=List (Str × KV × Nat)
def spr:Pcs→List Nat
  | []=>[]
  | (y,_,n) :: r=>y.cps.toList++(blanks n++spr r)
def GoodP:Pcs→Prop
  | []=>True
  | (y,k,n) :: r=>(∃ c,y.cps.toList[0]?=some c∧c≠32)∧(∀ x A,x.cps.toList=A++y.cps.toList++(blanks n++spr r)→sigAt x A.length=some (k.1,k.2,A.length+y.length))∧GoodP r
inductive Wd
  | nm (x:Str)
  | nmc (x:Str)
  | atn (x:Str)
  | num (x:Str)
  | mk (x:Str)
structure NmF (x:Str):Prop where
  le:x.length≤20
  fs:∃ c,x.cps.toList[0]?=some c∧isLet c=true
  al:∀ c ∈ x.cps.toList,nsg c=true
  nt:x≠"where"∧x≠"with"
abbrev numS:List Str:=["-1","0","1","2","3","5"]
abbrev mkS:List Str:=["|","=",","]
abbrev mkT:List Str:=["|","=",",","@"]
def Wd.ok:Wd→Prop
  | .nm x=>NmF x
  | .nmc x=>NmF x
  | .atn x=>NmF x
  | .num x=>x ∈ numS
  | .mk x=>x ∈ mkS
def Wd.txt:Wd→Str
  | .nm x=>x
  | .nmc x=>x++","
  | .atn x=>"@"++x
  | .num x=>x
  | .mk x=>x
def kvN (x:Str):KV:=((if kept x=true then "mark" else "name":Str),.str x)
def kvM (x:Str):KV:=(("mark":Str),.str x)
def kvF (x:Str):KV:=(("number":Str),.int (intW x))
def Wd.pp:Wd→Nat→Pcs
  | .nm x,n=>[(x,kvN x,n)]
  | .nmc x,n=>[(x,kvN x,0),(",",kvM ",",n)]
  | .atn x,n=>[("@",kvM "@",0),(x,kvN x,n)]
  | .num x,n=>[(x,kvF x,n)]
  | .mk x,n=>[(x,kvM x,n)]
def prts:Wd→List Wd→Pcs
  | w,[]=>w.pp 0
  | w,v :: r=>w.pp 1++prts v r
theorem spr_app:∀ (a b:Pcs),spr (a++b)=spr a++spr b
  | [],b=>rfl
  | (y,k,n) :: a,b=>by
    show y.cps.toList++(blanks n++spr (a++b))=(y.cps.toList++(blanks n++spr a))++spr b
    rw [spr_app a b]
    simp only [List.append_assoc]
theorem cat_l (x y:Str):(x++y:Str).cps.toList=x.cps.toList++y.cps.toList:=by
  show (x.cps++y.cps).toList=_
  rw [Array.toList_append]
theorem spr_pp (w:Wd) (n:Nat):spr (w.pp n)=w.txt.cps.toList++blanks n:=by
  cases w with
  | nm x=>show x.cps.toList++(blanks n++[])=_;rw [List.append_nil];rfl
  | nmc x=>show x.cps.toList++([]++((",": Str).cps.toList++(blanks n++[])))=(x++",":Str).cps.toList++blanks n;rw [cat_l];simp only [List.append_nil,List.nil_append,List.append_assoc]
  | atn x=>show ("@":Str).cps.toList++([]++(x.cps.toList++(blanks n++[])))=("@"++x:Str).cps.toList++blanks n;rw [cat_l];simp only [List.append_nil,List.nil_append,List.append_assoc]
  | num x=>show x.cps.toList++(blanks n++[])=_;rw [List.append_nil];rfl
  | mk x=>show x.cps.toList++(blanks n++[])=_;rw [List.append_nil];rfl
theorem spr_prts:∀ (ws:List Wd) (w:Wd),spr (prts w ws)=joinL 32 w.txt.cps.toList (ws.map fun v=>v.txt.cps.toList)
  | [],w=>by
    show spr (w.pp 0)=w.txt.cps.toList++[]
    rw [spr_pp];rfl
  | v :: r,w=>by
    show spr (w.pp 1++prts v r)=w.txt.cps.toList++((v :: r).map fun v=>v.txt.cps.toList).flatMap fun r=>32 :: r
    rw [spr_app,spr_pp,spr_prts r v]
    simp [joinL,blanks]
theorem fig_no {c:Nat} (h:c=32∨c=44):nsg c=false∧isFig c=false:=by rcases h with rfl | rfl <;> decide
theorem let_32 {c:Nat} (h:isLet c=true):c≠32∧c≠64∧c≠44:=by
  unfold isLet at h
  simp only [Bool.and_eq_true,decide_eq_true_eq] at h
  omega
theorem num_fit:∀ x ∈ numS,(∃ c B,x.cps.toList=c :: B∧(isFig c=true∨c=45∧B≠[])∧∀ d ∈ B,isFig d=true)∧numV x=some (.int (intW x))∧(∃ n,PySem.intText? x=some n)∧x.length≤2:=by
  intro x hx
  simp only [List.mem_cons,List.mem_nil_iff,or_false] at hx
  rcases hx with rfl | rfl | rfl | rfl | rfl | rfl
  · exact ⟨⟨45,[49],by decide +kernel,.inr ⟨rfl,by simp⟩,by decide⟩,by decide +kernel,⟨-1,by decide +kernel⟩,by decide +kernel⟩
  · exact ⟨⟨48,[],by decide +kernel,.inl (by decide),by simp⟩,by decide +kernel,⟨0,by decide +kernel⟩,by decide +kernel⟩
  · exact ⟨⟨49,[],by decide +kernel,.inl (by decide),by simp⟩,by decide +kernel,⟨1,by decide +kernel⟩,by decide +kernel⟩
  · exact ⟨⟨50,[],by decide +kernel,.inl (by decide),by simp⟩,by decide +kernel,⟨2,by decide +kernel⟩,by decide +kernel⟩
  · exact ⟨⟨51,[],by decide +kernel,.inl (by decide),by simp⟩,by decide +kernel,⟨3,by decide +kernel⟩,by decide +kernel⟩
  · exact ⟨⟨53,[],by decide +kernel,.inl (by decide),by simp⟩,by decide +kernel,⟨5,by decide +kernel⟩,by decide +kernel⟩
theorem mk_fit:∀ x ∈ mkT,∃ c,x=⟨#[c]⟩∧inT "=<>+-*()|,@" c=true∧c≠45∧c≠60∧c≠62∧c≠32:=by
  intro x hx
  simp only [List.mem_cons,List.mem_nil_iff,or_false] at hx
  rcases hx with rfl | rfl | rfl | rfl
  · exact ⟨124,by decide +kernel,by decide +kernel,by decide,by decide,by decide,by decide⟩
  · exact ⟨61,by decide +kernel,by decide +kernel,by decide,by decide,by decide,by decide⟩
  · exact ⟨44,by decide +kernel,by decide +kernel,by decide,by decide,by decide,by decide⟩
  · exact ⟨64,by decide +kernel,by decide +kernel,by decide,by decide,by decide,by decide⟩
theorem good_name {x:Str} {n:Nat} {r:Pcs} (hx:NmF x) (h0:∀ d,(blanks n++spr r)[0]?=some d→d=32∨d=44) (hr:GoodP r):GoodP ((x,kvN x,n) :: r):=by
  obtain ⟨c,hc,hl⟩:=hx.fs
  exact ⟨⟨c,hc,(let_32 hl).1⟩,fun z A e=>name_mid e hc hl hx.al hx.le fun d hd=>(fig_no (h0 d hd)).1,hr⟩
theorem good_mark {x:Str} {n:Nat} {r:Pcs} (hx:x ∈ mkT) (hr:GoodP r):GoodP ((x,kvM x,n) :: r):=by
  obtain ⟨c,rfl,h1,h2,h3,h4,h5⟩:=mk_fit x hx
  exact ⟨⟨c,rfl,h5⟩,fun z A e=>paren_mid e h1 ⟨h2,h3,h4⟩,hr⟩
theorem good_num {x:Str} {n:Nat} {r:Pcs} (hx:x ∈ numS) (h0:∀ d,(blanks n++spr r)[0]?=some d→d=32∨d=44) (hr:GoodP r):GoodP ((x,kvF x,n) :: r):=by
  obtain ⟨⟨c,B,e1,e2,e3⟩,e4,_,_⟩:=num_fit x hx
  refine ⟨⟨c,by rw [e1];rfl,?_⟩,fun z A e=>num_mid e e1 e2 e3 (fun d hd=>(fig_no (h0 d hd)).2) e4,hr⟩
  rcases e2 with h | ⟨h,_⟩
  · intro z;subst z;exact absurd h (by decide)
  · intro z;omega
theorem good_pp {w:Wd} {n:Nat} {r:Pcs} (hw:w.ok) (h0:∀ d,(blanks n++spr r)[0]?=some d→d=32∨d=44) (hr:GoodP r):GoodP (w.pp n++r):=by
  cases w with
  | nm x=>exact good_name hw h0 hr
  | nmc x =>
    refine good_name hw (fun d hd=>?_) (good_mark (by simp) hr)
    have e:(blanks 0++spr ((",",kvM ",",n) :: r))[0]?=some 44:=by
      show ((",":Str).cps.toList++(blanks n++spr r))[0]?=some 44
      rw [show (",":Str).cps.toList=[44] by decide +kernel];rfl
    have hd:(blanks 0++spr ((",",kvM ",",n) :: r))[0]?=some d:=hd
    rw [e] at hd;cases hd;exact .inr rfl
  | atn x=>exact good_mark (by simp) (good_name hw h0 hr)
  | num x=>exact good_num hw h0 hr
  | mk x=>exact good_mark (by have hw:x ∈ mkS:=hw;simp only [List.mem_cons,List.mem_nil_iff,or_false] at hw ⊢;rcases hw with h | h | h <;> simp [h]) hr
theorem good_prts:∀ (ws:List Wd) (w:Wd),w.ok→(∀ v ∈ ws,v.ok)→GoodP (prts w ws)
  | [],w,h,_=>by
    have:=good_pp (w:=w) (n:=0) (r:=[]) h (fun d hd=>by cases hd) trivial
    rw [List.append_nil] at this
    exact this
  | v :: r,w,h,hs=>good_pp h (fun d hd=>by cases hd;exact .inl rfl) (good_prts r v (hs v List.mem_cons_self) fun u hu=>hs u (List.mem_cons_of_mem _ hu))
def tkP:Pcs→Nat→List Tok
  | [],A=>[⟨"end",.str "",A⟩]
  | (y,k,n) :: r,A=>⟨k.1,k.2,A⟩ :: tkP r (A+y.length+n)
theorem lex_tk {x:Str} {f:Nat}:∀ (ps:Pcs) (A:List Nat),GoodP ps→x.cps.toList=A++spr ps→x.length+1≤f+A.length→lexN f x A.length=.inr (tkP ps A.length)
  | [],A,_,e,_=>by
    have lx:=len_list x
    rw [e] at lx
    have hA:A.length=x.length:=by rw [← lx];simp [spr]
    rw [hA]
    exact lex_end
  | (y,k,n) :: r,A,h,e,hf=>by
    obtain ⟨h1,h2,h3⟩:=h
    have ly:=len_list y
    have e0:x.cps.toList=A++(y.cps.toList++(blanks n++spr r)):=e
    have e1:x.cps.toList=A++y.cps.toList++(blanks n++spr r):=by rw [e0,List.append_assoc]
    have e2:x.cps.toList=(A++y.cps.toList)++blanks n++spr r:=by rw [e1];simp only [List.append_assoc]
    have l1:(A++y.cps.toList:List Nat).length=A.length+y.length:=by rw [List.length_append,ly]
    have l2:(A++y.cps.toList++blanks n:List Nat).length=A.length+y.length+n:=by rw [List.length_append,l1];simp [blanks]
    have t1:=lex_tk (f:=f) r (A++y.cps.toList++blanks n) h3 e2 (by rw [l2];omega)
    have z:=lex_blanks n f (A++y.cps.toList) (spr r) e2 (by rw [l1];omega)
    rw [l1] at z
    rw [l2] at t1
    rw [← z] at t1
    exact lex_step h1 (h2 x A e1) e1 hf t1
inductive PcKv:Str→Str→V→Prop
  | nm {y:Str}:NmF y→kept y=false→PcKv y "name" (.str y)
  | kp {y:Str}:NmF y→kept y=true→PcKv y "mark" (.str y)
  | mk {y:Str}:y ∈ mkT→PcKv y "mark" (.str y)
  | num {y:Str}:y ∈ numS→PcKv y "number" (.int (intW y))
theorem pc_name {x:Str} (h:NmF x):PcKv x (kvN x).1 (kvN x).2:=by
  unfold kvN
  cases e:kept x with
  | false=>exact .nm h e
  | true=>exact .kp h e
theorem pp_kv {w:Wd} (h:w.ok) (n:Nat):∀ p ∈ w.pp n,PcKv p.1 p.2.1.1 p.2.1.2:=by
  intro p hp
  cases w with
  | nm x=>rw [List.mem_singleton.mp hp];exact pc_name h
  | nmc x =>
    rcases List.mem_cons.mp hp with rfl | hp
    · exact pc_name h
    · rw [List.mem_singleton.mp hp];exact .mk (by simp)
  | atn x =>
    rcases List.mem_cons.mp hp with rfl | hp
    · exact .mk (by simp)
    · rw [List.mem_singleton.mp hp];exact pc_name h
  | num x=>rw [List.mem_singleton.mp hp];exact .num h
  | mk x=>rw [List.mem_singleton.mp hp];exact .mk (by have h:x ∈ mkS:=h;simp only [List.mem_cons,List.mem_nil_iff,or_false] at h ⊢;rcases h with h | h | h <;> simp [h])
theorem prts_kv:∀ (ws:List Wd) (w:Wd),w.ok→(∀ v ∈ ws,v.ok)→∀ p ∈ prts w ws,PcKv p.1 p.2.1.1 p.2.1.2
  | [],w,h,_,p,hp=>pp_kv h 0 p hp
  | v :: r,w,h,hs,p,hp=>by
    rcases List.mem_append.mp hp with hp | hp
    · exact pp_kv h 1 p hp
    · exact prts_kv r v (hs v List.mem_cons_self) (fun u hu=>hs u (List.mem_cons_of_mem _ hu)) p hp
def thP:Pcs→Nat→List (Str × Nat)
  | [],A=>[("",A)]
  | (y,_,n) :: r,A=>(y,A) :: thP r (A+y.length+n)
def wdP (ps:Pcs):List Str:=ps.map (·.1)++[("":Str)]
theorem thP_fst:∀ (ps:Pcs) (A:Nat),(thP ps A).map (·.1)=wdP ps
  | [],A=>rfl
  | (y,k,n) :: r,A=>by
    show y :: (thP r _).map (·.1)=y :: wdP r
    rw [thP_fst r]
theorem wdP_len (ps:Pcs):(wdP ps).length=ps.length+1:=by simp [wdP]
theorem tkP_len:∀ (ps:Pcs) (A:Nat),(tkP ps A).length=ps.length+1
  | [],A=>rfl
  | (y,k,n) :: r,A=>by simp [tkP,tkP_len r]
theorem thP_at:∀ (ps:Pcs) (A i:Nat),i < ps.length+1→∃ z,(thP ps A)[i]?=some (wAt (wdP ps) i,z)∧(tkA (tkP ps A) i).p=z
  | [],A,i,h=>by
    have:i=0:=by simpa using h
    subst this
    exact ⟨A,rfl,rfl⟩
  | (y,k,n) :: r,A,0,h=>⟨A,rfl,rfl⟩
  | (y,k,n) :: r,A,i+1,h=>thP_at r (A+y.length+n) i (by simpa using h)
theorem kv_at:∀ (ps:Pcs) (A i:Nat),(∀ p ∈ ps,PcKv p.1 p.2.1.1 p.2.1.2)→i < ps.length+1→(i=ps.length∧wAt (wdP ps) i=""∧(tkA (tkP ps A) i).k="end")∨(i < ps.length∧PcKv (wAt (wdP ps) i) (tkA (tkP ps A) i).k (tkA (tkP ps A) i).v)
  | [],A,i,_,h=>by
    have:i=0:=by simpa using h
    subst this
    exact .inl ⟨rfl,rfl,rfl⟩
  | (y,k,n) :: r,A,0,hk,h=>.inr ⟨by simp,hk _ List.mem_cons_self⟩
  | (y,k,n) :: r,A,i+1,hk,h=>by
    rcases kv_at r (A+y.length+n) i (fun p hp=>hk p (List.mem_cons_of_mem _ hp)) (by simpa using h) with ⟨h1,h2,h3⟩ | ⟨h1,h2⟩
    · exact .inl ⟨by simp [h1],h2,h3⟩
    · exact .inr ⟨by simp [h1],h2⟩
end My
namespace My
open PySem L2
def patF (h:Str):List Str:=if h="count" then ["count"] else [h,"NAME"]
def foldE (ws:List Str):Nat→Nat→Nat × Bool
  | 0,i=>(i,false)
  | n + 1, i =>
    if (fixE ws ["NAME","="] i).2=true then
      if wAt ws (fixE ws ["NAME","="] i).1 ∈ how5 then
        if (fixE ws (patF (wAt ws (fixE ws ["NAME","="] i).1)) (fixE ws ["NAME","="] i).1).2=true then
          if wAt ws (fixE ws (patF (wAt ws (fixE ws ["NAME","="] i).1)) (fixE ws ["NAME","="] i).1).1="," then foldE ws n ((fixE ws (patF (wAt ws (fixE ws ["NAME","="] i).1)) (fixE ws ["NAME","="] i).1).1+1)
          else byEnd ws (fixE ws (patF (wAt ws (fixE ws ["NAME","="] i).1)) (fixE ws ["NAME","="] i).1).1
        else ((fixE ws (patF (wAt ws (fixE ws ["NAME","="] i).1)) (fixE ws ["NAME","="] i).1).1,false)
      else ((fixE ws ["NAME","="] i).1,false)
    else ((fixE ws ["NAME","="] i).1,false)
theorem split_ne1:Txt.split "NAME =" " "=(["NAME","="]:List Str):=by decide +kernel
theorem two_ne:∀ k ∈ (["NAME","="]:List Str),k≠"":=by decide +kernel
theorem patF_ne:∀ h ∈ how5,∀ k ∈ patF h,k≠"":=by
  intro h hh
  simp only [List.mem_cons,List.mem_nil_iff,or_false] at hh
  rcases hh with rfl | rfl | rfl | rfl | rfl <;> decide +kernel
theorem patF_split:∀ h ∈ how5,Txt.split (if h="count" then h else h++" NAME") " "=patF h:=by
  intro h hh
  simp only [List.mem_cons,List.mem_nil_iff,or_false] at hh
  rcases hh with rfl | rfl | rfl | rfl | rfl <;> decide +kernel
theorem how5_len:∀ h ∈ how5,h.length≤6:=by decide +kernel
theorem patF_0:∀ h ∈ how5,∀ ws i,(fixE ws (patF h) i).2=true→i+1≤(fixE ws (patF h) i).1:=by
  intro h hh ws i
  unfold patF
  split
  · rw [fixE]
    split
    · rw [fixE];intro _;exact Nat.le_refl _
    · intro z;cases z
  · rw [fixE]
    split
    · rw [fixE]
      split
      · rw [fixE];intro _;exact Nat.le_succ _
      · intro z;cases z
    · intro z;cases z
theorem PlQ_of {H:Hp} {Q:VK} {ws ks ks':List Str} {i:Nat} (e:ks'=ks) (h:PlQ H Q (fixE ws ks i)):PlQ H Q (fixE ws ks' i):=by rw [e];exact h
section
variable {P:Program} {w:World} {K:PySem.W.Frag} {mg:Str→Option Value} {base:Heap} {a:Adr}
def spWFo:Sp:=fun vs H Q _=>∃ l ws i,vs=[.ref l,.int ((i:Nat):Int)]∧H l=some (.lst (ws.map V.str))∧WOk ws∧FOk ws∧i < ws.length∧PlQ H Q (foldE ws ws.length i)
theorem ok_fold_end (T:Txt K mg a):FnOk P w K mg base CX0 5 a.f_fold_end a.d_fold_end ["_law_words","_law_at"] spWFo:=by
  refine T.F_fold_end.ok sc_fold_end (fun vs H Q E h=>?_) (fun cdv A outer s H vs Q E hr h=>?_)
  · obtain ⟨_,_,_,rfl,_⟩:=h;rfl
  obtain ⟨l,ws,i,rfl,hl,hW,hF,hi,q⟩:=h
  refine ⟨_,(sC_ (zS_ (i:=2) sc_fold_end.nd rfl (by first | exact Or.inl rfl | exact Or.inr rfl) pe_bl) (sC_ (zS_ (i:=3) sc_fold_end.nd rfl (by first | exact Or.inl rfl | exact Or.inr rfl) pe_bl) (sC_ (ps_while PassesOwn.never (PW.pt (pw_and (pt_val (pv 2)) (pw_and1 (pt_val (pv 3))))) (sC_ (ps_asg (pL_ (ok_fixed T) (hr.mono (by decide)) rfl T.m_fixed T.F_fixed.kp T.b_fixed .nil pass0 (pC_ (pv 0) (pC_ (pv 1) (pC_ pS_ pa_nil)))) (pg_tup (n:=2) rfl (pgs_cons (pg_name (i:=1) sc_fold_end.nd rfl (by first | exact Or.inl rfl | exact Or.inr rfl)) (pgs_cons (pg_name (i:=2) sc_fold_end.nd rfl (by first | exact Or.inl rfl | exact Or.inr rfl)) pgs_nil)))) (sC_ (ps_if (pt_val (pv 2)) (sC_ (zS_ (i:=2) sc_fold_end.nd rfl (by first | exact Or.inl rfl | exact Or.inr rfl) (pR_ op_in_seq (pe_ix ix_list (pv 0) (pv 1) (fun _ _=>rfl)) (pe_tup (pC_ pS_ (pC_ pS_ (pC_ pS_ (pC_ pS_ (pC_ pS_ pa_nil)))))) (by with_unfolding_all rfl))) (sO_ (ps_if (pt_val (pv 2)) (sC_ (zS_ (i:=4) sc_fold_end.nd rfl (by first | exact Or.inl rfl | exact Or.inr rfl) (pe_ifExp (tR_ op_eq (pe_ix ix_list (pv 0) (pv 1) (fun _ _=>rfl)) pS_ (nM_ _)) (pe_ix ix_list (pv 0) (pv 1) (fun _ _=>rfl)) (pO_ op_add_str (pe_ix ix_list (pv 0) (pv 1) (fun _ _=>rfl)) pS_))) (sO_ (ps_asg (pL_ (ok_fixed T) (hr.mono (by decide)) rfl T.m_fixed T.F_fixed.kp T.b_fixed .nil pass0 (pC_ (pv 0) (pC_ (pv 1) (pC_ (pv 4) pa_nil)))) (pg_tup (n:=2) rfl (pgs_cons (pg_name (i:=1) sc_fold_end.nd rfl (by first | exact Or.inl rfl | exact Or.inr rfl)) (pgs_cons (pg_name (i:=2) sc_fold_end.nd rfl (by first | exact Or.inl rfl | exact Or.inr rfl)) pgs_nil)))))) pss_nil))) pss_nil) (sC_ (zS_ (i:=3) sc_fold_end.nd rfl (by first | exact Or.inl rfl | exact Or.inr rfl) (pe_and (pv 2) (pe_one (pR_ op_eq (pe_ix ix_list (pv 0) (pv 1) (fun _ _=>rfl)) pS_ (nM_ _))))) (sO_ (zS_ (i:=1) sc_fold_end.nd rfl (by first | exact Or.inl rfl | exact Or.inr rfl) (pO_ op_add (pv 1) (pT_ call_int1 rfl T.n_int (by decide +kernel) (pC_ (pv 3) pa_nil))))))))) (sO_ (ps_ret (pe_ifExp (pt_val (pv 2)) (pL_ (ok_law_by_end T) (hr.mono (by decide)) rfl T.m_by_end T.F_by_end.kp T.b_by_end .nil pass0 (pC_ (pv 0) (pC_ (pv 1) pa_nil))) (pe_tup (pC_ (pv 1) (pC_ pe_bl pa_nil))))))))),?_⟩
  show tSeq (tAsg (tC (V.bl true)) (gName 3)) _ _ [some (.ref l),some (.int ((i:Nat):Int)),some (.bl true),none,none] H
  show tSeq (tWhile _ _) _ _ [some (.ref l),some (.int ((i:Nat):Int)),some (.bl true),some (.bl true),none] H
  unfold tSeq
  refine while_by (fun σ H'=>∃ j m gd mr s4,σ=[some (.ref l),some (.int ((j:Nat):Int)),some (.bl gd),some (.bl mr),s4]∧Same H H'∧j < ws.length∧(gd=true→mr=true→ws.length≤m+j∧foldE ws ws.length i=foldE ws m j)∧(gd=true→mr=false→foldE ws ws.length i=byEnd ws j)∧(gd=false→foldE ws ws.length i=(j,false)))
    (fun σ _=>match σ with | [_,some (.int j),some (.bl gd),some (.bl mr),_]=>2 * (ws.length - j.toNat)+(if (gd&&mr)=true then 1 else 0) | _=>0) ⟨i,ws.length,true,true,none,rfl,Same.refl H,hi,(fun _ _=>⟨by omega,rfl⟩),(fun _ z=>nomatch z),(fun z=>nomatch z)⟩ (fun σ H' hP=>?_) (fun σ H' Q Q' hQ h=>?_)
  · obtain ⟨j, m, gd,mr,s4,rfl,g,hjl,h1,h2,h3⟩:=hP
    have hl':=g _ _ hl
    refine ⟨_,rfl,gd,rfl,?_⟩
    cases gd with
    | false =>
      have e:=h3 rfl
      rw [e] at q
      refine iteF (iteF ⟨_,rfl,false,rfl,iteF ⟨_,rfl,small (n:=2) (by decide),fun t ht=>?_⟩⟩)
      exact q t _ (g.trans (sN_ ht _)) uS_
    | true =>
      refine iteT ⟨_,rfl,mr,rfl,?_⟩
      cases mr with
      | false =>
        have e:=h2 rfl rfl
        rw [e] at q
        refine iteF ⟨_,rfl,true,rfl,iteT ⟨_,rfl,_,rfl,l,ws,j,rfl,hl',hW,hjl,fun t H2 g2=>q t H2 (g.trans g2)⟩⟩
      | true =>
        obtain ⟨hm,hZ⟩:=h1 rfl rfl
        obtain ⟨m,rfl⟩:∃ m',m=m'+1:=⟨m - 1,by omega⟩
        rw [foldE] at hZ
        have u1:=fixE_up hW ["NAME","="] j two_ne hjl
        refine iteT ⟨_,rfl,_,rfl,l,ws,j,"NAME =",rfl,hl',hW,hF,hjl,by decide +kernel,by rw [split_ne1];exact two_ne,?_⟩
        rw [split_ne1]
        generalize fixE ws ["NAME","="] j=e1 at *
        obtain ⟨j1,b1⟩:=e1
        intro t H1 g1 ht
        refine ⟨t,_,rfl,SqT.of ht,rfl,.int _,_,rfl,.bl _,[],rfl,rfl,?_⟩
        have gg:=g.trans g1
        have hl1:=gg _ _ hl
        refine ⟨_,rfl,b1,rfl,?_⟩
        cases b1 with
        | false =>
          refine iteF ⟨_,rfl,false,rfl,iteF ⟨_,rfl,_,rfl,.inr ⟨false,rfl,_,_,rfl,rfl,⟨j1,m,false,false,s4,by simp,gg,u1.2,(fun z=>nomatch z),(fun z=>nomatch z),fun _=>hZ⟩,?_⟩⟩⟩
          show 2 * (ws.length - ((j1:Int)+0).toNat)+0 < 2 * (ws.length - (j:Int).toNat)+1
          omega
        | true =>
          have u1:j≤j1∧j1 < ws.length:=u1
          rw [if_pos rfl] at hZ
          refine iteT ⟨_,rfl,_,rfl,l,_,_,_,rfl,rfl,SqL.of hl1,atI_nat (atW u1.2),small (n:=5) (by decide),fun t2 ht2=>?_⟩
          have g2:=sN_ ht2 (.tup [.str "count",.str "sum",.str "least",.str "most",.str "unlike"])
          have gg2:=gg.trans g2
          have hl2:=gg2 _ _ hl
          refine ⟨t2,_,rfl,.inr (SqT.of uS_),rfl,rfl,?_⟩
          have e5:inV (.str (wAt ws j1)) [.str "count",.str "sum",.str "least",.str "most",.str "unlike"]=decide (wAt ws j1 ∈ how5):=by
            have:=inV_str (wAt ws j1) how5
            rw [← this];rfl
          rw [e5]
          by_cases k5:wAt ws j1 ∈ how5
          · rw [decide_eq_true k5]
            rw [if_pos k5] at hZ
            have u2:=fixE_up hW (patF (wAt ws j1)) j1 (patF_ne _ k5) u1.2
            have u3:=patF_0 _ k5 ws j1
            have hsp:=patF_split _ k5
            have hle:=how5_len _ k5
            refine ⟨_,rfl,true,rfl,iteT ?_⟩
            have l5:(" NAME":Str).length=5:=by decide +kernel
            have hs1:decide (V.str (wAt ws j1)=V.str "count")=true→Txt.split (wAt ws j1) " "=patF (wAt ws j1):=fun kc=>by rw [if_pos (by simpa using kc)] at hsp;exact hsp
            have hs2:¬ decide (V.str (wAt ws j1)=V.str "count")=true→Txt.split (wAt ws j1++" NAME") " "=patF (wAt ws j1):=fun kc=>by rw [if_neg (by simpa using kc)] at hsp;exact hsp
            have hnx:∀ (j2:Nat) (b2:Bool),fixE ws (patF (wAt ws j1)) j1=(j2,b2)→(b2=false→foldE ws ws.length i=(j2,false))∧(b2=true→foldE ws ws.length i=if wAt ws j2="," then foldE ws m (j2+1) else byEnd ws j2):=fun j2 b2 e=>by
              have e1:(fixE ws (patF (wAt ws (j1,true).1)) (j1,true).1)=(j2,b2):=e
              rw [e1] at hZ
              exact ⟨fun z=>by rw [z] at hZ;exact hZ,fun z=>by rw [z] at hZ;exact hZ⟩
            refine ⟨_,rfl,_,rfl,l,_,_,_,rfl,rfl,SqL.of hl2,atI_nat (atW u1.2),rfl,_,rfl,ite2 (fun kc=>⟨_,rfl,_,rfl,l,_,_,_,rfl,rfl,SqL.of hl2,atI_nat (atW u1.2),_,rfl,_,rfl,_,rfl,l,ws,j1,_,rfl,hl2,hW,hF,u1.2,(Nat.le_trans hle (by decide)),(by rw [hs1 kc];exact patF_ne _ k5),PlQ_of (hs1 kc) ?_⟩) (fun kc=>⟨_,rfl,_,rfl,l,_,_,_,rfl,rfl,SqL.of hl2,atI_nat (atW u1.2),_,_,rfl,rfl,small (by rw [l5];have h6:(wAt ws j1).length≤6:=hle;exact Nat.le_trans (Nat.add_le_add_right h6 5) (by decide)),_,rfl,_,rfl,_,rfl,l,ws,j1,_,rfl,hl2,hW,hF,u1.2,(by rw [cL_,l5];have h6:(wAt ws j1).length≤6:=hle;exact Nat.le_trans (Nat.add_le_add_right h6 5) (by decide)),(by rw [hs2 kc];exact patF_ne _ k5),PlQ_of (hs2 kc) ?_⟩)⟩
            all_goals
              have u2:j1≤(fixE ws (patF (wAt ws j1)) j1).1∧(fixE ws (patF (wAt ws j1)) j1).1 < ws.length:=u2
              have u3:(fixE ws (patF (wAt ws j1)) j1).2=true→j1+1≤(fixE ws (patF (wAt ws j1)) j1).1:=u3
              generalize fixE ws (patF (wAt ws j1)) j1=e2 at u2 u3 hnx ⊢
              obtain ⟨j2,b2⟩:=e2
              intro t3 H3 g3 ht3
              refine ⟨t3,_,rfl,SqT.of ht3,rfl,.int _,_,rfl,.bl _,[],rfl,rfl,?_⟩
              have gg3:=gg2.trans g3
              have hl3:=gg3 _ _ hl
              have u2:j1≤j2∧j2 < ws.length:=u2
              refine ⟨_,rfl,b2,rfl,?_⟩
              cases b2 with
              | false =>
                refine iteF ⟨_,rfl,_,rfl,.inr ⟨false,rfl,_,_,rfl,rfl,⟨j2,m,false,false,_,(by simp;rfl),gg3,u2.2,(fun z=>nomatch z),(fun z=>nomatch z),fun _=>(hnx j2 false rfl).1 rfl⟩,?_⟩⟩
                show 2 * (ws.length - ((j2:Int)+0).toNat)+0 < 2 * (ws.length - (j:Int).toNat)+1
                omega
              | true =>
                have hz:=(hnx j2 true rfl).2 rfl
                have u3:j1+1≤j2:=u3 rfl
                refine iteT ⟨_,rfl,_,rfl,l,_,_,_,rfl,rfl,SqL.of hl3,atI_nat (atW u2.2),rfl,?_⟩
                by_cases kc:wAt ws j2=","
                · rw [if_pos kc] at hz
                  have hj3:=hW.more u2.2 (by rw [kc];decide +kernel)
                  have ed:decide (V.str (wAt ws j2)=V.str ",")=true:=decide_eq_true (by rw [kc])
                  rw [ed]
                  refine ⟨_,rfl,_,rfl,.inr ⟨true,rfl,_,_,rfl,rfl,⟨j2+1,m,true,true,_,(by simp;rfl),gg3,hj3,(fun _ _=>⟨by omega,hz⟩),(fun _ z=>nomatch z),fun z=>nomatch z⟩,?_⟩⟩
                  show 2 * (ws.length - ((j2:Int)+1).toNat)+1 < 2 * (ws.length - (j:Int).toNat)+1
                  omega
                · rw [if_neg kc] at hz
                  have ed:decide (V.str (wAt ws j2)=V.str ",")=false:=decide_eq_false (fun z=>kc (by injection z))
                  rw [ed]
                  refine ⟨_,rfl,_,rfl,.inr ⟨false,rfl,_,_,rfl,rfl,⟨j2,m,true,false,_,(by simp;rfl),gg3,u2.2,(fun _ z=>nomatch z),(fun _ _=>hz),fun z=>nomatch z⟩,?_⟩⟩
                  show 2 * (ws.length - ((j2:Int)+0).toNat)+0 < 2 * (ws.length - (j:Int).toNat)+1
                  omega
          · rw [decide_eq_false k5]
            rw [if_neg k5] at hZ
            refine ⟨_,rfl,false,rfl,iteF ?_⟩
            refine ⟨_,rfl,false,rfl,iteF ⟨_,rfl,_,rfl,.inr ⟨false,rfl,_,_,rfl,rfl,⟨j1,m,false,false,s4,by simp,gg2,u1.2,(fun z=>nomatch z),(fun z=>nomatch z),fun _=>hZ⟩,?_⟩⟩⟩
            show 2 * (ws.length - ((j1:Int)+0).toNat)+0 < 2 * (ws.length - (j:Int).toNat)+1
            omega
  · obtain ⟨v0,e0,b0,e1,h⟩:=h
    refine ⟨v0,e0,b0,e1,?_⟩
    cases b0 with
    | false=>exact hQ _ _ h
    | true =>
      obtain ⟨v1,f1,b1,f2,h⟩:=h
      exact ⟨v1,f1,b1,f2,hQ _ _ h⟩
end
end My
namespace My
open PySem L2
abbrev knownS:List Str:=["from","keep","drop","sort","first","every","sessions","join","fold"]
def plainK (k:Str):List Str:=if k="sort" then ["NAME","way"] else if k="first" then ["0"] else if k="every" then ["1"] else ["NAME","by","NAME","within","0"]
def sesE (ws:List Str) (i:Nat):Nat × Bool:=if (fixE ws ["0"] i).2=true then byEnd ws (fixE ws ["0"] i).1 else ((fixE ws ["0"] i).1,false)
def stE (ws:List Str) (i:Nat) (first:Bool):Nat × Bool :=
  if (decide (wAt ws i="from") != first)=true∨wAt ws i ∉ knownS then (i,false)
  else if wAt ws i="from"∧wAt ws (i+1)="all" then (i+1+1,true)
  else if wAt ws i="from"∧wAt ws (i+1)="@" then fixE ws ["NAME"] (i+1+1)
  else if wAt ws i ∈ (["from","keep","drop"]:List Str) then (nmEnd ws ws.length (i+1),decide (i+1 < nmEnd ws ws.length (i+1)))
  else if wAt ws i="sessions" then sesE ws (i+1)
  else if wAt ws i="fold" then foldE ws ws.length (i+1)
  else fixE ws (plainK (wAt ws i)) (i+1)
abbrev plainD:List (Key × V):=[(.inr "sort",.str "NAME way"),(.inr "first",.str "0"),(.inr "every",.str "1"),(.inr "join",.str "NAME by NAME within 0")]
theorem plainD_merge:mergeK [] plainD=plainD:=by decide +kernel
theorem plainD_get:∀ k ∈ (["sort","first","every","join"]:List Str),∃ p:Str,valV plainD (.inr k:Key)=some (.str p)∧Txt.split p " "=plainK k∧p.length≤100∧∀ k' ∈ plainK k,k'≠"":=by
  intro k hk
  simp only [List.mem_cons,List.mem_nil_iff,or_false] at hk
  rcases hk with rfl | rfl | rfl | rfl
  · exact ⟨"NAME way",rfl,by decide +kernel,by decide +kernel,by decide +kernel⟩
  · exact ⟨"0",rfl,by decide +kernel,by decide +kernel,by decide +kernel⟩
  · exact ⟨"1",rfl,by decide +kernel,by decide +kernel,by decide +kernel⟩
  · exact ⟨"NAME by NAME within 0",rfl,by decide +kernel,by decide +kernel,by decide +kernel⟩
theorem known_ne:∀ k ∈ knownS,k≠"":=by decide +kernel
section
variable {P:Program} {w:World} {K:PySem.W.Frag} {mg:Str→Option Value} {base:Heap} {a:Adr}
def spWS:Sp:=fun vs H Q _=>∃ l ws i fs,vs=[.ref l,.int ((i:Nat):Int),.bl fs]∧H l=some (.lst (ws.map V.str))∧WOk ws∧FOk ws∧i < ws.length∧PlQ H Q (stE ws i fs)
theorem ok_stage_end (T:Txt K mg a):FnOk P w K mg base CX0 6 a.f_stage_end a.d_stage_end ["_law_words","_law_at","_law_first"] spWS:=by
  refine T.F_stage_end.ok sc_stage_end (fun vs H Q E h=>?_) (fun cdv A outer s H vs Q E hr h=>?_)
  · obtain ⟨_,_,_,_,rfl,_⟩:=h;rfl
  obtain ⟨l,ws,i,fs,rfl,hl,hW,hF,hi,q⟩:=h
  have hu1:=hu_of hr
  refine ⟨_,(sC_ (zS_ (i:=3) sc_stage_end.nd rfl (by first | exact Or.inl rfl | exact Or.inr rfl) (pe_ix ix_list (pv 0) (pv 1) (fun _ _=>rfl))) (sC_ (zS_ (i:=4) sc_stage_end.nd rfl (by first | exact Or.inl rfl | exact Or.inr rfl) (pe_disp (pps_cons pS_ pS_ (pps_cons pS_ pS_ (pps_cons pS_ pS_ (pps_cons pS_ pS_ pps_nil)))) rfl rfl (by simp) (by decide))) (sC_ (zS_ (i:=5) sc_stage_end.nd rfl (by first | exact Or.inl rfl | exact Or.inr rfl) (pe_tup (pC_ pS_ (pC_ pS_ (pC_ pS_ (pC_ pS_ (pC_ pS_ (pC_ pS_ (pC_ pS_ (pC_ pS_ (pC_ pS_ pa_nil))))))))))) (sC_ (ps_if (PW.pt (pw_or (tR_ op_ne (pR_ op_eq (pv 3) pS_ (nM_ _)) (pv 2) (nM_ _)) (pw_or1 (tR_ op_notIn_seq (pv 3) (pv 5) (by with_unfolding_all rfl))))) (sO_ (ps_ret (pe_tup (pC_ (pv 1) (pC_ pe_bl pa_nil))))) pss_nil) (sC_ (zS_ (i:=1) sc_stage_end.nd rfl (by first | exact Or.inl rfl | exact Or.inr rfl) (pO_ op_add (pv 1) pI_)) (sC_ (ps_if (PW.pt (pw_and (tR_ op_eq (pv 3) pS_ (nM_ _)) (pw_and1 (tR_ op_eq (pe_ix ix_list (pv 0) (pv 1) (fun _ _=>rfl)) pS_ (nM_ _))))) (sO_ (ps_ret (pe_tup (pC_ (pO_ op_add (pv 1) pI_) (pC_ pe_bl pa_nil))))) pss_nil) (sC_ (ps_if (PW.pt (pw_and (tR_ op_eq (pv 3) pS_ (nM_ _)) (pw_and1 (tR_ op_eq (pe_ix ix_list (pv 0) (pv 1) (fun _ _=>rfl)) pS_ (nM_ _))))) (sO_ (ps_ret (pL_ (ok_fixed T) (hr.mono (by decide)) rfl T.m_fixed T.F_fixed.kp T.b_fixed .nil pass0 (pC_ (pv 0) (pC_ (pO_ op_add (pv 1) pI_) (pC_ pS_ pa_nil)))))) pss_nil) (sC_ (ps_if (tR_ op_in_seq (pv 3) (pe_tup (pC_ pS_ (pC_ pS_ (pC_ pS_ pa_nil)))) (by with_unfolding_all rfl)) (sO_ (ps_ret (pL_ (ok_law_names T) (hr.mono (by decide)) rfl T.m_names T.F_names.kp T.b_names .nil pass0 (pC_ (pv 0) (pC_ (pv 1) pa_nil))))) pss_nil) (sC_ (ps_if (tR_ op_eq (pv 3) pS_ (nM_ _)) (sC_ (ps_asg (pL_ (ok_fixed T) (hr.mono (by decide)) rfl T.m_fixed T.F_fixed.kp T.b_fixed .nil pass0 (pC_ (pv 0) (pC_ (pv 1) (pC_ pS_ pa_nil)))) (pg_tup (n:=2) rfl (pgs_cons (pg_name (i:=1) sc_stage_end.nd rfl (by first | exact Or.inl rfl | exact Or.inr rfl)) (pgs_cons (pg_name (i:=6) sc_stage_end.nd rfl (by first | exact Or.inl rfl | exact Or.inr rfl)) pgs_nil)))) (sO_ (ps_ret (pe_ifExp (pt_val (pv 6)) (pL_ (ok_law_by_end T) (hr.mono (by decide)) rfl T.m_by_end T.F_by_end.kp T.b_by_end .nil pass0 (pC_ (pv 0) (pC_ (pv 1) pa_nil))) (pe_tup (pC_ (pv 1) (pC_ pe_bl pa_nil))))))) pss_nil) (sO_ (ps_ret (pe_ifExp (tR_ op_eq (pv 3) pS_ (nM_ _)) (pL_ (ok_fold_end T) (hr.mono (by decide)) rfl T.m_fold_end T.F_fold_end.kp T.b_fold_end .nil pass0 (pC_ (pv 0) (pC_ (pv 1) pa_nil))) (pL_ (ok_fixed T) (hr.mono (by decide)) rfl T.m_fixed T.F_fixed.kp T.b_fixed .nil pass0 (pC_ (pv 0) (pC_ (pv 1) (pC_ (pe_dget hu1 (pv 4) (pv 3) (fun _ _=>rfl)) pa_nil)))))))))))))))),?_⟩
  refine ⟨_,rfl,_,rfl,l,_,_,_,rfl,rfl,SqL.of hl,atI_nat (atW hi),?_⟩
  have hk:=known_ne
  intro d hd
  refine ⟨uS_,plainD,rfl,by decide,?_⟩
  rw [plainD_merge]
  have gd:=sN_ hd (.dK plainD)
  have eH:upd (upd H d (.dK [])) d (.dK plainD)=upd H d (.dK plainD):=upd_upd
  rw [eH]
  refine ⟨small (n:=9) (by decide),fun t ht=>?_⟩
  have gt:=sN_ ht (.tup (knownS.map V.str))
  have g:=gd.trans gt
  have hl1:=g _ _ hl
  have hd1:=gt _ _ (uS_ (H:=H) (a:=d) (o:=.dK plainD))
  have rfl2:∀ (j:Nat) (b:Bool) (H2:Hp),Same H H2→stE ws i fs=(j,b)→∀ t,H2 t=none→Q (.ref t) (upd H2 t (.tup [.int (j:Int),.bl b])):=fun j b H2 g2 e t ht=>by
    rw [e] at q
    exact q t _ (g2.trans (sN_ ht _)) uS_
  have wn:wAt ws i ∈ knownS→i+1 < ws.length:=fun h=>hW.more hi (known_ne _ h)
  generalize hw:wAt ws i=k at *
  have ek:inV (.str k) (knownS.map V.str)=decide (k ∈ knownS):=inV_str k knownS
  refine ⟨_,rfl,rfl,_,rfl,rfl,_,rfl,ite2 (fun c1=>?_) (fun c1=>?_)⟩
  · have c1':(decide (k="from") != fs)=true:=by
      have c2:(!decide (V.bl (decide (V.str k=V.str "from"))=V.bl fs))=true:=c1
      have e:decide (V.str k=V.str "from")=decide (k="from"):=by rw [Bool.eq_iff_iff];simp
      rw [e] at c2
      cases h:decide (k="from") <;> cases fs <;> simp [h] at c2 ⊢
    refine iteT ⟨_,rfl,small (n:=2) (by decide),fun t2 ht2=>?_⟩
    exact rfl2 i false _ g (by unfold stE;rw [hw,if_pos (.inl c1')]) t2 ht2
  have c1':¬ (decide (k="from") != fs)=true:=by
    have c2:¬ (!decide (V.bl (decide (V.str k=V.str "from"))=V.bl fs))=true:=c1
    have e:decide (V.str k=V.str "from")=decide (k="from"):=by rw [Bool.eq_iff_iff];simp
    rw [e] at c2
    cases h:decide (k="from") <;> cases fs <;> simp [h] at c2 ⊢
  refine ⟨_,rfl,_,rfl,t,_,rfl,.inr (SqT.of uS_),rfl,rfl,_,rfl,ite2 (fun c2=>?_) (fun c2=>?_)⟩
  · have c2:(!inV (.str k) (knownS.map V.str))=true:=c2
    rw [ek] at c2
    have c2:k ∉ knownS:=by simpa using c2
    refine ⟨_,rfl,small (n:=2) (by decide),fun t2 ht2=>?_⟩
    exact rfl2 i false _ g (by unfold stE;rw [hw,if_pos (.inr c2)]) t2 ht2
  have c2:¬ (!inV (.str k) (knownS.map V.str))=true:=c2
  rw [ek] at c2
  have c2:k ∈ knownS:=Decidable.byContradiction fun z=>c2 (by rw [decide_eq_false z];rfl)
  have hz:stE ws i fs=if k="from"∧wAt ws (i+1)="all" then (i+1+1,true)
      else if k="from"∧wAt ws (i+1)="@" then fixE ws ["NAME"] (i+1+1)
      else if k ∈ (["from","keep","drop"]:List Str) then (nmEnd ws ws.length (i+1),decide (i+1 < nmEnd ws ws.length (i+1)))
      else if k="sessions" then sesE ws (i+1)
      else if k="fold" then foldE ws ws.length (i+1)
      else fixE ws (plainK k) (i+1):=by
    unfold stE
    rw [hw,if_neg (fun z=>z.elim c1' (fun z=>z c2))]
  have hi1:=wn c2
  refine ⟨_,rfl,_,_,rfl,rfl,?_⟩
  have dk:∀ y:Str,decide (V.str k=V.str y)=decide (k=y):=fun y=>by rw [Bool.eq_iff_iff];simp
  have pl:∀ (H2:Hp),Same H H2→∀ z,stE ws i fs=z→PlQ H2 Q z:=fun H2 g2 z e t H3 g3 ht=>by
    rw [e] at q
    exact q t H3 (g2.trans g3) ht
  have kd:inV (.str k) ([.str "from",.str "keep",.str "drop"]:List V)=decide (k ∈ (["from","keep","drop"]:List Str)):=by
    have:=inV_str k ["from","keep","drop"]
    rw [← this];rfl
  by_cases c3:k="from"
  · have e3:decide (V.str k=V.str "from")=true:=by rw [dk,decide_eq_true c3]
    refine ⟨_,rfl,rfl,_,rfl,?_⟩
    rw [e3]
    refine iteT ⟨_,rfl,_,rfl,l,_,_,_,rfl,rfl,SqL.of hl1,atI_nat (atW hi1),rfl,_,rfl,ite2 (fun c4=>?_) (fun c4=>?_)⟩
    · have c4:wAt ws (i+1)="all":=by simpa using c4
      rw [if_pos ⟨c3,c4⟩] at hz
      refine ⟨_,rfl,_,_,rfl,rfl,small (n:=2) (by decide),fun t2 ht2=>?_⟩
      exact rfl2 (i+1+1) true _ g hz t2 ht2
    have c4:¬ wAt ws (i+1)="all":=by simpa using c4
    rw [if_neg (fun z=>c4 z.2)] at hz
    refine ⟨_,rfl,rfl,_,rfl,?_⟩
    rw [e3]
    refine iteT ⟨_,rfl,_,rfl,l,_,_,_,rfl,rfl,SqL.of hl1,atI_nat (atW hi1),rfl,_,rfl,ite2 (fun c5=>?_) (fun c5=>?_)⟩
    · have c5:wAt ws (i+1)="@":=by simpa using c5
      rw [if_pos ⟨c3,c5⟩] at hz
      have hi2:=hW.more hi1 (by rw [c5];decide +kernel)
      refine ⟨_,rfl,_,rfl,_,_,rfl,rfl,l,ws,i+1+1,"NAME",rfl,hl1,hW,hF,hi2,by decide +kernel,by decide +kernel,?_⟩
      exact PlQ_of (by decide +kernel) (pl _ g _ hz)
    have c5:¬ wAt ws (i+1)="@":=by simpa using c5
    rw [if_neg (fun z=>c5 z.2),if_pos (by rw [c3];decide +kernel)] at hz
    refine ⟨_,rfl,small (n:=3) (by decide),fun t2 ht2=>?_⟩
    have g2:=sN_ ht2 (.tup [.str "from",.str "keep",.str "drop"])
    refine ⟨t2,_,rfl,.inr (SqT.of uS_),rfl,rfl,_,rfl,?_⟩
    refine ite2 (fun c6=>?_) (fun c6=>absurd (show inV (.str k) ([.str "from",.str "keep",.str "drop"]:List V)=true by rw [kd,c3];decide +kernel) c6)
    exact ⟨_,rfl,_,rfl,l,ws,i+1,rfl,g2 _ _ hl1,hW,hi1,pl _ (g.trans g2) _ hz⟩
  · have e3:decide (V.str k=V.str "from")=false:=by rw [dk,decide_eq_false c3]
    rw [if_neg (fun z=>c3 z.1),if_neg (fun z=>c3 z.1)] at hz
    refine ⟨_,rfl,rfl,_,rfl,?_⟩
    rw [e3]
    refine iteF ?_
    refine ⟨_,rfl,rfl,_,rfl,?_⟩
    rw [e3]
    refine iteF ?_
    refine ⟨_,rfl,small (n:=3) (by decide),fun t2 ht2=>?_⟩
    have g2:=sN_ ht2 (.tup [.str "from",.str "keep",.str "drop"])
    have gg:=g.trans g2
    have hl2:=g2 _ _ hl1
    have hd2:=g2 _ _ hd1
    refine ⟨t2,_,rfl,.inr (SqT.of uS_),rfl,rfl,_,rfl,ite2 (fun c6=>?_) (fun c6=>?_)⟩
    · have c6:inV (.str k) ([.str "from",.str "keep",.str "drop"]:List V)=true:=c6
      rw [kd] at c6
      rw [if_pos (of_decide_eq_true c6)] at hz
      exact ⟨_,rfl,_,rfl,l,ws,i+1,rfl,hl2,hW,hi1,pl _ gg _ hz⟩
    have c6:¬ inV (.str k) ([.str "from",.str "keep",.str "drop"]:List V)=true:=c6
    rw [kd] at c6
    have c6:k ∉ (["from","keep","drop"]:List Str):=fun z=>c6 (decide_eq_true z)
    rw [if_neg c6] at hz
    refine ⟨_,rfl,rfl,_,rfl,ite2 (fun c7=>?_) (fun c7=>?_)⟩
    · have c7:k="sessions":=by simpa using c7
      rw [if_pos c7] at hz
      unfold sesE at hz
      have u1:=fixE_up hW ["0"] (i+1) (by decide +kernel) hi1
      refine ⟨_,rfl,_,rfl,l,ws,i+1,"0",rfl,hl2,hW,hF,hi1,by decide +kernel,by decide +kernel,PlQ_of (ks:=["0"]) (by decide +kernel) ?_⟩
      generalize fixE ws ["0"] (i+1)=e1 at *
      obtain ⟨j1,b1⟩:=e1
      intro t3 H3 g3 ht3
      have gg3:=gg.trans g3
      refine ⟨t3,_,rfl,SqT.of ht3,rfl,.int _,_,rfl,.bl _,[],rfl,rfl,?_⟩
      refine ⟨_,rfl,b1,rfl,?_⟩
      cases b1 with
      | true=>exact iteT ⟨_,rfl,_,rfl,l,ws,j1,rfl,g3 _ _ hl2,hW,u1.2,pl _ gg3 _ hz⟩
      | false =>
        refine iteF ⟨_,rfl,small (n:=2) (by decide),fun t4 ht4=>?_⟩
        exact rfl2 j1 false _ gg3 hz t4 ht4
    have c7:¬ k="sessions":=by simpa using c7
    rw [if_neg c7] at hz
    refine ⟨_,rfl,rfl,_,rfl,ite2 (fun c8=>?_) (fun c8=>?_)⟩
    · have c8:k="fold":=by simpa using c8
      rw [if_pos c8] at hz
      exact ⟨_,rfl,_,rfl,l,ws,i+1,rfl,hl2,hW,hF,hi1,pl _ gg _ hz⟩
    have c8:¬ k="fold":=by simpa using c8
    rw [if_neg c8] at hz
    have c9:k ∈ (["sort","first","every","join"]:List Str):=by
      simp only [List.mem_cons,List.mem_nil_iff,or_false] at c2 c6 ⊢
      rcases c2 with h | h | h | h | h | h | h | h | h
      · exact absurd h c3
      · exact absurd (.inr (.inl h)) c6
      · exact absurd (.inr (.inr h)) c6
      · exact .inl h
      · exact .inr (.inl h)
      · exact .inr (.inr (.inl h))
      · exact absurd h c7
      · exact .inr (.inr (.inr h))
      · exact absurd h c8
    obtain ⟨p,p1,p2,p3,p4⟩:=plainD_get k c9
    have hg:DGet (upd (upd (upd H d (.dK plainD)) t (.tup (knownS.map V.str))) t2 (.tup [.str "from",.str "keep",.str "drop"])) d (kV (.inr k)) (some (.str p)):=by rw [← p1];exact DGet.k hd2
    exact ⟨_,rfl,_,rfl,_,rfl,_,rfl,d,_,rfl,hg,l,ws,i+1,p,rfl,hl2,hW,hF,hi1,p3,by rw [p2];exact p4,PlQ_of p2 (pl _ gg _ hz)⟩
end
end My
namespace My
open PySem L2
theorem split_okL {z y:Str} {H:Hp} {Q:VK} (h0:(y.length == 0)=false) (hz:z.length≤9000) (q:∀ p,H p=none→Q (.ref p) (upd H p (.lst ((Txt.split z y).map V.str)))):rSplit (.str z) [.str y] H Q :=
  ⟨z,y,rfl,rfl,h0,line_ok (by omega),by rw [parts_len];have:=StrLaws.occ_length_le z y 0 z.length (z.length+1);exact line_ok (by omega),by have:=split_many z y;exact line_ok (by omega),q⟩
def Wd.ths:Wd→Nat→List (Str × Nat)
  | .nm x,A=>[(x,A)]
  | .nmc x,A=>[(x,A),(",",A+x.length)]
  | .atn x,A=>[("@",A),(x,A+1)]
  | .num x,A=>[(x,A)]
  | .mk x,A=>[(x,A)]
def cutL:List Wd→Nat→List (Str × Nat)
  | [],_=>[]
  | w :: r,A=>w.ths A++cutL r (A+w.txt.length+1)
theorem one_c:(",":Str).length=1∧("@":Str).length=1:=by decide +kernel
theorem thP_pp (w:Wd) (n:Nat) (r:Pcs) (A:Nat):thP (w.pp n++r) A=w.ths A++thP r (A+w.txt.length+n):=by
  obtain ⟨c1,c2⟩:=one_c
  cases w with
  | nm x=>rfl
  | nmc x =>
    show (x,A) :: ((",": Str),A+x.length+0) :: thP r (A+x.length+0+(",": Str).length+n)=(x,A) :: ((",": Str),A+x.length) :: thP r (A+(x++",":Str).length+n)
    rw [cL_,c1];rfl
  | atn x =>
    show (("@":Str),A) :: (x,A+("@":Str).length+0) :: thP r (A+("@":Str).length+0+x.length+n)=(("@":Str),A) :: (x,A+1) :: thP r (A+("@"++x:Str).length+n)
    rw [cL_,c2]
    have:A+1+0+x.length+n=A+(1+x.length)+n:=by omega
    rw [this]
  | num x=>rfl
  | mk x=>rfl
def lenJ:Wd→List Wd→Nat
  | w,[]=>w.txt.length
  | w,v :: r=>w.txt.length+1+lenJ v r
theorem thP_prts:∀ (ws:List Wd) (w:Wd) (A:Nat),thP (prts w ws) A=cutL (w :: ws) A++[(("":Str),A+lenJ w ws)]
  | [],w,A=>by
    have:=thP_pp w 0 [] A
    rw [List.append_nil] at this
    show thP (w.pp 0) A=_
    rw [this]
    show w.ths A++[(("":Str),A+w.txt.length+0)]=(w.ths A++[])++[(("":Str),A+w.txt.length)]
    rw [List.append_nil];rfl
  | v :: r,w,A=>by
    show thP (w.pp 1++prts v r) A=_
    rw [thP_pp,thP_prts r v]
    show w.ths A++(cutL (v :: r) _++[(("":Str),A+w.txt.length+1+lenJ v r)])=(w.ths A++cutL (v :: r) (A+w.txt.length+1))++[(("":Str),A+(w.txt.length+1+lenJ v r))]
    rw [List.append_assoc]
    have:A+w.txt.length+1+lenJ v r=A+(w.txt.length+1+lenJ v r):=by omega
    rw [this]
structure TxW (x:Str) (w:Wd) (ws:List Wd):Prop where
  ok:w.ok
  al:∀ v ∈ ws,v.ok
  ch:x.cps.toList=joinL 32 w.txt.cps.toList (ws.map fun v=>v.txt.cps.toList)
theorem nsg_32 {c:Nat} (h:nsg c=true):c≠32:=fun z=>by rw [z] at h;exact absurd h (by decide)
theorem wd_no32 {w:Wd} (h:w.ok):32 ∉ w.txt.cps.toList:=by
  cases w with
  | nm x=>exact fun z=>nsg_32 (h.al _ z) rfl
  | nmc x =>
    intro z
    have z:32 ∈ (x++",":Str).cps.toList:=z
    rw [cat_l] at z
    rcases List.mem_append.mp z with z | z
    · exact nsg_32 (h.al _ z) rfl
    · exact absurd z (by decide +kernel)
  | atn x =>
    intro z
    have z:32 ∈ ("@"++x:Str).cps.toList:=z
    rw [cat_l] at z
    rcases List.mem_append.mp z with z | z
    · exact absurd z (by decide +kernel)
    · exact nsg_32 (h.al _ z) rfl
  | num x =>
    have:∀ x ∈ numS,32 ∉ x.cps.toList:=by decide +kernel
    exact this x h
  | mk x =>
    have:∀ x ∈ mkS,32 ∉ x.cps.toList:=by decide +kernel
    exact this x h
theorem blank_l:(" ":Str).cps.toList=[32]:=by decide +kernel
theorem TxW.eq {x:Str} {w:Wd} {ws:List Wd} (h:TxW x w ws):x=Txt.join " " (w.txt :: ws.map Wd.txt):=by
  apply str_ext
  rw [h.ch,join_list blank_l,List.map_map]
  rfl
theorem TxW.split {x:Str} {w:Wd} {ws:List Wd} (h:TxW x w ws):Txt.split x " "=(w :: ws).map Wd.txt:=by
  rw [h.eq,List.map_cons]
  refine split_join blank_l (by decide +kernel) (fun r hr=>?_)
  rcases List.mem_cons.mp hr with rfl | hr
  · exact wd_no32 h.ok
  · obtain ⟨v,hv,rfl⟩:=List.mem_map.mp hr
    exact wd_no32 (h.al v hv)
theorem joinL_len:∀ (ws:List Wd) (w:Wd),(joinL 32 w.txt.cps.toList (ws.map fun v=>v.txt.cps.toList)).length=lenJ w ws
  | [],w=>by
    show (w.txt.cps.toList++[]).length=w.txt.length
    rw [List.append_nil,len_list]
  | v :: r,w=>by
    have:=joinL_len r v
    unfold joinL at this ⊢
    rw [List.map_cons,List.flatMap_cons]
    simp only [List.length_append,List.length_cons,len_list] at this ⊢
    rw [lenJ]
    omega
theorem TxW.len {x:Str} {w:Wd} {ws:List Wd} (h:TxW x w ws):x.length=lenJ w ws:=by
  rw [← joinL_len,← h.ch,len_list]
theorem seq_set {i:Nat} {v:V} {rest:TS} {D:Ends} {σ:St} {H:Hp} (h:rest D (σ.set i (some v)) H):tSeq (tAsg (tC v) (gName i)) rest D σ H:=h
theorem seq_lst0 {i:Nat} {rest:TS} {D:Ends} {σ:St} {H:Hp} (h:∀ f,H f=none→rest D (σ.set i (some (.ref f))) (upd H f (.lst []))):tSeq (tAsg (tLst tNil) (gName i)) rest D σ H:=⟨small (n:=0) (by decide),fun f hf=>h f hf⟩
theorem ths_len (w:Wd) (A:Nat):(w.ths A).length≤2:=by cases w <;> simp [Wd.ths]
theorem cutL_len:∀ (ws:List Wd) (A:Nat),(cutL ws A).length≤2 * ws.length
  | [],_=>Nat.le_refl _
  | w :: r,A=>by
    have h1:=ths_len w A
    have h2:=cutL_len r (A+w.txt.length+1)
    rw [cutL,List.length_append,List.length_cons]
    omega
def ThA (H:Hp) (v:V) (t:Str × Nat):Prop:=∃ p,v=.ref p∧H p=some (.tup [.str t.1,.int ((t.2:Nat):Int)])
structure Fnd (H0:Hp) (f:Addr) (H:Hp) (ts:List (Str × Nat)):Prop where
  ke:∀ b u,b≠f→H0 b=some u→H b=some u
  li:∃ xs,H f=some (.lst xs)∧Paired (ThA H) xs ts
theorem ThA.keep {H H':Hp} (g:∀ b xs,H b=some (.tup xs)→H' b=some (.tup xs)) {v:V} {t:Str × Nat} (h:ThA H v t):ThA H' v t:=let ⟨p,e,q⟩:=h;⟨p,e,g _ _ q⟩
theorem app_ok {K0:PySem.W.Frag} {D:Ends} {σ:St} {H H0:Hp} {f:Addr} {ts:List (Str × Nat)} {y:Str} {p:Nat} {ty tp:TE} (h1:σ[1]?=some (some (.ref f))) (hF:Fnd H0 f H ts) (hl:ts.length≤20000) (hy:∀ Q:VK,Q (.str y) H→ty σ H Q) (hp:∀ Q:VK,Q (.int (p:Int)) H→tp σ H Q)
    (q:∀ H',Fnd H0 f H' (ts++[(y,p)])→D.nx σ H'):tDrop (tBM K0 "list" rAppend (tVar 1) (tCons (tTup (tCons ty (tCons tp tNil))) tNil)) D σ H:=by
  obtain ⟨xs,e1,e2⟩:=hF.li
  have lx:=e2.length
  refine ⟨_,h1,.inl ⟨rfl,_,SqL.of e1⟩,?_⟩
  refine hy _ (hp _ ⟨small (n:=2) (by decide),fun t ht=>?_⟩)
  have gt:=sN_ ht (.tup [.str y,.int (p:Int)])
  have htf:t≠f:=fun z=>by rw [z,e1] at ht;cases ht
  refine ⟨f,xs,_,rfl,rfl,gt _ _ e1,Nat.lt_of_le_of_lt (show xs.length≤20000 by omega) (by rw [sizeLine_eq];decide),?_⟩
  have kp:∀ b ys,(upd H t (.tup [.str y,.int (p:Int)])) b=some (.tup ys)→(upd (upd H t (.tup [.str y,.int (p:Int)])) f (.lst (xs++[.ref t]))) b=some (.tup ys):=fun b ys e=>by rw [upd_ne (ne_of e (gt _ _ e1) fun z=>nomatch z)];exact e
  refine q _ ⟨fun b u hb e=>?_,xs++[.ref t],uS_,Paired.snoc (Paired.mapP e2 fun _ _ z=>(z.keep fun b ys e=>gt _ _ e).keep kp) ⟨t,rfl,kp _ _ uS_⟩⟩
  rw [upd_ne hb]
  exact gt _ _ (hF.ke b u hb e)
theorem cut_a {K0:PySem.W.Frag} {D:Ends} {rest:TS} {s0:Option V} {f:Addr} {A:Nat} {x:Str} {H H0:Hp} {ts:List (Str × Nat)} (hF:Fnd H0 f H ts) (hl:ts.length≤20000) (hx:x.length≤sizeLine)
    (h1:fst1 x="@"→∀ H',Fnd H0 f H' (ts++[(("@":Str),A)])→rest D [s0,some (.ref f),some (.int ((A:Nat):Int)),some (.str x),some (.str (Txt.slice x (some 1) none))] H')
    (h0:fst1 x≠"@"→rest D [s0,some (.ref f),some (.int ((A:Nat):Int)),some (.str x),some (.str x)] H) :
    tSeq (tIfS (tTest (tOp rEq (tSl rSlS (tVar 4) tNoPart (tPart (tC (V.int 1)))) (tC (V.str "@")))) (tSeq (tDrop (tBM K0 "list" rAppend (tVar 1) (tCons (tTup (tCons (tC (V.str "@")) (tCons (tVar 2) tNil))) tNil))) (tAsg (tSl rSlS (tVar 4) (tPart (tC (V.int 1))) tNoPart) (gName 4))) tNext) rest D [s0,some (.ref f),some (.int ((A:Nat):Int)),some (.str x),some (.str x)] H:=by
  refine ⟨_,rfl,_,rfl,x,rfl,hx,rfl,_,rfl,ite2 (fun k=>?_) (fun k=>?_)⟩
  · have k:fst1 x="@":=by simpa [fst1] using k
    refine app_ok rfl hF hl (fun Q z=>z) (fun Q z=>⟨_,rfl,z⟩) fun H' hF'=>?_
    exact ⟨_,rfl,_,rfl,x,rfl,hx,h1 k H' hF'⟩
  · exact h0 (by simpa [fst1] using k)
structure Rst (r:Str):Prop where
  nc:r≠","
  ne:r≠""
  ls:∃ c,atI r.cps.toList (-1)=some c∧c≠44
theorem comma_one:(",":Str)=⟨#[44]⟩:=by decide +kernel
theorem cut_b {K0:PySem.W.Frag} {D:Ends} {rest:TS} {s0:Option V} {f:Addr} {A p:Nat} {x r:Str} {H H0:Hp} {ts:List (Str × Nat)} (hF:Fnd H0 f H ts) (hl:ts.length≤20000) (hx:x.length≤sizeLine) (hr:r.length≤sizeLine) (hR:Rst r) (hp:p+r.length=A+x.length)
    (h:∀ H',Fnd H0 f H' (ts++[(r,p)])→rest D [s0,some (.ref f),some (.int ((A:Nat):Int)),some (.str x),some (.str r)] H') :
    tSeq (tIfS (tTest (tOp rEq (tVar 4) (tC (V.str ",")))) (tDrop (tBM K0 "list" rAppend (tVar 1) (tCons (tTup (tCons (tC (V.str ",")) (tCons (tVar 2) tNil))) tNil))) (tIfS (tAnd (tTest (tOp rNe (tVar 4) (tC (V.str "")))) (tTest (tOp rEq (tOp rIxS (tVar 4) (tUn (rU fun i=>V.int (-i)) (tC (V.int 1)))) (tC (V.str ","))))) (tSeq (tDrop (tBM K0 "list" rAppend (tVar 1) (tCons (tTup (tCons (tSl rSlS (tVar 4) tNoPart (tPart (tUn (rU fun i=>V.int (-i)) (tC (V.int 1))))) (tCons (tOp (rI0 fun i j=>V.int (i - j)) (tOp (rI0 fun i j=>V.int (i+j)) (tVar 2) (tCB (fun xs H Q=>∃ z,xs=[V.str z]∧z.length≤sizeLine∧Q (V.int ↑z.length) H) (tCons (tVar 3) tNil))) (tCB (fun xs H Q=>∃ z,xs=[V.str z]∧z.length≤sizeLine∧Q (V.int ↑z.length) H) (tCons (tVar 4) tNil))) tNil))) tNil))) (tDrop (tBM K0 "list" rAppend (tVar 1) (tCons (tTup (tCons (tC (V.str ",")) (tCons (tOp (rI0 fun i j=>V.int (i - j)) (tOp (rI0 fun i j=>V.int (i+j)) (tVar 2) (tCB (fun xs H Q=>∃ z,xs=[V.str z]∧z.length≤sizeLine∧Q (V.int ↑z.length) H) (tCons (tVar 3) tNil))) (tC (V.int 1))) tNil))) tNil)))) (tIfS (tTest (tOp rNe (tVar 4) (tC (V.str "")))) (tDrop (tBM K0 "list" rAppend (tVar 1) (tCons (tTup (tCons (tVar 4) (tCons (tOp (rI0 fun i j=>V.int (i - j)) (tOp (rI0 fun i j=>V.int (i+j)) (tVar 2) (tCB (fun xs H Q=>∃ z,xs=[V.str z]∧z.length≤sizeLine∧Q (V.int ↑z.length) H) (tCons (tVar 3) tNil))) (tCB (fun xs H Q=>∃ z,xs=[V.str z]∧z.length≤sizeLine∧Q (V.int ↑z.length) H) (tCons (tVar 4) tNil))) tNil))) tNil))) tNext))) rest D [s0,some (.ref f),some (.int ((A:Nat):Int)),some (.str x),some (.str r)] H:=by
  obtain ⟨c,hc,hne⟩:=hR.ls
  refine ⟨_,rfl,rfl,_,rfl,ite2 (fun k=>absurd (by simpa using k) hR.nc) (fun k=>?_)⟩
  have e0:decide (V.str r=V.str "")=false:=decide_eq_false (fun z=>hR.ne (by injection z))
  refine ⟨_,rfl,rfl,_,rfl,ite2 (fun k=>?_) (fun k=>absurd (show (!decide (V.str r=V.str ""))=true by rw [e0];rfl) k)⟩
  refine ⟨_,rfl,_,rfl,r,_,c,rfl,rfl,hr,hc,rfl,_,rfl,ite2 (fun k=>?_) (fun k=>?_)⟩
  · exfalso
    have k:V.str ⟨#[c]⟩=V.str ",":=of_decide_eq_true k
    rw [comma_one] at k
    injection k with k
    injection k with k
    exact hne (by simpa using k)
  refine ⟨_,rfl,rfl,_,rfl,ite2 (fun k=>?_) (fun k=>absurd (show (!decide (V.str r=V.str ""))=true by rw [e0];rfl) k)⟩
  refine app_ok rfl hF hl (fun Q z=>⟨_,rfl,z⟩) (fun Q z=>⟨_,rfl,_,rfl,x,rfl,hx,_,_,rfl,rfl,_,rfl,r,rfl,hr,_,_,rfl,rfl,?_⟩) h
  show Q (.int (((A:Int)+(x.length:Int)) - (r.length:Int))) H
  have e:((A:Int)+(x.length:Int)) - (r.length:Int)=(p:Int):=by omega
  rw [e]
  exact z
theorem cut_c {K0:PySem.W.Frag} {D:Ends} {rest:TS} {s0:Option V} {f:Addr} {A:Nat} {x y:Str} {H H0:Hp} {ts:List (Str × Nat)} (hF:Fnd H0 f H ts) (hl:ts.length≤19000) (hx:x.length≤sizeLine) (hxy:x.cps.toList=y.cps.toList++[44]) (hy:y≠"") (hsl:Txt.slice x none (some (-1))=y)
    (h:∀ H',Fnd H0 f H' (ts++[(y,A),((",": Str),A+y.length)])→rest D [s0,some (.ref f),some (.int ((A:Nat):Int)),some (.str x),some (.str x)] H') :
    tSeq (tIfS (tTest (tOp rEq (tVar 4) (tC (V.str ",")))) (tDrop (tBM K0 "list" rAppend (tVar 1) (tCons (tTup (tCons (tC (V.str ",")) (tCons (tVar 2) tNil))) tNil))) (tIfS (tAnd (tTest (tOp rNe (tVar 4) (tC (V.str "")))) (tTest (tOp rEq (tOp rIxS (tVar 4) (tUn (rU fun i=>V.int (-i)) (tC (V.int 1)))) (tC (V.str ","))))) (tSeq (tDrop (tBM K0 "list" rAppend (tVar 1) (tCons (tTup (tCons (tSl rSlS (tVar 4) tNoPart (tPart (tUn (rU fun i=>V.int (-i)) (tC (V.int 1))))) (tCons (tOp (rI0 fun i j=>V.int (i - j)) (tOp (rI0 fun i j=>V.int (i+j)) (tVar 2) (tCB (fun xs H Q=>∃ z,xs=[V.str z]∧z.length≤sizeLine∧Q (V.int ↑z.length) H) (tCons (tVar 3) tNil))) (tCB (fun xs H Q=>∃ z,xs=[V.str z]∧z.length≤sizeLine∧Q (V.int ↑z.length) H) (tCons (tVar 4) tNil))) tNil))) tNil))) (tDrop (tBM K0 "list" rAppend (tVar 1) (tCons (tTup (tCons (tC (V.str ",")) (tCons (tOp (rI0 fun i j=>V.int (i - j)) (tOp (rI0 fun i j=>V.int (i+j)) (tVar 2) (tCB (fun xs H Q=>∃ z,xs=[V.str z]∧z.length≤sizeLine∧Q (V.int ↑z.length) H) (tCons (tVar 3) tNil))) (tC (V.int 1))) tNil))) tNil)))) (tIfS (tTest (tOp rNe (tVar 4) (tC (V.str "")))) (tDrop (tBM K0 "list" rAppend (tVar 1) (tCons (tTup (tCons (tVar 4) (tCons (tOp (rI0 fun i j=>V.int (i - j)) (tOp (rI0 fun i j=>V.int (i+j)) (tVar 2) (tCB (fun xs H Q=>∃ z,xs=[V.str z]∧z.length≤sizeLine∧Q (V.int ↑z.length) H) (tCons (tVar 3) tNil))) (tCB (fun xs H Q=>∃ z,xs=[V.str z]∧z.length≤sizeLine∧Q (V.int ↑z.length) H) (tCons (tVar 4) tNil))) tNil))) tNil))) tNext))) rest D [s0,some (.ref f),some (.int ((A:Nat):Int)),some (.str x),some (.str x)] H:=by
  have lx:=len_list x
  have ly:=len_list y
  have lxy:x.length=y.length+1:=by rw [← lx,hxy,List.length_append,ly];rfl
  have hy0:y.length≠0:=fun z=>hy (by
    have:y.cps.toList=[]:=List.length_eq_zero_iff.mp (by rw [ly];exact z)
    apply str_ext
    rw [this];decide +kernel)
  have l1:=one_c.1
  have hn1:x≠",":=fun z=>by rw [z] at lxy;omega
  have hn0:x≠"":=fun z=>by rw [z,show ("":Str).length=0 by decide +kernel] at lxy;omega
  have hat:atI x.cps.toList (-1)=some 44:=by
    unfold atI ixN
    rw [hxy]
    simp only [List.length_append,List.length_cons,List.length_nil]
    rw [if_neg (by decide),if_pos (by omega)]
    show (y.cps.toList++[44])[_]?=some 44
    rw [show ((-1:Int)+((y.cps.toList.length+(0+1):Nat):Int)).toNat=y.cps.toList.length by omega]
    simp
  refine ⟨_,rfl,rfl,_,rfl,ite2 (fun k=>absurd (by simpa using k) hn1) (fun k=>?_)⟩
  have e0:decide (V.str x=V.str "")=false:=decide_eq_false (fun z=>hn0 (by injection z))
  refine ⟨_,rfl,rfl,_,rfl,ite2 (fun k=>?_) (fun k=>absurd (show (!decide (V.str x=V.str ""))=true by rw [e0];rfl) k)⟩
  refine ⟨_,rfl,_,rfl,x,_,44,rfl,rfl,hx,hat,rfl,_,rfl,ite2 (fun k=>?_) (fun k=>absurd (by rw [comma_one];exact decide_eq_true rfl) k)⟩
  refine app_ok (p:=A) (y:=y) rfl hF (by omega) (fun Q z=>⟨_,rfl,_,rfl,_,rfl,x,rfl,hx,by rw [← hsl] at z;exact z⟩) (fun Q z=>⟨_,rfl,_,rfl,x,rfl,hx,_,_,rfl,rfl,_,rfl,x,rfl,hx,_,_,rfl,rfl,?_⟩) fun H' hF'=>?_
  · show Q (.int (((A:Int)+(x.length:Int)) - (x.length:Int))) H
    have e:((A:Int)+(x.length:Int)) - (x.length:Int)=(A:Int):=by omega
    rw [e]
    exact z
  refine app_ok (p:=A+y.length) (y:=",") rfl hF' (by simp;omega) (fun Q z=>z) (fun Q z=>⟨_,rfl,_,rfl,x,rfl,hx,_,_,rfl,rfl,_,_,rfl,rfl,?_⟩) fun H2 hF2=>h H2 (by rw [List.append_assoc] at hF2;exact hF2)
  show Q (.int (((A:Int)+(x.length:Int)) - 1)) H'
  have e:((A:Int)+(x.length:Int)) - 1=((A+y.length:Nat):Int):=by omega
  rw [e]
  exact z
theorem cut_d {K0:PySem.W.Frag} {D:Ends} {rest:TS} {s0:Option V} {f:Addr} {A:Nat} {x:Str} {H H0:Hp} {ts:List (Str × Nat)} (hF:Fnd H0 f H ts) (hl:ts.length≤19000) (hx:x=",")
    (h:∀ H',Fnd H0 f H' (ts++[((",": Str),A)])→rest D [s0,some (.ref f),some (.int ((A:Nat):Int)),some (.str x),some (.str x)] H') :
    tSeq (tIfS (tTest (tOp rEq (tVar 4) (tC (V.str ",")))) (tDrop (tBM K0 "list" rAppend (tVar 1) (tCons (tTup (tCons (tC (V.str ",")) (tCons (tVar 2) tNil))) tNil))) (tIfS (tAnd (tTest (tOp rNe (tVar 4) (tC (V.str "")))) (tTest (tOp rEq (tOp rIxS (tVar 4) (tUn (rU fun i=>V.int (-i)) (tC (V.int 1)))) (tC (V.str ","))))) (tSeq (tDrop (tBM K0 "list" rAppend (tVar 1) (tCons (tTup (tCons (tSl rSlS (tVar 4) tNoPart (tPart (tUn (rU fun i=>V.int (-i)) (tC (V.int 1))))) (tCons (tOp (rI0 fun i j=>V.int (i - j)) (tOp (rI0 fun i j=>V.int (i+j)) (tVar 2) (tCB (fun xs H Q=>∃ z,xs=[V.str z]∧z.length≤sizeLine∧Q (V.int ↑z.length) H) (tCons (tVar 3) tNil))) (tCB (fun xs H Q=>∃ z,xs=[V.str z]∧z.length≤sizeLine∧Q (V.int ↑z.length) H) (tCons (tVar 4) tNil))) tNil))) tNil))) (tDrop (tBM K0 "list" rAppend (tVar 1) (tCons (tTup (tCons (tC (V.str ",")) (tCons (tOp (rI0 fun i j=>V.int (i - j)) (tOp (rI0 fun i j=>V.int (i+j)) (tVar 2) (tCB (fun xs H Q=>∃ z,xs=[V.str z]∧z.length≤sizeLine∧Q (V.int ↑z.length) H) (tCons (tVar 3) tNil))) (tC (V.int 1))) tNil))) tNil)))) (tIfS (tTest (tOp rNe (tVar 4) (tC (V.str "")))) (tDrop (tBM K0 "list" rAppend (tVar 1) (tCons (tTup (tCons (tVar 4) (tCons (tOp (rI0 fun i j=>V.int (i - j)) (tOp (rI0 fun i j=>V.int (i+j)) (tVar 2) (tCB (fun xs H Q=>∃ z,xs=[V.str z]∧z.length≤sizeLine∧Q (V.int ↑z.length) H) (tCons (tVar 3) tNil))) (tCB (fun xs H Q=>∃ z,xs=[V.str z]∧z.length≤sizeLine∧Q (V.int ↑z.length) H) (tCons (tVar 4) tNil))) tNil))) tNil))) tNext))) rest D [s0,some (.ref f),some (.int ((A:Nat):Int)),some (.str x),some (.str x)] H:=by
  subst hx
  refine ⟨_,rfl,rfl,_,rfl,ite2 (fun k=>?_) (fun k=>absurd (decide_eq_true rfl) k)⟩
  exact app_ok rfl hF (by omega) (fun Q z=>z) (fun Q z=>⟨_,rfl,z⟩) h
theorem fst1_no {x:Str} {c:Nat} (h0:x.cps.toList[0]?=some c) (hc:c≠64):fst1 x≠"@":=by
  intro z
  have e:=congrArg (fun z:Str=>z.cps.toList) z
  cases e1:x.cps.toList with
  | nil=>rw [e1] at h0;cases h0
  | cons d r =>
    rw [e1] at h0
    have h0:d=c:=by simpa using h0
    subst h0
    have:=slice_to1 x
    rw [e1] at this
    have e:(Txt.slice x none (some 1)).cps.toList=("@":Str).cps.toList:=e
    rw [this,show ("@":Str).cps.toList=[64] by decide +kernel] at e
    injection e with e
    exact hc e
theorem atI_last {xs:List Nat} (hne:xs≠[]):∃ c,atI xs (-1)=some c∧c ∈ xs:=by
  have h1:xs.length≠0:=fun z=>hne (List.length_eq_zero_iff.mp z)
  have hlt:xs.length - 1 < xs.length:=by omega
  refine ⟨xs[xs.length - 1],?_,List.getElem_mem hlt⟩
  unfold atI ixN
  rw [if_neg (by decide),if_pos (by omega)]
  show xs[_]?=_
  rw [show ((-1:Int)+(xs.length:Int)).toNat=xs.length - 1 by omega]
  exact List.getElem?_eq_getElem hlt
theorem NmF.rst {x:Str} (h:NmF x):Rst x∧fst1 x≠"@"∧x.cps.toList≠[]:=by
  obtain ⟨c,hc,hl⟩:=h.fs
  have hne:x.cps.toList≠[]:=fun z=>by rw [z] at hc;cases hc
  obtain ⟨d,hd,hm⟩:=atI_last hne
  refine ⟨⟨fun z=>?_,fun z=>?_,d,hd,fun z=>?_⟩,fst1_no hc (let_32 hl).2.1,hne⟩
  · have:=h.al 44 (by rw [z];decide +kernel)
    exact absurd this (by decide)
  · rw [z] at hne;exact hne (by decide +kernel)
  · have:=h.al d hm
    rw [z] at this
    exact absurd this (by decide)
theorem num_rst:∀ x ∈ numS,Rst x∧fst1 x≠"@":=by
  intro x hx
  have h1:∀ x ∈ numS,x≠","∧x≠""∧x.cps.toList≠[]∧44 ∉ x.cps.toList∧fst1 x≠"@":=by decide +kernel
  obtain ⟨a,b,c,d,e⟩:=h1 x hx
  obtain ⟨q,hq,hm⟩:=atI_last c
  exact ⟨⟨a,b,q,hq,fun z=>d (z ▸ hm)⟩,e⟩
theorem mk_rst:∀ x ∈ mkS,fst1 x≠"@"∧(x≠","→Rst x):=by
  intro x hx
  have h1:∀ x ∈ mkS,fst1 x≠"@"∧x≠""∧x.cps.toList≠[]∧(x≠","→44 ∉ x.cps.toList):=by decide +kernel
  obtain ⟨a,b,c,d⟩:=h1 x hx
  obtain ⟨q,hq,hm⟩:=atI_last c
  exact ⟨a,fun h=>⟨h,b,q,hq,fun z=>d h (z ▸ hm)⟩⟩
theorem slice_neg1 {x y:Str} (h:x.cps.toList=y.cps.toList++[44]):Txt.slice x none (some (-1))=y:=by
  have z:Txt.slice x none (some (-1))=StrLaws.sliceText x none (some (-1)):=rfl
  have lx:=len_list x
  have h1:x.length=y.cps.toList.length+1:=by rw [← lx,h,List.length_append];rfl
  apply str_ext
  rw [z,StrLaws.sliceText_to_neg (by decide) (by omega)]
  show List.take _ _=_
  rw [List.drop_zero,h,show ((-1:Int)+(x.length:Int) - 0).toNat=y.cps.toList.length by omega,List.take_left']
  rfl
theorem cut_w {K0:PySem.W.Frag} {D:Ends} {rest:TS} {s0:Option V} {f:Addr} {A:Nat} {wd:Wd} {H H0:Hp} {ts:List (Str × Nat)} (hw:wd.ok) (hF:Fnd H0 f H ts) (hl:ts.length≤19000)
    (h:∀ y H',Fnd H0 f H' (ts++wd.ths A)→rest D [s0,some (.ref f),some (.int ((A:Nat):Int)),some (.str wd.txt),some (.str y)] H') :
    tSeq (tIfS (tTest (tOp rEq (tSl rSlS (tVar 4) tNoPart (tPart (tC (V.int 1)))) (tC (V.str "@")))) (tSeq (tDrop (tBM K0 "list" rAppend (tVar 1) (tCons (tTup (tCons (tC (V.str "@")) (tCons (tVar 2) tNil))) tNil))) (tAsg (tSl rSlS (tVar 4) (tPart (tC (V.int 1))) tNoPart) (gName 4))) tNext) (tSeq (tIfS (tTest (tOp rEq (tVar 4) (tC (V.str ",")))) (tDrop (tBM K0 "list" rAppend (tVar 1) (tCons (tTup (tCons (tC (V.str ",")) (tCons (tVar 2) tNil))) tNil))) (tIfS (tAnd (tTest (tOp rNe (tVar 4) (tC (V.str "")))) (tTest (tOp rEq (tOp rIxS (tVar 4) (tUn (rU fun i=>V.int (-i)) (tC (V.int 1)))) (tC (V.str ","))))) (tSeq (tDrop (tBM K0 "list" rAppend (tVar 1) (tCons (tTup (tCons (tSl rSlS (tVar 4) tNoPart (tPart (tUn (rU fun i=>V.int (-i)) (tC (V.int 1))))) (tCons (tOp (rI0 fun i j=>V.int (i - j)) (tOp (rI0 fun i j=>V.int (i+j)) (tVar 2) (tCB (fun xs H Q=>∃ z,xs=[V.str z]∧z.length≤sizeLine∧Q (V.int ↑z.length) H) (tCons (tVar 3) tNil))) (tCB (fun xs H Q=>∃ z,xs=[V.str z]∧z.length≤sizeLine∧Q (V.int ↑z.length) H) (tCons (tVar 4) tNil))) tNil))) tNil))) (tDrop (tBM K0 "list" rAppend (tVar 1) (tCons (tTup (tCons (tC (V.str ",")) (tCons (tOp (rI0 fun i j=>V.int (i - j)) (tOp (rI0 fun i j=>V.int (i+j)) (tVar 2) (tCB (fun xs H Q=>∃ z,xs=[V.str z]∧z.length≤sizeLine∧Q (V.int ↑z.length) H) (tCons (tVar 3) tNil))) (tC (V.int 1))) tNil))) tNil)))) (tIfS (tTest (tOp rNe (tVar 4) (tC (V.str "")))) (tDrop (tBM K0 "list" rAppend (tVar 1) (tCons (tTup (tCons (tVar 4) (tCons (tOp (rI0 fun i j=>V.int (i - j)) (tOp (rI0 fun i j=>V.int (i+j)) (tVar 2) (tCB (fun xs H Q=>∃ z,xs=[V.str z]∧z.length≤sizeLine∧Q (V.int ↑z.length) H) (tCons (tVar 3) tNil))) (tCB (fun xs H Q=>∃ z,xs=[V.str z]∧z.length≤sizeLine∧Q (V.int ↑z.length) H) (tCons (tVar 4) tNil))) tNil))) tNil))) tNext))) rest) D [s0,some (.ref f),some (.int ((A:Nat):Int)),some (.str wd.txt),some (.str wd.txt)] H:=by
  have sm:∀ {n:Nat},n≤25→n≤sizeLine:=fun h=>small (Nat.le_trans h (by decide))
  cases wd with
  | nm x =>
    obtain ⟨r1,r2,r3⟩:=hw.rst
    have hx:x.length≤sizeLine:=sm (Nat.le_trans hw.le (by decide))
    exact cut_a hF (by omega) hx (fun z=>absurd z r2) fun _=>cut_b (p:=A) hF (by omega) hx hx r1 rfl fun H' hF'=>h _ H' hF'
  | nmc x =>
    obtain ⟨r1,r2,r3⟩:=hw.rst
    have hc:(Wd.nmc x).txt.cps.toList=x.cps.toList++[44]:=by
      show (x++",":Str).cps.toList=_
      rw [cat_l,show (",":Str).cps.toList=[44] by decide +kernel]
    have hx:(Wd.nmc x).txt.length≤sizeLine:=by
      show (x++",":Str).length≤_
      rw [cL_,one_c.1]
      exact sm (by have:=hw.le;omega)
    obtain ⟨c,hc0,hl0⟩:=hw.fs
    have hf:fst1 (Wd.nmc x).txt≠"@":=fst1_no (c:=c) (by
      rw [hc,List.getElem?_append_left (List.getElem?_eq_some_iff.mp hc0).1];exact hc0) (let_32 hl0).2.1
    exact cut_a hF (by omega) hx (fun z=>absurd z hf) fun _=>cut_c hF hl hx hc (fun z=>r3 (by rw [z];decide +kernel)) (slice_neg1 hc) fun H' hF'=>h _ H' hF'
  | atn x =>
    obtain ⟨r1,r2,r3⟩:=hw.rst
    have hc:(Wd.atn x).txt.cps.toList=64 :: x.cps.toList:=by
      show ("@"++x:Str).cps.toList=_
      rw [cat_l,show ("@":Str).cps.toList=[64] by decide +kernel];rfl
    have hlx:(Wd.atn x).txt.length=1+x.length:=by show ("@"++x:Str).length=_;rw [cL_,one_c.2]
    have hx:(Wd.atn x).txt.length≤sizeLine:=by rw [hlx];exact sm (by have:=hw.le;omega)
    have hxx:x.length≤sizeLine:=sm (Nat.le_trans hw.le (by decide))
    have hf:fst1 (Wd.atn x).txt="@":=by
      apply str_ext
      have:=slice_to1 (Wd.atn x).txt
      show (Txt.slice _ none (some 1)).cps.toList=_
      rw [this,hc]
      show [64]=_
      decide +kernel
    have hs:Txt.slice (Wd.atn x).txt (some 1) none=x:=str_ext (slice_from1 hc)
    refine cut_a hF (by omega) hx (fun _ H' hF'=>?_) fun z=>absurd hf z
    rw [hs]
    refine cut_b (p:=A+1) hF' (by simp;omega) hx hxx r1 (by rw [hlx];omega) fun H2 hF2=>h _ H2 ?_
    rw [List.append_assoc] at hF2
    exact hF2
  | num x =>
    obtain ⟨r1,r2⟩:=num_rst x hw
    have hx:x.length≤sizeLine:=sm (Nat.le_trans (num_fit x hw).2.2.2 (by decide))
    exact cut_a hF (by omega) hx (fun z=>absurd z r2) fun _=>cut_b (p:=A) hF (by omega) hx hx r1 rfl fun H' hF'=>h _ H' hF'
  | mk x =>
    obtain ⟨r2,r1⟩:=mk_rst x hw
    have hx:x.length≤sizeLine:=by
      have:∀ x ∈ mkS,x.length≤25:=by decide +kernel
      exact sm (this x hw)
    refine cut_a hF (by omega) hx (fun z=>absurd z r2) fun _=>?_
    by_cases hc:x=","
    · exact cut_d hF hl hc fun H' hF'=>h _ H' (by subst hc;exact hF')
    · exact cut_b (p:=A) hF (by omega) hx hx (r1 hc) rfl fun H' hF'=>h _ H' hF'
section
variable {P:Program} {w:World} {K:PySem.W.Frag} {mg:Str→Option Value} {base:Heap} {a:Adr}
def spCut:Sp:=fun vs H Q _=>∃ x wd ws,vs=[.str x]∧TxW x wd ws∧x.length≤9000∧∀ l xs H',Same H H'→H' l=some (.lst xs)→Paired (ThA H') xs (thP (prts wd ws) 0)→Q (.ref l) H'
theorem ok_cut (T:Txt K mg a):FnOk P w K mg base CX0 1 a.f_cut a.d_cut ["_law_text_here"] spCut:=by
  refine T.F_cut.ok sc_cut (fun vs H Q E h=>?_) (fun cdv A outer s H vs Q E hr h=>?_)
  · obtain ⟨_,_,_,rfl,_⟩:=h;rfl
  obtain ⟨x,wd,ws,rfl,hx,hl,q⟩:=h
  refine ⟨_,(sC_ (zS_ (i:=1) sc_cut.nd rfl (by first | exact Or.inl rfl | exact Or.inr rfl) (pe_lst pa_nil)) (sC_ (zS_ (i:=2) sc_cut.nd rfl (by first | exact Or.inl rfl | exact Or.inr rfl) pI_) (sC_ (ps_for PassesOwn.never rfl (pi_list (pe_bm PySem.F.plainAttrs_str PySem.F.slot_str_split PySem.F.type_str_split mt_split (pv 0) (pC_ pS_ pa_nil))) (pg_name (i:=3) sc_cut.nd rfl (by first | exact Or.inl rfl | exact Or.inr rfl)) (sC_ (zS_ (i:=4) sc_cut.nd rfl (by first | exact Or.inl rfl | exact Or.inr rfl) (pv 3)) (sC_ (ps_if (tR_ op_eq (pZ_ sl_str (pv 4) po_none (po_some pI_)) pS_ (nM_ _)) (sC_ (ps_expr (pe_bm PySem.F.plainAttrs_list PySem.F.slot_list_append PySem.F.type_list_append mt_append (pv 1) (pC_ (pe_tup (pC_ pS_ (pC_ (pv 2) pa_nil))) pa_nil))) (sO_ (zS_ (i:=4) sc_cut.nd rfl (by first | exact Or.inl rfl | exact Or.inr rfl) (pZ_ sl_str (pv 4) (po_some pI_) po_none)))) pss_nil) (sC_ (ps_if (tR_ op_eq (pv 4) pS_ (nM_ _)) (sO_ (ps_expr (pe_bm PySem.F.plainAttrs_list PySem.F.slot_list_append PySem.F.type_list_append mt_append (pv 1) (pC_ (pe_tup (pC_ pS_ (pC_ (pv 2) pa_nil))) pa_nil)))) (sO_ (ps_if (PW.pt (pw_and (tR_ op_ne (pv 4) pS_ (nM_ _)) (pw_and1 (tR_ op_eq (pe_ix ix_str (pv 4) (pe_un un_neg pI_) (fun _ _=>rfl)) pS_ (nM_ _))))) (sC_ (ps_expr (pe_bm PySem.F.plainAttrs_list PySem.F.slot_list_append PySem.F.type_list_append mt_append (pv 1) (pC_ (pe_tup (pC_ (pZ_ sl_str (pv 4) po_none (po_some (pe_un un_neg pI_))) (pC_ (pO_ op_sub (pO_ op_add (pv 2) (pB_ call_len_str rfl T.n_len PySem.boot_len (pC_ (pv 3) pa_nil))) (pB_ call_len_str rfl T.n_len PySem.boot_len (pC_ (pv 4) pa_nil))) pa_nil))) pa_nil))) (sO_ (ps_expr (pe_bm PySem.F.plainAttrs_list PySem.F.slot_list_append PySem.F.type_list_append mt_append (pv 1) (pC_ (pe_tup (pC_ pS_ (pC_ (pO_ op_sub (pO_ op_add (pv 2) (pB_ call_len_str rfl T.n_len PySem.boot_len (pC_ (pv 3) pa_nil))) pI_) pa_nil))) pa_nil))))) (sO_ (ps_if (tR_ op_ne (pv 4) pS_ (nM_ _)) (sO_ (ps_expr (pe_bm PySem.F.plainAttrs_list PySem.F.slot_list_append PySem.F.type_list_append mt_append (pv 1) (pC_ (pe_tup (pC_ (pv 4) (pC_ (pO_ op_sub (pO_ op_add (pv 2) (pB_ call_len_str rfl T.n_len PySem.boot_len (pC_ (pv 3) pa_nil))) (pB_ call_len_str rfl T.n_len PySem.boot_len (pC_ (pv 4) pa_nil))) pa_nil))) pa_nil)))) pss_nil))))) (sO_ (zS_ (i:=2) sc_cut.nd rfl (by first | exact Or.inl rfl | exact Or.inr rfl) (pO_ op_add (pO_ op_add (pv 2) (pB_ call_len_str rfl T.n_len PySem.boot_len (pC_ (pv 3) pa_nil))) pI_))))))) (sO_ (ps_ret (pO_ op_cat (pv 1) (pe_lst (pC_ (pe_tup (pC_ pS_ (pC_ (pB_ call_len_str rfl T.n_len PySem.boot_len (pC_ (pv 0) pa_nil)) pa_nil))) pa_nil)))))))),?_⟩
  have hsp:=hx.split
  refine seq_lst0 fun f hf=>seq_set ?_
  have gf:=sN_ hf (.lst [])
  refine ⟨_,rfl,rfl,?_⟩
  dsimp only [tCons,tC,tNil]
  refine split_okL (z:=x) (y:=" ") (by decide +kernel) hl fun p hp=>?_
  rw [hsp]
  have hpf:f≠p:=fun z=>by rw [← z,uS_] at hp;cases hp
  have gp:=sN_ hp (.lst (((wd :: ws).map Wd.txt).map V.str))
  refine ⟨_,rfl,⟨_,SqL.of uS_⟩,?_⟩
  have hmany:(wd :: ws).length≤9002:=by
    have:=split_many x " "
    rw [hsp,List.length_map] at this
    omega
  have hall:=cutL_len (wd :: ws) 0
  refine for_list (D:={ nx:=tRet (tOp rCat (tVar 1) (tLst (tCons (tTup (tCons (tC (V.str "")) (tCons (tCB (fun xs H Q=>∃ z,xs=[V.str z]∧z.length≤sizeLine∧Q (V.int ↑z.length) H) (tCons (tVar 0) tNil)) tNil))) tNil))) { nx:=fun x H'=>Q V.non H',rt:=Q },rt:=Q }) (σ:=[some (.str x),some (.ref f),some (.int 0),none,none]) (xs:=((wd :: ws).map Wd.txt).map V.str) (fun i σ H'=>∃ s3 s4 A D,σ=[some (.str x),some (.ref f),some (.int ((A:Nat):Int)),s3,s4]∧Fnd (upd (upd H f (.lst [])) p (.lst (((wd :: ws).map Wd.txt).map V.str))) f H' D∧D++cutL ((wd :: ws).drop i) A=cutL (wd :: ws) 0)
    ⟨none,none,0,[],rfl,⟨fun _ _ _ e=>e,[],gp _ _ uS_,.nil⟩,rfl⟩ (fun i σ H' hi hP=>?_) (fun i v σ H' hv hP=>?_) (fun σ H' hP=>?_)
  · obtain ⟨s3,s4,A,D,rfl,hF,_⟩:=hP
    exact SqL.of (hF.ke p _ (fun z=>hpf z.symm) uS_)
  · obtain ⟨s3,s4,A,D,rfl,hF,hD⟩:=hP
    rw [List.getElem?_map,List.getElem?_map] at hv
    obtain ⟨y,hy,rfl⟩:=Option.map_eq_some_iff.mp hv
    obtain ⟨u,hu,rfl⟩:=Option.map_eq_some_iff.mp hy
    have huok:u.ok:=by
      rcases List.mem_cons.mp (List.mem_of_getElem? hu) with rfl | hm
      · exact hx.ok
      · exact hx.al u hm
    have hdrop:(wd :: ws).drop i=u :: (wd :: ws).drop (i+1):=by
      obtain ⟨h1,h2⟩:=List.getElem?_eq_some_iff.mp hu
      rw [List.drop_eq_getElem_cons h1,h2]
    rw [hdrop,cutL] at hD
    have hDl:D.length≤19000:=by
      have:=congrArg List.length hD
      rw [List.length_append] at this
      omega
    have hul:u.txt.length≤sizeLine:=by
      have h1:=split_lens x " " u.txt (by rw [hsp];exact List.mem_map_of_mem (List.mem_of_getElem? hu))
      exact line_ok (by omega)
    refine ⟨_,rfl,cut_w huok hF hDl fun y H2 hF2=>?_⟩
    refine ⟨_,rfl,_,rfl,_,rfl,hul,_,_,rfl,rfl,_,_,rfl,rfl,?_⟩
    exact ⟨_,_,A+u.txt.length+1,_,rfl,hF2,by rw [List.append_assoc];exact hD⟩
  · obtain ⟨s3,s4,A,D,rfl,hF,hD⟩:=hP
    rw [List.length_map,List.length_map,List.drop_length] at hD
    have hD:D=cutL (wd :: ws) 0:=by rw [← hD];simp [cutL]
    obtain ⟨xs,e1,e2⟩:=hF.li
    have lxs:=e2.length
    rw [hD] at lxs
    refine ⟨_,rfl,_,rfl,x,rfl,line_ok (by omega),small (n:=2) (by decide),fun t ht=>⟨small (n:=1) (by decide),fun b hb=>?_⟩⟩
    have gt:=sN_ ht (.tup [.str "",.int (x.length:Int)])
    have gb:=sN_ hb (.lst [.ref t])
    refine ⟨f,b,xs,_,rfl,rfl,gb _ _ (gt _ _ e1),uS_,line_ok (by simp;omega),fun l hl'=>?_⟩
    have gl:=sN_ hl' (.lst (xs++[.ref t]))
    have g:=(gt.trans gb).trans gl
    refine q l _ _ (fun c u e=>g _ _ (hF.ke c u (ne_of_none e hf) (gp _ _ (gf _ _ e)))) uS_ ?_
    rw [thP_prts,← hD]
    exact Paired.snoc (Paired.mapP e2 fun _ _ z=>z.keep fun c ys e=>g _ _ e) ⟨t,rfl,by rw [Nat.zero_add,← hx.len];exact gl _ _ (gb _ _ uS_)⟩
end
end My
namespace My
open PySem L2
theorem comp_listF {K:PySem.W.Frag} {a:Addr} {xs:List V} {im:List (Option Nat)} {σ:St} {H:Hp} {Q:VK} {tc:TT} {te:TE} (R:Nat→List V→Hp→Prop) (h0:R 0 [] H)
    (hl:∀ i ys H',i≤xs.length→R i ys H'→ys.length≤sizeLine∧SqL K H' a xs)
    (he:∀ i x ys H' (N:List V→Hp→Prop),xs[i]?=some x→R i ys H'→(∀ ys' H'',R (i+1) ys' H''→N ys' H'') →
      tc ((inner im σ).set 0 (some x)) H' fun b H3=>if b=true then te ((inner im σ).set 0 (some x)) H3 fun y H4=>N (ys++[y]) H4 else N ys H3)
    (hq:∀ ys H',R xs.length ys H'→∀ D,H' D=none→Q (.ref D) (upd H' D (.lst ys))):CompAt im (gName 0) tc te σ Q (Itl K a) H:=by
  refine ⟨fun i m ys H'=>m=xs.length - i∧i≤xs.length∧R i ys H',⟨xs.length,by simp,Nat.zero_le _,h0⟩,?_⟩
  rintro i m ys H' ⟨rfl,hi,r⟩
  have hz:=hl i ys H' hi r
  refine ⟨hz.1,?_⟩
  by_cases hlt:i < xs.length
  · refine .inr ⟨⟨xs,xs[i],hz.2,by simp [hlt]⟩,fun x H'' y=>?_⟩
    obtain ⟨e,y⟩:=y
    subst e
    exact he i x ys _ (fun ys' H5=>∃ m',m' < xs.length - i∧m'=xs.length - (i+1)∧i+1≤xs.length∧R (i+1) ys' H5) (y xs hz.2) r fun ys' H5 z=>⟨xs.length - (i+1),by omega,rfl,hlt,z⟩
  · have e:i=xs.length:=by omega
    subst e
    exact .inl ⟨⟨xs,hz.2,Nat.le_refl _⟩,hq ys H' r⟩
theorem comp_listN {K:PySem.W.Frag} {a:Addr} {xs:List V} {im:List (Option Nat)} {σ:St} {H:Hp} {Q:VK} {te:TE} (R:Nat→List V→Hp→Prop) (h0:R 0 [] H)
    (hl:∀ i ys H',i≤xs.length→R i ys H'→ys.length≤sizeLine∧SqL K H' a xs)
    (he:∀ i x ys H' (N:VK),xs[i]?=some x→R i ys H'→(∀ y H'',R (i+1) (ys++[y]) H''→N y H'')→te ((inner im σ).set 0 (some x)) H' N)
    (hq:∀ ys H',R xs.length ys H'→∀ D,H' D=none→Q (.ref D) (upd H' D (.lst ys))):CompAt im (gName 0) tNoIf te σ Q (Itl K a) H :=
  comp_listF R h0 hl (fun i x ys H' N hx hR hN=>he i x ys H' _ hx hR fun y H'' r=>hN _ _ r) hq
theorem Paired.getP {α β:Type} {R:α→β→Prop}:∀ {xs:List α} {ys:List β} {i:Nat} {x:α},Paired R xs ys→xs[i]?=some x→∃ y,ys[i]?=some y∧R x y
  | _,_,0,_,.cons (b:=r) h _,e=>by cases e;exact ⟨r,rfl,h⟩
  | _,_,i+1,_,.cons _ t,e=>Paired.getP (i:=i) t (by simpa using e)
  | _,_,_,_,.nil,e=>by simp at e
theorem byEnd_up {ws:List Str} (h:WOk ws) {i:Nat} (hi:i < ws.length):i≤(byEnd ws i).1∧(byEnd ws i).1 < ws.length:=by
  unfold byEnd
  split
  · rename_i k
    have:=nmEnd_up h ws.length (i+1) (h.more hi (by rw [k];exact by_ne))
    exact ⟨by have:=this.1;dsimp only;omega,this.2⟩
  · exact ⟨Nat.le_refl _,hi⟩
theorem foldE_up {ws:List Str} (h:WOk ws):∀ n i,i < ws.length→i≤(foldE ws n i).1∧(foldE ws n i).1 < ws.length
  | 0,i,hi=>⟨Nat.le_refl _,hi⟩
  | n + 1, i,hi=>by
    have u1:=fixE_up h ["NAME","="] i two_ne hi
    rw [foldE]
    generalize fixE ws ["NAME","="] i=e1 at *
    split
    · split
      · rename_i k5
        have u2:=fixE_up h (patF (wAt ws e1.1)) e1.1 (patF_ne _ k5) u1.2
        generalize fixE ws (patF (wAt ws e1.1)) e1.1=e2 at *
        split
        · split
          · rename_i kc
            have:=foldE_up h n (e2.1+1) (h.more u2.2 (by rw [kc];decide +kernel))
            exact ⟨by omega,this.2⟩
          · have:=byEnd_up h u2.2
            exact ⟨by omega,this.2⟩
        · exact ⟨by dsimp only;omega,u2.2⟩
      · exact u1
    · exact u1
theorem plainK_ne:∀ k ∈ knownS,∀ k' ∈ plainK k,k'≠"":=by
  intro k hk
  have : ∀ k,plainK k=(["NAME","way"]:List Str)∨plainK k=(["0"]:List Str)∨plainK k=(["1"]:List Str)∨plainK k=(["NAME","by","NAME","within","0"]:List Str):=fun k=>by
    unfold plainK
    split
    · exact .inl rfl
    · split
      · exact .inr (.inl rfl)
      · split
        · exact .inr (.inr (.inl rfl))
        · exact .inr (.inr (.inr rfl))
  rcases this k with e | e | e | e <;> rw [e] <;> decide +kernel
theorem stE_up {ws:List Str} (h:WOk ws) {i:Nat} (fs:Bool) (hi:i < ws.length):(stE ws i fs).1 < ws.length:=by
  unfold stE
  split
  · exact hi
  · rename_i hn
    have hk:wAt ws i ∈ knownS:=Decidable.byContradiction fun z=>hn (.inr z)
    have h1:=h.more hi (known_ne _ hk)
    split
    · rename_i k
      exact h.more h1 (by rw [k.2];decide +kernel)
    · split
      · rename_i k
        exact (fixE_up h ["NAME"] _ (by decide +kernel) (h.more h1 (by rw [k.2];decide +kernel))).2
      · split
        · exact (nmEnd_up h ws.length (i+1) h1).2
        · split
          · unfold sesE
            have u1:=fixE_up h ["0"] (i+1) (by decide +kernel) h1
            split
            · exact (byEnd_up h u1.2).2
            · exact u1.2
          · split
            · exact (foldE_up h _ _ h1).2
            · exact (fixE_up h _ _ (plainK_ne _ hk) h1).2
def stgE (ws:List Str):Nat→Nat × Bool→Nat × Bool
  | 0,e=>e
  | n+1,e=>if e.2=true∧wAt ws e.1="|" then stgE ws n (stE ws (e.1+1) false) else e
def wrgE (ws:List Str):Nat × Bool:=stgE ws 11 (stE ws 0 true)
theorem bar_ne:("|":Str)≠"":=by decide +kernel
theorem stgE_up {ws:List Str} (h:WOk ws):∀ n e,e.1 < ws.length→(stgE ws n e).1 < ws.length
  | 0,e,he=>he
  | n + 1,e,he=>by
    rw [stgE]
    split
    · rename_i k
      exact stgE_up h n _ (stE_up h false (h.more he (by rw [k.2];exact bar_ne)))
    · exact he
theorem let_45 {c:Nat} (h:isLet c=true):isFig c=false∧c≠45:=by
  unfold isLet at h
  simp only [Bool.and_eq_true,decide_eq_true_eq] at h
  refine ⟨?_,by omega⟩
  unfold isFig
  rw [Bool.and_eq_false_iff]
  right
  exact decide_eq_false (by omega)
theorem figW_name {x:Str} (h:NmF x):figW x=false:=by
  obtain ⟨c,hc,hl⟩:=h.fs
  have l45:=let_45 hl
  have e:(fst1 x).cps.toList=[c]:=by
    have:=slice_to1 x
    show (Txt.slice x none (some 1)).cps.toList=_
    rw [this]
    cases e1:x.cps.toList with
    | nil=>rw [e1] at hc;cases hc
    | cons d r =>
      rw [e1] at hc
      have hc:d=c:=by simpa using hc
      rw [hc];rfl
  unfold figW
  have e2:¬ fst1 x="-":=fun z=>by
    rw [z,show ("-":Str).cps.toList=[45] by decide +kernel] at e
    injection e with e
    exact l45.2 e.symm
  rw [inV_signs,e,decide_eq_false e2]
  show (decide ((fst1 x).length=1)&&isFig c || false&&_)=false
  rw [l45.1,Bool.and_false,Bool.false_and];rfl
theorem figW_mk:∀ x ∈ mkT,figW x=false∧nmB x=false∧x≠""∧x.length≤20:=by decide +kernel
theorem num_mk:∀ x ∈ numS,figW x=true∧nmB x=false∧kept x=false:=by decide +kernel
theorem nmB_name {x:Str} (h:NmF x):nmB x=!kept x:=by
  obtain ⟨c,hc,hl⟩:=h.fs
  unfold nmB bwl
  cases e:x.cps.toList with
  | nil=>rw [e] at hc;cases hc
  | cons d r =>
    rw [e] at hc
    have hc:d=c:=by simpa using hc
    subst hc
    dsimp only
    rw [hl,Bool.true_and]
theorem kv_fit {y k:Str} {v:V} (h:PcKv y k v):y.length≤20∧y≠""∧(figW y=true→∃ n,PySem.intText? y=some n∧y.length≤640):=by
  cases h with
  | nm h _=>exact ⟨h.le,fun z=>h.rst.2.2 (by rw [z];decide +kernel),fun z=>by rw [figW_name h] at z;cases z⟩
  | kp h _=>exact ⟨h.le,fun z=>h.rst.2.2 (by rw [z];decide +kernel),fun z=>by rw [figW_name h] at z;cases z⟩
  | mk h =>
    obtain ⟨a,_,b,c⟩:=figW_mk y h
    exact ⟨c,b,fun z=>by rw [a] at z;cases z⟩
  | num h =>
    obtain ⟨_,_,⟨n,hn⟩,hl⟩:=num_fit y h
    exact ⟨by omega,(num_rst y h).1.ne,fun _=>⟨n,hn,by omega⟩⟩
theorem figW_nil:figW ""=false:=by decide +kernel
theorem wdP_at {ps:Pcs} {i:Nat} {x:Str} (h:(wdP ps)[i]?=some x):(i=ps.length∧x="")∨∃ p,ps[i]?=some p∧x=p.1:=by
  unfold wdP at h
  rcases Nat.lt_or_ge i ps.length with hi | hi
  · rw [List.getElem?_append_left (by simpa using hi),List.getElem?_map] at h
    obtain ⟨p,hp,rfl⟩:=Option.map_eq_some_iff.mp h
    exact .inr ⟨p,hp,rfl⟩
  · rw [List.getElem?_append_right (by simpa using hi),List.length_map] at h
    have hlt:=(List.getElem?_eq_some_iff.mp h).1
    have:i - ps.length=0:=by simpa using hlt
    rw [this] at h
    exact .inl ⟨by omega,by simpa using h.symm⟩
theorem wok_of {ps:Pcs} (hk:∀ p ∈ ps,PcKv p.1 p.2.1.1 p.2.1.2) (hl:ps.length≤19000):WOk (wdP ps)∧FOk (wdP ps):=by
  have all:∀ x ∈ wdP ps,x.length≤20∧(figW x=true→∃ n,PySem.intText? x=some n∧x.length≤640):=fun x hx=>by
    obtain ⟨i,hi⟩:=List.getElem?_of_mem hx
    rcases wdP_at hi with ⟨_,rfl⟩ | ⟨p,hp,rfl⟩
    · exact ⟨by decide +kernel,fun z=>by rw [figW_nil] at z;cases z⟩
    · have:=kv_fit (hk p (List.mem_of_getElem? hp))
      exact ⟨this.1,this.2.2⟩
  refine ⟨⟨by rw [wdP_len];omega,fun x hx=>Nat.le_trans (all x hx).1 (by decide),fun i x hi hx=>?_⟩,fun x hx=>(all x hx).2⟩
  rcases wdP_at hi with ⟨_,h⟩ | ⟨p,hp,_⟩
  · exact absurd h hx
  · have:=(List.getElem?_eq_some_iff.mp hp).1
    rw [wdP_len];omega
theorem prts_len (ws:List Wd) (w:Wd):(prts w ws).length≤2 * (w :: ws).length:=by
  have h1:=congrArg List.length (thP_prts ws w 0)
  have h2:=cutL_len (w :: ws) 0
  have h3:(thP (prts w ws) 0).length=(prts w ws).length+1:=by
    have:=congrArg List.length (thP_fst (prts w ws) 0)
    rw [List.length_map,wdP_len] at this
    exact this
  rw [h3,List.length_append] at h1
  simp only [List.length_cons,List.length_nil] at h1 h2 ⊢
  omega
theorem TxW.many {x:Str} {w:Wd} {ws:List Wd} (h:TxW x w ws):(w :: ws).length≤x.length+2:=by
  have:=split_many x " "
  rw [h.split,List.length_map] at this
  exact this
theorem wr_ret {K0:PySem.W.Frag} {Q:VK} {D0:Ends} {s0 s5:Option V} {l D pt:Addr} {W:List Str} {xs:List V} {j p:Nat} {b:Bool} {y:Str} {H:Hp} (hr:D0.rt=Q) (hD:H D=some (.lst (W.map V.str))) (hj:j < W.length) (hl:H l=some (.lst xs)) (hx:xs[j]?=some (.ref pt)) (hp:H pt=some (.tup [.str y,.int ((p:Nat):Int)]))
    (q:Q (if b=true∧wAt W j="" then .non else .int ((p:Nat):Int)) H) :
    tRet (tIf (tAnd (tB (tVar 4)) (tTest (tOp rEq (tOp (rIxL K0) (tVar 2) (tVar 3)) (tC (V.str ""))))) (tC V.non) (tOp (rIxT K0) (tOp (rIxL K0) (tVar 1) (tVar 3)) (tC (V.int 1)))) D0 [s0,some (.ref l),some (.ref D),some (.int ((j:Nat):Int)),some (.bl b),s5] H:=by
  subst hr
  refine ⟨_,rfl,b,rfl,?_⟩
  cases b with
  | false =>
    refine iteF (iteF ⟨_,rfl,_,rfl,l,_,_,_,rfl,rfl,SqL.of hl,atI_nat hx,pt,_,_,_,rfl,rfl,SqT.of hp,atI_nat (j:=1) rfl,?_⟩)
    rw [if_neg (fun z=>nomatch z.1)] at q
    exact q
  | true =>
    refine iteT ⟨_,rfl,_,rfl,D,_,_,_,rfl,rfl,SqL.of hD,atI_nat (atW hj),rfl,_,rfl,ite2 (fun k=>?_) (fun k=>?_)⟩
    · rw [if_pos ⟨rfl,by simpa using k⟩] at q
      exact q
    · rw [if_neg (fun z=>by simp [z.2] at k)] at q
      exact ⟨_,rfl,_,rfl,l,_,_,_,rfl,rfl,SqL.of hl,atI_nat hx,pt,_,_,_,rfl,rfl,SqT.of hp,atI_nat (j:=1) rfl,q⟩
section
variable {P:Program} {w:World} {K:PySem.W.Frag} {mg:Str→Option Value} {base:Heap} {a:Adr}
def wrV (ps:Pcs):V:=if (wrgE (wdP ps)).2=true∧wAt (wdP ps) (wrgE (wdP ps)).1="" then .non else .int (((tkA (tkP ps 0) (wrgE (wdP ps)).1).p:Nat):Int)
def spWr:Sp:=fun vs H Q _=>∃ x wd ws,vs=[.str x]∧TxW x wd ws∧x.length≤9000∧∀ H',Same H H'→Q (wrV (prts wd ws)) H'
theorem ok_wrong (T:Txt K mg a):FnOk P w K mg base CX0 7 a.f_wrong a.d_wrong ["_law_text_here"] spWr:=by
  refine T.F_wrong.ok sc_wrong (fun vs H Q E h=>?_) (fun cdv A outer s H vs Q E hr h=>?_)
  · obtain ⟨_,_,_,rfl,_⟩:=h;rfl
  obtain ⟨x,wd,ws,rfl,hx,hl,q⟩:=h
  refine ⟨_,(sC_ (zS_ (i:=1) sc_wrong.nd rfl (by first | exact Or.inl rfl | exact Or.inr rfl) (pL_ (ok_cut T) (hr.mono (by decide)) rfl T.m_cut T.F_cut.kp T.b_cut .nil pass0 (pC_ (pv 0) pa_nil))) (sC_ (ps_setC (i:=2) sc_wrong.nd rfl (by first | exact Or.inl rfl | exact Or.inr rfl) ["_law_thing"] [none] (pi_list (pv 1)) (fun _ _ _ _ _=>(pg_name (i:=0) (show List.Nodup (["_law_thing"]:List Str) from by decide +kernel) rfl (Or.inl rfl) (Or.inr rfl))) (fun _ _ _ _ _=>pts_nil) (fun _ _ _ _ _=>(pe_ix (ix_tupK rfl) (pv 0) pI_ (fun _ _=>rfl)))) (sC_ (ps_asg (pL_ (ok_stage_end T) (hr.mono (by decide)) rfl T.m_stage_end T.F_stage_end.kp T.b_stage_end .nil pass0 (pC_ (pv 2) (pC_ pI_ (pC_ pe_bl pa_nil)))) (pg_tup (n:=2) rfl (pgs_cons (pg_name (i:=3) sc_wrong.nd rfl (by first | exact Or.inl rfl | exact Or.inr rfl)) (pgs_cons (pg_name (i:=4) sc_wrong.nd rfl (by first | exact Or.inl rfl | exact Or.inr rfl)) pgs_nil)))) (sC_ (zS_ (i:=5) sc_wrong.nd rfl (by first | exact Or.inl rfl | exact Or.inr rfl) pI_) (sC_ (ps_while PassesOwn.never (PW.pt (pw_and (pt_val (pv 4)) (pw_and (tR_ op_eq (pe_ix ix_list (pv 2) (pv 3) (fun _ _=>rfl)) pS_ (nM_ _)) (pw_and1 (tR_ op_lt (pv 5) pI_ (nM_ _)))))) (sC_ (ps_asg (pL_ (ok_stage_end T) (hr.mono (by decide)) rfl T.m_stage_end T.F_stage_end.kp T.b_stage_end .nil pass0 (pC_ (pv 2) (pC_ (pO_ op_add (pv 3) pI_) (pC_ pe_bl pa_nil)))) (pg_tup (n:=2) rfl (pgs_cons (pg_name (i:=3) sc_wrong.nd rfl (by first | exact Or.inl rfl | exact Or.inr rfl)) (pgs_cons (pg_name (i:=4) sc_wrong.nd rfl (by first | exact Or.inl rfl | exact Or.inr rfl)) pgs_nil)))) (sO_ (zS_ (i:=5) sc_wrong.nd rfl (by first | exact Or.inl rfl | exact Or.inr rfl) (pO_ op_add (pv 5) pI_))))) (sO_ (ps_ret (pe_ifExp (PW.pt (pw_and (pt_val (pv 4)) (pw_and1 (tR_ op_eq (pe_ix ix_list (pv 2) (pv 3) (fun _ _=>rfl)) pS_ (nM_ _))))) pe_non (pe_ix ix_tup (pe_ix ix_list (pv 1) (pv 3) (fun _ _=>rfl)) pI_ (fun _ _=>rfl)))))))))),?_⟩
  have hm:=hx.many
  have hpl:=prts_len ws wd
  have hkv:=prts_kv ws wd hx.ok hx.al
  obtain ⟨hW,hF⟩:=wok_of hkv (by omega)
  have hth:=thP_at (prts wd ws) 0
  have hfs:=thP_fst (prts wd ws) 0
  have hwl:=wdP_len (prts wd ws)
  refine ⟨_,rfl,x,wd,ws,rfl,hx,hl,fun l xs H1 g1 hl1 hp1=>?_⟩
  unfold wrV at q
  generalize prts wd ws=ps at *
  generalize hWs:wdP ps=W at *
  have lxs:=hp1.length
  have lth:(thP ps 0).length=W.length:=by rw [← hfs,List.length_map]
  refine ⟨_,rfl,l,rfl,⟨_,SqL.of hl1⟩,?_⟩
  refine comp_listN (xs:=xs) (fun i ys H'=>ys=(W.take i).map V.str∧H'=H1) ⟨rfl,rfl⟩ (fun i ys H' hi r=>?_) (fun i v ys H' N hv r hN=>?_) (fun ys H' r D hD=>?_)
  · obtain ⟨rfl,rfl⟩:=r
    exact ⟨by rw [List.length_map,List.length_take];exact line_ok (by omega),SqL.of hl1⟩
  · obtain ⟨rfl,rfl⟩:=r
    obtain ⟨t,ht,p,rfl,hp⟩:=Paired.getP hp1 hv
    refine ⟨_,rfl,p,_,_,_,rfl,rfl,SqT.of hp,atI_nat (j:=0) rfl,hN _ _ ⟨?_,rfl⟩⟩
    have hw:W[i]?=some t.1:=by rw [← hfs,List.getElem?_map,ht];rfl
    rw [List.take_add_one,hw]
    simp
  · obtain ⟨rfl,rfl⟩:=r
    have e:W.take xs.length=W:=by rw [lxs,lth,List.take_length]
    rw [e] at *
    have gD:=sN_ hD (.lst (W.map V.str))
    have g:=g1.trans gD
    have hD1:(upd H' D (.lst (W.map V.str))) D=some (.lst (W.map V.str)):=uS_
    have hl2:=gD _ _ hl1
    have hp2:Paired (ThA (upd H' D (.lst (W.map V.str)))) xs (thP ps 0):=Paired.mapP hp1 fun _ _ z=>z.keep fun b ys e=>gD _ _ e
    generalize upd H' D (.lst (W.map V.str))=H2 at *
    have s0:=stE_up hW true (show 0 < W.length by omega)
    refine ⟨_,rfl,D,W,0,true,rfl,hD1,hW,hF,(by omega),?_⟩
    intro t3 H3 g3 ht3
    refine ⟨t3,_,rfl,SqT.of ht3,rfl,.int _,_,rfl,.bl _,[],rfl,rfl,?_⟩
    have hD3:=g3 _ _ hD1
    have hl3:=g3 _ _ hl2
    have hp3:Paired (ThA H3) xs (thP ps 0):=Paired.mapP hp2 fun _ _ z=>z.keep fun b ys e=>g3 _ _ e
    have gg:=g.trans g3
    have q3:∀ e:Nat × Bool,wrgE W=e→∀ H',Same H H'→Q (if e.2=true∧wAt W e.1="" then .non else .int (((tkA (tkP ps 0) e.1).p:Nat):Int)) H':=fun e he H' g'=>by rw [← he];exact q H' g'
    refine seq_set ?_
    refine seq_set ?_
    unfold tSeq
    refine while_by (fun σ H'=>∃ (e:Nat × Bool) (n k:Nat),σ=[some (.str x),some (.ref l),some (.ref D),some (.int ((e.1:Nat):Int)),some (.bl e.2),some (.int ((k:Nat):Int))]∧Same H3 H'∧k+n=12∧e.1 < W.length∧wrgE W=stgE W n e)
      (fun σ _=>match σ with | [_,_,_,_,_,some (.int k)]=>12 - k.toNat | _=>0) ⟨stE W 0 true,11,1,rfl,Same.refl H3,rfl,s0,rfl⟩ (fun σ H' hP=>?_) (fun σ H' Q Q' hQ h=>?_)
    · obtain ⟨e,n,k,rfl,g4,hkn,he,hZ⟩:=hP
      obtain ⟨j,b⟩:=e
      have he:j < W.length:=he
      have hD4:=g4 _ _ hD3
      have hl4:=g4 _ _ hl3
      have hp4:Paired (ThA H') xs (thP ps 0):=Paired.mapP hp3 fun _ _ z=>z.keep fun b ys e=>g4 _ _ e
      have g5:=gg.trans g4
      have he2:j < xs.length:=by omega
      obtain ⟨z,hz1,hz2⟩:=hth j (by omega)
      obtain ⟨v,hv⟩:∃ v,xs[j]?=some v:=⟨xs[j],List.getElem?_eq_getElem he2⟩
      obtain ⟨t',ht',pt,rfl,hpt⟩:=Paired.getP hp4 hv
      rw [hz1] at ht'
      cases ht'
      have fin:wrgE W=(j,b)→tRet _ _ _ _:=fun hzz=>wr_ret (K0:=K) (D0:={ nx:=fun x H'=>Q V.non H',rt:=Q }) (s0:=some (.str x)) (s5:=some (.int ((k:Nat):Int))) rfl hD4 he hl4 hv hpt (by have:=q3 _ hzz H' g5;rw [hz2] at this;exact this)
      refine ⟨_,rfl,b,rfl,?_⟩
      cases b with
      | false =>
        refine iteF (iteF (fin ?_))
        rw [hZ]
        cases n <;> rfl
      | true =>
        refine iteT ⟨_,rfl,_,rfl,D,_,_,_,rfl,rfl,SqL.of hD4,atI_nat (atW he),rfl,_,rfl,ite2 (fun kb=>?_) (fun kb=>?_)⟩
        · have kb:wAt W j="|":=by simpa using kb
          refine ⟨_,rfl,_,_,rfl,rfl,_,rfl,ite2 (fun kn=>?_) (fun kn=>?_)⟩
          · have kn:(k:Int) < 12:=of_decide_eq_true kn
            obtain ⟨n,rfl⟩:∃ n',n=n'+1:=⟨n - 1,by omega⟩
            have hj1:=hW.more he (by rw [kb];exact bar_ne)
            have s1:=stE_up hW false hj1
            rw [stgE,if_pos ⟨rfl,kb⟩] at hZ
            refine ⟨_,rfl,_,rfl,_,_,rfl,rfl,D,W,j+1,false,rfl,hD4,hW,hF,hj1,fun t5 H5 g6 ht5=>?_⟩
            refine ⟨t5,_,rfl,SqT.of ht5,rfl,.int _,_,rfl,.bl _,[],rfl,rfl,?_⟩
            refine ⟨_,rfl,_,_,rfl,rfl,⟨stE W (j+1) false,n,k+1,rfl,g4.trans g6,by omega,s1,hZ⟩,?_⟩
            show 12 - ((k:Int)+1).toNat < 12 - (k:Int).toNat
            omega
          · have kn:¬ (k:Int) < 12:=fun z=>kn (decide_eq_true z)
            have:n=0:=by omega
            subst this
            exact fin hZ
        · have kb:¬ wAt W j="|":=by simpa using kb
          refine iteF (fin ?_)
          rw [hZ]
          cases n with
          | zero=>rfl
          | succ n=>rw [stgE,if_neg (fun z=>kb z.2)]
    · obtain ⟨v0,e0,b0,e1,h⟩:=h
      refine ⟨v0,e0,b0,e1,?_⟩
      cases b0 with
      | false=>exact hQ _ _ h
      | true =>
        obtain ⟨v1,f1,v2,f2,p,ys,i,v,f3,f4,f5,f6,f7,b1,f8,h⟩:=h
        refine ⟨v1,f1,v2,f2,p,ys,i,v,f3,f4,f5,f6,f7,b1,f8,?_⟩
        cases b1 with
        | false=>exact hQ _ _ h
        | true =>
          obtain ⟨v3,h1,i2,j2,h2,h3,b2,h4,h⟩:=h
          exact ⟨v3,h1,i2,j2,h2,h3,b2,h4,hQ _ _ h⟩
end
end My
namespace My
open PySem L2
theorem same_tup {H H':Hp} (g:Same H H'):∀ b xs,H b=some (.tup xs)→H' b=some (.tup xs):=fun b _ e=>g b _ e
abbrev howS:List Str:=["count","sum","least","most","unlike"]
abbrev kdS:List Str:=["keep","drop"]
abbrev feS:List Str:=["first","every"]
def okN (n:Str):Prop:=n.length≤20∧n≠"@"
def okI (i:Int):Prop:=(-(10 ^ 29) < i∧i < 10 ^ 29)∨i=10 ^ 29
def okNs (ns:List Str):Prop:=ns.length≤450∧∀ n ∈ ns,okN n
def Sg.ok:Sg→Prop
  | .frm ns=>okNs ns∨∃ x:Str,ns=(["@",x]:List Str)∧x.length≤20
  | .nms k ns=>k ∈ kdS∧okNs ns
  | .srt x _=>okN x
  | .num k i=>k ∈ feS∧okI i
  | .ses i ns=>okI i∧okNs ns
  | .joi s x i=>okN s∧okN x∧okI i
  | .fld ths ns=>ths.length≤450∧(∀ t ∈ ths,okN t.1∧t.2.1 ∈ howS∧∀ f,t.2.2=some f→okN f)∧okNs ns
def itx (i:Int):Str:=Str.ofString (toString i)
theorem itx_ok {i:Int} (h:okI i):i.natAbs.log2 < 1920∧(itx i).length≤30:=by
  rcases h with ⟨h0,h1⟩ | rfl
  · refine ⟨log_of h0 h1,(rd_int h0 h1).2⟩
  · exact ⟨by decide +kernel,by decide +kernel⟩
def nsT (ns:List Str):Str:=Txt.join " " ns
def byT (ns:List Str):Str:=if ns.isEmpty=true then "" else " by "++nsT ns
def thT (t:Str × Str × Option Str):Str:=t.1++" = "++t.2.1++(match t.2.2 with | none=>"" | some f=>" "++f)
def frT (ns:List Str):Str:=if ns.isEmpty=true then "all" else if ns.head?=some "@" then Txt.join "" ns else nsT ns
def Sg.word:Sg→Str
  | .frm _=>"from"
  | .nms k _=>k
  | .srt _ _=>"sort"
  | .num k _=>k
  | .ses _ _=>"sessions"
  | .joi _ _ _=>"join"
  | .fld _ _=>"fold"
def Sg.body:Sg→Str
  | .frm ns=>frT ns
  | .nms _ ns=>nsT ns
  | .srt x b=>x++" "++(if b=true then "down" else "up")
  | .num _ i=>itx i
  | .ses i ns=>itx i++byT ns
  | .joi s x i=>s++" by "++x++" within "++itx i
  | .fld ths ns=>Txt.join ", " (ths.map thT)++byT ns
def Sg.txt (s:Sg):Str:=s.word++" "++s.body
theorem sum_le {L:Nat}:∀ (ys:List Str),(∀ y ∈ ys,y.length≤L)→(ys.map (·.length)).sum≤L * ys.length
  | [],_=>Nat.le_refl _
  | y :: ys,h=>by
    have:=sum_le ys fun x hx=>h x (List.mem_cons_of_mem _ hx)
    have:=h y List.mem_cons_self
    rw [List.map_cons,List.sum_cons,List.length_cons,Nat.mul_succ]
    omega
theorem join_ok {L m n:Nat} {z:Str} {ys:List Str} (h:∀ y ∈ ys,y.length≤L) (hn:ys.length≤n) (hz:z.length≤m) (hb:(L+m) * n≤1000000):(ys.map (·.length)).sum+ys.length * z.length≤16777216:=by
  have h1:=sum_le ys h
  have h2:L * ys.length≤L * n:=Nat.mul_le_mul_left _ hn
  have h3:ys.length * z.length≤n * m:=Nat.mul_le_mul hn hz
  rw [Nat.add_mul] at hb
  rw [Nat.mul_comm n m] at h3
  omega
theorem glue_le {L m:Nat} {z:Str} (hz:z.length≤m) (ys:List Str) (h:∀ y ∈ ys,y.length≤L):∀ (acc:Array Nat),(ys.foldl (fun acc p=>acc++z.cps++p.cps) acc).size≤acc.size+(L+m) * ys.length:=by
  induction ys with
  | nil=>intro acc;exact Nat.le_add_right _ _
  | cons y ys ih =>
    intro acc
    have h0:=h y List.mem_cons_self
    have:=ih (fun x hx=>h x (List.mem_cons_of_mem _ hx)) (acc++z.cps++y.cps)
    rw [Array.size_append,Array.size_append] at this
    rw [List.foldl_cons,List.length_cons,Nat.mul_succ]
    have e1:z.cps.size≤m:=hz
    have e2:y.cps.size≤L:=h0
    omega
theorem tjoin_len {L m n:Nat} {z:Str} {ys:List Str} (h:∀ y ∈ ys,y.length≤L) (hn:ys.length≤n) (hz:z.length≤m):(Txt.join z ys).length≤(L+m) * n:=by
  refine Nat.le_trans ?_ (Nat.mul_le_mul_left _ hn)
  unfold Txt.join Builtin.Str.glued
  show (List.foldl _ _ _:Array Nat).size≤_
  cases ys with
  | nil=>exact Nat.zero_le _
  | cons y ys =>
    have h0:=h y List.mem_cons_self
    have:=glue_le hz ys (fun x hx=>h x (List.mem_cons_of_mem _ hx)) y.cps
    have e2:y.cps.size≤L:=h0
    rw [List.drop_succ_cons,List.drop_zero,List.headD_cons,List.length_cons,Nat.mul_succ]
    omega
theorem line5 {n:Nat} (h:n≤100000):n≤sizeLine:=line_ok (by omega)
theorem comp_tupG {K:PySem.W.Frag} {p:Addr} {xs zs:List V} {im:List (Option Nat)} {g:TG} {σ:St} {H:Hp} {Q:VK} {te:TE} (hl:zs.length=xs.length) (hp:H p=some (.tup xs)) (hz:xs.length≤1000)
    (he:∀ (i:Nat) x z H' (R:VK),xs[i]?=some x→zs[i]?=some z→Same H H'→(∀ H2,Same H' H2→R z H2)→g x (inner im σ) H' fun σ2 H2=>te σ2 H2 R)
    (hQ:∀ D H',Same H H'→H' D=none→Q (.ref D) (upd H' D (.lst zs))):CompAt im g tNoIf te σ Q (Itt K p) H:=by
  refine ⟨fun i m ys H'=>m=xs.length - i∧i≤xs.length∧ys=zs.take i∧Same H H',⟨xs.length,by simp,Nat.zero_le _,by simp,Same.refl H⟩,?_⟩
  rintro i m ys H' ⟨rfl,hi,rfl,g⟩
  refine ⟨by rw [List.length_take];exact line_ok (by omega),?_⟩
  have hp':=g _ _ hp
  by_cases hlt:i < xs.length
  · refine .inr ⟨⟨xs,xs[i],SqT.of hp',by simp [hlt]⟩,fun x H'' y=>?_⟩
    obtain ⟨e,y⟩:=y
    subst e
    have hx:=y xs (SqT.of hp')
    have hzi:zs[i]?=some (zs[i]'(by omega)):=by simp [hl,hlt]
    refine he i x _ _ _ hx hzi g fun H2 g2=>⟨xs.length - (i+1),by omega,rfl,hlt,?_,g.trans g2⟩
    rw [List.take_add_one,hzi]
    simp
  · have e:i=xs.length:=by omega
    subst e
    refine .inl ⟨⟨xs,SqT.of hp',Nat.le_refl _⟩,fun D hD=>?_⟩
    rw [← hl,List.take_length]
    exact hQ D _ g hD
theorem okNs_sum {ns:List Str} (h:okNs ns) {z:Str} (hz:z.length≤1):(ns.map (·.length)).sum+ns.length * z.length≤16777216:=join_ok (L:=20) (m:=1) (n:=450) (fun y hy=>(h.2 y hy).1) h.1 hz (by decide)
theorem blank1:(" ":Str).length=1:=by decide +kernel
theorem nsT_len {ns:List Str} (h:okNs ns):(nsT ns).length≤9450:=tjoin_len (L:=20) (m:=1) (n:=450) (fun y hy=>(h.2 y hy).1) h.1 (by decide +kernel)
theorem byT_len {ns:List Str} (h:okNs ns):(byT ns).length≤9454:=by
  have l4:(" by ":Str).length=4:=by decide +kernel
  have:=nsT_len h
  unfold byT
  split
  · exact Nat.le_trans (show ("":Str).length≤0 by decide +kernel) (by decide)
  · rw [cL_,l4];omega
theorem thT_len {t:Str × Str × Option Str} (h:okN t.1∧t.2.1 ∈ howS∧∀ f,t.2.2=some f→okN f):(thT t).length≤60:=by
  obtain ⟨x,how,f⟩:=t
  obtain ⟨h1,h2,h3⟩:=h
  have l3:(" = ":Str).length=3:=by decide +kernel
  have lh:∀ s ∈ howS,s.length≤6:=by decide +kernel
  have:=lh how h2
  have l0:("":Str).length=0:=by decide +kernel
  have h1':x.length≤20:=h1.1
  unfold thT
  cases f with
  | none=>show (x++" = "++how++"":Str).length≤60;rw [cL_,cL_,cL_,l3,l0];omega
  | some f =>
    have h3':f.length≤20:=(h3 f rfl).1
    show (x++" = "++how++(" "++f):Str).length≤60
    rw [cL_,cL_,cL_,cL_,l3,blank1];omega
theorem kd_len:∀ s ∈ kdS,s.length≤8:=by decide +kernel
theorem fe_len:∀ s ∈ feS,s.length≤8:=by decide +kernel
theorem frT_len {ns:List Str} (h:okNs ns∨∃ x:Str,ns=(["@",x]:List Str)∧x.length≤20):(frT ns).length≤9500:=by
  have la:("all":Str).length=3:=by decide +kernel
  have l1:("@":Str).length=1:=by decide +kernel
  unfold frT
  rcases h with h | ⟨x,rfl,hx⟩
  · have := nsT_len h
    split
    · omega
    · split
      · rename_i hh
        exfalso
        cases ns with
        | nil=>exact absurd rfl (by assumption)
        | cons n ns =>
          have:n="@":=by simpa using hh
          exact (h.2 n List.mem_cons_self).2 this
      · omega
  · have:=tjoin_len (L:=20) (m:=0) (n:=2) (z:="") (ys:=["@",x]) (fun y hy=>by
      rcases List.mem_cons.mp hy with e | hy
      · rw [e];exact Nat.le_trans (Nat.le_of_eq l1) (by decide)
      · have:y=x:=by simpa using hy
        rw [this];exact hx) (Nat.le_refl 2) (by decide +kernel)
    rw [if_neg (by simp),if_pos (by simp)]
    omega
theorem body_len {s:Sg} (h:s.ok):s.body.length≤38000:=by
  have l3:(" = ":Str).length=3:=by decide +kernel
  have lb:(" by ":Str).length=4:=by decide +kernel
  have lw:(" within ":Str).length=8:=by decide +kernel
  cases s with
  | frm ns=>have:=frT_len h;show (frT ns).length≤38000;omega
  | nms k ns=>have:=nsT_len h.2;show (nsT ns).length≤38000;omega
  | srt x b =>
    have:=h.1
    have l4:("down":Str).length=4:=by decide +kernel
    have l2:("up":Str).length=2:=by decide +kernel
    show (x++" "++(if b=true then "down" else "up"):Str).length≤38000
    rw [cL_,cL_,blank1]
    split <;> omega
  | num k i=>have:=(itx_ok h.2).2;show (itx i).length≤38000;omega
  | ses i ns =>
    have:=(itx_ok h.1).2
    have:=byT_len h.2
    show (itx i++byT ns:Str).length≤38000
    rw [cL_];omega
  | joi s x i =>
    have:=(itx_ok h.2.2).2
    have:=h.1.1
    have:=h.2.1.1
    show (s++" by "++x++" within "++itx i:Str).length≤38000
    rw [cL_,cL_,cL_,cL_,lb,lw];omega
  | fld ths ns =>
    have:=byT_len h.2.2
    have l2:(", ":Str).length≤2:=by decide +kernel
    have:=tjoin_len (L:=60) (m:=2) (n:=450) (z:=", ") (ys:=ths.map thT) (fun y hy=>by
      obtain ⟨t,ht,rfl⟩:=List.mem_map.mp hy
      exact thT_len (h.2.1 t ht)) (by rw [List.length_map];exact h.1) l2
    show (Txt.join ", " (ths.map thT)++byT ns:Str).length≤38000
    rw [cL_];omega
theorem word_len2 {s:Sg} (h:s.ok):s.word.length≤8:=by
  cases s with
  | nms k ns=>exact kd_len k h.1
  | num k i=>exact fe_len k h.1
  | frm ns=>show ("from":Str).length≤8;decide +kernel
  | srt x b=>show ("sort":Str).length≤8;decide +kernel
  | ses i ns=>show ("sessions":Str).length≤8;decide +kernel
  | joi s x i=>show ("join":Str).length≤8;decide +kernel
  | fld t n=>show ("fold":Str).length≤8;decide +kernel
theorem txt_len {s:Sg} (h:s.ok):s.txt.length≤38009:=by
  have:=body_len h
  have:=word_len2 h
  unfold Sg.txt
  rw [cL_,cL_,blank1];omega
def spByT:Sp:=fun vs H Q _=>∃ v ns,vs=[v]∧NsAt H v ns∧okNs ns∧∀ H',Same H H'→Q (.str (byT ns)) H'
def spSgT:Sp:=fun vs H Q _=>∃ v s,vs=[v]∧SgAt H v s∧s.ok∧∀ H',Same H H'→Q (.str s.txt) H'
def QnAt (H:Hp) (v:V) (ss:List Sg):Prop:=∃ p xs,v=.ref p∧H p=some (.tup xs)∧Paired (SgAt H) xs ss
def QnOk (ss:List Sg):Prop:=ss.length≤12∧∀ s ∈ ss,s.ok
def qnT (ss:List Sg):Str:=Txt.join " | " (ss.map Sg.txt)
theorem bar3:(" | ":Str).length≤3:=by decide +kernel
theorem qn_all {ss:List Sg} (h:QnOk ss):∀ y ∈ ss.map Sg.txt,y.length≤38009:=fun y hy=>by
  obtain ⟨s,hs,rfl⟩:=List.mem_map.mp hy
  exact txt_len (h.2 s hs)
theorem qn_join {ss:List Sg} (h:QnOk ss):((ss.map Sg.txt).map (·.length)).sum+(ss.map Sg.txt).length * (" | ":Str).length≤16777216:=join_ok (L:=38009) (m:=3) (n:=12) (qn_all h) (by rw [List.length_map];exact h.1) bar3 (by decide)
def spQnT:Sp:=fun vs H Q _=>∃ v ss,vs=[v]∧QnAt H v ss∧QnOk ss∧∀ H',Same H H'→Q (.str (qnT ss)) H'
end My
namespace My
open PySem L2
section
variable {P:Program} {w:World} {K:PySem.W.Frag} {mg:Str→Option Value} {base:Heap} {a:Adr}
def spNever:Sp:=fun _ _ _ _=>False
theorem ok_no_text (T:Txt K mg a):FnOk P w K mg base CX0 1 a.f_text a.d_text ["_law_term"] spNever:=⟨fun _ _ _ _ h=>h.elim,fun _ _ _ _ _ _ _ _ _ _ _ _ _ h=>h.elim⟩
end
theorem eqTs_nil (ns:List Str):eqTs (ns.map V.str) []=ns.isEmpty:=by cases ns <;> rfl
theorem eqTs_one (n:Str):eqTs [V.str n] [V.str "@"]=decide (n="@"):=by
  have:eqV (V.str n) (V.str "@")=decide (n="@"):=by
    show (n == "@")=_
    by_cases e:n="@" <;> simp [e]
  show ((1 == 1)&&([eqV (V.str n) (V.str "@")].all id))=_
  rw [this];simp
theorem wsp:(("from":Str)++" "="from ")∧(("where":Str)++" "="where ")∧(("with":Str)++" "="with ")∧(("sort":Str)++" "="sort ")∧(("sessions":Str)++" "="sessions ")∧(("join":Str)++" "="join ")∧(("fold":Str)++" "="fold ")∧(("from":Str)++" "++"@"="from @"):=by decide +kernel
theorem wln:("from ":Str).length=5∧("where ":Str).length=6∧("with ":Str).length=5∧("sort ":Str).length=5∧("sessions ":Str).length=9∧("join ":Str).length=5∧("fold ":Str).length=5∧("from @":Str).length=6∧(" = ":Str).length=3∧(" by ":Str).length=4∧(" within ":Str).length=8:=by decide +kernel
theorem txt_frm (ns:List Str):(Sg.frm ns).txt="from "++frT ns:=by show ("from"++" "++frT ns:Str)=_;rw [wsp.1]
theorem join_two (x:Str):Txt.join "" ["@",x]="@"++x:=by
  have:Txt.join "" ["@",x]="@"++""++x:=rfl
  have e:("@":Str)++""="@":=by decide +kernel
  rw [this,e]
section
variable {P:Program} {w:World} {K:PySem.W.Frag} {mg:Str→Option Value} {base:Heap} {a:Adr}
theorem ok_by_text (T:Txt K mg a):FnOk P w K mg base CX0 2 a.f_by_text a.d_by_text ["_law_names_here"] spByT:=by
  refine T.F_by_text.ok sc_by_text (fun vs H Q E h=>?_) (fun cdv A outer s H vs Q E hr h=>?_)
  · obtain ⟨_,_,rfl,_⟩:=h;rfl
  obtain ⟨v,ns,rfl,⟨p,rfl,hp⟩,hok,q⟩:=h
  have hu:=hr.units0
  refine ⟨_,(sO_ (ps_ret (pe_ifExp (tR_ (op_neT2 hu) (pv 0) (pe_tup pa_nil) (nM_ _)) (pO_ op_add_str pS_ (pe_bm PySem.F.plainAttrs_str PySem.F.slot_str_join PySem.F.type_str_join mt_joinT pS_ (pC_ (pv 0) pa_nil))) pS_))),?_⟩
  have ln:=nsT_len hok
  refine ⟨_,rfl,small (n:=0) (by decide),fun e he=>?_⟩
  have ge:=sN_ he (.tup [])
  refine ⟨p,e,_,_,rfl,rfl,SqT.of (ge _ _ hp),SqT.of uS_,flat_s ns,rfl,_,rfl,?_⟩
  have q':=q _ ge
  unfold byT at q'
  dsimp only
  rw [if_pos rfl,eqTs_nil]
  cases e1:ns.isEmpty with
  | true=>rw [e1] at q';exact q'
  | false =>
    rw [e1] at q'
    exact ⟨rfl,_,rfl," ",p,ns,rfl,rfl,SqT.of (ge _ _ hp),okNs_sum hok (Nat.le_of_eq blank1),_,_,rfl,rfl,line5 (by have:=wln.2.2.2.2.2.2.2.2.2.1;unfold nsT at ln;omega),q'⟩
theorem ok_stage_text (T:Txt K mg a):FnOk P w K mg base CX0 10 a.f_stage_text a.d_stage_text ["_law_stage"] spSgT:=by
  refine T.F_stage_text.ok sc_stage_text (fun vs H Q E h=>?_) (fun cdv A outer s H vs Q E hr h=>?_)
  · obtain ⟨_,_,rfl,_⟩:=h;rfl
  obtain ⟨v,st,rfl,hst,hok,q⟩:=h
  have hu:=hr.units0
  obtain ⟨w1,w2,w3,w4,w5,w6,w7,w8⟩:=wsp
  obtain ⟨n1,n2,n3,n4,n5,n6,n7,n8,n9,n10,n11⟩:=wln
  refine ⟨_,(sC_ (zS_ (i:=1) sc_stage_text.nd rfl (by first | exact Or.inl rfl | exact Or.inr rfl) (pe_ix ix_tup (pv 0) pI_ (fun _ _=>rfl))) (sC_ (ps_if (tR_ op_eq (pv 1) pS_ (nM_ _)) (sC_ (ps_if (tR_ (op_eqT2 hu) (pZ_ sl_tupB (pe_ix ix_tup (pv 0) pI_ (fun _ _=>rfl)) po_none (po_some pI_)) (pe_tup (pC_ pS_ pa_nil)) (nM_ _)) (sO_ (ps_ret (pO_ op_add_str pS_ (pe_ix ix_tup (pe_ix ix_tup (pv 0) pI_ (fun _ _=>rfl)) pI_ (fun _ _=>rfl))))) pss_nil) (sO_ (ps_ret (pO_ op_add_str pS_ (pe_bm PySem.F.plainAttrs_str PySem.F.slot_str_join PySem.F.type_str_join mt_joinT pS_ (pC_ (pe_ifExp (tR_ (op_neT2 hu) (pe_ix ix_tup (pv 0) pI_ (fun _ _=>rfl)) (pe_tup pa_nil) (nM_ _)) (pe_ix ix_tup (pv 0) pI_ (fun _ _=>rfl)) (pe_tup (pC_ pS_ pa_nil))) pa_nil)))))) pss_nil) (sC_ (ps_if (tR_ op_eq (pv 1) pS_ (nM_ _)) (sO_ (ps_ret (pO_ op_add_str pS_ (pL_ (ok_no_text T) (hr.mono (by decide)) rfl T.m_text T.F_text.kp T.b_text .nil pass0 (pC_ (pe_ix ix_tup (pv 0) pI_ (fun _ _=>rfl)) pa_nil))))) pss_nil) (sC_ (ps_if (tR_ op_eq (pv 1) pS_ (nM_ _)) (sO_ (ps_ret (pO_ op_add_str (pO_ op_add_str (pO_ op_add_str pS_ (pe_ix ix_tup (pv 0) pI_ (fun _ _=>rfl))) pS_) (pL_ (ok_no_text T) (hr.mono (by decide)) rfl T.m_text T.F_text.kp T.b_text .nil pass0 (pC_ (pe_ix ix_tup (pv 0) pI_ (fun _ _=>rfl)) pa_nil))))) pss_nil) (sC_ (ps_if (tR_ op_in_seq (pv 1) (pe_tup (pC_ pS_ (pC_ pS_ pa_nil))) (by with_unfolding_all rfl)) (sO_ (ps_ret (pO_ op_add_str (pO_ op_add_str (pv 1) pS_) (pe_bm PySem.F.plainAttrs_str PySem.F.slot_str_join PySem.F.type_str_join mt_joinT pS_ (pC_ (pe_ix ix_tup (pv 0) pI_ (fun _ _=>rfl)) pa_nil))))) pss_nil) (sC_ (ps_if (tR_ op_eq (pv 1) pS_ (nM_ _)) (sO_ (ps_ret (pO_ op_add_str (pO_ op_add_str pS_ (pe_ix ix_tup (pv 0) pI_ (fun _ _=>rfl))) (pe_ix ix_list (pe_lst (pC_ pS_ (pC_ pS_ (pC_ pS_ pa_nil)))) (pO_ op_add pI_ (pT_ call_int1 rfl T.n_int (by decide +kernel) (pC_ (pe_ix ix_tup (pv 0) pI_ (fun _ _=>rfl)) pa_nil))) (fun _ _=>rfl))))) pss_nil) (sC_ (ps_if (tR_ op_eq (pv 1) pS_ (nM_ _)) (sO_ (ps_ret (pO_ op_add_str (pO_ op_add_str pS_ (pT_ call_str_int rfl T.n_str (by decide +kernel) (pC_ (pe_ix ix_tup (pv 0) pI_ (fun _ _=>rfl)) pa_nil))) (pL_ (ok_by_text T) (hr.mono (by decide)) rfl T.m_by_text T.F_by_text.kp T.b_by_text .nil pass0 (pC_ (pe_ix ix_tup (pv 0) pI_ (fun _ _=>rfl)) pa_nil))))) pss_nil) (sC_ (ps_if (tR_ op_eq (pv 1) pS_ (nM_ _)) (sO_ (ps_ret (pO_ op_add_str (pO_ op_add_str (pO_ op_add_str (pO_ op_add_str (pO_ op_add_str pS_ (pe_ix ix_tup (pv 0) pI_ (fun _ _=>rfl))) pS_) (pe_ix ix_tup (pv 0) pI_ (fun _ _=>rfl))) pS_) (pT_ call_str_int rfl T.n_str (by decide +kernel) (pC_ (pe_ix ix_tup (pv 0) pI_ (fun _ _=>rfl)) pa_nil))))) pss_nil) (sC_ (ps_if (tR_ op_eq (pv 1) pS_ (nM_ _)) (sC_ (ps_setC (i:=2) sc_stage_text.nd rfl (by first | exact Or.inl rfl | exact Or.inr rfl) (g:=gTup K 3 (gCons (gName 0) (gCons (gName 1) (gCons (gName 2) gNil)))) ["_law_name","_law_how","_law_field"] [none,none,none] (pi_tup (pe_ix ix_tup (pv 0) pI_ (fun _ _=>rfl))) (fun _ _ _ _ _=>(pg_tup (n:=3) rfl (pgs_cons (pg_name (i:=0) (show List.Nodup (["_law_name","_law_how","_law_field"]:List Str) from by decide +kernel) rfl (Or.inl rfl) (Or.inr rfl)) (pgs_cons (pg_name (i:=1) (show List.Nodup (["_law_name","_law_how","_law_field"]:List Str) from by decide +kernel) rfl (Or.inl rfl) (Or.inr rfl)) (pgs_cons (pg_name (i:=2) (show List.Nodup (["_law_name","_law_how","_law_field"]:List Str) from by decide +kernel) rfl (Or.inl rfl) (Or.inr rfl)) pgs_nil))))) (fun _ _ _ _ _=>pts_nil) (fun _ _ _ _ _=>(pO_ op_add_str (pO_ op_add_str (pO_ op_add_str (pv 0) pS_) (pv 1)) (pe_ifExp (tR_ op_isN (pv 2) pe_non (nM_ _)) pS_ (pO_ op_add_str pS_ (pv 2)))))) (sO_ (ps_ret (pO_ op_add_str (pO_ op_add_str pS_ (pe_bm PySem.F.plainAttrs_str PySem.F.slot_str_join PySem.F.type_str_join mt_join pS_ (pC_ (pv 2) pa_nil))) (pL_ (ok_by_text T) (hr.mono (by decide)) rfl T.m_by_text T.F_by_text.kp T.b_by_text .nil pass0 (pC_ (pe_ix ix_tup (pv 0) pI_ (fun _ _=>rfl)) pa_nil)))))) pss_nil) (sO_ (ps_ret (pO_ op_add_str (pO_ op_add_str (pv 1) pS_) (pT_ call_str_int rfl T.n_str (by decide +kernel) (pC_ (pe_ix ix_tup (pv 0) pI_ (fun _ _=>rfl)) pa_nil)))))))))))))),?_⟩
  cases st with
  | frm ns =>
    obtain ⟨p,u,rfl,hp,q1,rfl,hq⟩:=hst
    refine ⟨_,rfl,p,_,_,_,rfl,rfl,SqT.of hp,atI_nat (j:=0) rfl,?_⟩
    refine ⟨_,rfl,rfl,_,rfl,iteT ?_⟩
    have q0:=q
    have lfr:=frT_len hok
    refine ⟨_,rfl,p,_,_,_,rfl,rfl,SqT.of hp,atI_nat (j:=1) rfl,_,rfl,?_⟩
    rcases ns with _ | ⟨n,_ | ⟨m,r⟩⟩
    · refine .inr ⟨q1,_,rfl,SqT.of hq,rfl,rfl,?_⟩
      refine ⟨small (n:=1) (by decide),fun e he=>?_⟩
      have ge:=sN_ he (.tup [.str "@"])
      refine ⟨q1,e,_,_,rfl,rfl,SqT.of (ge _ _ hq),SqT.of uS_,rfl,rfl,_,rfl,iteF ?_⟩
      refine ⟨rfl,_,rfl,p,_,_,_,rfl,rfl,SqT.of (ge _ _ hp),atI_nat (j:=1) rfl,small (n:=0) (by decide),fun e2 he2=>?_⟩
      have g2:=sN_ he2 (.tup [])
      refine ⟨q1,e2,_,_,rfl,rfl,SqT.of ((ge.trans g2) _ _ hq),SqT.of uS_,rfl,rfl,_,rfl,iteF ?_⟩
      refine ⟨small (n:=1) (by decide),fun e3 he3=>?_⟩
      have g3:=sN_ he3 (.tup [.str "all"])
      refine ⟨" ",e3,["all"],rfl,rfl,SqT.of uS_,by decide +kernel,_,_,rfl,rfl,line5 (by decide +kernel),?_⟩
      have:=q _ ((ge.trans g2).trans g3)
      rw [txt_frm] at this
      exact this
    · refine .inr ⟨q1,_,rfl,SqT.of hq,rfl,rfl,?_⟩
      refine ⟨small (n:=1) (by decide),fun e he=>?_⟩
      have ge:=sN_ he (.tup [.str "@"])
      refine ⟨q1,e,_,_,rfl,rfl,SqT.of (ge _ _ hq),SqT.of uS_,rfl,rfl,_,rfl,?_⟩
      rcases hok with hok | ⟨x,e1,hx⟩
      · have hn:n≠"@":=(hok.2 n List.mem_cons_self).2
        refine ite2 (fun k=>absurd (of_decide_eq_true ((eqTs_one n).symm.trans k)) hn) (fun _=>?_)
        have ln:=nsT_len hok
        refine ⟨rfl,_,rfl,p,_,_,_,rfl,rfl,SqT.of (ge _ _ hp),atI_nat (j:=1) rfl,small (n:=0) (by decide),fun e2 he2=>?_⟩
        have g2:=sN_ he2 (.tup [])
        refine ⟨q1,e2,_,_,rfl,rfl,SqT.of ((ge.trans g2) _ _ hq),SqT.of uS_,rfl,rfl,_,rfl,iteT ?_⟩
        refine ⟨_,rfl,p,_,_,_,rfl,rfl,SqT.of ((ge.trans g2) _ _ hp),atI_nat (j:=1) rfl,?_⟩
        refine ⟨" ",q1,[n],rfl,rfl,SqT.of ((ge.trans g2) _ _ hq),okNs_sum hok (Nat.le_of_eq blank1),_,_,rfl,rfl,line5 (by unfold nsT at ln;omega),?_⟩
        have:=q _ (ge.trans g2)
        rw [txt_frm] at this
        unfold frT at this
        rw [if_neg (show ¬ ([n]:List Str).isEmpty=true by simp),if_neg (show ¬ ([n]:List Str).head?=some "@" by simpa using hn)] at this
        exact this
      · cases e1
    · refine .inl ⟨q1,_,rfl,SqT.of hq,(fun z=>by
        have:=z.2
        rw [List.length_map,List.length_cons,List.length_cons] at this
        have e:HT.sIx (r.length+1+1) (r.length+1+1) (some 1)=1:=by
          show HT.sIx (r.length+1+1) (r.length+1+1) (some ((1:Nat):Int))=1
          rw [HT.sIx_nat];omega
        rw [e] at this;omega),fun c hc=>?_⟩
      have ec:cutV ((n :: m :: r).map V.str) none (some 1)=[.str n]:=by
        unfold cutV
        have e:HT.sIx (((n :: m :: r).map V.str).length) (((n :: m :: r).map V.str).length) (some 1)=1:=by
          rw [List.length_map,List.length_cons,List.length_cons]
          show HT.sIx (r.length+1+1) (r.length+1+1) (some ((1:Nat):Int))=1
          rw [HT.sIx_nat];omega
        rw [e,HT.sIx_none]
        rfl
      rw [ec]
      have gc:=sN_ hc (.tup [.str n])
      refine ⟨small (n:=1) (by decide),fun e he=>?_⟩
      have ge:=sN_ he (.tup [.str "@"])
      have g1:=gc.trans ge
      refine ⟨c,e,_,_,rfl,rfl,SqT.of (ge _ _ uS_),SqT.of uS_,rfl,rfl,_,rfl,?_⟩
      rcases hok with hok | ⟨x,e1,hx⟩
      · have hn:n≠"@":=(hok.2 n List.mem_cons_self).2
        refine ite2 (fun k=>absurd (of_decide_eq_true ((eqTs_one n).symm.trans k)) hn) (fun _=>?_)
        have ln:=nsT_len hok
        refine ⟨rfl,_,rfl,p,_,_,_,rfl,rfl,SqT.of (g1 _ _ hp),atI_nat (j:=1) rfl,small (n:=0) (by decide),fun e2 he2=>?_⟩
        have g2:=sN_ he2 (.tup [])
        refine ⟨q1,e2,_,_,rfl,rfl,SqT.of ((g1.trans g2) _ _ hq),SqT.of uS_,flat_s _,rfl,_,rfl,iteT ?_⟩
        refine ⟨_,rfl,p,_,_,_,rfl,rfl,SqT.of ((g1.trans g2) _ _ hp),atI_nat (j:=1) rfl,?_⟩
        refine ⟨" ",q1,n :: m :: r,rfl,rfl,SqT.of ((g1.trans g2) _ _ hq),okNs_sum hok (Nat.le_of_eq blank1),_,_,rfl,rfl,line5 (by unfold nsT at ln;omega),?_⟩
        have:=q _ (g1.trans g2)
        rw [txt_frm] at this
        unfold frT at this
        rw [if_neg (show ¬ (n :: m :: r).isEmpty=true by simp),if_neg (show ¬ (n :: m :: r).head?=some "@" by simpa using hn)] at this
        exact this
      · injection e1 with e1 e2
        injection e2 with e2 e3
        subst e1 e2 e3
        refine iteT ?_
        refine ⟨_,rfl,p,_,_,_,rfl,rfl,SqT.of (g1 _ _ hp),atI_nat (j:=1) rfl,q1,_,_,_,rfl,rfl,SqT.of (g1 _ _ hq),atI_nat (j:=1) rfl,_,_,rfl,rfl,line5 (by omega),?_⟩
        have:=q _ g1
        rw [txt_frm] at this
        unfold frT at this
        rw [if_neg (by simp),if_pos (by simp),join_two,← Str.append_assoc] at this
        rw [show ("from @":Str)="from "++"@" by decide +kernel]
        exact this
  | nms k ns =>
    obtain ⟨p,u,rfl,hp,q1,rfl,hq⟩:=hst
    have ln:=nsT_len hok.2
    refine ⟨_,rfl,p,_,_,_,rfl,rfl,SqT.of hp,atI_nat (j:=0) rfl,?_⟩
    rcases (show k="keep"∨k="drop" by simpa using hok.1) with rfl | rfl
    · refine ⟨_,rfl,rfl,_,rfl,iteF ⟨_,rfl,rfl,_,rfl,iteF ⟨_,rfl,rfl,_,rfl,iteF ⟨_,rfl,small (n:=2) (by decide),fun e he=>?_⟩⟩⟩⟩
      have ge:=sN_ he (.tup [.str "keep",.str "drop"])
      refine ⟨e,_,rfl,.inr (SqT.of uS_),rfl,rfl,_,rfl,iteT ?_⟩
      refine ⟨_,rfl,_,_,rfl,rfl,line5 (by rw [blank1];decide +kernel),rfl,_,rfl,p,_,_,_,rfl,rfl,SqT.of (ge _ _ hp),atI_nat (j:=1) rfl," ",q1,ns,rfl,rfl,SqT.of (ge _ _ hq),okNs_sum hok.2 (Nat.le_of_eq blank1),_,_,rfl,rfl,line5 (by rw [cL_,blank1];unfold nsT at ln;have:=kd_len _ hok.1;omega),?_⟩
      exact q _ ge
    · refine ⟨_,rfl,rfl,_,rfl,iteF ⟨_,rfl,rfl,_,rfl,iteF ⟨_,rfl,rfl,_,rfl,iteF ⟨_,rfl,small (n:=2) (by decide),fun e he=>?_⟩⟩⟩⟩
      have ge:=sN_ he (.tup [.str "keep",.str "drop"])
      refine ⟨e,_,rfl,.inr (SqT.of uS_),rfl,rfl,_,rfl,iteT ?_⟩
      refine ⟨_,rfl,_,_,rfl,rfl,line5 (by rw [blank1];decide +kernel),rfl,_,rfl,p,_,_,_,rfl,rfl,SqT.of (ge _ _ hp),atI_nat (j:=1) rfl," ",q1,ns,rfl,rfl,SqT.of (ge _ _ hq),okNs_sum hok.2 (Nat.le_of_eq blank1),_,_,rfl,rfl,line5 (by rw [cL_,blank1];unfold nsT at ln;have:=kd_len _ hok.1;omega),?_⟩
      exact q _ ge
  | srt x b =>
    obtain ⟨p,rfl,hp⟩:=hst
    have lx:x.length≤20:=hok.1
    have lb:∀ c:Bool,((if c=true then " down" else " up":Str)).length≤5:=by decide +kernel
    refine ⟨_,rfl,p,_,_,_,rfl,rfl,SqT.of hp,atI_nat (j:=0) rfl,?_⟩
    refine ⟨_,rfl,rfl,_,rfl,iteF ⟨_,rfl,rfl,_,rfl,iteF ⟨_,rfl,rfl,_,rfl,iteF ⟨_,rfl,small (n:=2) (by decide),fun e he=>?_⟩⟩⟩⟩
    have ge:=sN_ he (.tup [.str "keep",.str "drop"])
    refine ⟨e,_,rfl,.inr (SqT.of uS_),rfl,rfl,_,rfl,iteF ⟨_,rfl,rfl,_,rfl,iteT ?_⟩⟩
    refine ⟨_,rfl,p,_,_,_,rfl,rfl,SqT.of (ge _ _ hp),atI_nat (j:=1) rfl,_,_,rfl,rfl,line5 (by omega),?_⟩
    refine ⟨small (n:=3) (by decide),fun l hl=>?_⟩
    have gl:=sN_ hl (.lst [.str "",.str " up",.str " down"])
    have hp2:=gl _ _ (ge _ _ hp)
    refine ⟨_,rfl,p,_,_,_,rfl,rfl,SqT.of hp2,atI_nat (j:=2) rfl,.inr ⟨_,rfl,_,_,rfl,rfl,l,_,_,(.str (if b=true then " down" else " up")),rfl,rfl,SqL.of uS_,(by cases b <;> rfl),_,_,rfl,rfl,line5 (by have:=lb b;rw [cL_];omega),?_⟩⟩
    have:=q _ (ge.trans gl)
    unfold Sg.txt at this
    rw [show (Sg.srt x b).word++" "="sort " from w4] at this
    have e5:(Sg.srt x b).body=x++(if b=true then " down" else " up":Str):=by
      cases b
      · show x++" "++("up":Str)=x++(" up":Str)
        rw [Str.append_assoc,show (" ":Str)++"up"=" up" by decide +kernel]
      · show x++" "++("down":Str)=x++(" down":Str)
        rw [Str.append_assoc,show (" ":Str)++"down"=" down" by decide +kernel]
    rw [e5,← Str.append_assoc] at this
    exact this
  | ses i ns =>
    obtain ⟨p,u,rfl,hp,hu1⟩:=hst
    have li:=(itx_ok hok.1).2
    have lb:=byT_len hok.2
    refine ⟨_,rfl,p,_,_,_,rfl,rfl,SqT.of hp,atI_nat (j:=0) rfl,?_⟩
    refine ⟨_,rfl,rfl,_,rfl,iteF ⟨_,rfl,rfl,_,rfl,iteF ⟨_,rfl,rfl,_,rfl,iteF ⟨_,rfl,small (n:=2) (by decide),fun e he=>?_⟩⟩⟩⟩
    have ge:=sN_ he (.tup [.str "keep",.str "drop"])
    refine ⟨e,_,rfl,.inr (SqT.of uS_),rfl,rfl,_,rfl,iteF ⟨_,rfl,rfl,_,rfl,iteF ⟨_,rfl,rfl,_,rfl,iteT ?_⟩⟩⟩
    have li':(toString i:Str).length≤30:=li
    refine ⟨_,rfl,p,_,_,_,rfl,rfl,SqT.of (ge _ _ hp),atI_nat (j:=1) rfl,i,rfl,(itx_ok hok.1).1,_,_,rfl,rfl,line5 (by omega),_,rfl,p,_,_,_,rfl,rfl,SqT.of (ge _ _ hp),atI_nat (j:=2) rfl,u,ns,rfl,hu1.keep (same_tup ge),hok.2,fun H1 g1=>⟨_,_,rfl,rfl,line5 (by rw [cL_];omega),?_⟩⟩
    have:=q H1 (ge.trans g1)
    unfold Sg.txt at this
    rw [show (Sg.ses i ns).word++" "="sessions " from w5] at this
    rw [Str.append_assoc]
    exact this
  | joi s1 x i =>
    obtain ⟨p,rfl,hp⟩:=hst
    have li:=(itx_ok hok.2.2).2
    have ls:s1.length≤20:=hok.1.1
    have lx:x.length≤20:=hok.2.1.1
    refine ⟨_,rfl,p,_,_,_,rfl,rfl,SqT.of hp,atI_nat (j:=0) rfl,?_⟩
    refine ⟨_,rfl,rfl,_,rfl,iteF ⟨_,rfl,rfl,_,rfl,iteF ⟨_,rfl,rfl,_,rfl,iteF ⟨_,rfl,small (n:=2) (by decide),fun e he=>?_⟩⟩⟩⟩
    have ge:=sN_ he (.tup [.str "keep",.str "drop"])
    refine ⟨e,_,rfl,.inr (SqT.of uS_),rfl,rfl,_,rfl,iteF ⟨_,rfl,rfl,_,rfl,iteF ⟨_,rfl,rfl,_,rfl,iteF ⟨_,rfl,rfl,_,rfl,iteT ?_⟩⟩⟩⟩
    have hp2:=ge _ _ hp
    have li':(toString i:Str).length≤30:=li
    refine ⟨_,rfl,p,_,_,_,rfl,rfl,SqT.of hp2,atI_nat (j:=1) rfl,_,_,rfl,rfl,line5 (by omega),_,_,rfl,rfl,line5 (by rw [cL_];omega),_,rfl,p,_,_,_,rfl,rfl,SqT.of hp2,atI_nat (j:=2) rfl,_,_,rfl,rfl,line5 (by rw [cL_,cL_];omega),_,_,rfl,rfl,line5 (by rw [cL_,cL_,cL_];omega),_,rfl,p,_,_,_,rfl,rfl,SqT.of hp2,atI_nat (j:=3) rfl,i,rfl,(itx_ok hok.2.2).1,_,_,rfl,rfl,line5 (by rw [cL_,cL_,cL_,cL_];omega),?_⟩
    have:=q _ ge
    unfold Sg.txt at this
    rw [show (Sg.joi s1 x i).word++" "="join " from w6] at this
    have e5:("join ":Str)++(Sg.joi s1 x i).body="join "++s1++" by "++x++" within "++itx i:=by
      show ("join ":Str)++(s1++" by "++x++" within "++itx i)=_
      simp only [Str.append_assoc]
    rw [e5] at this
    exact this
  | fld ths ns =>
    obtain ⟨p,u1,u2,q1,xs,rfl,hp,rfl,hq,hxs,hu2⟩:=hst
    have lx:=hxs.length
    have h60:ths.length≤450:=hok.1
    have l2:(", ":Str).length≤2:=by decide +kernel
    have lb:=byT_len hok.2.2
    have tl:∀ y ∈ ths.map thT,y.length≤60:=fun y hy=>by
      obtain ⟨t,ht,rfl⟩:=List.mem_map.mp hy
      exact thT_len (hok.2.1 t ht)
    have hl60:(ths.map thT).length≤450:=by rw [List.length_map];exact h60
    have lj:=tjoin_len (z:=", ") tl hl60 l2
    refine ⟨_,rfl,p,_,_,_,rfl,rfl,SqT.of hp,atI_nat (j:=0) rfl,?_⟩
    refine ⟨_,rfl,rfl,_,rfl,iteF ⟨_,rfl,rfl,_,rfl,iteF ⟨_,rfl,rfl,_,rfl,iteF ⟨_,rfl,small (n:=2) (by decide),fun e he=>?_⟩⟩⟩⟩
    have ge:=sN_ he (.tup [.str "keep",.str "drop"])
    refine ⟨e,_,rfl,.inr (SqT.of uS_),rfl,rfl,_,rfl,iteF ⟨_,rfl,rfl,_,rfl,iteF ⟨_,rfl,rfl,_,rfl,iteF ⟨_,rfl,rfl,_,rfl,iteF ⟨_,rfl,rfl,_,rfl,iteT ?_⟩⟩⟩⟩⟩
    have hp2:=ge _ _ hp
    refine ⟨_,rfl,p,_,_,_,rfl,rfl,SqT.of hp2,atI_nat (j:=1) rfl,q1,rfl,⟨_,SqT.of (ge _ _ hq)⟩,?_⟩
    refine comp_tupG (xs:=xs) (zs:=(ths.map thT).map V.str) (by rw [List.length_map,List.length_map];omega) (ge _ _ hq) (by omega) (fun i x z H' R hx hz g hR=>?_) (fun D H' g hD=>?_)
    · rw [List.getElem?_map,List.getElem?_map] at hz
      obtain ⟨y,hy,rfl⟩:=Option.map_eq_some_iff.mp hz
      obtain ⟨t,ht,rfl⟩:=Option.map_eq_some_iff.mp hy
      obtain ⟨t',ht',hat⟩:=Paired.getP hxs hx
      rw [ht] at ht';cases ht'
      obtain ⟨pt,rfl,hpt⟩:=hat
      obtain ⟨y1,how,f⟩:=t
      have hpt:H pt=some (.tup [.str y1,.str how,optV f]):=hpt
      obtain ⟨k1,k2,k3⟩:=hok.2.1 _ (List.mem_of_getElem? ht)
      have lh:∀ s ∈ howS,s.length≤6:=by decide +kernel
      have lhow:how.length≤6:=lh how k2
      have ly:y1.length≤20:=k1.1
      refine ⟨pt,[.str y1,.str how,optV f],rfl,SqT.of (g _ _ (ge _ _ hpt)),rfl,.str y1,_,rfl,.str how,_,rfl,optV f,[],rfl,rfl,?_⟩
      refine ⟨_,rfl,_,_,rfl,rfl,line5 (by omega),_,rfl,_,_,rfl,rfl,line5 (by rw [cL_];omega),?_⟩
      have hR':=hR _ (Same.refl _)
      cases f with
      | none=>exact ⟨_,rfl,rfl,_,rfl,iteT ⟨_,_,rfl,rfl,line5 (by rw [cL_,cL_,show ("":Str).length=0 by decide +kernel];omega),hR'⟩⟩
      | some f =>
        have lf:f.length≤20:=(k3 f rfl).1
        exact ⟨_,rfl,rfl,_,rfl,iteF ⟨_,rfl,_,_,rfl,rfl,line5 (by rw [blank1];omega),_,_,rfl,rfl,line5 (by rw [cL_,cL_,cL_,blank1];omega),hR'⟩⟩
    · have gD:=sN_ hD (.lst ((ths.map thT).map V.str))
      have gg:=(ge.trans g).trans gD
      refine ⟨rfl,_,rfl,", ",D,_,rfl,rfl,SqL.of uS_,join_ok tl hl60 l2 (by decide),_,_,rfl,rfl,line5 (by omega),_,rfl,p,_,_,_,rfl,rfl,SqT.of (gg _ _ hp),atI_nat (j:=2) rfl,u2,ns,rfl,hu2.keep (same_tup gg),hok.2.2,fun H1 g1=>⟨_,_,rfl,rfl,line5 (by rw [cL_];omega),?_⟩⟩
      have:=q H1 (gg.trans g1)
      unfold Sg.txt at this
      rw [show (Sg.fld ths ns).word++" "="fold " from w7] at this
      rw [Str.append_assoc]
      exact this
  | num k i =>
    obtain ⟨p,rfl,hp⟩:=hst
    have li:=(itx_ok hok.2).2
    have li':(toString i:Str).length≤30:=li
    have lk:=fe_len k hok.1
    refine ⟨_,rfl,p,_,_,_,rfl,rfl,SqT.of hp,atI_nat (j:=0) rfl,?_⟩
    rcases (show k="first"∨k="every" by simpa using hok.1) with rfl | rfl
    · refine ⟨_,rfl,rfl,_,rfl,iteF ⟨_,rfl,rfl,_,rfl,iteF ⟨_,rfl,rfl,_,rfl,iteF ⟨_,rfl,small (n:=2) (by decide),fun e he=>?_⟩⟩⟩⟩
      have ge:=sN_ he (.tup [.str "keep",.str "drop"])
      refine ⟨e,_,rfl,.inr (SqT.of uS_),rfl,rfl,_,rfl,iteF ⟨_,rfl,rfl,_,rfl,iteF ⟨_,rfl,rfl,_,rfl,iteF ⟨_,rfl,rfl,_,rfl,iteF ⟨_,rfl,rfl,_,rfl,iteF ?_⟩⟩⟩⟩⟩
      refine ⟨_,rfl,_,_,rfl,rfl,line5 (by rw [blank1];omega),_,rfl,p,_,_,_,rfl,rfl,SqT.of (ge _ _ hp),atI_nat (j:=1) rfl,i,rfl,(itx_ok hok.2).1,_,_,rfl,rfl,line5 (by rw [cL_,blank1];omega),?_⟩
      exact q _ ge
    · refine ⟨_,rfl,rfl,_,rfl,iteF ⟨_,rfl,rfl,_,rfl,iteF ⟨_,rfl,rfl,_,rfl,iteF ⟨_,rfl,small (n:=2) (by decide),fun e he=>?_⟩⟩⟩⟩
      have ge:=sN_ he (.tup [.str "keep",.str "drop"])
      refine ⟨e,_,rfl,.inr (SqT.of uS_),rfl,rfl,_,rfl,iteF ⟨_,rfl,rfl,_,rfl,iteF ⟨_,rfl,rfl,_,rfl,iteF ⟨_,rfl,rfl,_,rfl,iteF ⟨_,rfl,rfl,_,rfl,iteF ?_⟩⟩⟩⟩⟩
      refine ⟨_,rfl,_,_,rfl,rfl,line5 (by rw [blank1];omega),_,rfl,p,_,_,_,rfl,rfl,SqT.of (ge _ _ hp),atI_nat (j:=1) rfl,i,rfl,(itx_ok hok.2).1,_,_,rfl,rfl,line5 (by rw [cL_,blank1];omega),?_⟩
      exact q _ ge
theorem ok_asking (T:Txt K mg a):FnOk P w K mg base CX0 11 a.f_asking a.d_asking ["_law_question"] spQnT:=by
  refine T.F_asking.ok sc_asking (fun vs H Q E h=>?_) (fun cdv A outer s H vs Q E hr h=>?_)
  · obtain ⟨_,_,rfl,_⟩:=h;rfl
  obtain ⟨v,ss,rfl,⟨p,xs,rfl,hp,hxs⟩,hok,q⟩:=h
  refine ⟨_,(sO_ (ps_ret (pe_bm PySem.F.plainAttrs_str PySem.F.slot_str_join PySem.F.type_str_join mt_join pS_ (pC_ (pe_comp ["_law_stage"] [none] (pi_tup (pv 0)) (fun _ _ _ _ _=>(pg_name (i:=0) (show List.Nodup (["_law_stage"]:List Str) from by decide +kernel) rfl (Or.inl rfl) (Or.inr rfl))) (fun _ _ _ _ _=>pts_nil) (fun _ _ _ _ _=>(pL_ (ok_stage_text T) (hr.mono (by decide)) rfl T.m_stage_text T.F_stage_text.kp T.b_stage_text .nil pass0 (pC_ (pv 0) pa_nil)))) pa_nil)))),?_⟩
  have lx:=hxs.length
  have l12:=hok.1
  refine ⟨rfl,_,rfl,p,rfl,⟨_,SqT.of hp⟩,?_⟩
  refine comp_tupG (xs:=xs) (zs:=(ss.map Sg.txt).map V.str) (by rw [List.length_map,List.length_map];omega) hp (by omega) (fun i x z H' R hx hz g hR=>?_) (fun D H' g hD=>?_)
  · rw [List.getElem?_map,List.getElem?_map] at hz
    obtain ⟨y,hy,rfl⟩:=Option.map_eq_some_iff.mp hz
    obtain ⟨t,ht,rfl⟩:=Option.map_eq_some_iff.mp hy
    obtain ⟨t',ht',hat⟩:=Paired.getP hxs hx
    rw [ht] at ht';cases ht'
    exact ⟨_,rfl,x,t,rfl,hat.keep (same_tup g),hok.2 t (List.mem_of_getElem? ht),fun H2 g2=>hR H2 g2⟩
  · have gD:=sN_ hD (.lst ((ss.map Sg.txt).map V.str))
    exact ⟨_,D,_,rfl,rfl,SqL.of uS_,qn_join hok,q _ (g.trans gD)⟩
end
end My
namespace My
open PySem L2
structure Lk (ts:List Tok) (ws:List Str):Prop where
  len:ts.length=ws.length
  at_:∀ i,i < ws.length→(wAt ws i=""∧(tkA ts i).k="end")∨PcKv (wAt ws i) (tkA ts i).k (tkA ts i).v
theorem kd_no:(("mark":Str)≠"name")∧(("number":Str)≠"name")∧(("end":Str)≠"name")∧(("name":Str)≠"mark")∧(("number":Str)≠"mark")∧(("end":Str)≠"mark")∧(("name":Str)≠"number")∧(("mark":Str)≠"number")∧(("end":Str)≠"number")∧(("name":Str)≠"end")∧(("mark":Str)≠"end")∧(("number":Str)≠"end"):=by decide +kernel
theorem nmB_nil:nmB ""=false:=by decide +kernel
section
variable {ts:List Tok} {ws:List Str}
theorem Lk.name (h:Lk ts ws) {i:Nat} (hi:i < ws.length):((tkA ts i).k="name" ↔ nmB (wAt ws i)=true)∧(nmB (wAt ws i)=true→(tkA ts i).v=.str (wAt ws i)∧NmF (wAt ws i)):=by
  obtain ⟨n1,n2,n3,_⟩:=kd_no
  rcases h.at_ i hi with ⟨h1,h2⟩ | hp
  · rw [h1,h2,nmB_nil]
    exact ⟨⟨fun z=>absurd z n3,fun z=>nomatch z⟩,fun z=>nomatch z⟩
  · generalize wAt ws i=y at *
    generalize (tkA ts i).k=k at *
    generalize (tkA ts i).v=v at *
    cases hp with
    | nm h1 h2=>rw [nmB_name h1,h2];exact ⟨⟨fun _=>rfl,fun _=>rfl⟩,fun _=>⟨rfl,h1⟩⟩
    | kp h1 h2=>rw [nmB_name h1,h2];exact ⟨⟨fun z=>absurd z n1,fun z=>nomatch z⟩,fun z=>nomatch z⟩
    | mk h1=>rw [(figW_mk y h1).2.1];exact ⟨⟨fun z=>absurd z n1,fun z=>nomatch z⟩,fun z=>nomatch z⟩
    | num h1=>rw [(num_mk y h1).2.1];exact ⟨⟨fun z=>absurd z n2,fun z=>nomatch z⟩,fun z=>nomatch z⟩
theorem Lk.num (h:Lk ts ws) {i:Nat} (hi:i < ws.length):((tkA ts i).k="number" ↔ figW (wAt ws i)=true)∧(figW (wAt ws i)=true→(tkA ts i).v=.int (intW (wAt ws i))∧wAt ws i ∈ numS):=by
  obtain ⟨_,_,_,_,_,_,n1,n2,n3,_⟩:=kd_no
  rcases h.at_ i hi with ⟨h1,h2⟩ | hp
  · rw [h1,h2,figW_nil]
    exact ⟨⟨fun z=>absurd z n3,fun z=>nomatch z⟩,fun z=>nomatch z⟩
  · generalize wAt ws i=y at *
    generalize (tkA ts i).k=k at *
    generalize (tkA ts i).v=v at *
    cases hp with
    | nm h1 h2=>rw [figW_name h1];exact ⟨⟨fun z=>absurd z n1,fun z=>nomatch z⟩,fun z=>nomatch z⟩
    | kp h1 h2=>rw [figW_name h1];exact ⟨⟨fun z=>absurd z n2,fun z=>nomatch z⟩,fun z=>nomatch z⟩
    | mk h1=>rw [(figW_mk y h1).1];exact ⟨⟨fun z=>absurd z n2,fun z=>nomatch z⟩,fun z=>nomatch z⟩
    | num h1=>rw [(num_mk y h1).1];exact ⟨⟨fun _=>rfl,fun _=>rfl⟩,fun _=>⟨rfl,h1⟩⟩
theorem Lk.mark (h:Lk ts ws) {i:Nat} (hi:i < ws.length) {ss:List Str} (hs:∀ s ∈ ss,s≠""∧nmB s=false∧figW s=false):one1 (tkA ts i) "mark" ss=decide (wAt ws i ∈ ss)∧(wAt ws i ∈ ss→(tkA ts i).v=.str (wAt ws i)):=by
  obtain ⟨_,_,_,n1,n2,n3,_⟩:=kd_no
  have no:∀ {k:Str},k≠"mark"→decide (V.str k=V.str "mark")=false:=fun h=>decide_eq_false (fun z=>h (by injection z))
  unfold one1
  rcases h.at_ i hi with ⟨h1,h2⟩ | hp
  · have hn:wAt ws i ∉ ss:=fun z=>(hs _ z).1 h1
    rw [h2,no n3,Bool.false_and,decide_eq_false hn]
    exact ⟨rfl,fun z=>absurd z hn⟩
  · generalize wAt ws i=y at *
    generalize (tkA ts i).k=k at *
    generalize (tkA ts i).v=v at *
    cases hp with
    | nm h1 h2 =>
      have hn:y ∉ ss:=fun z=>by have:=(hs _ z).2.1;rw [nmB_name h1,h2] at this;cases this
      rw [no n1,Bool.false_and,decide_eq_false hn]
      exact ⟨rfl,fun z=>absurd z hn⟩
    | kp h1 h2=>rw [decide_eq_true rfl,Bool.true_and,inV_str];exact ⟨rfl,fun _=>rfl⟩
    | mk h1=>rw [decide_eq_true rfl,Bool.true_and,inV_str];exact ⟨rfl,fun _=>rfl⟩
    | num h1 =>
      have hn:y ∉ ss:=fun z=>by have:=(hs _ z).2.2;rw [(num_mk y h1).1] at this;cases this
      rw [no n2,Bool.false_and,decide_eq_false hn]
      exact ⟨rfl,fun z=>absurd z hn⟩
theorem Lk.named (h:Lk ts ws) {i:Nat} (hi:i < ws.length) {ss:List Str} (hs:∀ s ∈ ss,nmB s=true):one1 (tkA ts i) "name" ss=decide (wAt ws i ∈ ss)∧(wAt ws i ∈ ss→(tkA ts i).v=.str (wAt ws i)):=by
  obtain ⟨h1,h2⟩:=h.name hi
  unfold one1
  cases e:nmB (wAt ws i) with
  | true =>
    obtain ⟨hv,_⟩:=h2 e
    rw [h1.mpr e,hv,decide_eq_true rfl,Bool.true_and,inV_str]
    exact ⟨rfl,fun _=>rfl⟩
  | false =>
    have hn:wAt ws i ∉ ss:=fun z=>by rw [hs _ z] at e;cases e
    rw [decide_eq_false (fun z=>by injection z with z;rw [h1.mp z] at e;cases e),Bool.false_and,decide_eq_false hn]
    exact ⟨rfl,fun z=>absurd z hn⟩
theorem Lk.end_ (h:Lk ts ws) {i:Nat} (hi:i < ws.length):(tkA ts i).k="end" ↔ wAt ws i="":=by
  obtain ⟨_,_,_,_,_,_,_,_,_,n1,n2,n3⟩:=kd_no
  rcases h.at_ i hi with ⟨h1,h2⟩ | hp
  · rw [h1,h2];exact ⟨fun _=>rfl,fun _=>rfl⟩
  · have hne:=(kv_fit hp).2.1
    refine ⟨fun z=>?_,fun z=>absurd z hne⟩
    rw [z] at hp
    generalize hk:("end":Str)=k at hp
    generalize (tkA ts i).v=v at hp
    generalize wAt ws i=y at hp hne ⊢
    cases hp with
    | nm=>exact absurd hk.symm n1
    | kp=>exact absurd hk.symm n2
    | mk=>exact absurd hk.symm n2
    | num=>exact absurd hk.symm n3
def Seg (ws:List Str) (i j:Nat) (ps:List Str):Prop:=ws.drop i=ps++ws.drop j
theorem Seg.one {i:Nat} (h:i < ws.length):Seg ws i (i+1) [wAt ws i]:=by
  have:=w_at h
  obtain ⟨h1,h2⟩:=List.getElem?_eq_some_iff.mp this
  unfold Seg
  rw [List.drop_eq_getElem_cons h1,h2];rfl
theorem Seg.nil {i:Nat}:Seg ws i i []:=rfl
theorem Seg.trans {i j k:Nat} {ps qs:List Str} (h:Seg ws i j ps) (h':Seg ws j k qs):Seg ws i k (ps++qs):=by
  unfold Seg at *
  rw [h,h',List.append_assoc]
theorem Seg.cons {i j:Nat} {ps:List Str} (hi:i < ws.length) (h:Seg ws (i+1) j ps):Seg ws i j (wAt ws i :: ps):=(Seg.one hi).trans h
theorem Seg.len {i j:Nat} {ps:List Str} (h:Seg ws i j ps):ps.length≤ws.length:=by
  have:=congrArg List.length h
  rw [List.length_drop,List.length_append] at this
  omega
def Ag {α:Type} (ts:List Tok) (ws:List Str) (i:Nat) (z:QR α) (e:Nat × Bool) (ok:α→List Str→Prop):Prop :=
  (e.2=false→z=.inl (tkA ts e.1).p)∧(e.2=true→∃ s ps,z=.inr (s,e.1)∧Seg ws i e.1 ps∧ok s ps)
theorem Ag.no {α:Type} {i j:Nat} {z:QR α} {ok:α→List Str→Prop} (h:z=.inl (tkA ts j).p):Ag ts ws i z (j,false) ok:=⟨fun _=>h,fun z=>nomatch z⟩
theorem Ag.yes {α:Type} {i j:Nat} {z:QR α} {ok:α→List Str→Prop} {s:α} {ps:List Str} (h:z=.inr (s,j)) (hs:Seg ws i j ps) (ho:ok s ps):Ag ts ws i z (j,true) ok:=⟨(fun z=>nomatch z),fun _=>⟨s,ps,h,hs,ho⟩⟩
def stepE (g:Str→Bool) (ws:List Str) (i:Nat):Nat × Bool:=if g (wAt ws i)=true then (i+1,true) else (i,false)
theorem stepE_t {g:Str→Bool} {i:Nat} (h:g (wAt ws i)=true):stepE g ws i=(i+1,true):=if_pos h
theorem stepE_f {g:Str→Bool} {i:Nat} (h:g (wAt ws i)=false):stepE g ws i=(i,false):=if_neg (by rw [h];decide)
theorem fixE_one (k:Str) (i:Nat):fixE ws [k] i=stepE (goodK k) ws i:=by
  rw [fixE,fixE]
  unfold stepE
  cases goodK k (wAt ws i) <;> rfl
end
end My
namespace My
open PySem L2
def byL (ns:List Str):List Str:=if ns.isEmpty=true then [] else "by" :: ns
def thgP (t:Str × Str × Option Str):List Str:=t.1 :: "=" :: t.2.1 :: (match t.2.2 with | none=>[] | some f=>[f])
def morP (ths:List (Str × Str × Option Str)):List Str:=ths.flatMap fun t=>"," :: thgP t
def Sg.pcs:Sg→List Str
  | .frm ns=>"from" :: (if ns.isEmpty=true then ["all"] else ns)
  | .nms k ns=>k :: ns
  | .srt x b=>["sort",x,if b=true then "down" else "up"]
  | .num k i=>[k,itx i]
  | .ses i ns=>"sessions" :: itx i :: byL ns
  | .joi s x i=>["join",s,"by",x,"within",itx i]
  | .fld ths ns=>"fold" :: ((match ths with | []=>[] | t :: more=>thgP t++morP more)++byL ns)
def intF (i:Int):Prop:=∃ y ∈ numS,i=intW y
def thF (t:Str × Str × Option Str):Prop:=NmF t.1∧t.2.1 ∈ how5∧∀ f,t.2.2=some f→NmF f
def Sg.fit:Sg→Prop
  | .frm ns=>(∀ n ∈ ns,NmF n)∨∃ x:Str,ns=(["@",x]:List Str)∧NmF x
  | .nms k ns=>k ∈ kdS∧∀ n ∈ ns,NmF n
  | .srt x _=>NmF x
  | .num k i=>k ∈ feS∧intF i
  | .ses i ns=>intF i∧∀ n ∈ ns,NmF n
  | .joi s x i=>NmF s∧NmF x∧intF i
  | .fld ths ns=>ths≠[]∧(∀ t ∈ ths,thF t)∧∀ n ∈ ns,NmF n
theorem itx_num:∀ y ∈ numS,itx (intW y)=y:=by decide +kernel
section
variable {ts:List Tok} {ws:List Str}
theorem Lk.nt (h:Lk ts ws) {i:Nat} (hi:i < ws.length) (e:nmB (wAt ws i)=true):nameP ts i=.inr (wAt ws i,i+1)∧NmF (wAt ws i):=by
  obtain ⟨h1,h2⟩:=h.name hi
  obtain ⟨hv,hn⟩:=h2 e
  unfold nameP
  rw [if_pos (h1.mpr e),hv]
  exact ⟨rfl,hn⟩
theorem Lk.nf (h:Lk ts ws) {i:Nat} (hi:i < ws.length) (e:nmB (wAt ws i)=false):nameP ts i=.inl (tkA ts i).p:=by
  unfold nameP
  rw [if_neg (fun z=>by rw [(h.name hi).1.mp z] at e;cases e)]
theorem Lk.mt (h:Lk ts ws) {i:Nat} (hi:i < ws.length) {ss:List Str} (hs:∀ s ∈ ss,s≠""∧nmB s=false∧figW s=false) (e:wAt ws i ∈ ss):oneP "mark" ss ts i=.inr (wAt ws i,i+1):=by
  obtain ⟨h1,h2⟩:=h.mark hi hs
  unfold oneP
  rw [if_pos (by rw [h1,decide_eq_true e]),h2 e];rfl
theorem Lk.mf (h:Lk ts ws) {i:Nat} (hi:i < ws.length) {ss:List Str} (hs:∀ s ∈ ss,s≠""∧nmB s=false∧figW s=false) (e:wAt ws i ∉ ss):oneP "mark" ss ts i=.inl (tkA ts i).p:=by
  obtain ⟨h1,h2⟩:=h.mark hi hs
  unfold oneP
  rw [if_neg (by rw [h1,decide_eq_false e];decide)]
theorem Lk.it (h:Lk ts ws) {i:Nat} (hi:i < ws.length) {least:Int} (e:(figW (wAt ws i)&&decide (least≤intW (wAt ws i)))=true):numP least ts i=.inr (intW (wAt ws i),i+1)∧wAt ws i ∈ numS:=by
  obtain ⟨h1,h2⟩:=h.num hi
  obtain ⟨e1,e2⟩:=Bool.and_eq_true_iff.mp e
  obtain ⟨hv,hn⟩:=h2 e1
  have e2:=of_decide_eq_true e2
  unfold numP
  rw [if_pos (h1.mpr e1),hv]
  exact ⟨if_neg (by omega),hn⟩
theorem Lk.if_ (h:Lk ts ws) {i:Nat} (hi:i < ws.length) {least:Int} (e:(figW (wAt ws i)&&decide (least≤intW (wAt ws i)))=false):numP least ts i=.inl (tkA ts i).p:=by
  obtain ⟨h1,h2⟩:=h.num hi
  unfold numP
  cases ef:figW (wAt ws i) with
  | false=>rw [if_neg (fun z=>by rw [h1.mp z] at ef;cases ef)]
  | true =>
    rw [ef,Bool.true_and] at e
    have e:=of_decide_eq_false e
    rw [if_pos (h1.mpr ef),(h2 ef).1]
    exact if_pos (by omega)
theorem mk_s:(∀ s ∈ (["by"]:List Str),s≠""∧nmB s=false∧figW s=false)∧(∀ s ∈ (["up","down"]:List Str),s≠""∧nmB s=false∧figW s=false)∧(∀ s ∈ (["within"]:List Str),s≠""∧nmB s=false∧figW s=false)∧(∀ s ∈ (["="]:List Str),s≠""∧nmB s=false∧figW s=false)∧(∀ s ∈ (how5:List Str),s≠""∧nmB s=false∧figW s=false)∧(∀ s ∈ ([","]:List Str),s≠""∧nmB s=false∧figW s=false)∧(∀ s ∈ (["all"]:List Str),s≠""∧nmB s=false∧figW s=false)∧(∀ s ∈ (["@"]:List Str),s≠""∧nmB s=false∧figW s=false)∧(∀ s ∈ (["|"]:List Str),s≠""∧nmB s=false∧figW s=false):=by decide +kernel
theorem gk_eq {k x:Str} (h1:k≠"NAME") (h2:¬ (k="0"∨k="1")) (h3:k≠"way"):goodK k x=decide (x=k):=by unfold goodK;rw [if_neg h1,if_neg h2,if_neg h3]
theorem gk_way {x:Str}:goodK "way" x=decide (x="up"∨x="down"):=by
  unfold goodK
  rw [if_neg (by decide +kernel),if_neg (by decide +kernel),if_pos rfl]
theorem gk_0 {x:Str}:goodK "0" x=(figW x&&decide ((0:Int)≤intW x)):=by
  unfold goodK
  rw [if_neg (by decide +kernel),if_pos (.inl rfl),show intW "0"=0 by decide +kernel]
theorem gk_1 {x:Str}:goodK "1" x=(figW x&&decide ((1:Int)≤intW x)):=by
  unfold goodK
  rw [if_neg (by decide +kernel),if_pos (.inr rfl),show intW "1"=1 by decide +kernel]
theorem nmEnd_fuel (h:WOk ws):∀ m m' i,i < ws.length→ws.length≤m+i→ws.length≤m'+i→nmEnd ws m i=nmEnd ws m' i
  | 0,_,i,hi,h1,_=>by omega
  | m+1,0,i,hi,_,h2=>by omega
  | m + 1,m'+1,i,hi,h1,h2=>by
    rw [nmEnd,nmEnd]
    split
    · rename_i k
      exact nmEnd_fuel h m m' (i+1) (h.more hi (nmB_ne k)) (by omega) (by omega)
    · rfl
theorem namesL_eq (h:Lk ts ws) (hW:WOk ws):∀ m i ns,i < ws.length→∃ ms,namesL ts m i ns=(ns++ms,nmEnd ws m i)∧Seg ws i (nmEnd ws m i) ms∧∀ x ∈ ms,NmF x
  | 0,i,ns,hi=>⟨[],by rw [namesL,nmEnd,List.append_nil],Seg.nil,fun _ z=>nomatch z⟩
  | m + 1,i,ns,hi=>by
    obtain ⟨h1,h2⟩:=h.name hi
    rw [namesL,nmEnd]
    cases e:nmB (wAt ws i) with
    | true =>
      obtain ⟨hv,hn⟩:=h2 e
      obtain ⟨ms,e1,e2,e3⟩:=namesL_eq h hW m (i+1) (ns++[wAt ws i]) (hW.more hi (nmB_ne e))
      rw [if_pos (h1.mpr e),if_pos rfl,hv]
      refine ⟨wAt ws i :: ms,?_,Seg.cons hi e2,fun x hx=>?_⟩
      · show namesL ts m (i+1) (ns++[wAt ws i])=_
        rw [e1,List.append_assoc];rfl
      · rcases List.mem_cons.mp hx with rfl | hx
        · exact hn
        · exact e3 x hx
    | false =>
      rw [if_neg (fun z=>by rw [h1.mp z] at e;cases e),if_neg (by decide)]
      exact ⟨[],by rw [List.append_nil],Seg.nil,fun _ z=>nomatch z⟩
def okNm (ns ps:List Str):Prop:=ps=ns∧ns≠[]∧∀ x ∈ ns,NmF x
theorem ag_names (h:Lk ts ws) (hW:WOk ws) {i:Nat} (hi:i < ws.length):Ag ts ws i (namesP ts i) (nmEnd ws ws.length i,decide (i < nmEnd ws ws.length i)) okNm:=by
  obtain ⟨h1,h2⟩:=h.name hi
  obtain ⟨n,hn⟩:∃ n,ws.length=n+1:=⟨ws.length - 1,by omega⟩
  have en:nmEnd ws ws.length i=if nmB (wAt ws i)=true then nmEnd ws n (i+1) else i:=by rw [hn,nmEnd]
  unfold namesP
  cases e:nmB (wAt ws i) with
  | true =>
    obtain ⟨hv,hnm⟩:=h2 e
    have hi1:=hW.more hi (nmB_ne e)
    rw [e,if_pos rfl] at en
    obtain ⟨ms,e1,e2,e3⟩:=namesL_eq h hW ts.length (i+1) [wAt ws i] hi1
    have ef:=nmEnd_fuel hW ts.length n (i+1) hi1 (by rw [h.len];omega) (by omega)
    rw [ef] at e1 e2
    have:=(nmEnd_up hW n (i+1) hi1).1
    rw [en,if_pos (h1.mpr e),hv,decide_eq_true (by omega)]
    refine Ag.yes (s:=wAt ws i :: ms) ?_ (Seg.cons hi e2) ⟨rfl,by simp,fun x hx=>?_⟩
    · show Sum.inr (namesL ts ts.length (i+1) [wAt ws i])=_
      rw [e1];rfl
    · rcases List.mem_cons.mp hx with rfl | hx
      · exact hnm
      · exact e3 x hx
  | false =>
    rw [e,if_neg (by decide)] at en
    rw [en,if_neg (fun z=>by rw [h1.mp z] at e;cases e),decide_eq_false (by omega)]
    exact Ag.no rfl
def okBy (ns ps:List Str):Prop:=ps=byL ns∧∀ x ∈ ns,NmF x
theorem ag_by (h:Lk ts ws) (hW:WOk ws) {i:Nat} (hi:i < ws.length):Ag ts ws i (byP ts i) (byEnd ws i) okBy:=by
  obtain ⟨h1,h2⟩:=h.mark hi mk_s.1
  unfold byP byEnd
  by_cases k:wAt ws i="by"
  · rw [h1,decide_eq_true (by rw [k];simp),if_pos rfl,if_pos k]
    have hi1:=hW.more hi (by rw [k];exact by_ne)
    have z:=ag_names h hW hi1
    refine ⟨z.1,fun hb=>?_⟩
    obtain ⟨s,ps,e1,e2,e3,e4,e5⟩:=z.2 hb
    subst e3
    refine ⟨ps,"by" :: ps,e1,?_,?_,e5⟩
    · have:=Seg.cons hi e2
      rw [k] at this
      exact this
    · unfold byL
      rw [if_neg (by simpa using e4)]
  · rw [h1,decide_eq_false (by simpa using k),if_neg (by decide),if_neg k]
    exact Ag.yes rfl Seg.nil ⟨rfl,fun _ z=>nomatch z⟩
theorem Ag.mono {α:Type} {i:Nat} {z:QR α} {e:Nat × Bool} {ok ok':α→List Str→Prop} (h:Ag ts ws i z e ok) (hh:∀ s ps,ok s ps→ok' s ps):Ag ts ws i z e ok':=⟨h.1,fun hb=>let ⟨s,ps,a,b,c⟩:=h.2 hb;⟨s,ps,a,b,hh _ _ c⟩⟩
def okS (k:Str) (s:Sg) (ps:List Str):Prop:=s.pcs=k :: ps∧s.fit
theorem ag_list (h:Lk ts ws) (hW:WOk ws) {i:Nat} (hi:i < ws.length) {k:Str} (hk:k ∈ kdS):Ag ts ws i (listP k ts i) (nmEnd ws ws.length i,decide (i < nmEnd ws ws.length i)) (okS k):=by
  have z:=ag_names h hW hi
  unfold listP
  refine ⟨fun hb=>bindR_l (z.1 hb),fun hb=>?_⟩
  obtain ⟨s,ps,e1,e2,e3,e4,e5⟩:=z.2 hb
  subst e3
  exact ⟨.nms k ps,ps,bindR_r e1,e2,rfl,hk,e5⟩
theorem ag_cnt (h:Lk ts ws) {i:Nat} (hi:i < ws.length) {k kd:Str} {least:Int} (hk:k ∈ feS) (hg:∀ x,goodK kd x=(figW x&&decide (least≤intW x))):Ag ts ws i (cntP k least ts i) (fixE ws [kd] i) (okS k):=by
  rw [fixE_one]
  unfold cntP
  cases e:goodK kd (wAt ws i) with
  | true =>
    rw [stepE_t e]
    rw [hg] at e
    obtain ⟨e1,e2⟩:=h.it hi e
    exact Ag.yes (bindR_r e1) (Seg.one hi) ⟨by show [k,itx (intW (wAt ws i))]=[k,wAt ws i];rw [itx_num _ e2],hk,_,e2,rfl⟩
  | false =>
    rw [stepE_f e]
    rw [hg] at e
    exact Ag.no (bindR_l (h.if_ hi e))
theorem ag_ses (h:Lk ts ws) (hW:WOk ws) {i:Nat} (hi:i < ws.length):Ag ts ws i (sesP ts i) (sesE ws i) (okS "sessions"):=by
  unfold sesE sesP
  rw [fixE_one]
  cases e:goodK "0" (wAt ws i) with
  | true =>
    rw [stepE_t e,if_pos rfl]
    rw [gk_0] at e
    obtain ⟨e1,e2⟩:=h.it hi e
    have hi1:=hW.more hi (fun z=>by rw [z,figW_nil] at e;cases e)
    have z:=ag_by h hW hi1
    rw [bindR_r e1]
    refine ⟨fun hb=>bindR_l (z.1 hb),fun hb=>?_⟩
    obtain ⟨ns,ps,f1,f2,f3,f4⟩:=z.2 hb
    exact ⟨.ses (intW (wAt ws i)) ns,wAt ws i :: ps,bindR_r f1,Seg.cons hi f2,by show ("sessions":Str) :: itx (intW (wAt ws i)) :: byL ns=_;rw [itx_num _ e2,f3],⟨_,e2,rfl⟩,f4⟩
  | false =>
    rw [stepE_f e]
    rw [gk_0] at e
    exact Ag.no (bindR_l (h.if_ hi e))
theorem fixE_t {k:Str} {ks:List Str} {i:Nat} (h:goodK k (wAt ws i)=true):fixE ws (k :: ks) i=fixE ws ks (i+1):=by rw [fixE,if_pos h]
theorem fixE_f {k:Str} {ks:List Str} {i:Nat} (h:goodK k (wAt ws i)=false):fixE ws (k :: ks) i=(i,false):=by rw [fixE,if_neg (by rw [h];decide)]
theorem fixN_t {ks:List Str} {i:Nat} (h:nmB (wAt ws i)=true):fixE ws ("NAME" :: ks) i=fixE ws ks (i+1):=fixE_t (k:="NAME") h
theorem fixN_f {ks:List Str} {i:Nat} (h:nmB (wAt ws i)=false):fixE ws ("NAME" :: ks) i=(i,false):=fixE_f (k:="NAME") h
theorem ag_sort (h:Lk ts ws) (hW:WOk ws) {i:Nat} (hi:i < ws.length):Ag ts ws i (sortP ts i) (fixE ws ["NAME","way"] i) (okS "sort"):=by
  unfold sortP
  cases e:nmB (wAt ws i) with
  | false=>rw [fixN_f e,bindR_l (h.nf hi e)];exact Ag.no rfl
  | true =>
    obtain ⟨e1,e2⟩:=h.nt hi e
    have hi1:=hW.more hi (nmB_ne e)
    rw [fixN_t e,bindR_r e1]
    by_cases k:wAt ws (i+1)="up"∨wAt ws (i+1)="down"
    · rw [fixE_t (by rw [gk_way];exact decide_eq_true k),bindR_r (h.mt hi1 mk_s.2.1 (by simpa using k))]
      refine Ag.yes rfl (Seg.cons hi (Seg.one hi1)) ⟨?_,e2⟩
      show [("sort":Str),wAt ws i,if decide (V.str (wAt ws (i+1))=V.str "down")=true then "down" else "up"]=_
      rcases k with k | k
      · rw [k,if_neg (by decide +kernel)]
      · rw [k,if_pos (by decide +kernel)]
    · rw [fixE_f (by rw [gk_way];exact decide_eq_false k),bindR_l (h.mf hi1 mk_s.2.1 (by simpa using k))]
      exact Ag.no rfl
theorem gk_l {x:Str}:goodK "by" x=decide (x="by")∧goodK "within" x=decide (x="within")∧goodK "=" x=decide (x="=")∧goodK "count" x=decide (x="count"):=⟨gk_eq (by decide +kernel) (by decide +kernel) (by decide +kernel),gk_eq (by decide +kernel) (by decide +kernel) (by decide +kernel),gk_eq (by decide +kernel) (by decide +kernel) (by decide +kernel),gk_eq (by decide +kernel) (by decide +kernel) (by decide +kernel)⟩
theorem ag_join (h:Lk ts ws) (hW:WOk ws) {i:Nat} (hi:i < ws.length):Ag ts ws i (joinP ts i) (fixE ws ["NAME","by","NAME","within","0"] i) (okS "join"):=by
  unfold joinP
  cases e:nmB (wAt ws i) with
  | false=>rw [fixN_f e,bindR_l (h.nf hi e)];exact Ag.no rfl
  | true =>
    obtain ⟨e1,e2⟩:=h.nt hi e
    have hi1:=hW.more hi (nmB_ne e)
    rw [fixN_t e,bindR_r e1]
    by_cases k1:wAt ws (i+1)="by"
    rotate_left
    · rw [fixE_f (by rw [gk_l.1];exact decide_eq_false k1),bindR_l (h.mf hi1 mk_s.1 (by simpa using k1))]
      exact Ag.no rfl
    have hi2:=hW.more hi1 (by rw [k1];exact by_ne)
    rw [fixE_t (by rw [gk_l.1];exact decide_eq_true k1),bindR_r (h.mt hi1 mk_s.1 (by simpa using k1))]
    cases e3:nmB (wAt ws (i+1+1)) with
    | false=>rw [fixN_f e3,bindR_l (h.nf hi2 e3)];exact Ag.no rfl
    | true =>
      obtain ⟨f1,f2⟩:=h.nt hi2 e3
      have hi3:=hW.more hi2 (nmB_ne e3)
      rw [fixN_t e3,bindR_r f1]
      by_cases k2:wAt ws (i+1+1+1)="within"
      rotate_left
      · rw [fixE_f (by rw [gk_l.2.1];exact decide_eq_false k2),bindR_l (h.mf hi3 mk_s.2.2.1 (by simpa using k2))]
        exact Ag.no rfl
      have hi4:=hW.more hi3 (by rw [k2];decide +kernel)
      rw [fixE_t (by rw [gk_l.2.1];exact decide_eq_true k2),bindR_r (h.mt hi3 mk_s.2.2.1 (by simpa using k2))]
      cases e4:goodK "0" (wAt ws (i+1+1+1+1)) with
      | false =>
        rw [fixE_f e4]
        rw [gk_0] at e4
        rw [bindR_l (h.if_ hi4 e4)]
        exact Ag.no rfl
      | true =>
        rw [fixE_t e4]
        rw [gk_0] at e4
        obtain ⟨g1,g2⟩:=h.it hi4 e4
        rw [bindR_r g1]
        refine Ag.yes rfl (Seg.cons hi (Seg.cons hi1 (Seg.cons hi2 (Seg.cons hi3 (Seg.one hi4))))) ⟨?_,e2,f2,_,g2,rfl⟩
        show [("join":Str),wAt ws i,("by":Str),wAt ws (i+1+1),("within":Str),itx (intW (wAt ws (i+1+1+1+1)))]=_
        rw [itx_num _ g2,k1,k2]
def thE (ws:List Str) (i:Nat):Nat × Bool:=if (fixE ws ["NAME","="] i).2=true then (if wAt ws (fixE ws ["NAME","="] i).1 ∈ how5 then fixE ws (patF (wAt ws (fixE ws ["NAME","="] i).1)) (fixE ws ["NAME","="] i).1 else ((fixE ws ["NAME","="] i).1,false)) else ((fixE ws ["NAME","="] i).1,false)
theorem foldE_th (n i:Nat):foldE ws (n+1) i=if (thE ws i).2=true then (if wAt ws (thE ws i).1="," then foldE ws n ((thE ws i).1+1) else byEnd ws (thE ws i).1) else ((thE ws i).1,false):=by
  rw [foldE]
  unfold thE
  generalize fixE ws ["NAME","="] i=e1
  obtain ⟨j1,b1⟩:=e1
  cases b1 with
  | false=>rfl
  | true =>
    dsimp only
    rw [if_pos rfl,if_pos rfl]
    by_cases k:wAt ws j1 ∈ how5
    · rw [if_pos k,if_pos k]
    · rw [if_neg k,if_neg k];rfl
theorem thE_up (hW:WOk ws) {i:Nat} (hi:i < ws.length):i≤(thE ws i).1∧(thE ws i).1 < ws.length:=by
  have u1:=fixE_up hW ["NAME","="] i two_ne hi
  unfold thE
  generalize fixE ws ["NAME","="] i=e1 at *
  split
  · split
    · rename_i k5
      have u2:=fixE_up hW (patF (wAt ws e1.1)) e1.1 (patF_ne _ k5) u1.2
      exact ⟨by omega,u2.2⟩
    · exact u1
  · exact u1
theorem how_cases:∀ y ∈ how5,(y="count"∧inV (.str y) (how4.map V.str)=false)∨(y≠"count"∧inV (.str y) (how4.map V.str)=true∧goodK y y=true):=by decide +kernel
def okTh (t:Str × Str × Option Str) (ps:List Str):Prop:=ps=thgP t∧thF t
theorem ag_thing (h:Lk ts ws) (hW:WOk ws) {i:Nat} (hi:i < ws.length):Ag ts ws i (thingP ts i) (thE ws i) okTh:=by
  unfold thingP thE
  cases e:nmB (wAt ws i) with
  | false=>rw [fixN_f e,bindR_l (h.nf hi e)];exact Ag.no rfl
  | true =>
    obtain ⟨e1,e2⟩:=h.nt hi e
    have hi1:=hW.more hi (nmB_ne e)
    rw [fixN_t e,bindR_r e1]
    by_cases k1:wAt ws (i+1)="="
    rotate_left
    · rw [fixE_f (by rw [gk_l.2.2.1];exact decide_eq_false k1),bindR_l (h.mf hi1 mk_s.2.2.2.1 (by simpa using k1))]
      exact Ag.no rfl
    have hi2:=hW.more hi1 (by rw [k1];decide +kernel)
    rw [fixE_t (by rw [gk_l.2.2.1];exact decide_eq_true k1),bindR_r (h.mt hi1 mk_s.2.2.2.1 (by simpa using k1)),fixE]
    dsimp only
    rw [if_pos rfl]
    by_cases k2:wAt ws (i+1+1) ∈ how5
    rotate_left
    · rw [if_neg k2,bindR_l (h.mf hi2 mk_s.2.2.2.2.1 k2)]
      exact Ag.no rfl
    have hi3:=hW.more hi2 (mk_s.2.2.2.2.1 _ k2).1
    rw [if_pos k2,bindR_r (h.mt hi2 mk_s.2.2.2.2.1 k2)]
    rcases how_cases _ k2 with ⟨c1,c2⟩ | ⟨c1,c2,c3⟩
    · have ep:patF (wAt ws (i+1+1))=(["count"]:List Str):=by unfold patF;rw [if_pos c1]
      rw [ep,fixE_t (by rw [gk_l.2.2.2];exact decide_eq_true c1),fixE,if_neg (by rw [c2];decide)]
      refine Ag.yes rfl (Seg.cons hi (Seg.cons hi1 (Seg.one hi2))) ⟨?_,e2,k2,fun _ z=>nomatch z⟩
      rw [k1];rfl
    · have ep:patF (wAt ws (i+1+1))=([wAt ws (i+1+1),"NAME"]:List Str):=by unfold patF;rw [if_neg c1]
      rw [ep,fixE_t c3,if_pos c2]
      cases e3:nmB (wAt ws (i+1+1+1)) with
      | false=>rw [fixN_f e3,bindR_l (h.nf hi3 e3)];exact Ag.no rfl
      | true =>
        obtain ⟨f1,f2⟩:=h.nt hi3 e3
        rw [fixN_t e3,fixE,bindR_r f1]
        refine Ag.yes rfl (Seg.cons hi (Seg.cons hi1 (Seg.cons hi2 (Seg.one hi3)))) ⟨?_,e2,k2,fun f z=>by cases z;exact f2⟩
        rw [k1];rfl
end
end My
namespace My
open PySem L2
theorem bindR_i {α β:Type} {f:α→Nat→QR β} {a:α} {j:Nat}:bindR (.inr (a,j)) f=f a j:=rfl
theorem bindR_assoc {α β γ:Type} (z:QR α) (f:α→Nat→QR β) (g:β→Nat→QR γ):bindR (bindR z f) g=bindR z fun a j=>bindR (f a j) g:=by
  cases z with
  | inl p=>rfl
  | inr x=>rfl
section
variable {ts:List Tok} {ws:List Str}
theorem Seg.place {i j:Nat} {ps:List Str} (h:Seg ws i j ps) (hi:i≤ws.length) (hj:j≤ws.length):i+ps.length=j:=by
  have:=congrArg List.length h
  rw [List.length_drop,List.length_append,List.length_drop] at this
  omega
def okFd (ths0:List (Str × Str × Option Str)) (s:Sg) (ps:List Str):Prop:=∃ t more ns,s=.fld (ths0++t :: more) ns∧ps=thgP t++morP more++byL ns∧thF t∧(∀ u ∈ more,thF u)∧∀ x ∈ ns,NmF x
theorem ag_things (h:Lk ts ws) (hW:WOk ws):∀ (n m i:Nat) (ths0:List (Str × Str × Option Str)),i < ws.length→ws.length≤n+i→ws.length≤m+i →
    Ag ts ws i (bindR (thingP ts i) fun t j=>bindR (thingsL ts m j (ths0++[t])) fun ths j2=>bindR (byP ts j2) fun ns j3=>.inr (Sg.fld ths ns,j3)) (foldE ws n i) (okFd ths0)
  | 0,m,i,ths0,hi,h1,_=>by omega
  | n + 1, m,i,ths0,hi,h1,h2=>by
    have z:=ag_thing h hW hi
    have u:=thE_up hW hi
    rw [foldE_th]
    generalize thE ws i=e at *
    obtain ⟨j,b⟩:=e
    cases b with
    | false=>exact Ag.no (bindR_l (z.1 rfl))
    | true =>
      obtain ⟨t,ps,e1,e2,rfl,e4⟩:=z.2 rfl
      have hj:j < ws.length:=u.2
      have hpl:=e2.place (by omega) (by show j≤_;omega)
      have hpl:i+(thgP t).length=j:=hpl
      have h3:3≤(thgP t).length:=by unfold thgP;simp
      obtain ⟨m,rfl⟩:∃ m',m=m'+1:=⟨m - 1,by omega⟩
      rw [bindR_r e1]
      obtain ⟨c1,c2⟩:=h.mark hj mk_s.2.2.2.2.2.1
      dsimp only
      rw [if_pos rfl,thingsL]
      by_cases k:wAt ws j=","
      · have hj1:=hW.more hj (by rw [k];decide +kernel)
        rw [if_pos k,if_pos (by rw [c1,decide_eq_true (by rw [k];simp)]),bindR_assoc]
        have ih:=ag_things h hW n m (j+1) (ths0++[t]) hj1 (by omega) (by omega)
        refine ⟨ih.1,fun hb=>?_⟩
        obtain ⟨s,qs,f1,f2,t',more,ns,rfl,rfl,f5,f6,f7⟩:=ih.2 hb
        have sg:=e2.trans (Seg.cons hj f2)
        rw [k] at sg
        refine ⟨_,_,f1,sg,t,t' :: more,ns,by rw [List.append_assoc];rfl,?_,e4,fun u hu=>?_,f7⟩
        · show thgP t++(",":Str) :: (thgP t'++morP more++byL ns)=thgP t++morP (t' :: more)++byL ns
          unfold morP
          rw [List.flatMap_cons]
          simp
        · rcases List.mem_cons.mp hu with rfl | hu
          · exact f5
          · exact f6 u hu
      · rw [if_neg k,if_neg (by rw [c1,decide_eq_false (by simpa using k)];decide),bindR_i]
        have z2:=ag_by h hW hj
        refine ⟨fun hb=>bindR_l (z2.1 hb),fun hb=>?_⟩
        obtain ⟨ns,qs,f1,f2,rfl,f4⟩:=z2.2 hb
        exact ⟨.fld (ths0++[t]) ns,_,bindR_r f1,e2.trans f2,t,[],ns,rfl,by simp [morP],e4,(fun _ z=>nomatch z),f4⟩
theorem ag_fold (h:Lk ts ws) (hW:WOk ws) {i:Nat} (hi:i < ws.length):Ag ts ws i (foldP ts i) (foldE ws ws.length i) (okS "fold"):=by
  have z:=ag_things h hW ws.length ts.length i [] hi (by omega) (by rw [h.len];omega)
  refine Ag.mono z fun s ps hs=>?_
  obtain ⟨t,more,ns,rfl,rfl,a,b,c⟩:=hs
  refine ⟨?_,by simp,fun u hu=>?_,c⟩
  · show ("fold":Str) :: ((thgP t++morP more)++byL ns)=_
    rfl
  · rcases List.mem_cons.mp hu with rfl | hu
    · exact a
    · exact b u hu
def fromE (ws:List Str) (i:Nat):Nat × Bool:=if wAt ws i="all" then (i+1,true) else if wAt ws i="@" then fixE ws ["NAME"] (i+1) else (nmEnd ws ws.length i,decide (i < nmEnd ws ws.length i))
theorem ag_from (h:Lk ts ws) (hW:WOk ws) {i:Nat} (hi:i < ws.length):Ag ts ws i (fromP ts i) (fromE ws i) (fun s ps=>okS "from" s ps∧∃ ns,s=.frm ns):=by
  obtain ⟨c1,c2⟩:=h.mark hi mk_s.2.2.2.2.2.2.1
  obtain ⟨d1,d2⟩:=h.mark hi mk_s.2.2.2.2.2.2.2.1
  unfold fromP fromE
  by_cases k1:wAt ws i="all"
  · rw [if_pos (by rw [c1,decide_eq_true (by rw [k1];simp)]),if_pos k1]
    refine Ag.yes rfl (Seg.one hi) ⟨⟨?_,.inl fun _ z=>nomatch z⟩,_,rfl⟩
    rw [k1];rfl
  rw [if_neg (by rw [c1,decide_eq_false (by simpa using k1)];decide),if_neg k1]
  by_cases k2:wAt ws i="@"
  · rw [if_pos (by rw [d1,decide_eq_true (by rw [k2];simp)]),if_pos k2]
    have hi1:=hW.more hi (by rw [k2];decide +kernel)
    have hv:=d2 (by rw [k2];simp)
    cases e:nmB (wAt ws (i+1)) with
    | false=>rw [fixN_f e,bindR_l (h.nf hi1 e)];exact Ag.no rfl
    | true =>
      obtain ⟨e1,e2⟩:=h.nt hi1 e
      rw [fixN_t e,fixE,bindR_r e1,hv]
      refine Ag.yes rfl (Seg.cons hi (Seg.one hi1)) ⟨⟨?_,.inr ⟨_,?_,e2⟩⟩,_,rfl⟩
      · show ("from":Str) :: [sgn (V.str (wAt ws i)),wAt ws (i+1)]=_
        rfl
      · show [sgn (V.str (wAt ws i)),wAt ws (i+1)]=_
        rw [k2];rfl
  rw [if_neg (by rw [d1,decide_eq_false (by simpa using k2)];decide),if_neg k2]
  have z:=ag_names h hW hi
  refine ⟨fun hb=>bindR_l (z.1 hb),fun hb=>?_⟩
  obtain ⟨s,ps,e1,e2,e3,e4,e5⟩:=z.2 hb
  subst e3
  refine ⟨.frm ps,ps,bindR_r e1,e2,⟨?_,.inl e5⟩,_,rfl⟩
  show ("from":Str) :: (if ps.isEmpty=true then ["all"] else ps)=("from":Str) :: ps
  rw [if_neg (by simpa using e4)]
theorem stE_from (i:Nat):stE ws i true=if wAt ws i="from" then fromE ws (i+1) else (i,false):=by
  unfold stE fromE
  by_cases k:wAt ws i="from"
  · rw [if_pos k,if_neg (fun z=>z.elim (fun z=>by rw [decide_eq_true k] at z;cases z) (fun z=>z (by rw [k];decide +kernel)))]
    by_cases k1:wAt ws (i+1)="all"
    · rw [if_pos ⟨k,k1⟩,if_pos k1]
    rw [if_neg (fun z=>k1 z.2),if_neg k1]
    by_cases k2:wAt ws (i+1)="@"
    · rw [if_pos ⟨k,k2⟩,if_pos k2]
    rw [if_neg (fun z=>k2 z.2),if_neg k2,if_pos (by rw [k];decide +kernel)]
  · rw [if_neg k,if_pos (.inl (by rw [decide_eq_false k];rfl))]
def otherE (ws:List Str) (k:Str) (i:Nat):Nat × Bool:=if k ∈ kdS then (nmEnd ws ws.length i,decide (i < nmEnd ws ws.length i)) else if k="sessions" then sesE ws i else if k="fold" then foldE ws ws.length i else fixE ws (plainK k) i
abbrev restS:List Str:=["keep","drop","sort","first","every","sessions","join","fold"]
theorem stE_rest (i:Nat):stE ws i false=if wAt ws i ∈ restS then otherE ws (wAt ws i) (i+1) else (i,false):=by
  unfold stE otherE
  generalize wAt ws i=k
  have hr:k ∈ knownS ↔ k="from"∨k ∈ restS:=by simp
  have hk:k ∈ (["from","keep","drop"]:List Str) ↔ k="from"∨k ∈ kdS:=by simp
  have hf:("from":Str) ∉ restS:=by decide +kernel
  by_cases k0:k="from"
  · rw [if_pos (.inl (by rw [decide_eq_true k0];rfl)),if_neg (by rw [k0];exact hf)]
  by_cases k1:k ∈ restS
  · rw [if_neg (fun z=>z.elim (fun z=>by rw [decide_eq_false k0] at z;cases z) (fun z=>z (hr.mpr (.inr k1)))),if_pos k1,if_neg (fun z=>k0 z.1),if_neg (fun z=>k0 z.1)]
    by_cases k2:k ∈ kdS
    · rw [if_pos (hk.mpr (.inr k2)),if_pos k2]
    · rw [if_neg (fun z=>(hk.mp z).elim k0 k2),if_neg k2]
  · rw [if_pos (.inr fun z=>(hr.mp z).elim k0 k1),if_neg k1]
theorem taken_nm:∀ s ∈ taken,nmB s=true:=by decide +kernel
theorem rest_ne:∀ s ∈ restS,s≠"":=by decide +kernel
theorem ag_stage (h:Lk ts ws) (hW:WOk ws) {i:Nat} (hi:i < ws.length):Ag ts ws i (stageP ts i) (stE ws i false) (fun s ps=>s.pcs=ps∧s.fit):=by
  obtain ⟨c1,c2⟩:=h.named hi taken_nm
  rw [stE_rest]
  unfold stageP
  have hex:wAt ws i ∈ taken ↔ wAt ws i="where"∨wAt ws i="with"∨wAt ws i ∈ restS:=by simp
  by_cases k:wAt ws i ∈ restS
  rotate_left
  · have hn:wAt ws i ∉ taken:=fun z=>by
      have hnm:=((h.name hi).2 (taken_nm _ z)).2.nt
      rcases hex.mp z with e | e | e
      · exact hnm.1 e
      · exact hnm.2 e
      · exact k e
    rw [if_neg k,if_neg (by rw [c1,decide_eq_false hn];decide)]
    exact Ag.no rfl
  have ht:wAt ws i ∈ taken:=hex.mpr (.inr (.inr k))
  have hi1:=hW.more hi (rest_ne _ k)
  rw [if_pos k,if_pos (by rw [c1,decide_eq_true ht]),c2 ht]
  have fin:∀ {z:QR Sg} {e:Nat × Bool},Ag ts ws (i+1) z e (okS (wAt ws i))→Ag ts ws i z e (fun s ps=>s.pcs=ps∧s.fit):=fun {z e} q=>⟨q.1,fun hb=>let ⟨s,ps,a,b,c,d⟩:=q.2 hb;⟨s,_,a,Seg.cons hi b,c,d⟩⟩
  refine fin ?_
  unfold stP otherE
  show Ag ts ws (i+1) (if wAt ws i="keep"∨wAt ws i="drop" then listP (wAt ws i) ts (i+1) else if wAt ws i="sort" then sortP ts (i+1) else if wAt ws i="first" then cntP (wAt ws i) 0 ts (i+1) else if wAt ws i="every" then cntP (wAt ws i) 1 ts (i+1) else if wAt ws i="sessions" then sesP ts (i+1) else if wAt ws i="join" then joinP ts (i+1) else foldP ts (i+1)) _ _
  generalize wAt ws i=w at *
  by_cases k1:w ∈ kdS
  · rw [if_pos (by simpa using k1),if_pos k1]
    exact ag_list h hW hi1 k1
  rw [if_neg (by simpa using k1),if_neg k1]
  have n1:∀ {a b:Str},a≠b→w=a→¬ w=b:=fun n e z=>n (e.symm.trans z)
  simp only [List.mem_cons,List.mem_nil_iff,or_false] at k
  rcases k with k | k | k | k | k | k | k | k
  · exact absurd (by rw [k];simp) k1
  · exact absurd (by rw [k];simp) k1
  · subst k
    rw [if_pos rfl,if_neg (by decide +kernel),if_neg (by decide +kernel),show plainK "sort"=(["NAME","way"]:List Str) by decide +kernel]
    exact ag_sort h hW hi1
  · subst k
    rw [if_neg (by decide +kernel),if_pos rfl,if_neg (by decide +kernel),if_neg (by decide +kernel),show plainK "first"=(["0"]:List Str) by decide +kernel]
    exact ag_cnt h hi1 (by simp) fun x=>gk_0
  · subst k
    rw [if_neg (by decide +kernel),if_neg (by decide +kernel),if_pos rfl,if_neg (by decide +kernel),if_neg (by decide +kernel),show plainK "every"=(["1"]:List Str) by decide +kernel]
    exact ag_cnt h hi1 (by simp) fun x=>gk_1
  · subst k
    rw [if_neg (by decide +kernel),if_neg (by decide +kernel),if_neg (by decide +kernel),if_pos rfl,if_pos rfl]
    exact ag_ses h hW hi1
  · subst k
    rw [if_neg (by decide +kernel),if_neg (by decide +kernel),if_neg (by decide +kernel),if_neg (by decide +kernel),if_pos rfl,if_neg (by decide +kernel),if_neg (by decide +kernel),show plainK "join"=(["NAME","by","NAME","within","0"]:List Str) by decide +kernel]
    exact ag_join h hW hi1
  · subst k
    rw [if_neg (by decide +kernel),if_neg (by decide +kernel),if_neg (by decide +kernel),if_neg (by decide +kernel),if_neg (by decide +kernel),if_neg (by decide +kernel),if_pos rfl]
    exact ag_fold h hW hi1
theorem stgE_f (n j:Nat):stgE ws n (j,false)=(j,false):=by
  cases n with
  | zero=>rfl
  | succ n=>rw [stgE,if_neg (fun z=>nomatch z.1)]
def okE (ws:List Str) (e:Nat × Bool):Prop:=e.2=true∧wAt ws e.1=""
def stsP (sts:List Sg):List Str:=sts.flatMap fun s=>"|" :: s.pcs
theorem ag_stages (h:Lk ts ws) (hW:WOk ws):∀ (n m i:Nat) (sts:List Sg),sts.length+n=12→i < ws.length→ws.length≤m+i →
    (okE ws (stgE ws n (i,true))→∃ more,stagesL ts m i sts=.inr (sts++more,(stgE ws n (i,true)).1)∧Seg ws i (stgE ws n (i,true)).1 (stsP more)∧(∀ s ∈ more,s.fit)∧(sts++more).length≤12) ∧
    (¬ okE ws (stgE ws n (i,true))→stagesL ts m i sts=.inl (tkA ts (stgE ws n (i,true)).1).p∨∃ q,stagesL ts m i sts=.inr (q,(stgE ws n (i,true)).1)∧wAt ws (stgE ws n (i,true)).1≠"")
  | n,0,i,sts,_,hi,h2=>by omega
  | n, m + 1,i,sts,h1,hi,h2=>by
    obtain ⟨c1,c2⟩:=h.mark hi mk_s.2.2.2.2.2.2.2.2
    by_cases k:wAt ws i="|"
    · have hi1:=hW.more hi (by rw [k];exact bar_ne)
      rw [stagesL,if_pos (by rw [c1,decide_eq_true (by rw [k];simp)])]
      cases n with
      | zero =>
        rw [if_pos (by omega)]
        refine ⟨fun z=>absurd z.2 (by show wAt ws i≠"";rw [k];exact bar_ne),fun _=>.inl rfl⟩
      | succ n =>
        rw [if_neg (by omega),stgE,if_pos ⟨rfl,k⟩]
        have z:=ag_stage h hW hi1
        have u:=stE_up hW false hi1
        generalize stE ws (i+1) false=e at *
        obtain ⟨j,b⟩:=e
        cases b with
        | false =>
          rw [stgE_f,bindR_l (z.1 rfl)]
          exact ⟨(fun z=>nomatch z.1),fun _=>.inl rfl⟩
        | true =>
          obtain ⟨s,ps,e1,e2,rfl,e4⟩:=z.2 rfl
          rw [bindR_r e1]
          have hj:j < ws.length:=u
          have hpl:=e2.place (by omega) (by show j≤_;omega)
          have hpl:i+1+s.pcs.length=j:=hpl
          have ih:=ag_stages h hW n m j (sts++[s]) (by rw [List.length_append,List.length_cons,List.length_nil];omega) hj (by omega)
          refine ⟨fun ho=>?_,fun ho=>ih.2 ho⟩
          obtain ⟨more,f1,f2,f3,f4⟩:=ih.1 ho
          refine ⟨s :: more,by rw [f1,List.append_assoc];rfl,?_,fun u hu=>?_,by rw [List.append_assoc] at f4;exact f4⟩
          · have:=(Seg.cons hi e2).trans f2
            rw [k] at this
            exact this
          · rcases List.mem_cons.mp hu with rfl | hu
            · exact e4
            · exact f3 u hu
    · have es:stgE ws n (i,true)=(i,true):=by
        cases n with
        | zero=>rfl
        | succ n=>rw [stgE,if_neg (fun z=>k z.2)]
      rw [es,stagesL,if_neg (by rw [c1,decide_eq_false (by simpa using k)];decide)]
      refine ⟨fun _=>⟨[],by rw [List.append_nil],Seg.nil,(fun _ z=>nomatch z),by rw [List.append_nil];omega⟩,fun ho=>.inr ⟨sts,rfl,fun z=>ho ⟨rfl,z⟩⟩⟩
def allP (sts:List Sg):List Str:=match sts with | []=>[] | s :: r=>s.pcs++stsP r
theorem ag_quest (h:Lk ts ws) (hW:WOk ws) (h0:0 < ws.length) :
    (okE ws (wrgE ws)→∃ sts,questZ ts=.inr sts∧Seg ws 0 (wrgE ws).1 (allP sts)∧(∀ s ∈ sts,s.fit)∧sts.length≤12)∧(¬ okE ws (wrgE ws)→questZ ts=.inl (tkA ts (wrgE ws).1).p):=by
  have hfr:∀ s ∈ (["from"]:List Str),nmB s=true:=by decide +kernel
  obtain ⟨c1,c2⟩:=h.named h0 hfr
  unfold wrgE
  rw [stE_from]
  by_cases k:wAt ws 0="from"
  rotate_left
  · rw [if_neg k,stgE_f]
    refine ⟨(fun z=>nomatch z.1),fun _=>?_⟩
    have:oneP "name" ["from"] ts 0=.inl (tkA ts 0).p:=by unfold oneP;rw [if_neg (by rw [c1,decide_eq_false (by simpa using k)];decide)]
    unfold questZ questR
    rw [bindR_l this]
  have h1:=hW.more h0 (by rw [k];decide +kernel)
  have e0:oneP "name" ["from"] ts 0=.inr (sgn (tkA ts 0).v,1):=by unfold oneP;rw [if_pos (by rw [c1,decide_eq_true (by rw [k];simp)])]
  rw [if_pos k]
  have z:=ag_from h hW h1
  have u:=stE_up hW true h0
  rw [stE_from,if_pos k] at u
  have hq:questR ts=bindR (fromP ts 1) fun s j2=>stagesL ts ts.length j2 [s]:=by unfold questR;rw [bindR_r e0]
  generalize fromE ws (0+1)=e at *
  obtain ⟨j,b⟩:=e
  cases b with
  | false =>
    rw [stgE_f]
    refine ⟨(fun z=>nomatch z.1),fun _=>?_⟩
    unfold questZ
    rw [hq,bindR_l (z.1 rfl)]
  | true =>
    obtain ⟨s,ps,e1,e2,⟨e3,e4⟩,ns,rfl⟩:=z.2 rfl
    have hj:j < ws.length:=u
    have hs:=ag_stages h hW 11 ts.length j [.frm ns] rfl hj (by rw [h.len];omega)
    have hup:=stgE_up hW 11 (j,true) hj
    have hq:questR ts=stagesL ts ts.length j [.frm ns]:=by rw [hq,bindR_r e1]
    have hen:=h.end_ hup
    refine ⟨fun ho=>?_,fun ho=>?_⟩
    · obtain ⟨more,f1,f2,f3,f4⟩:=hs.1 ho
      refine ⟨.frm ns :: more,?_,?_,fun u hu=>?_,f4⟩
      · unfold questZ
        rw [hq,f1]
        dsimp only
        rw [if_pos (hen.mpr ho.2)];rfl
      · have:=(Seg.cons h0 e2).trans f2
        rw [k,← e3] at this
        exact this
      · rcases List.mem_cons.mp hu with rfl | hu
        · exact e4
        · exact f3 u hu
    · unfold questZ
      rw [hq]
      rcases hs.2 ho with f | ⟨q,f,hne⟩
      · rw [f]
      · rw [f]
        dsimp only
        rw [if_neg (fun z=>hne (hen.mp z))]
end
end My
namespace My
open PySem L2
def nb (l:List Nat):List Nat:=l.filter fun c=>c != 32
def catP (ps:List Str):List Nat:=ps.flatMap fun r=>r.cps.toList
theorem nb_app (a b:List Nat):nb (a++b)=nb a++nb b:=List.filter_append ..
theorem nb_id {a:List Nat} (h:32 ∉ a):nb a=a:=by
  unfold nb
  rw [List.filter_eq_self]
  intro c hc
  simp only [bne_iff_ne,ne_eq]
  exact fun z=>h (z ▸ hc)
theorem catP_cons (x:Str) (r:List Str):catP (x :: r)=x.cps.toList++catP r:=by unfold catP;rw [List.flatMap_cons]
theorem catP_app (a b:List Str):catP (a++b)=catP a++catP b:=by unfold catP;rw [List.flatMap_append]
theorem catP_nil:catP []=[]:=rfl
theorem NmF.n32 {x:Str} (h:NmF x):32 ∉ x.cps.toList:=fun z=>nsg_32 (h.al _ z) rfl
theorem join_gen (y w:Str) (ws:List Str):(Txt.join y (w :: ws)).cps.toList=w.cps.toList++ws.flatMap fun r=>y.cps.toList++r.cps.toList:=by
  show (List.foldl _ _ _:Array Nat).toList=_
  rw [List.drop_succ_cons,List.drop_zero,List.headD_cons,glue_list]
theorem nb_flat {α:Type} (f:α→List Nat):∀ l:List α,nb (l.flatMap f)=l.flatMap fun a=>nb (f a)
  | []=>rfl
  | a :: l=>by rw [List.flatMap_cons,List.flatMap_cons,nb_app,nb_flat f l]
theorem flat_same {α:Type} {f g:α→List Nat}:∀ {l:List α},(∀ a ∈ l,f a=g a)→l.flatMap f=l.flatMap g
  | [],_=>rfl
  | a :: l,h=>by rw [List.flatMap_cons,List.flatMap_cons,h a List.mem_cons_self,flat_same fun b hb=>h b (List.mem_cons_of_mem _ hb)]
theorem nb_nsT {ns:List Str} (h:∀ n ∈ ns,NmF n):nb (nsT ns).cps.toList=catP ns:=by
  unfold nsT
  cases ns with
  | nil=>decide +kernel
  | cons n ns =>
    rw [join_gen,nb_app,nb_id (h n List.mem_cons_self).n32,catP_cons,nb_flat,blank_l]
    congr 1
    exact flat_same fun a ha=>by
      rw [nb_app,nb_id (h a (List.mem_cons_of_mem _ ha)).n32];rfl
theorem nb_lit:nb (" by ":Str).cps.toList=("by":Str).cps.toList∧nb (" = ":Str).cps.toList=("=":Str).cps.toList∧nb (" ":Str).cps.toList=[]∧nb ("":Str).cps.toList=[]∧nb (", ":Str).cps.toList=(",": Str).cps.toList∧nb (" | ":Str).cps.toList=("|": Str).cps.toList∧nb (" within ":Str).cps.toList=("within": Str).cps.toList:=by decide +kernel
theorem nb_byT {ns:List Str} (h:∀ n ∈ ns,NmF n):nb (byT ns).cps.toList=catP (byL ns):=by
  unfold byT byL
  cases e:ns.isEmpty with
  | true=>rw [if_pos rfl,if_pos rfl];decide +kernel
  | false=>rw [if_neg (by decide),if_neg (by decide),cat_l,nb_app,nb_lit.1,nb_nsT h,catP_cons]
theorem how_32:∀ y ∈ how5,32 ∉ y.cps.toList:=by decide +kernel
theorem nb_thT {t:Str × Str × Option Str} (h:thF t):nb (thT t).cps.toList=catP (thgP t):=by
  obtain ⟨x,y,f⟩:=t
  obtain ⟨h1,h2,h3⟩:=h
  have h1:NmF x:=h1
  have h2:y ∈ how5:=h2
  unfold thT thgP
  dsimp only
  rw [cat_l,cat_l,cat_l,nb_app,nb_app,nb_app,nb_id h1.n32,nb_lit.2.1,nb_id (how_32 y h2),catP_cons,catP_cons,catP_cons]
  cases f with
  | none =>
    show _++nb ("":Str).cps.toList=_
    rw [nb_lit.2.2.2.1,List.append_nil,catP_nil,List.append_nil,List.append_assoc]
  | some f =>
    show _++nb (" "++f:Str).cps.toList=_
    rw [cat_l,nb_app,nb_lit.2.2.1,nb_id (h3 f rfl).n32,List.nil_append,catP_cons,catP_nil,List.append_nil]
    simp only [List.append_assoc]
theorem int_32 {i:Int} (h:intF i):nb (itx i).cps.toList=(itx i).cps.toList:=by
  obtain ⟨y,hy,rfl⟩:=h
  rw [itx_num y hy]
  have:∀ y ∈ numS,32 ∉ y.cps.toList:=by decide +kernel
  exact nb_id (this y hy)
theorem wd_32:∀ y ∈ (["from","keep","drop","sort","first","every","sessions","join","fold","up","down"]:List Str),32 ∉ y.cps.toList:=by decide +kernel
theorem nb_txt {s:Sg} (h:s.fit):nb s.txt.cps.toList=catP s.pcs:=by
  have hd:∀ {w b:Str},w ∈ (["from","keep","drop","sort","first","every","sessions","join","fold","up","down"]:List Str)→nb (w++" "++b:Str).cps.toList=w.cps.toList++nb b.cps.toList:=fun {w b} hw=>by
    rw [cat_l,cat_l,nb_app,nb_app,nb_lit.2.2.1,nb_id (wd_32 w hw),List.append_nil]
  cases s with
  | frm ns =>
    show nb ("from"++" "++frT ns:Str).cps.toList=catP (("from":Str) :: (if ns.isEmpty=true then ["all"] else ns))
    rw [hd (by decide +kernel),catP_cons]
    congr 1
    unfold frT
    rcases h with h | ⟨x,rfl,hx⟩
    · cases e:ns.isEmpty with
      | true=>rw [if_pos rfl,if_pos rfl];decide +kernel
      | false =>
        have hno:¬ ns.head?=some "@":=fun z=>by
          cases ns with
          | nil=>cases e
          | cons n ns =>
            have z:n="@":=by simpa using z
            have:=(h n List.mem_cons_self).rst.2.1
            rw [z] at this
            exact this (by decide +kernel)
        rw [if_neg (by decide),if_neg hno,if_neg (by decide)]
        exact nb_nsT h
    · rw [if_neg (by simp),if_pos (by simp),if_neg (by simp),join_two,cat_l,nb_app,nb_id hx.n32,catP_cons,catP_cons,catP_nil,List.append_nil]
      congr 1
  | nms k ns =>
    show nb (k++" "++nsT ns:Str).cps.toList=catP (k :: ns)
    rw [hd (by have hk:k ∈ kdS:=h.1;simp only [List.mem_cons,List.mem_nil_iff,or_false] at hk ⊢;rcases hk with h | h <;> simp [h]),catP_cons,nb_nsT h.2]
  | srt x b =>
    have hx:NmF x:=h
    show nb ("sort"++" "++(x++" "++(if b=true then "down" else "up")):Str).cps.toList=catP [("sort":Str),x,if b=true then "down" else "up"]
    rw [hd (by decide +kernel),cat_l,cat_l,nb_app,nb_app,nb_lit.2.2.1,nb_id hx.n32,catP_cons,catP_cons,catP_cons,catP_nil,List.append_nil,List.append_nil]
    congr 2
    cases b <;> decide +kernel
  | num k i =>
    show nb (k++" "++itx i:Str).cps.toList=catP [k,itx i]
    rw [hd (by have hk:k ∈ feS:=h.1;simp only [List.mem_cons,List.mem_nil_iff,or_false] at hk ⊢;rcases hk with h | h <;> simp [h]),catP_cons,catP_cons,catP_nil,List.append_nil,int_32 h.2]
  | ses i ns =>
    show nb ("sessions"++" "++(itx i++byT ns):Str).cps.toList=catP (("sessions":Str) :: itx i :: byL ns)
    rw [hd (by decide +kernel),cat_l,nb_app,int_32 h.1,nb_byT h.2,catP_cons,catP_cons]
  | joi s1 x i =>
    obtain ⟨h1,h2,h3⟩:=h
    show nb ("join"++" "++(s1++" by "++x++" within "++itx i):Str).cps.toList=catP [("join":Str),s1,("by":Str),x,("within":Str),itx i]
    rw [hd (by decide +kernel),cat_l,cat_l,cat_l,cat_l,nb_app,nb_app,nb_app,nb_app,nb_id h1.n32,nb_id h2.n32,nb_lit.1,nb_lit.2.2.2.2.2.2,int_32 h3,catP_cons,catP_cons,catP_cons,catP_cons,catP_cons,catP_cons,catP_nil,List.append_nil]
    simp only [List.append_assoc]
  | fld ths ns =>
    obtain ⟨h0,h1,h2⟩:=h
    cases ths with
    | nil=>exact absurd rfl h0
    | cons t more =>
      show nb ("fold"++" "++(Txt.join ", " (thT t :: more.map thT)++byT ns):Str).cps.toList=catP (("fold":Str) :: ((thgP t++morP more)++byL ns))
      rw [hd (by decide +kernel),cat_l,nb_app,nb_byT h2,join_gen,nb_app,nb_thT (h1 t List.mem_cons_self),catP_cons,catP_app,catP_app,nb_flat,List.flatMap_map]
      congr 3
      unfold morP catP
      rw [List.flatMap_assoc]
      exact flat_same fun a ha=>by
        rw [nb_app,nb_lit.2.2.2.2.1,nb_thT (h1 a (List.mem_cons_of_mem _ ha))]
        rfl
theorem nb_qn {sts:List Sg} (h:∀ s ∈ sts,s.fit):nb (qnT sts).cps.toList=catP (allP sts):=by
  unfold qnT allP
  cases sts with
  | nil=>decide +kernel
  | cons s r =>
    rw [List.map_cons,join_gen,nb_app,nb_txt (h s List.mem_cons_self),nb_flat,List.flatMap_map]
    dsimp only
    rw [catP_app]
    congr 1
    unfold stsP catP
    rw [List.flatMap_assoc]
    exact flat_same fun a ha=>by
      rw [nb_app,nb_lit.2.2.2.2.2.1,nb_txt (h a (List.mem_cons_of_mem _ ha))]
      rfl
theorem pp_cat {w:Wd} (n:Nat):catP ((w.pp n).map (·.1))=w.txt.cps.toList:=by
  cases w with
  | nm x=>exact List.append_nil _
  | nmc x=>show x.cps.toList++((",":Str).cps.toList++[])=(x++",":Str).cps.toList;rw [cat_l,List.append_nil]
  | atn x=>show ("@":Str).cps.toList++(x.cps.toList++[])=("@"++x:Str).cps.toList;rw [cat_l,List.append_nil]
  | num x=>exact List.append_nil _
  | mk x=>exact List.append_nil _
theorem nb_prts:∀ (ws:List Wd) (w:Wd),w.ok→(∀ v ∈ ws,v.ok)→nb (joinL 32 w.txt.cps.toList (ws.map fun v=>v.txt.cps.toList))=catP ((prts w ws).map (·.1))
  | [],w,h,_=>by
    show nb (w.txt.cps.toList++[])=catP ((w.pp 0).map (·.1))
    rw [List.append_nil,pp_cat,nb_id (wd_no32 h)]
  | v :: r,w,h,hs=>by
    have ih:=nb_prts r v (hs v List.mem_cons_self) fun u hu=>hs u (List.mem_cons_of_mem _ hu)
    show nb (w.txt.cps.toList++((v :: r).map fun v=>v.txt.cps.toList).flatMap fun r=>32 :: r)=catP ((w.pp 1++prts v r).map (·.1))
    rw [nb_app,nb_id (wd_no32 h),List.map_append,catP_app,pp_cat,← ih]
    congr 1
theorem seg_all {ps:Pcs} {j:Nat} {qs:List Str} (hk:∀ p ∈ ps,PcKv p.1 p.2.1.1 p.2.1.2) (hj:j < (wdP ps).length) (h:Seg (wdP ps) 0 j qs) (he:wAt (wdP ps) j=""):qs=ps.map (·.1):=by
  have h1:=w_at hj
  rw [he] at h1
  have hjl:j=ps.length:=by
    rcases wdP_at h1 with ⟨e,_⟩ | ⟨p,hp,e⟩
    · exact e
    · exact absurd e.symm (kv_fit (hk p (List.mem_of_getElem? hp))).2.1
  unfold Seg at h
  rw [List.drop_zero,hjl] at h
  unfold wdP at h
  rw [List.drop_append_of_le_length (by simp),List.drop_of_length_le (by simp),List.nil_append] at h
  exact (List.append_cancel_right h).symm
theorem fit_ok {s:Sg} {N:Nat} (h:s.fit) (hl:s.pcs.length≤N) (hN:N≤450):s.ok:=by
  have nmN:∀ {ns:List Str},(∀ n ∈ ns,NmF n)→ns.length≤450→okNs ns:=fun {ns} hn hl=>⟨hl,fun n hm=>⟨(hn n hm).le,fun z=>by
    have:=(hn n hm).rst.2.1
    rw [z] at this
    exact this (by decide +kernel)⟩⟩
  have nmI:∀ {i:Int},intF i→okI i:=fun {i} hi=>by
    obtain ⟨y,hy,rfl⟩:=hi
    have:∀ y ∈ numS,-(10 ^ 29) < intW y∧intW y < 10 ^ 29:=by decide +kernel
    exact .inl (this y hy)
  have nm1:∀ {n:Str},NmF n→okN n:=fun {n} hn=>(nmN (ns:=[n]) (fun m hm=>by rw [List.mem_singleton.mp hm];exact hn) (by simp)).2 n (by simp)
  have byl:∀ (ns:List Str),ns.length≤(byL ns).length+1:=fun ns=>by
    unfold byL
    split
    · rename_i e
      rw [List.isEmpty_iff.mp e];simp
    · simp;omega
  cases s with
  | frm ns =>
    rcases h with h | ⟨x,rfl,hx⟩
    · left
      refine nmN h ?_
      have hl:(("from":Str) :: (if ns.isEmpty=true then ["all"] else ns)).length≤N:=hl
      rw [List.length_cons] at hl
      split at hl
      · rename_i e
        rw [List.isEmpty_iff.mp e];simp
      · omega
    · right;exact ⟨x,rfl,hx.le⟩
  | nms k ns =>
    refine ⟨h.1,nmN h.2 ?_⟩
    have hl:(k :: ns).length≤N:=hl
    rw [List.length_cons] at hl;omega
  | srt x b=>exact nm1 h
  | num k i=>exact ⟨h.1,nmI h.2⟩
  | ses i ns =>
    refine ⟨nmI h.1,nmN h.2 ?_⟩
    have hl:(("sessions":Str) :: itx i :: byL ns).length≤N:=hl
    have:=byl ns
    rw [List.length_cons,List.length_cons] at hl;omega
  | joi s x i=>exact ⟨nm1 h.1,nm1 h.2.1,nmI h.2.2⟩
  | fld ths ns =>
    obtain ⟨h0,h1,h2⟩:=h
    cases ths with
    | nil=>exact absurd rfl h0
    | cons t more =>
      have hl:(("fold":Str) :: ((thgP t++morP more)++byL ns)).length≤N:=hl
      have:=byl ns
      have ml:∀ (more:List (Str × Str × Option Str)),more.length≤(morP more).length:=fun more=>by
        induction more with
        | nil=>exact Nat.le_refl _
        | cons u r ih =>
          unfold morP at ih ⊢
          rw [List.flatMap_cons,List.length_append,List.length_cons,List.length_cons]
          omega
      have:=ml more
      have h3:3≤(thgP t).length:=by unfold thgP;simp
      simp only [List.length_cons,List.length_append] at hl
      refine ⟨by rw [List.length_cons];omega,fun u hu=>?_,nmN h2 (by omega)⟩
      obtain ⟨a,b,c⟩:=h1 u hu
      exact ⟨nm1 a,b,fun f hf=>nm1 (c f hf)⟩
end My
namespace My
open PySem L2
theorem glue_size (ys:List Str):∀ (acc:Array Nat),(ys.foldl (fun acc p=>acc++("":Str).cps++p.cps) acc).size=acc.size+(ys.map (·.length)).sum:=by
  have e0:("":Str).cps.size=0:=by decide +kernel
  induction ys with
  | nil=>intro acc;simp
  | cons y ys ih =>
    intro acc
    rw [List.foldl_cons,ih,Array.size_append,Array.size_append,e0,List.map_cons,List.sum_cons]
    show acc.size+0+y.cps.size+_=acc.size+(y.cps.size+_)
    omega
theorem join_len (ys:List Str):(Txt.join "" ys).length=(ys.map (·.length)).sum:=by
  unfold Txt.join Builtin.Str.glued
  show (List.foldl _ _ _:Array Nat).size=_
  cases ys with
  | nil=>decide +kernel
  | cons y ys =>
    rw [List.drop_succ_cons,List.drop_zero,glue_size,List.headD_cons,List.map_cons,List.sum_cons]
    rfl
theorem sum_ge:∀ (ys:List Str),(∀ y ∈ ys,y.length=1)→(ys.map (·.length)).sum=ys.length
  | [],_=>rfl
  | y :: ys,h=>by
    rw [List.map_cons,List.sum_cons,List.length_cons,sum_ge ys fun z hz=>h z (List.mem_cons_of_mem _ hz),h y List.mem_cons_self]
    omega
theorem comp_rng {im:List (Option Nat)} {σ:St} {H:Hp} {Q:VK} {te:TE} {n:Nat} {lo:Int} (R:Nat→List V→Hp→Prop) (h0:R 0 [] H) (hlen:∀ i ys H',i≤n→R i ys H'→ys.length≤sizeLine)
    (he:∀ i ys H',i < n→R i ys H'→te ((inner im σ).set 0 (some (.int (lo+i)))) H' fun y H''=>R (i+1) (ys++[y]) H'')
    (mono:∀ σ' H' (Q1 Q2:VK),(∀ v H'',Q1 v H''→Q2 v H'')→te σ' H' Q1→te σ' H' Q2)
    (hq:∀ ys H',R n ys H'→∀ D,H' D=none→Q (.ref D) (upd H' D (.lst ys))):CompAt im (gName 0) tNoIf te σ Q (Itr lo n) H:=by
  refine ⟨fun i m ys H'=>m=n - i∧i≤n∧R i ys H',⟨n,by simp,Nat.zero_le _,h0⟩,?_⟩
  rintro i m ys H' ⟨rfl,hi,r⟩
  refine ⟨hlen i ys H' hi r,?_⟩
  by_cases hlt:i < n
  · refine .inr ⟨hlt,fun x H'' y=>?_⟩
    obtain ⟨e,rfl⟩:=y
    subst e
    exact mono _ _ _ _ (fun v H3 z=>⟨n - (i+1),by omega,rfl,hlt,z⟩) (he i ys _ hlt r)
  · have e:i=n:=by omega
    subst e
    exact .inl ⟨Nat.le_refl _,hq ys H' r⟩
section
variable {P:Program} {w:World} {K:PySem.W.Frag} {mg:Str→Option Value} {base:Heap} {a:Adr}
def spBegin:Sp:=fun vs H Q _=>∃ (b:Addr) (ns:List Int),vs=[.ref b]∧SqL K H b (ns.map V.int)∧ns.length≤63∧∀ d H',H d=none→Same H H'→Drw H' d→Q (.ref d) H'
theorem ok_begin (T:Txt K mg a):FnOk P w K mg base CX0 1 a.f_begin a.d_begin ["_law_script"] (spBegin (K:=K)):=by
  refine T.F_begin.ok sc_begin (fun vs H Q E h=>?_) (fun cdv A outer s H vs Q E hr h=>?_)
  · obtain ⟨x,s,rfl,_⟩:=h;rfl
  obtain ⟨b,ns,rfl,hb,hn,q⟩:=h
  refine ⟨_,(sO_ (ps_ret (pe_lst (pC_ (pT_ call_list_of rfl T.n_list (by decide +kernel) (pC_ (pZ_ sl_list (pv 0) po_none (po_some pI_)) pa_nil)) (pC_ pI_ (pC_ pI_ (pC_ pI_ pa_nil))))))),?_⟩
  refine ⟨_,rfl,_,rfl,b,_,rfl,hb,fun p hp=>⟨p,_,rfl,.inl (SqL.of uS_),fun l hl=>?_⟩⟩
  refine ⟨small (n:=4) (by decide),fun d hd=>?_⟩
  have hcut:∃ ms:List Int,cutV (ns.map V.int) none (some 63)=ms.map V.int:=by
    unfold cutV
    exact ⟨_,by rw [← List.map_drop,← List.map_take]⟩
  obtain ⟨ms,hms⟩:=hcut
  have g1:=sN_ hp (.lst (cutV (ns.map V.int) none (some 63)))
  have g2:=sN_ hl (.lst (cutV (ns.map V.int) none (some 63)))
  have g3:=sN_ hd (.lst [.ref l,.int 0,.int 0,.int 41])
  have hdl:l≠d:=fun z=>by subst z;rw [uS_] at hd;cases hd
  refine q d _ ((g1.trans g2).free hd) ((g1.trans g2).trans g3) ⟨l,ms,0,0,41,uS_,?_,by decide,by decide,by decide⟩
  rw [upd_ne hdl,uS_,hms]
def spOf:Sp:=fun vs H Q _=>∃ (d:Addr) (y:V),vs=[.ref d,y]∧Drw H d ∧
  ((∃ z:Str,y=.str z∧1≤z.length∧z.length≤1000∧∀ c H',Ev d H H'→c ∈ z.cps.toList→Q (.str ⟨#[c]⟩) H') ∨
   (∃ b xs,y=.ref b∧b≠d∧H b=some (.lst xs)∧1≤xs.length∧xs.length≤1000∧∀ v H',Ev d H H'→v ∈ xs→Q v H'))
theorem atI_of {α:Type} {xs:List α} {r:Int} (h0:0≤r) (h1:r < xs.length):∃ v,atI xs r=some v∧v ∈ xs:=by
  have hk:r.toNat < xs.length:=by omega
  refine ⟨xs[r.toNat],?_,List.getElem_mem hk⟩
  have z:atI xs ((r.toNat:Nat):Int)=some xs[r.toNat]:=atI_nat (List.getElem?_eq_getElem hk)
  have e:((r.toNat:Nat):Int)=r:=by omega
  rw [e] at z;exact z
theorem lt200 {n:Nat} (h:n≤1000):(n:Int) < 2 ^ 200:=Int.lt_of_le_of_lt (b:=1000) (by omega) (by decide)
theorem ok_of (T : Txt K mg a) : FnOk P w K mg base CX0 2 a.f_of a.d_of ["_law_draw","_law_some"] spOf:=by
  refine T.F_of.ok sc_of (fun vs H Q E h=>?_) (fun cdv A outer s H vs Q E hr h=>?_)
  · obtain ⟨x,s,rfl,_⟩:=h;rfl
  obtain ⟨d,y,rfl,hD,h⟩:=h
  refine ⟨_,(sO_ (ps_ret (pe_ix ix_seq (pv 1) (pL_ (ok_take T) (hr.mono (by decide)) rfl T.m_take T.F_take.kp T.b_take .nil pass0 (pC_ (pv 0) (pC_ (pB_ call_len rfl T.n_len PySem.boot_len (pC_ (pv 1) pa_nil)) pa_nil))) (fun _ _=>rfl)))),?_⟩
  rcases h with ⟨z,rfl,h1,h2,q⟩ | ⟨b,xs,rfl,hbd,hb,h1,h2,q⟩
  · refine ⟨_, rfl, _, rfl, _, rfl, _, _, rfl, ⟨small h2, rfl⟩,d,_,rfl,hD,by omega,lt200 h2,fun r H' r0 r1 ev=>.inr (.inr ?_)⟩
    obtain ⟨c, hc, hm⟩ := atI_of (xs := z.cps.toList) r0 (by have:z.cps.toList.length=z.length:=by simp [Str.length]
                                                             omega)
    exact ⟨z,r,c,rfl,rfl,small h2,hc,q c H' ev hm⟩
  · refine ⟨_,rfl,_,rfl,_,rfl,_,_,rfl,.inl ⟨_,SqL.of hb,rfl⟩,d,_,rfl,hD,by omega,lt200 h2,fun r H' r0 r1 ev=>.inl ?_⟩
    obtain ⟨v,hv,hm⟩:=atI_of (xs:=xs) r0 (by omega)
    exact ⟨b,xs,r,v,rfl,rfl,SqL.of (ev.same _ _ hbd hb),hv,q v H' ev hm⟩
end
theorem slice_mem {x:Str} {l u:Option Int} {c:Nat} (h:c ∈ (Txt.slice x l u).cps.toList):c ∈ x.cps.toList:=by
  unfold Txt.slice at h
  split at h
  · exact h
  · have h':=h
    simp only [List.toList_toArray] at h'
    obtain ⟨i,_,hi⟩:=List.mem_filterMap.mp h'
    exact Array.mem_toList_iff.mpr (Array.mem_of_getElem? hi)
theorem glue_mem (ys:List Str):∀ (acc:Array Nat) (c:Nat),c ∈ (ys.foldl (fun acc p=>acc++("":Str).cps++p.cps) acc).toList→c ∈ acc.toList∨∃ y ∈ ys,c ∈ y.cps.toList:=by
  have e0:("":Str).cps=#[]:=by decide +kernel
  induction ys with
  | nil=>intro acc c h;exact .inl h
  | cons y ys ih =>
    intro acc c h
    rw [List.foldl_cons] at h
    rcases ih _ c h with h1 | ⟨z,hz,hc⟩
    · rw [e0] at h1
      simp at h1
      rcases h1 with h1 | h1
      · exact .inl (by simpa using h1)
      · exact .inr ⟨y,List.mem_cons_self,by simpa using h1⟩
    · exact .inr ⟨z,List.mem_cons_of_mem _ hz,hc⟩
theorem join_mem {ys:List Str} {c:Nat} (h:c ∈ (Txt.join "" ys).cps.toList):∃ y ∈ ys,c ∈ y.cps.toList:=by
  unfold Txt.join Builtin.Str.glued at h
  cases ys with
  | nil =>
    have e:(Txt.join "" []).cps.toList=[]:=by decide +kernel
    have h':c ∈ (Txt.join "" []).cps.toList:=h
    rw [e] at h';cases h'
  | cons y ys =>
    rw [List.drop_succ_cons,List.drop_zero,List.headD_cons] at h
    rcases glue_mem ys _ c h with h1 | ⟨z,hz,hc⟩
    · exact ⟨y,List.mem_cons_self,h1⟩
    · exact ⟨z,List.mem_cons_of_mem _ hz,hc⟩
section
variable {P:Program} {w:World} {K:PySem.W.Frag} {mg:Str→Option Value} {base:Heap} {a:Adr}
def spLet:Sp:=fun vs H Q _=>∃ (d:Addr) (z:Str) (m:Int),vs=[.ref d,.str z,.int m]∧Drw H d∧1≤z.length∧z.length≤1000∧1≤m∧m≤100∧∀ x H',Ev d H H'→1≤x.length→(x.length:Int)≤m→(∀ c ∈ x.cps.toList,c ∈ z.cps.toList)→Q (.str x) H'
theorem ok_letters (T:Txt K mg a):FnOk P w K mg base CX0 3 a.f_letters a.d_letters ["_law_draw","_law_signs","_law_most"] spLet:=by
  refine T.F_letters.ok sc_letters (fun vs H Q E h=>?_) (fun cdv A outer s H vs Q E hr h=>?_)
  · obtain ⟨x,s,r,rfl,_⟩:=h;rfl
  obtain ⟨d,z,m,rfl,hD,h1,h2,h3,h4,q⟩:=h
  refine ⟨_,(sO_ (ps_ret (pe_bm PySem.F.plainAttrs_str PySem.F.slot_str_join PySem.F.type_str_join mt_join pS_ (pC_ (pe_comp ["_law_step","_law_draw","_law_signs"] [none,some 0,some 1] (pi_range1 rfl T.n_range (pC_ (pO_ op_add pI_ (pL_ (ok_take T) (hr.mono (by decide)) rfl T.m_take T.F_take.kp T.b_take .nil pass0 (pC_ (pv 0) (pC_ (pv 2) pa_nil)))) pa_nil)) (fun _ _ _ _ _=>(pg_name (i:=0) (show List.Nodup (["_law_step","_law_draw","_law_signs"]:List Str) from by decide +kernel) rfl (Or.inl rfl) (Or.inr rfl))) (fun _ _ _ _ _=>pts_nil) (fun _ _ _ _ _=>(pL_ (ok_of T) (hr.mono (by decide)) rfl T.m_of T.F_of.kp T.b_of .nil pass0 (pC_ (pv 1) (pC_ (pv 2) pa_nil))))) pa_nil)))),?_⟩
  refine ⟨rfl,_,rfl,_,rfl,d,m,rfl,hD,h3,Int.lt_of_le_of_lt (b:=100) h4 (by decide),fun r H1 r0 r1 ev=>⟨_,_,rfl,rfl,_,rfl,by omega,by omega,?_⟩⟩
  have en:((1+r).toNat:Int)=1+r:=by omega
  refine comp_rng (fun i ys H'=>∃ zs:List Str,ys=zs.map V.str∧zs.length=i∧(∀ y ∈ zs,y.length=1)∧(∀ y ∈ zs,∀ c ∈ y.cps.toList,c ∈ z.cps.toList)∧Ev d H H') ⟨[],rfl,rfl,by simp,by simp,ev⟩ (fun i ys H' hi r=>?_) (fun i ys H' hi r=>?_) (fun σ' H' Q1 Q2 h t=>?_) (fun ys H' r D hD'=>?_)
  · obtain ⟨zs,rfl,e,_⟩:=r
    rw [List.length_map];exact small (by omega)
  · obtain ⟨zs,rfl,e,e1,e2,ev'⟩:=r
    refine ⟨_,rfl,_,rfl,d,_,rfl,ev'.drw,.inl ⟨z,rfl,h1,h2,fun c H'' ev'' hc=>⟨zs++[⟨#[c]⟩],by simp,by simp [e],fun y hy=>?_,fun y hy=>?_,ev'.trans ev''⟩⟩⟩
    · rcases List.mem_append.mp hy with hy | hy
      · exact e1 y hy
      · have:y=⟨#[c]⟩:=by simpa using hy
        rw [this];rfl
    · rcases List.mem_append.mp hy with hy | hy
      · exact e2 y hy
      · have:y=⟨#[c]⟩:=by simpa using hy
        rw [this]
        intro c' hc'
        have:c'=c:=by simpa using hc'
        rw [this];exact hc
  · obtain ⟨v1,e1,v2,e2,d',y',e3,hD',t⟩:=t
    refine ⟨v1,e1,v2,e2,d',y',e3,hD',?_⟩
    rcases t with ⟨z,t1,t2,t3,t4⟩ | ⟨b,xs,t1,t2,t3,t4,t5,t6⟩
    · exact .inl ⟨z,t1,t2,t3,fun c H'' ev hc=>h _ _ (t4 c H'' ev hc)⟩
    · exact .inr ⟨b,xs,t1,t2,t3,t4,t5,fun v H'' ev hc=>h _ _ (t6 v H'' ev hc)⟩
  · obtain ⟨zs,rfl,e,e1,e2,ev'⟩:=r
    have es:=sum_ge zs e1
    refine ⟨_,D,zs,rfl,rfl,SqL.of uS_,?_,?_⟩
    · have:("":Str).length=0:=by decide +kernel
      rw [this,es];omega
    · refine q _ _ (ev'.then (sN_ hD' _)) ?_ ?_ fun c hc=>?_
      · rw [join_len,es];omega
      · rw [join_len,es];omega
      · obtain ⟨y,hy,hc'⟩:=join_mem hc
        exact e2 y hy c hc'
theorem one_len (c:Nat):(⟨#[c]⟩:Str).length=1:=rfl
theorem let_pool:∀ c ∈ ("abcdefghijklmnopqrstuvwxyz":Str).cps.toList,isLet c=true:=by decide +kernel
end
section
variable {P:Program} {w:World} {K:PySem.W.Frag} {mg:Str→Option Value} {base:Heap} {a:Adr}
theorem of_disp {d b:Addr} {H:Hp} {Q:VK} {E:XK} (ss:List Str) (hD:Drw H d) (hb:H b=none) (l1:1≤ss.length) (l2:ss.length≤1000) (q:∀ s H',s ∈ ss→Ev d H H'→Q (.str s) H'):spOf [.ref d,.ref b] (upd H b (.lst (ss.map V.str))) Q E:=by
  have ev:=Ev.of hD (sN_ hb (.lst (ss.map V.str)))
  refine ⟨d,_,rfl,ev.drw,.inr ⟨b,_,rfl,hD.ne_of_none hb,uS_,by rw [List.length_map];exact l1,by rw [List.length_map];exact l2,fun v H' ev' hv=>?_⟩⟩
  obtain ⟨s,hs,rfl⟩:=List.mem_map.mp hv
  exact q s H' hs (ev.trans ev')
end
section
variable {P:Program} {w:World} {K:PySem.W.Frag} {mg:Str→Option Value} {base:Heap} {a:Adr}
theorem inV_strs (x:Str):∀ ks:List Str,inV (.str x) (ks.map V.str)=ks.any (· == x)
  | []=>rfl
  | k :: ks=>by
    have e:inV (.str x) ((k :: ks).map V.str)=((k == x) || inV (.str x) (ks.map V.str)):=rfl
    rw [e,inV_strs x ks,List.any_cons]
theorem kept_mem {x:Str} (h:kept x=true):x ∈ kw:=by
  unfold kept at h
  rw [inV_strs] at h
  obtain ⟨k,hk,e⟩:=List.any_eq_true.mp h
  rw [← eq_of_beq e];exact hk
theorem kw_signs:∀ x ∈ kw,x.length≤6∧95 ∉ x.cps.toList:=by decide +kernel
theorem nsg_pool:∀ c ∈ ("abcnoryest_wz":Str).cps.toList,nsg c=true:=by decide +kernel
theorem not_kept {x:Str} (h:95 ∈ x.cps.toList):kept x=false:=Bool.eq_false_iff.mpr fun z=>(kw_signs x (kept_mem z)).2 h
theorem name_cat {c:Nat} {y:Str} (hc:isLet c=true) (hy:∀ d ∈ y.cps.toList,nsg d=true) (hl:y.length≤11) (hk:kept (⟨#[c]⟩++y)=false):nameB (⟨#[c]⟩++y)=true:=by
  have ec:(⟨#[c]⟩++y:Str).cps.toList=c :: y.cps.toList:=by
    show (#[c]++y.cps).toList=_
    simp
  have el:(⟨#[c]⟩++y:Str).length=1+y.length:=by rw [cL_];rfl
  unfold nameB sz bwl
  rw [ec,el,hk]
  simp only [Bool.and_eq_true,decide_eq_true_eq,List.all_cons,List.all_eq_true]
  exact ⟨⟨by omega,by omega⟩,hc,⟨by unfold nsg;rw [hc];rfl,hy⟩,rfl⟩
theorem one_drop {c:Nat} {y:Str} (h:104 ∉ y.cps.toList):104 ∉ (⟨#[c]⟩++y:Str).cps.toList.drop 1:=by
  rw [cat_l]
  exact h
theorem nameB_fit {x:Str} (h:nameB x=true) (h2:104 ∉ x.cps.toList.drop 1):NmF x∧x.length≤12:=by
  unfold nameB sz at h
  simp only [Bool.and_eq_true,decide_eq_true_eq,List.all_eq_true] at h
  obtain ⟨⟨h0,h1⟩,h3,h4,h5⟩:=h
  refine ⟨⟨by omega,?_,h4,fun z=>h2 (by rw [z];decide +kernel),fun z=>h2 (by rw [z];decide +kernel)⟩,h1⟩
  unfold bwl at h3
  cases e:x.cps.toList with
  | nil=>rw [e] at h3;cases h3
  | cons c r =>
    rw [e] at h3
    exact ⟨c,rfl,h3⟩
def spNam:Sp:=fun vs H Q _=>∃ d:Addr,vs=[.ref d]∧Drw H d∧∀ x H',Ev d H H'→nameB x=true→104 ∉ x.cps.toList.drop 1→Q (.str x) H'
theorem ok_drawn_name (T:Txt K mg a):FnOk P w K mg base CX0 4 a.f_drawn_name a.d_drawn_name ["_law_draw"] spNam:=by
  refine T.F_drawn_name.ok sc_drawn_name (fun vs H Q E h=>?_) (fun cdv A outer s H vs Q E hr h=>?_)
  · obtain ⟨x,rfl,_⟩:=h;rfl
  obtain ⟨d,rfl,hD,q⟩:=h
  refine ⟨_,(sC_ (zS_ (i:=1) sc_drawn_name.nd rfl (by first | exact Or.inl rfl | exact Or.inr rfl) (pO_ op_add_str (pL_ (ok_of T) (hr.mono (by decide)) rfl T.m_of T.F_of.kp T.b_of .nil pass0 (pC_ (pv 0) (pC_ pS_ pa_nil))) (pZ_ sl_str (pL_ (ok_letters T) (hr.mono (by decide)) rfl T.m_letters T.F_letters.kp T.b_letters .nil pass0 (pC_ (pv 0) (pC_ pS_ (pC_ pI_ pa_nil)))) (po_some pI_) po_none))) (sO_ (ps_ret (pe_ifExp (pt_val (pL_ (ok_kept_word T) (hr.mono (by decide)) rfl T.m_kept_word T.F_kept_word.kp T.b_kept_word .nil pass0 (pC_ (pv 1) pa_nil))) (pO_ op_add_str (pv 1) pS_) (pv 1))))),?_⟩
  refine ⟨_,rfl,d,_,rfl,hD,.inl ⟨_,rfl,by decide +kernel,by decide +kernel,fun c H1 ev1 hc=>?_⟩⟩
  refine ⟨_,rfl,d,_,_,rfl,ev1.drw,by decide +kernel,by decide +kernel,by decide,by decide,fun x H2 ev2 x1 x2 x3=>?_⟩
  have sl:=slice_len x (some 1) none
  have ol:=one_len c
  have cl:=cL_ ⟨#[c]⟩ (Txt.slice x (some 1) none)
  refine ⟨_,rfl,_,rfl,small (by omega),_,_,rfl,rfl,small (by omega),?_⟩
  refine ⟨_,rfl,_,rfl,small (by omega),fun H3 g3=>⟨_,rfl,?_⟩⟩
  have ul:("_":Str).length=1:=by decide +kernel
  have hy:∀ e ∈ (Txt.slice x (some 1) none).cps.toList,nsg e=true:=fun e he=>nsg_pool e (x3 e (slice_mem he))
  have hy4:104 ∉ (Txt.slice x (some 1) none).cps.toList:=fun z=>absurd (x3 104 (slice_mem z)) (by decide +kernel)
  refine ite2 (fun k=>?_) (fun k=>?_)
  · refine ⟨_,rfl,_,_,rfl,rfl,small (by omega),?_⟩
    have e6:=(kw_signs _ (kept_mem k)).1
    have ea:(⟨#[c]⟩++Txt.slice x (some 1) none++"_":Str)=⟨#[c]⟩++(Txt.slice x (some 1) none++"_"):=by
      show Str.mk _=Str.mk _
      exact congrArg Str.mk (Array.append_assoc ..)
    have eu:(Txt.slice x (some 1) none++"_":Str).cps.toList=(Txt.slice x (some 1) none).cps.toList++[95]:=by
      show (_++_:Array Nat).toList=_
      rw [Array.toList_append];rfl
    rw [ea]
    refine q _ _ ((ev1.trans ev2).then g3) ?_ (one_drop (by rw [eu];simp only [List.mem_append,not_or];exact ⟨hy4,by decide⟩))
    refine name_cat (let_pool c hc) (fun e he=>?_) (by rw [cL_];omega) (not_kept ?_)
    · rw [eu] at he
      rcases List.mem_append.mp he with he | he
      · exact hy e he
      · rw [List.mem_singleton.mp he];rfl
    · show 95 ∈ (#[c]++_:Array Nat).toList
      rw [Array.toList_append,List.mem_append]
      right
      rw [eu];simp
  · exact ⟨_,rfl,q _ _ ((ev1.trans ev2).then g3) (name_cat (let_pool c hc) hy (by omega) (Bool.eq_false_iff.mpr k)) (one_drop hy4)⟩
end
end My
namespace My
open PySem L2
def SnS (n:Nat) (x:Str):Prop:=∃ w ws,TxW x w ws∧ws.length+1≤n
def SnN (n:Nat) (x:Str):Prop:=∃ y:Str,NmF y∧((x=y∧1≤n)∨∃ (z:Str) (m:Nat),SnS m z∧m+1≤n∧x=z++" "++y)
theorem joinL_app (d:Nat) (a b:List Nat) (as bs:List (List Nat)):joinL d a (as++b :: bs)=joinL d a as++d :: joinL d b bs:=by
  unfold joinL
  rw [List.flatMap_append,List.flatMap_cons]
  simp only [List.append_assoc,List.cons_append]
theorem SnS.cat {n m:Nat} {x y:Str} (h:SnS n x) (h':SnS m y):SnS (n+m) (x++" "++y):=by
  obtain ⟨w,ws,hx,hn⟩:=h
  obtain ⟨v,vs,hy,hm⟩:=h'
  refine ⟨w,ws++v :: vs,⟨hx.ok,fun u hu=>?_,?_⟩,by rw [List.length_append,List.length_cons];omega⟩
  · rcases List.mem_append.mp hu with hu | hu
    · exact hx.al u hu
    · rcases List.mem_cons.mp hu with rfl | hu
      · exact hy.ok
      · exact hy.al u hu
  · rw [cat_l,cat_l,blank_l,hx.ch,hy.ch,List.map_append,List.map_cons,joinL_app]
    simp
theorem SnS.mono {n m:Nat} {x:Str} (h:SnS n x) (hm:n≤m):SnS m x:=let ⟨w,ws,a,b⟩:=h;⟨w,ws,a,Nat.le_trans b hm⟩
theorem SnS.one {w:Wd} (h:w.ok):SnS 1 w.txt:=⟨w,[],⟨h,(fun _ z=>nomatch z),by simp [joinL]⟩,Nat.le_refl _⟩
theorem SnS.nm {x:Str} (h:NmF x):SnS 1 x:=SnS.one (w:=.nm x) h
theorem SnS.mk {x:Str} (h:x ∈ mkS):SnS 1 x:=SnS.one (w:=.mk x) h
theorem SnS.num {x:Str} (h:x ∈ numS):SnS 1 x:=SnS.one (w:=.num x) h
theorem SnS.at {x:Str} (h:NmF x):SnS 1 ("@"++x):=SnS.one (w:=.atn x) h
theorem SnN.toS {n:Nat} {x:Str} (h:SnN n x):SnS n x:=by
  obtain ⟨y,hy,⟨rfl,h1⟩ | ⟨z,m,hz,hm,rfl⟩⟩:=h
  · exact (SnS.nm hy).mono h1
  · exact (hz.cat (SnS.nm hy)).mono hm
theorem SnN.comma {n:Nat} {x:Str} (h:SnN n x):SnS n (x++","):=by
  obtain ⟨y,hy,⟨rfl,h1⟩ | ⟨z,m,hz,hm,rfl⟩⟩:=h
  · exact (SnS.one (w:=.nmc x) hy).mono h1
  · have:=(hz.cat (SnS.one (w:=.nmc y) hy)).mono hm
    have e:(z++" "++(Wd.nmc y).txt:Str)=z++" "++y++",":=by
      show z++" "++(y++",")=_
      rw [← Str.append_assoc]
    rw [e] at this
    exact this
theorem SnN.cat {n m:Nat} {x y:Str} (h:SnS n x) (h':SnN m y):SnN (n+m) (x++" "++y):=by
  obtain ⟨u,hu,⟨rfl,h1⟩ | ⟨z,k,hz,hk,rfl⟩⟩:=h'
  · exact ⟨y,hu,.inr ⟨x,n,h,by omega,rfl⟩⟩
  · refine ⟨u,hu,.inr ⟨x++" "++z,n+k,h.cat hz,by omega,?_⟩⟩
    simp only [Str.append_assoc]
theorem SnN.toMono {n m:Nat} {x:Str} (h:SnN n x) (hm:n≤m):SnN m x:=by
  obtain ⟨y,hy,⟨e,h1⟩ | ⟨z,k,hz,hk,e⟩⟩:=h
  · exact ⟨y,hy,.inl ⟨e,Nat.le_trans h1 hm⟩⟩
  · exact ⟨y,hy,.inr ⟨z,k,hz,Nat.le_trans hk hm,e⟩⟩
theorem SnN.nm {x:Str} (h:NmF x):SnN 1 x:=⟨x,h,.inl ⟨rfl,Nat.le_refl _⟩⟩
def nmFB (x:Str):Bool:=decide (x.length≤20)&&bwl x&&x.cps.toList.all nsg&&decide (x≠"where")&&decide (x≠"with")
theorem nmF_of {x:Str} (h:nmFB x=true):NmF x:=by
  unfold nmFB at h
  simp only [Bool.and_eq_true,decide_eq_true_eq,List.all_eq_true] at h
  obtain ⟨⟨⟨⟨h1,h2⟩,h3⟩,h4⟩,h5⟩:=h
  refine ⟨h1,?_,h3,h4,h5⟩
  unfold bwl at h2
  cases e:x.cps.toList with
  | nil=>rw [e] at h2;cases h2
  | cons c r =>
    rw [e] at h2
    exact ⟨c,rfl,h2⟩
abbrev fixS:List Str:=["from","all","web","app","keep","drop","sort","up","down","first","every","sessions","by","join","within","fold","a","b","c","d","x","count","sum","least","unlike"]
theorem fixS_nm:∀ x ∈ fixS,NmF x:=fun x hx=>nmF_of ((by decide +kernel:∀ x ∈ fixS,nmFB x=true) x hx)
theorem take5 {r:Int} (h0:0≤r) (h1:r < 5):itx (r - 1) ∈ numS:=by
  have:r=0∨r=1∨r=2∨r=3∨r=4:=by omega
  rcases this with rfl | rfl | rfl | rfl | rfl <;> decide +kernel
theorem st_two {k n t o:Str} (hk:k ∈ (["keep ","drop "]:List Str)) (hn:NmF n) (ho:NmF o) (ht:t ∈ ([""," "++o]:List Str)):SnS 3 (k++n++t):=by
  have h2:SnS 2 (k++n):=by
    simp only [List.mem_cons,List.mem_nil_iff,or_false] at hk
    rcases hk with rfl | rfl
    · exact (SnS.nm (fixS_nm "keep" (by simp))).cat (SnS.nm hn)
    · exact (SnS.nm (fixS_nm "drop" (by simp))).cat (SnS.nm hn)
  simp only [List.mem_cons,List.mem_nil_iff,or_false] at ht
  rcases ht with rfl | rfl
  · have e:(k++n++"":Str)=k++n:=by apply str_ext;rw [cat_l];show _++[]=_;rw [List.append_nil]
    rw [e]
    exact h2.mono (by decide)
  · rw [← Str.append_assoc]
    exact h2.cat (SnS.nm ho)
theorem cat_nil (x:Str):x++""=x:=by apply str_ext;rw [cat_l];show _++[]=_;rw [List.append_nil]
theorem by_tail {n:Nat} {x nm t:Str} (hx:SnS n x) (hn:NmF nm) (ht:t ∈ ([""," by "++nm]:List Str)):SnS (n+2) (x++t):=by
  simp only [List.mem_cons,List.mem_nil_iff,or_false] at ht
  rcases ht with rfl | rfl
  · rw [cat_nil];exact hx.mono (by omega)
  · have:=hx.cat ((SnS.nm (fixS_nm "by" (by simp))).cat (SnS.nm hn))
    have e:(x++" "++("by"++" "++nm):Str)=x++(" by "++nm):=by
      rw [Str.append_assoc,← Str.append_assoc " ",← Str.append_assoc " ",show (" ":Str)++"by"++" "=" by " by decide +kernel]
    rw [e] at this
    exact this
theorem fold_txt {n o t:Str} (hn:NmF n) (ho:NmF o) (ht:t ∈ (["a = count","b = sum "++n,"c = least x","d = unlike "++o]:List Str)):SnN 4 t∧t.length≤40:=by
  have eq:=SnS.mk (x:="=") (by simp)
  have w:∀ x ∈ fixS,SnS 1 x:=fun x hx=>SnS.nm (fixS_nm x hx)
  have nl:=hn.le
  have ol:=ho.le
  simp only [List.mem_cons,List.mem_nil_iff,or_false] at ht
  rcases ht with rfl | rfl | rfl | rfl
  · exact ⟨(SnN.cat ((w "a" (by simp)).cat eq) (SnN.nm (fixS_nm "count" (by simp)))).toMono (by decide),by decide +kernel⟩
  · exact ⟨SnN.cat (((w "b" (by simp)).cat eq).cat (w "sum" (by simp))) (SnN.nm hn),by rw [cL_,show ("b = sum ":Str).length=8 by decide +kernel];omega⟩
  · exact ⟨SnN.cat (((w "c" (by simp)).cat eq).cat (w "least" (by simp))) (SnN.nm (fixS_nm "x" (by simp))),by decide +kernel⟩
  · exact ⟨SnN.cat (((w "d" (by simp)).cat eq).cat (w "unlike" (by simp))) (SnN.nm ho),by rw [cL_,show ("d = unlike ":Str).length=11 by decide +kernel];omega⟩
theorem joins_txt:∀ (ys:List Str),ys≠[]→(∀ y ∈ ys,SnN 4 y)→SnN (4 * ys.length) (Txt.join ", " ys)
  | [],h,_=>absurd rfl h
  | [y],_,h=>by
    have e:Txt.join ", " [y]=y:=by apply str_ext;rw [join_gen];simp
    rw [e]
    exact h y (by simp)
  | y :: v :: r,_,h=>by
    have ih:=joins_txt (v :: r) (by simp) fun u hu=>h u (List.mem_cons_of_mem _ hu)
    have:=SnN.cat (h y (by simp)).comma ih
    have e:(y++","++" "++Txt.join ", " (v :: r):Str)=Txt.join ", " (y :: v :: r):=by
      apply str_ext
      rw [cat_l,cat_l,cat_l,join_gen,join_gen,List.flatMap_cons,show (", ":Str).cps.toList=[44,32] by decide +kernel,show (",":Str).cps.toList=[44] by decide +kernel,blank_l]
      simp
    rw [e] at this
    refine this.toMono ?_
    simp only [List.length_cons];omega
end My
namespace My
open PySem L2
theorem comp_rngN {im:List (Option Nat)} {σ:St} {H:Hp} {Q:VK} {te:TE} {n:Nat} {lo:Int} (R:Nat→List V→Hp→Prop) (h0:R 0 [] H) (hlen:∀ i ys H',i≤n→R i ys H'→ys.length≤sizeLine)
    (he:∀ i ys H' (N:VK),i < n→R i ys H'→(∀ y H'',R (i+1) (ys++[y]) H''→N y H'')→te ((inner im σ).set 0 (some (.int (lo+i)))) H' N)
    (hq:∀ ys H',R n ys H'→∀ D,H' D=none→Q (.ref D) (upd H' D (.lst ys))):CompAt im (gName 0) tNoIf te σ Q (Itr lo n) H:=by
  refine ⟨fun i m ys H'=>m=n - i∧i≤n∧R i ys H',⟨n,by simp,Nat.zero_le _,h0⟩,?_⟩
  rintro i m ys H' ⟨rfl,hi,r⟩
  refine ⟨hlen i ys H' hi r,?_⟩
  by_cases hlt:i < n
  · refine .inr ⟨hlt,fun x H'' y=>?_⟩
    obtain ⟨e,y⟩:=y
    subst e y
    exact he i ys _ _ hlt r fun y H5 z=>⟨n - (i+1),by omega,rfl,hlt,z⟩
  · have e:i=n:=by omega
    subst e
    exact .inl ⟨Nat.le_refl _,hq ys H' r⟩
theorem cut_take (xs:List V) (k:Nat):cutV xs none (some (k:Int))=xs.take k:=by
  unfold cutV
  rw [HT.sIx_nat,HT.sIx_none,List.drop_zero,Nat.sub_zero]
  rcases Nat.le_total k xs.length with h | h
  · rw [Nat.min_eq_left h]
  · rw [Nat.min_eq_right h,List.take_length,List.take_of_length_le h]
theorem cut_drop (xs:List V) (k:Nat):cutV xs (some (k:Int)) none=xs.drop k:=by
  unfold cutV
  rw [HT.sIx_nat,HT.sIx_none]
  rcases Nat.le_total k xs.length with h | h
  · rw [Nat.min_eq_left h]
    exact List.take_of_length_le (by rw [List.length_drop];exact Nat.le_refl _)
  · rw [Nat.min_eq_right h,List.drop_length,List.drop_of_length_le h,List.take_nil]
section
variable {P:Program} {w:World} {K:PySem.W.Frag} {mg:Str→Option Value} {base:Heap} {a:Adr}
def spPlain:Sp:=fun vs H Q _=>∃ d,vs=[.ref d]∧Drw H d∧∀ x H',Ev d H H'→SnS 16 x→x.length≤250→Q (.str x) H'
theorem int_small {r:Int} (h0:0≤r) (h1:r < 5):(r - 1).natAbs.log2 < 1920:=log_of (by omega) (by omega)
theorem ok_stage_plain (T:Txt K mg a):FnOk P w K mg base CX0 5 a.f_stage_plain a.d_stage_plain ["_law_draw"] spPlain:=by
  refine T.F_stage_plain.ok sc_stage_plain (fun vs H Q E h=>?_) (fun cdv A outer s H vs Q E hr h=>?_)
  · obtain ⟨_,rfl,_⟩:=h;rfl
  obtain ⟨d,rfl,hD,q⟩:=h
  refine ⟨_,(sC_ (zS_ (i:=1) sc_stage_plain.nd rfl (by first | exact Or.inl rfl | exact Or.inr rfl) (pL_ (ok_drawn_name T) (hr.mono (by decide)) rfl T.m_drawn_name T.F_drawn_name.kp T.b_drawn_name .nil pass0 (pC_ (pv 0) pa_nil))) (sC_ (zS_ (i:=2) sc_stage_plain.nd rfl (by first | exact Or.inl rfl | exact Or.inr rfl) (pL_ (ok_drawn_name T) (hr.mono (by decide)) rfl T.m_drawn_name T.F_drawn_name.kp T.b_drawn_name .nil pass0 (pC_ (pv 0) pa_nil))) (sC_ (zS_ (i:=3) sc_stage_plain.nd rfl (by first | exact Or.inl rfl | exact Or.inr rfl) (pL_ (ok_take T) (hr.mono (by decide)) rfl T.m_take T.F_take.kp T.b_take .nil pass0 (pC_ (pv 0) (pC_ pI_ pa_nil)))) (sC_ (ps_if (tR_ op_lt (pv 3) pI_ (nM_ _)) (sO_ (ps_ret (pO_ op_add_str (pO_ op_add_str (pL_ (ok_of T) (hr.mono (by decide)) rfl T.m_of T.F_of.kp T.b_of .nil pass0 (pC_ (pv 0) (pC_ (pe_lst (pC_ pS_ (pC_ pS_ pa_nil))) pa_nil))) (pv 1)) (pL_ (ok_of T) (hr.mono (by decide)) rfl T.m_of T.F_of.kp T.b_of .nil pass0 (pC_ (pv 0) (pC_ (pe_lst (pC_ pS_ (pC_ (pO_ op_add_str pS_ (pv 2)) pa_nil))) pa_nil)))))) pss_nil) (sC_ (ps_if (tR_ op_eq (pv 3) pI_ (nM_ _)) (sO_ (ps_ret (pO_ op_add_str (pO_ op_add_str pS_ (pv 1)) (pL_ (ok_of T) (hr.mono (by decide)) rfl T.m_of T.F_of.kp T.b_of .nil pass0 (pC_ (pv 0) (pC_ (pe_lst (pC_ pS_ (pC_ pS_ pa_nil))) pa_nil)))))) pss_nil) (sC_ (ps_if (tR_ op_eq (pv 3) pI_ (nM_ _)) (sO_ (ps_ret (pO_ op_add_str (pL_ (ok_of T) (hr.mono (by decide)) rfl T.m_of T.F_of.kp T.b_of .nil pass0 (pC_ (pv 0) (pC_ (pe_lst (pC_ pS_ (pC_ pS_ pa_nil))) pa_nil))) (pT_ call_str_int rfl T.n_str (by decide +kernel) (pC_ (pO_ op_sub (pL_ (ok_take T) (hr.mono (by decide)) rfl T.m_take T.F_take.kp T.b_take .nil pass0 (pC_ (pv 0) (pC_ pI_ pa_nil))) pI_) pa_nil))))) pss_nil) (sC_ (ps_if (tR_ op_lt (pv 3) pI_ (nM_ _)) (sO_ (ps_ret (pO_ op_add_str (pO_ op_add_str pS_ (pT_ call_str_int rfl T.n_str (by decide +kernel) (pC_ (pO_ op_sub (pL_ (ok_take T) (hr.mono (by decide)) rfl T.m_take T.F_take.kp T.b_take .nil pass0 (pC_ (pv 0) (pC_ pI_ pa_nil))) pI_) pa_nil))) (pL_ (ok_of T) (hr.mono (by decide)) rfl T.m_of T.F_of.kp T.b_of .nil pass0 (pC_ (pv 0) (pC_ (pe_lst (pC_ pS_ (pC_ (pO_ op_add_str pS_ (pv 1)) pa_nil))) pa_nil)))))) pss_nil) (sC_ (ps_if (tR_ op_eq (pv 3) pI_ (nM_ _)) (sO_ (ps_ret (pO_ op_add_str (pO_ op_add_str (pO_ op_add_str (pO_ op_add_str (pO_ op_add_str pS_ (pv 1)) pS_) (pv 2)) pS_) (pT_ call_str_int rfl T.n_str (by decide +kernel) (pC_ (pO_ op_sub (pL_ (ok_take T) (hr.mono (by decide)) rfl T.m_take T.F_take.kp T.b_take .nil pass0 (pC_ (pv 0) (pC_ pI_ pa_nil))) pI_) pa_nil))))) pss_nil) (sC_ (zS_ (i:=4) sc_stage_plain.nd rfl (by first | exact Or.inl rfl | exact Or.inr rfl) (pe_lst (pC_ pS_ (pC_ (pO_ op_add_str pS_ (pv 1)) (pC_ pS_ (pC_ (pO_ op_add_str pS_ (pv 2)) pa_nil)))))) (sC_ (ps_setC (i:=5) sc_stage_plain.nd rfl (by first | exact Or.inl rfl | exact Or.inr rfl) ["_law_step","_law_draw","_law_some"] [none,some 0,some 4] (pi_range1 rfl T.n_range (pC_ pI_ pa_nil)) (fun _ _ _ _ _=>(pg_name (i:=0) (show List.Nodup (["_law_step","_law_draw","_law_some"]:List Str) from by decide +kernel) rfl (Or.inl rfl) (Or.inr rfl))) (fun _ _ _ _ _=>pts_nil) (fun _ _ _ _ _=>(pL_ (ok_of T) (hr.mono (by decide)) rfl T.m_of T.F_of.kp T.b_of .nil pass0 (pC_ (pv 1) (pC_ (pv 2) pa_nil))))) (sO_ (ps_ret (pO_ op_add_str (pO_ op_add_str pS_ (pe_bm PySem.F.plainAttrs_str PySem.F.slot_str_join PySem.F.type_str_join mt_join pS_ (pC_ (pZ_ sl_list (pv 5) po_none (po_some (pO_ op_add pI_ (pL_ (ok_take T) (hr.mono (by decide)) rfl T.m_take T.F_take.kp T.b_take .nil pass0 (pC_ (pv 0) (pC_ pI_ pa_nil)))))) pa_nil))) (pL_ (ok_of T) (hr.mono (by decide)) rfl T.m_of T.F_of.kp T.b_of .nil pass0 (pC_ (pv 0) (pC_ (pe_lst (pC_ pS_ (pC_ (pO_ op_add_str pS_ (pv 1)) pa_nil))) pa_nil)))))))))))))))),?_⟩
  refine ⟨_,rfl,d,rfl,hD,fun n H1 ev1 n1 n2=>?_⟩
  obtain ⟨hn,ln⟩:=nameB_fit n1 n2
  refine ⟨_,rfl,d,rfl,ev1.drw,fun o H2 ev2 o1 o2=>?_⟩
  obtain ⟨ho,lo⟩:=nameB_fit o1 o2
  have ev12:=ev1.trans ev2
  refine ⟨_,rfl,d,_,rfl,ev12.drw,by decide,by decide,fun r H3 r0 r1 ev3=>?_⟩
  have ev:=ev12.trans ev3
  have lw:∀ s ∈ (["keep ","drop "," up"," down","first ","every ",""," "," by ","sort ","sessions ","join "," within ","fold ",", ","b = sum ","d = unlike ","a = count","c = least x"]:List Str),s.length≤11:=by decide +kernel
  refine ⟨_,rfl,_,_,rfl,rfl,_,rfl,ite2 (fun k=>?_) (fun k=>?_)⟩
  · refine ⟨_,rfl,small (n:=2) (by decide),fun lb hlb=>?_⟩
    dsimp only [tCons,tNil]
    refine of_disp ["keep ","drop "] ev.drw hlb (by decide) (by decide) fun sg H4 hs ev4=>?_
    have evA:=ev.trans ev4
    have ls:sg.length≤11:=lw sg (by simp only [List.mem_cons,List.mem_nil_iff,or_false] at hs ⊢;rcases hs with h | h <;> simp [h])
    refine ⟨_,rfl,_,_,rfl,rfl,small (by omega),?_⟩
    refine ⟨_,rfl,_,rfl,_,_,rfl,rfl,small (by have:=lw " " (by simp);omega),small (n:=2) (by decide),fun lb hlb=>?_⟩
    dsimp only [tCons,tNil]
    refine of_disp [""," "++o] evA.drw hlb (by simp) (by simp) fun t H5 ht ev5=>?_
    have lt:t.length≤23:=by
      simp only [List.mem_cons,List.mem_nil_iff,or_false] at ht
      rcases ht with rfl | rfl
      · exact Nat.le_trans (lw "" (by simp)) (by decide)
      · rw [cL_];have:=lw " " (by simp);omega
    refine ⟨_,_,rfl,rfl,small (by rw [cL_];omega),?_⟩
    exact q _ _ (evA.trans ev5) ((st_two hs hn ho ht).mono (by decide)) (by rw [cL_,cL_];omega)
  refine ⟨_,rfl,rfl,_,rfl,ite2 (fun k2=>?_) (fun k2=>?_)⟩
  · refine ⟨_,rfl,_,_,rfl,rfl,small (by have:=lw "sort " (by simp);omega),?_⟩
    refine ⟨_,rfl,small (n:=2) (by decide),fun lb hlb=>?_⟩
    dsimp only [tCons,tNil]
    refine of_disp [" up"," down"] ev.drw hlb (by decide) (by decide) fun sg H4 hs ev4=>?_
    have ls:sg.length≤11:=lw sg (by simp only [List.mem_cons,List.mem_nil_iff,or_false] at hs ⊢;rcases hs with h | h <;> simp [h])
    have l0:=lw "sort " (by simp)
    refine ⟨_,_,rfl,rfl,small (by rw [cL_];omega),?_⟩
    refine q _ _ (ev.trans ev4) ?_ (by rw [cL_,cL_];omega)
    have h2:=(SnS.nm (fixS_nm "sort" (by simp))).cat (SnS.nm hn)
    simp only [List.mem_cons,List.mem_nil_iff,or_false] at hs
    have e:∀ (a b:Str),a++" "++b=a++(" "++b):=fun a b=>Str.append_assoc ..
    rcases hs with rfl | rfl
    · have:=h2.cat (SnS.nm (fixS_nm "up" (by simp)))
      rw [e (_++_) "up",show (" ":Str)++"up"=" up" by decide +kernel,show ("sort":Str)++" "="sort " by decide +kernel] at this
      exact this.mono (by decide)
    · have:=h2.cat (SnS.nm (fixS_nm "down" (by simp)))
      rw [e (_++_) "down",show (" ":Str)++"down"=" down" by decide +kernel,show ("sort":Str)++" "="sort " by decide +kernel] at this
      exact this.mono (by decide)
  have l30:∀ x ∈ numS,x.length≤2:=fun x hx=>(num_fit x hx).2.2.2
  refine ⟨_,rfl,rfl,_,rfl,ite2 (fun k3=>?_) (fun k3=>?_)⟩
  · refine ⟨_,rfl,small (n:=2) (by decide),fun lb hlb=>?_⟩
    dsimp only [tCons,tNil]
    refine of_disp ["first ","every "] ev.drw hlb (by decide) (by decide) fun sg H4 hs ev4=>?_
    have evA:=ev.trans ev4
    have ls:sg.length≤11:=lw sg (by simp only [List.mem_cons,List.mem_nil_iff,or_false] at hs ⊢;rcases hs with h | h <;> simp [h])
    refine ⟨_,rfl,d,_,rfl,evA.drw,by decide,by decide,fun r2 H5 s0 s1 ev5=>?_⟩
    have hi:=take5 s0 s1
    have hil:=l30 _ hi
    refine ⟨_,_,rfl,rfl,_,rfl,int_small s0 s1,_,_,rfl,rfl,small (by show sg.length+(itx (r2 - 1)).length≤1000;omega),?_⟩
    refine q _ _ (evA.trans ev5) ?_ (by rw [cL_];show sg.length+(itx (r2 - 1)).length≤250;omega)
    simp only [List.mem_cons,List.mem_nil_iff,or_false] at hs
    rcases hs with rfl | rfl
    · exact ((SnS.nm (fixS_nm "first" (by simp))).cat (SnS.num hi)).mono (by decide)
    · exact ((SnS.nm (fixS_nm "every" (by simp))).cat (SnS.num hi)).mono (by decide)
  refine ⟨_,rfl,_,_,rfl,rfl,_,rfl,ite2 (fun k4=>?_) (fun k4=>?_)⟩
  · refine ⟨_,rfl,d,_,rfl,ev.drw,by decide,by decide,fun r2 H5 s0 s1 ev5=>?_⟩
    have hi:=take5 s0 s1
    have hil:=l30 _ hi
    have evA:=ev.trans ev5
    have l0:=lw "sessions " (by simp)
    refine ⟨_,_,rfl,rfl,_,rfl,int_small s0 s1,_,_,rfl,rfl,small (by show ("sessions ":Str).length+(itx (r2 - 1)).length≤1000;omega),?_⟩
    refine ⟨_,rfl,_,rfl,_,_,rfl,rfl,small (by have:=lw " by " (by simp);omega),small (n:=2) (by decide),fun lb hlb=>?_⟩
    dsimp only [tCons,tNil]
    refine of_disp [""," by "++n] evA.drw hlb (by simp) (by simp) fun t H6 ht ev6=>?_
    have lt:t.length≤23:=by
      simp only [List.mem_cons,List.mem_nil_iff,or_false] at ht
      rcases ht with rfl | rfl
      · exact Nat.le_trans (lw "" (by simp)) (by decide)
      · rw [cL_];have:=lw " by " (by simp);omega
    refine ⟨_,_,rfl,rfl,small (by rw [cL_];show ("sessions ":Str).length+(itx (r2 - 1)).length+t.length≤1000;omega),?_⟩
    refine q _ _ (evA.trans ev6) ?_ (by rw [cL_,cL_];show ("sessions ":Str).length+(itx (r2 - 1)).length+t.length≤250;omega)
    have h2:=(SnS.nm (fixS_nm "sessions" (by simp))).cat (SnS.num hi)
    exact (by_tail h2 hn ht).mono (by decide)
  refine ⟨_,rfl,rfl,_,rfl,ite2 (fun k5=>?_) (fun k5=>?_)⟩
  · have l0:=lw "join " (by simp)
    have l1:=lw " by " (by simp)
    have l2:=lw " within " (by simp)
    refine ⟨_,rfl,_,_,rfl,rfl,small (by omega),_,_,rfl,rfl,small (by rw [cL_];omega),_,rfl,_,_,rfl,rfl,small (by rw [cL_,cL_];omega),_,_,rfl,rfl,small (by rw [cL_,cL_,cL_];omega),?_⟩
    refine ⟨_,rfl,d,_,rfl,ev.drw,by decide,by decide,fun r2 H5 s0 s1 ev5=>?_⟩
    have hi:=take5 s0 s1
    have hil:=l30 _ hi
    refine ⟨_,_,rfl,rfl,_,rfl,int_small s0 s1,_,_,rfl,rfl,small (by rw [cL_,cL_,cL_,cL_];show _+(itx (r2 - 1)).length≤1000;omega),?_⟩
    refine q _ _ (ev.trans ev5) ?_ (by rw [cL_,cL_,cL_,cL_,cL_];show _+(itx (r2 - 1)).length≤250;omega)
    have h:=(((((SnS.nm (fixS_nm "join" (by simp))).cat (SnS.nm hn)).cat (SnS.nm (fixS_nm "by" (by simp)))).cat (SnS.nm ho)).cat (SnS.nm (fixS_nm "within" (by simp)))).cat (SnS.num hi)
    have e:∀ (x y z:Str),x++" "++y++" "++z=x++(" "++y++" ")++z:=fun x y z=>by simp only [Str.append_assoc]
    rw [e _ "within" _,e _ "by" _,show (" ":Str)++"within"++" "=" within " by decide +kernel,show (" ":Str)++"by"++" "=" by " by decide +kernel,show ("join":Str)++" "="join " by decide +kernel] at h
    exact h.mono (by decide)
  have lb0:=lw "b = sum " (by simp)
  have ld0:=lw "d = unlike " (by simp)
  have lf0:=lw "fold " (by simp)
  refine ⟨_,rfl,_,_,rfl,rfl,small (by omega),_,rfl,_,_,rfl,rfl,small (by omega),small (n:=4) (by decide),fun lb hlb=>?_⟩
  have hft:∀ t ∈ (["a = count","b = sum "++n,"c = least x","d = unlike "++o]:List Str),SnN 4 t∧t.length≤40:=fun t ht=>fold_txt hn ho ht
  have elb:([.str "a = count",.str ("b = sum "++n),.str "c = least x",.str ("d = unlike "++o)]:List V)=(["a = count","b = sum "++n,"c = least x","d = unlike "++o]:List Str).map V.str:=rfl
  generalize hss:(["a = count","b = sum "++n,"c = least x","d = unlike "++o]:List Str)=ss at hft elb
  have lss:ss.length=4:=by rw [← hss];rfl
  have glb:=sN_ hlb (.lst (ss.map V.str))
  have hbd:lb≠d:=ev.drw.ne_of_none hlb
  have evB:=ev.then glb
  have hlb2:(upd H3 lb (.lst (ss.map V.str))) lb=some (.lst (ss.map V.str)):=uS_
  show tSeq (tAsg (tComp [none,some 0,some 4] (iRng1 (tCons (tC (V.int 3)) tNil)) (gName 0) tNoIf (tCall spOf [] E0 (tCons (tVar 1) (tCons (tVar 2) tNil)))) (gName 5)) _ _ [some (.ref d),some (.str n),some (.str o),some (.int r),some (.ref lb),none] (upd H3 lb (.lst ([.str "a = count",.str ("b = sum "++n),.str "c = least x",.str ("d = unlike "++o)])))
  rw [elb]
  generalize upd H3 lb (.lst (ss.map V.str))=H4 at *
  refine ⟨_,rfl,by decide,by decide,?_⟩
  refine comp_rngN (fun i ys H'=>∃ zs:List Str,ys=zs.map V.str∧zs.length=i∧(∀ y ∈ zs,y ∈ ss)∧Ev d H4 H') ⟨[],rfl,rfl,(fun _ z=>nomatch z),Ev.refl evB.drw⟩ (fun i ys H' hi rr=>?_) (fun i ys H' N hi rr hN=>?_) (fun ys H' rr D hDn=>?_)
  · obtain ⟨zs,rfl,e,_⟩:=rr
    have:(3:Int).toNat=3:=rfl
    rw [List.length_map];exact small (by omega)
  · obtain ⟨zs,rfl,e,e1,ev'⟩:=rr
    refine ⟨_,rfl,_,rfl,d,_,rfl,ev'.drw,.inr ⟨lb,ss.map V.str,rfl,hbd,ev'.same _ _ hbd hlb2,by rw [List.length_map];omega,by rw [List.length_map];omega,fun v H5 ev5 hv=>?_⟩⟩
    obtain ⟨s,hs,rfl⟩:=List.mem_map.mp hv
    refine hN _ _ ⟨zs++[s],by simp,by simp [e],fun y hy=>?_,ev'.trans ev5⟩
    rcases List.mem_append.mp hy with hy | hy
    · exact e1 y hy
    · rw [List.mem_singleton.mp hy];exact hs
  · obtain ⟨zs,rfl,e,e1,ev'⟩:=rr
    have e:zs.length=3:=e
    have gD:=sN_ hDn (.lst (zs.map V.str))
    have evC:=(evB.trans ev').then gD
    have hDd:D≠d:=ev'.drw.ne_of_none hDn
    have hD5:(upd H' D (.lst (zs.map V.str))) D=some (.lst (zs.map V.str)):=uS_
    generalize upd H' D (.lst (zs.map V.str))=H5 at *
    refine ⟨rfl,_,rfl,_,rfl,d,_,rfl,evC.drw,by decide,by decide,fun r2 H6 s0 s1 ev6=>⟨_,_,rfl,rfl,_,rfl,D,_,rfl,SqL.of (ev6.same _ _ hDd hD5),fun c hc=>?_⟩⟩
    have e2:(1+r2:Int)=((1+r2.toNat:Nat):Int):=by omega
    have ec:cutV (zs.map V.str) none (some (1+r2))=(zs.take (1+r2.toNat)).map V.str:=by rw [e2,cut_take,List.map_take]
    have hz1:(zs.take (1+r2.toNat))≠[]:=fun z=>by
      have:=congrArg List.length z
      rw [List.length_take,e] at this
      simp only [List.length_nil] at this
      omega
    have hz2:∀ y ∈ zs.take (1+r2.toNat),y ∈ ss:=fun y hy=>e1 y (List.mem_of_mem_take hy)
    have hz3:(zs.take (1+r2.toNat)).length≤3:=by rw [List.length_take];omega
    generalize zs.take (1+r2.toNat)=us at *
    rw [ec]
    have gc:=sN_ hc (.lst (us.map V.str))
    have evD:=(evC.trans ev6).then gc
    have l2:(", ":Str).length≤2:=by decide +kernel
    have hjl:=tjoin_len (L:=40) (m:=2) (n:=3) (z:=", ") (ys:=us) (fun y hy=>(hft y (hz2 y hy)).2) hz3 l2
    have hjs:=joins_txt us hz1 fun y hy=>(hft y (hz2 y hy)).1
    refine ⟨", ",c,us,rfl,rfl,SqL.of uS_,join_ok (L:=40) (m:=2) (n:=3) (fun y hy=>(hft y (hz2 y hy)).2) hz3 l2 (by decide),_,_,rfl,rfl,small (by omega),?_⟩
    generalize upd H6 c (.lst (us.map V.str))=H7 at *
    refine ⟨_,rfl,_,rfl,_,_,rfl,rfl,small (by have:=lw " by " (by simp);omega),small (n:=2) (by decide),fun lb2 hlb2=>?_⟩
    dsimp only [tCons,tNil]
    refine of_disp [""," by "++n] evD.drw hlb2 (by simp) (by simp) fun t H8 ht ev8=>?_
    have lt:t.length≤23:=by
      simp only [List.mem_cons,List.mem_nil_iff,or_false] at ht
      rcases ht with rfl | rfl
      · exact Nat.le_trans (lw "" (by simp)) (by decide)
      · rw [cL_];have:=lw " by " (by simp);omega
    refine ⟨_,_,rfl,rfl,small (by rw [cL_];omega),?_⟩
    refine q _ _ (evD.trans ev8) ?_ (by rw [cL_,cL_];omega)
    have h2:=(SnS.nm (fixS_nm "fold" (by simp))).cat hjs.toS
    rw [show ("fold":Str)++" "="fold " by decide +kernel] at h2
    exact (by_tail h2 hn ht).mono (by omega)
end
end My
namespace My
open PySem L2
def SnL (n:Nat) (x:Str):Prop:=∃ w ws,TxW x w ws∧ws≠[]∧ws.length+1≤n
theorem SnS.catL {n m:Nat} {x y:Str} (h:SnS n x) (h':SnS m y):SnL (n+m) (x++" "++y):=by
  obtain ⟨w,ws,hx,hn⟩:=h
  obtain ⟨v,vs,hy,hm⟩:=h'
  refine ⟨w,ws++v :: vs,⟨hx.ok,fun u hu=>?_,?_⟩,by simp,by rw [List.length_append,List.length_cons];omega⟩
  · rcases List.mem_append.mp hu with hu | hu
    · exact hx.al u hu
    · rcases List.mem_cons.mp hu with rfl | hu
      · exact hy.ok
      · exact hy.al u hu
  · rw [cat_l,cat_l,blank_l,hx.ch,hy.ch,List.map_append,List.map_cons,joinL_app]
    simp
theorem SnL.toS {n:Nat} {x:Str} (h:SnL n x):SnS n x:=let ⟨w,ws,a,_,c⟩:=h;⟨w,ws,a,c⟩
theorem SnL.mono {n m:Nat} {x:Str} (h:SnL n x) (hm:n≤m):SnL m x:=let ⟨w,ws,a,b,c⟩:=h;⟨w,ws,a,b,Nat.le_trans c hm⟩
theorem bar_l:(" | ":Str).cps.toList=[32,124,32]∧("|":Str).cps.toList=[124]:=by decide +kernel
theorem bars:∀ (ys:List Str) (n:Nat) (x z:Str),SnL n x→(∀ y ∈ ys,SnS 16 y)→(z.cps.toList=x.cps.toList++ys.flatMap fun r=>(" | ":Str).cps.toList++r.cps.toList)→SnL (n+17 * ys.length) z
  | [],n,x,z,hx,_,e=>by
    have:z=x:=str_ext (by rw [e];simp)
    rw [this];exact hx
  | y :: ys,n,x,z,hx,hy,e=>by
    have h1:=((hx.toS.cat (SnS.mk (x:="|") (by simp)))).catL (hy y List.mem_cons_self)
    have h2:=bars ys (n+1+16) (x++" "++"|"++" "++y) z h1 (fun u hu=>hy u (List.mem_cons_of_mem _ hu)) (by
      rw [e,cat_l,cat_l,cat_l,cat_l,blank_l,bar_l.2,List.flatMap_cons,bar_l.1]
      simp)
    refine h2.mono ?_
    rw [List.length_cons];omega
abbrev firstS:List Str:=["from all","from web app","from @a","from web"]
theorem first_txt:∀ t ∈ firstS,SnL 3 t∧t.length≤12:=by
  intro t ht
  have w:∀ x ∈ fixS,SnS 1 x:=fun x hx=>SnS.nm (fixS_nm x hx)
  have hl:∀ t ∈ firstS,t.length≤12:=by decide +kernel
  refine ⟨?_,hl t ht⟩
  simp only [List.mem_cons,List.mem_nil_iff,or_false] at ht
  rcases ht with rfl | rfl | rfl | rfl
  · exact ((w "from" (by simp)).catL (w "all" (by simp))).mono (by decide)
  · exact (((w "from" (by simp)).cat (w "web" (by simp))).catL (w "app" (by simp))).mono (by decide)
  · exact ((w "from" (by simp)).catL (SnS.at (fixS_nm "a" (by simp)))).mono (by decide)
  · exact ((w "from" (by simp)).catL (w "web" (by simp))).mono (by decide)
theorem lenJ_le:∀ (ws:List Wd) (w:Wd),w.ok→(∀ v ∈ ws,v.ok)→lenJ w ws≤22 * (w :: ws).length:=by
  have l1:∀ w:Wd,w.ok→w.txt.length≤21:=fun w h=>by
    obtain ⟨c1,c2⟩:=one_c
    cases w with
    | nm x=>have:=h.le;show x.length≤21;omega
    | nmc x=>have:=h.le;show (x++",":Str).length≤21;rw [cL_,c1];omega
    | atn x=>have:=h.le;show ("@"++x:Str).length≤21;rw [cL_,c2];omega
    | num x=>have:=(num_fit x h).2.2.2;show x.length≤21;omega
    | mk x =>
      have:∀ x ∈ mkS,x.length≤21:=by decide +kernel
      exact this x h
  intro ws
  induction ws with
  | nil =>
    intro w h _
    have:=l1 w h
    simp only [lenJ,List.length_cons,List.length_nil];omega
  | cons v r ih =>
    intro w h hs
    have:=l1 w h
    have:=ih v (hs v List.mem_cons_self) fun u hu=>hs u (List.mem_cons_of_mem _ hu)
    rw [lenJ]
    simp only [List.length_cons] at this ⊢
    omega
def WdsAt (H:Hp) (l:Addr) (us:List Wd):Prop:=H l=some (.lst ((us.map Wd.txt).map V.str))
abbrev someS:List Str:=["by","from","all","|","a","5","=","count","within","up","sort",",","@b","0","first"]
theorem some_wd:∀ x ∈ someS,∃ w:Wd,w.ok∧w.txt=x:=by
  intro x hx
  have nm:∀ x:Str,nmFB x=true→∃ w:Wd,w.ok∧w.txt=x:=fun x h=>⟨.nm x,nmF_of h,rfl⟩
  simp only [List.mem_cons,List.mem_nil_iff,or_false] at hx
  rcases hx with rfl | rfl | rfl | rfl | rfl | rfl | rfl | rfl | rfl | rfl | rfl | rfl | rfl | rfl | rfl
  · exact nm _ (by decide +kernel)
  · exact nm _ (by decide +kernel)
  · exact nm _ (by decide +kernel)
  · exact ⟨.mk "|",by show ("|":Str) ∈ mkS;simp,rfl⟩
  · exact nm _ (by decide +kernel)
  · exact ⟨.num "5",by show ("5":Str) ∈ numS;simp,rfl⟩
  · exact ⟨.mk "=",by show ("=":Str) ∈ mkS;simp,rfl⟩
  · exact nm _ (by decide +kernel)
  · exact nm _ (by decide +kernel)
  · exact nm _ (by decide +kernel)
  · exact nm _ (by decide +kernel)
  · exact ⟨.mk ",",by show (",": Str) ∈ mkS;simp,rfl⟩
  · exact ⟨.atn "b",nmF_of (x:="b") (by decide +kernel),by decide +kernel⟩
  · exact ⟨.num "0",by show ("0":Str) ∈ numS;simp,rfl⟩
  · exact nm _ (by decide +kernel)
theorem bent_lst (us0:List Wd) (w:Wd) (k:Nat) (b1 b2:Bool):((us0.map Wd.txt).map V.str).take k++(List.replicate ((if b1=true then (1:Int) else 0).toNat) [V.str w.txt]).flatten++((us0.map Wd.txt).map V.str).drop (k+if b2=true then 1 else 0)=((us0.take k++(if b1=true then [w] else [])++us0.drop (k+if b2=true then 1 else 0)).map Wd.txt).map V.str:=by
  cases b1 <;> cases b2 <;> simp [List.map_take,List.map_drop]
theorem tk_fine {ps:Pcs} (hk:∀ p ∈ ps,PcKv p.1 p.2.1.1 p.2.1.2):Lk (tkP ps 0) (wdP ps)∧(∀ t ∈ tkP ps 0,t.k=("number":Str)→∃ n:Int,t.v=.int n)∧∀ i,noTerm (tkP ps 0) i:=by
  have hat:=fun i h=>kv_at ps 0 i hk h
  have lt:=tkP_len ps 0
  have lw:=wdP_len ps
  refine ⟨⟨by omega,fun i hi=>?_⟩,fun t ht hn=>?_,fun i=>?_⟩
  · rcases hat i (by omega) with ⟨_,a,b⟩ | ⟨_,a⟩
    · exact .inl ⟨a,b⟩
    · exact .inr a
  · obtain ⟨i,hi⟩:=List.getElem?_of_mem ht
    have hlt:=(List.getElem?_eq_some_iff.mp hi).1
    have e:tkA (tkP ps 0) i=t:=by unfold tkA;rw [hi];rfl
    have z:=hat i (by omega)
    rw [e] at z
    rcases z with ⟨_,_,b⟩ | ⟨_,b⟩
    · rw [b] at hn;exact absurd hn (by decide +kernel)
    · rw [hn] at b
      generalize hq:("number":Str)=kk at b
      generalize t.v=v at b ⊢
      cases b with
      | nm=>exact absurd hq (by decide +kernel)
      | kp=>exact absurd hq (by decide +kernel)
      | mk=>exact absurd hq (by decide +kernel)
      | num=>exact ⟨_,rfl⟩
  · unfold noTerm
    have n0:("":Str)≠"where"∧("":Str)≠"with":=by decide +kernel
    by_cases hi:i < ps.length+1
    · rcases hat i hi with ⟨h1,_,b⟩ | ⟨_,b⟩
      · have hv:(tkA (tkP ps 0) i).v=.str "":=by
          have:∀ (ps:Pcs) (A:Nat),(tkA (tkP ps A) ps.length).v=.str "":=by
            intro ps
            induction ps with
            | nil=>intro A;rfl
            | cons p r ih=>intro A;obtain ⟨y,k,n⟩:=p;exact ih _
          rw [h1];exact this ps 0
        rw [hv];exact n0
      · generalize wAt (wdP ps) i=y at b
        generalize (tkA (tkP ps 0) i).k=kk at b
        generalize (tkA (tkP ps 0) i).v=v at b ⊢
        cases b with
        | nm h=>exact h.nt
        | kp h=>exact h.nt
        | mk h =>
          have:∀ y ∈ mkT,y≠"where"∧y≠"with":=by decide +kernel
          exact this y h
        | num=>exact n0
    · have:tkA (tkP ps 0) i=⟨"end",.str "",0⟩:=by unfold tkA;rw [List.getElem?_eq_none (by omega)];rfl
      rw [this];exact n0
theorem pcs_le:∀ (sts:List Sg),∀ s ∈ sts,s.pcs.length≤(allP sts).length
  | [],s,h=>nomatch h
  | t :: r,s,h=>by
    have h2:∀ (r:List Sg),∀ s ∈ r,s.pcs.length≤(stsP r).length:=fun r=>by
      induction r with
      | nil=>intro s h;exact nomatch h
      | cons u r ih =>
        intro s h
        unfold stsP at ih ⊢
        rw [List.flatMap_cons,List.length_append,List.length_cons]
        rcases List.mem_cons.mp h with rfl | h
        · omega
        · have:=ih s h;omega
    show _≤(t.pcs++stsP r).length
    rw [List.length_append]
    rcases List.mem_cons.mp h with rfl | h
    · omega
    · have:=h2 r s h;omega
theorem repl_nb (t:Str):(Txt.replace t " " "").cps.toList=nb t.cps.toList:=by
  have:=PyProof.Rows.replace_strikes t 32
  rw [show (" ":Str)=⟨#[32]⟩ by decide +kernel,show ("":Str)=⟨#[]⟩ by decide +kernel]
  exact this
section
variable {P:Program} {w:World} {K:PySem.W.Frag} {mg:Str→Option Value} {base:Heap} {a:Adr}
def spLaw (K:PySem.W.Frag):Sp:=fun vs H Q _=>∃ (b:Addr) (ns:List Int),vs=[.ref b]∧SqL K H b (ns.map V.int)∧ns.length≤63∧∀ H',Q (.bl true) H'
theorem ok_law (T:Txt K mg a):FnOk P w K mg base CX0 30 a.f_law a.d_law ["_law_script"] (spLaw K):=by
  refine T.F_law.ok sc_law (fun vs H Q E h=>?_) (fun cdv A outer s H vs Q E hr h=>?_)
  · obtain ⟨x,y,rfl,_⟩:=h;rfl
  obtain ⟨b,ns,rfl,hS,hn,q⟩:=h
  have hu1:=hu_of hr
  refine ⟨_,(sC_ (zS_ (i:=1) sc_law.nd rfl (by first | exact Or.inl rfl | exact Or.inr rfl) (pL_ (ok_begin T) (hr.mono (by decide)) rfl T.m_begin T.F_begin.kp T.b_begin .nil pass0 (pC_ (pv 0) pa_nil aN_)) swap_cal) (sC_ (ps_for PassesOwn.never rfl (pi_range1 rfl T.n_range (pC_ pI_ pa_nil aC_)) (pg_name (i:=2) sc_law.nd rfl (by first | exact Or.inl rfl | exact Or.inr rfl)) (sC_ (zS_ (i:=3) sc_law.nd rfl (by first | exact Or.inl rfl | exact Or.inr rfl) (pL_ (ok_of T) (hr.mono (by decide)) rfl T.m_of T.F_of.kp T.b_of .nil pass0 (pC_ (pv 1) (pC_ (pe_lst (pC_ pI_ (pC_ pI_ (pC_ pI_ (pC_ pI_ (pC_ pI_ (pC_ pI_ (pC_ pI_ pa_nil aC_) aC_) aC_) aC_) aC_) aC_) aC_)) pa_nil star_lst) aN_)) swap_cal) (sC_ (zS_ (i:=4) sc_law.nd rfl (by first | exact Or.inl rfl | exact Or.inr rfl) (pe_lst (pC_ (pL_ (ok_of T) (hr.mono (by decide)) rfl T.m_of T.F_of.kp T.b_of .nil pass0 (pC_ (pv 1) (pC_ (pe_lst (pa_strs rfl)) pa_nil star_lst) aN_)) pa_nil star_cal)) swap_lst) (sC_ (zS_ (i:=5) sc_law.nd rfl (by first | exact Or.inl rfl | exact Or.inr rfl) (pe_bm PySem.F.plainAttrs_str PySem.F.slot_str_join PySem.F.type_str_join mt_join pS_ (pC_ (pO_ op_cat (pv 4) (pe_comp ["_law_step","_law_draw"] [none,some 1] (pi_range1 rfl T.n_range (pC_ (pv 3) pa_nil aN_)) (fun _ _ _ _ _=>(pg_name (i:=0) (show List.Nodup (["_law_step","_law_draw"]:List Str) from by decide +kernel) rfl (Or.inl rfl) (Or.inr rfl))) (fun _ _ _ _ _=>pts_nil) (fun _ _ _ _ _=>(pL_ (ok_stage_plain T) (hr.mono (by decide)) rfl T.m_stage_plain T.F_stage_plain.kp T.b_stage_plain .nil pass0 (pC_ (pv 1) pa_nil aN_))))) pa_nil star_bin)) swap_cal) (sC_ (zS_ (i:=6) sc_law.nd rfl (by first | exact Or.inl rfl | exact Or.inr rfl) (pe_bm PySem.F.plainAttrs_str PySem.F.slot_str_split PySem.F.type_str_split mt_split (pv 5) (pC_ pS_ pa_nil aC_)) swap_cal) (sC_ (zS_ (i:=7) sc_law.nd rfl (by first | exact Or.inl rfl | exact Or.inr rfl) (pL_ (ok_take T) (hr.mono (by decide)) rfl T.m_take T.F_take.kp T.b_take .nil pass0 (pC_ (pv 1) (pC_ (pB_ call_len_seq rfl T.n_len PySem.boot_len (pC_ (pv 6) pa_nil aN_)) pa_nil star_cal) aN_)) swap_cal) (sC_ (zS_ (i:=8) sc_law.nd rfl (by first | exact Or.inl rfl | exact Or.inr rfl) (pL_ (ok_take T) (hr.mono (by decide)) rfl T.m_take T.F_take.kp T.b_take .nil pass0 (pC_ (pv 1) (pC_ pI_ pa_nil aC_) aN_)) swap_cal) (sC_ (ps_cut (ps_ifB (tR_ op_lt (pv 8) pI_ (nM_ _)) (bss_cons (bs_set (i:=9) sc_law.nd rfl (by first | exact Or.inl rfl | exact Or.inr rfl) (be_strs rfl) swap_lst (by first | exact .inl rfl | exact .inr rfl)) (bss_cons (bs_set (i:=9) sc_law.nd rfl (by first | exact Or.inl rfl | exact Or.inr rfl) (be_op op_cat ⟨(pv 9)⟩ (be_strs rfl)) rfl (by first | exact .inl rfl | exact .inr rfl)) (bss_one (bs_set (i:=6) sc_law.nd rfl (by first | exact Or.inl rfl | exact Or.inr rfl) (be_op op_cat (be_op op_cat ⟨(pZ_ sl_list (pv 6) po_none (po_some (pv 7)))⟩ (be_op op_rep (be_lst (bpa_cons ⟨(pL_ (ok_of T) (hr.mono (by decide)) rfl T.m_of T.F_of.kp T.b_of .nil pass0 (pC_ (pv 1) (pC_ (pv 9) pa_nil aN_) aN_))⟩ bpa_nil star_cal)) ⟨(pT_ call_int1 rfl T.n_int (by decide +kernel) (pC_ (pR_ op_gt (pv 8) pI_ (nM_ _)) pa_nil))⟩)) ⟨(pZ_ sl_list (pv 6) (po_some (pO_ op_add (pv 7) (pT_ call_int1 rfl T.n_int (by decide +kernel) (pC_ (pR_ op_lt (pv 8) pI_ (nM_ _)) pa_nil)))) po_none)⟩) rfl (by first | exact .inl rfl | exact .inr rfl))))) pss_nil)) (sC_ (ps_cut (ps_if (tR_ op_eq (pv 8) pI_ (nM_ _)) (sO_ (zS_ (i:=6) sc_law.nd rfl (by first | exact Or.inl rfl | exact Or.inr rfl) (pO_ op_cat (pZ_ sl_list (pv 6) po_none (po_some (pO_ op_add (pv 7) pI_))) (pZ_ sl_list (pv 6) (po_some (pv 7)) po_none)) swap_bin)) pss_nil)) (pss_cons2 (ps_set2 (i:=5) sc_law.nd rfl (by first | exact Or.inl rfl | exact Or.inr rfl) (pe_bmC2 PySem.F.slot_str_join PySem.F.type_str_join mt_join (pC_ (pv 6) pa_nil aN_)) swap_cal) (pss_cons1P (zS_ (i:=10) sc_law.nd rfl (by first | exact Or.inl rfl | exact Or.inr rfl) (pL_ (ok_wrong T) (hr.mono (by decide)) rfl T.m_wrong T.F_wrong.kp T.b_wrong .nil pass0 (pC_ (pv 5) pa_nil aN_)) swap_cal) (pss_cons1P (zS_ (i:=11) sc_law.nd rfl (by first | exact Or.inl rfl | exact Or.inr rfl) pe_non) (pss_cons1L (ps_cut1 (ps_tryO1 (j:=12) rfl rfl rfl T.m_LogError T.x_LogError sc_law.nd rfl rfl (fun pn XE E σ0 hx=>(pss_one1 (ps_if1 (pt_cmpR1 op_ne (pe_repl (by decide +kernel) (pL_ (ok_asking T) (hr.mono (by decide)) rfl T.m_asking T.F_asking.kp T.b_asking .nil pass0 (pC_ (pe_callA (ok_read_question T) (hr.mono (by decide)) rfl T.m_read_question T.F_read_question.kp T.b_read_question .nil hx (pC_ (pv 5) pa_nil aN_)) pa_nil star_cal))) (pe_repl (by decide +kernel) (pv 5)) (nM_ _)) (sO_ (zS_ (i:=11) sc_law.nd rfl (by first | exact Or.inl rfl | exact Or.inr rfl) (pO_ op_sub pI_ pI_) swap_bin)) pss_nil))) (fun e=>(sO_ (zS_ (i:=11) sc_law.nd rfl (by first | exact Or.inl rfl | exact Or.inr rfl) (pe_ifExp (pt_val (pB_ call_isXo rfl T.n_isinstance (by decide +kernel) (pC_ (pv 12) (pC_ (pe_glob (v:=.ref a.c_BadText) rfl T.m_BadText rfl) pa_nil aN_) aN_))) (pe_xat (pv 12)) (pO_ op_sub pI_ pI_))))))) (sO_ (ps_if (tR_ op_ne (pv 11) (pv 10) (nM_ _)) (sO_ (ps_ret pe_bl)) pss_nil))))))))))))))) (sO_ (ps_ret pe_bl)))),?_⟩
  refine ⟨_,rfl,b,ns,rfl,hS,hn,fun dd H1 hdn g1 hD=>?_⟩
  refine ⟨10,rfl,by decide,by decide,for_range (n:=10) (lo:=0) (fun i σ H=>∃ s2 s3 s4 s5 s6 s7 s8 s9 s10 s11 s12,σ=[some (.ref b),some (.ref dd),s2,s3,s4,s5,s6,s7,s8,s9,s10,s11,s12]∧Drw H dd) ⟨_,_,_,_,_,_,_,_,_,_,_,rfl,hD⟩ (fun i σ H4 hi hP=>?_) (fun σ H4 hP=>?_)⟩
  · obtain ⟨s2,s3,s4,s5,s6,s7,s8,s9,s10,s11,s12,rfl,hD4⟩:=hP
    refine ⟨_,rfl,small (n:=7) (by decide),fun lb hlb=>?_⟩
    have glb:=sN_ hlb (.lst [.int 0,.int 1,.int 2,.int 3,.int 10,.int 11,.int 12])
    have evb:=Ev.of hD4 glb
    refine ⟨dd,_,rfl,evb.drw,.inr ⟨lb,_,rfl,hD4.ne_of_none hlb,uS_,by decide,by decide,fun mv H5 ev5 hmv=>?_⟩⟩
    obtain ⟨m,rfl,hm⟩:∃ m:Nat,mv=.int (m:Int)∧m≤12:=by
      simp only [List.mem_cons,List.mem_nil_iff,or_false] at hmv
      rcases hmv with rfl | rfl | rfl | rfl | rfl | rfl | rfl
      · exact ⟨0,rfl,by decide⟩
      · exact ⟨1,rfl,by decide⟩
      · exact ⟨2,rfl,by decide⟩
      · exact ⟨3,rfl,by decide⟩
      · exact ⟨10,rfl,by decide⟩
      · exact ⟨11,rfl,by decide⟩
      · exact ⟨12,rfl,by decide⟩
    have ev:=evb.trans ev5
    refine ⟨_,rfl,small (n:=4) (by decide),fun lb2 hlb2=>?_⟩
    dsimp only [tCons,tNil]
    refine of_disp firstS ev.drw hlb2 (by decide) (by decide) fun t0 H6 ht0 ev6=>?_
    have ev:=ev.trans ev6
    refine ⟨small (n:=1) (by decide),fun l4 hl4=>?_⟩
    have g4:=sN_ hl4 (.lst [.str t0])
    have ev:=ev.then g4
    have h4d:l4≠dd:=ev6.drw.ne_of_none hl4
    have hl4':(upd H6 l4 (.lst [.str t0])) l4=some (.lst [.str t0]):=uS_
    generalize upd H6 l4 (.lst [.str t0])=H7 at *
    have hm':((m:Int)).toNat=m:=by omega
    refine ⟨rfl,_,rfl,_,rfl,_,rfl,by omega,by omega,?_⟩
    refine comp_rngN (fun i ys H'=>∃ zs:List Str,ys=zs.map V.str∧zs.length=i∧(∀ y ∈ zs,SnS 16 y∧y.length≤250)∧Ev dd H7 H') ⟨[],rfl,rfl,(fun _ z=>nomatch z),Ev.refl ev.drw⟩ (fun i ys H' hi rr=>?_) (fun i ys H' N hi rr hN=>?_) (fun ys H' rr D hDn=>?_)
    · obtain ⟨zs,rfl,e,_⟩:=rr
      rw [List.length_map];exact small (by omega)
    · obtain ⟨zs,rfl,e,e1,ev'⟩:=rr
      refine ⟨_,rfl,dd,rfl,ev'.drw,fun y H8 ev8 y1 y2=>hN _ _ ⟨zs++[y],by simp,by simp [e],fun u hu=>?_,ev'.trans ev8⟩⟩
      rcases List.mem_append.mp hu with hu | hu
      · exact e1 u hu
      · rw [List.mem_singleton.mp hu];exact ⟨y1,y2⟩
    obtain ⟨zs,rfl,e,e1,ev'⟩:=rr
    have e:zs.length≤12:=by have e:zs.length=(m:Int).toNat:=e;omega
    have gD:=sN_ hDn (.lst (zs.map V.str))
    have evD:=(ev.trans ev').then gD
    obtain ⟨f1,f2⟩:=first_txt t0 ht0
    have hb3:(" | ":Str).length≤3:=by decide +kernel
    refine ⟨l4,D,_,_,rfl,rfl,gD _ _ (ev'.same _ _ h4d hl4'),uS_,by rw [List.length_map];exact small (by simp;omega),fun p hp=>?_⟩
    have gp:=sN_ hp (.lst ([.str t0]++zs.map V.str))
    have evp:=evD.then gp
    have hys:∀ y ∈ t0 :: zs,y.length≤250:=fun y hy=>by
      rcases List.mem_cons.mp hy with rfl | hy
      · omega
      · exact (e1 y hy).2
    have hjl:=tjoin_len (L:=250) (m:=3) (n:=13) (z:=" | ") (ys:=t0 :: zs) hys (by rw [List.length_cons];omega) hb3
    refine ⟨" | ",p,t0 :: zs,rfl,rfl,SqL.of uS_,join_ok (L:=250) (m:=3) (n:=13) hys (by rw [List.length_cons];omega) hb3 (by decide),?_⟩
    have hx:=(bars zs 3 t0 (Txt.join " | " (t0 :: zs)) f1 (fun y hy=>(e1 y hy).1) (join_gen _ _ _)).mono (show 3+17 * zs.length≤207 by omega)
    generalize Txt.join " | " (t0 :: zs)=x0 at *
    obtain ⟨wd0,ws0,hx0,hne0,hn0⟩:=hx
    generalize upd (upd H' D (.lst (zs.map V.str))) p (.lst ([.str t0]++zs.map V.str))=H9 at *
    refine ⟨_,rfl,rfl,?_⟩
    dsimp only [tCons,tC,tNil]
    refine split_okL (z:=x0) (y:=" ") (by decide +kernel) (by omega) fun l6 hl6=>?_
    rw [hx0.split]
    have h6d:l6≠dd:=evp.drw.ne_of_none hl6
    have g6:=sN_ hl6 (.lst (((wd0 :: ws0).map Wd.txt).map V.str))
    have evq:=evp.then g6
    have hl6':WdsAt (upd H9 l6 (.lst (((wd0 :: ws0).map Wd.txt).map V.str))) l6 (wd0 :: ws0):=uS_
    have hus0:∀ u ∈ wd0 :: ws0,u.ok:=fun u hu=>(List.mem_cons.mp hu).elim (fun z=>z ▸ hx0.ok) (hx0.al u)
    have hlen0:2≤(wd0 :: ws0).length∧(wd0 :: ws0).length≤207:=by
      have:ws0.length≠0:=fun z=>hne0 (List.length_eq_zero_iff.mp z)
      rw [List.length_cons];omega
    generalize upd H9 l6 (.lst (((wd0 :: ws0).map Wd.txt).map V.str))=H10 at *
    generalize wd0 :: ws0=us0 at *
    refine ⟨_,rfl,_,rfl,l6,_,rfl,.inl (SqL.of hl6'),dd,_,rfl,evq.drw,?_,?_,fun r1 H11 p0 p1 ev11=>?_⟩
    · rw [List.length_map,List.length_map];omega
    · rw [List.length_map,List.length_map];exact lt200 (by omega)
    rw [List.length_map,List.length_map] at p1
    obtain ⟨k1,rfl⟩:∃ k:Nat,r1=(k:Int):=⟨r1.toNat,by omega⟩
    refine ⟨_,rfl,dd,_,rfl,ev11.drw,by decide,by decide,fun r2 H12 q0 q1 ev12=>?_⟩
    have ev':=evq.trans (ev11.trans ev12)
    have hl6':WdsAt H12 l6 us0:=(ev11.trans ev12).same _ _ h6d hl6'
    refine ⟨fun σ' H'=>∃ s9 l' us,σ'=[some (.ref b),some (.ref dd),some (.int (0+(i:Int))),some (.int (m:Int)),some (.ref l4),some (.str x0),some (.ref l'),some (.int (k1:Int)),some (.int r2),s9,s10,s11,s12]∧Ev dd H4 H'∧l'≠dd∧WdsAt H' l' us∧us≠[]∧us.length≤208∧(∀ u ∈ us,u.ok),?_,?_⟩
    · refine ⟨_,rfl,_,_,rfl,rfl,_,rfl,ite2 (fun k=>?_) (fun k=>?_)⟩
      rotate_left
      · exact ⟨_,l6,us0,rfl,ev',h6d,hl6',(fun z=>by rw [z] at hlen0;simp at hlen0),by omega,hus0⟩
      refine ⟨small (n:=12) (by decide),fun lA hA=>?_⟩
      have gA:=sN_ hA (.lst ((["by","from","all","|","a","5","=","count","within","up","sort",","]:List Str).map V.str))
      refine ⟨_,rfl,small (n:=3) (by decide),fun lB hB=>?_⟩
      have gB:=sN_ hB (.lst ((["@b","0","first"]:List Str).map V.str))
      refine ⟨lA,lB,_,_,rfl,rfl,gB _ _ uS_,uS_,small (n:=15) (by decide),fun lC hC=>?_⟩
      have gC:=sN_ hC (.lst ((["by","from","all","|","a","5","=","count","within","up","sort",","]:List Str).map V.str++(["@b","0","first"]:List Str).map V.str))
      have hC1:=((ev'.then gA).then gB).drw.ne_of_none hC
      have evC:=((ev'.then gA).then gB).then gC
      have hl6C:WdsAt _ l6 us0:=gC _ _ (gB _ _ (gA _ _ hl6'))
      have hCC:=uS_ (H:=(upd (upd H12 lA (.lst ((["by","from","all","|","a","5","=","count","within","up","sort",","]:List Str).map V.str))) lB (.lst ((["@b","0","first"]:List Str).map V.str)))) (a:=lC) (o:=.lst ((["by","from","all","|","a","5","=","count","within","up","sort",","]:List Str).map V.str++(["@b","0","first"]:List Str).map V.str))
      generalize upd (upd (upd H12 lA (.lst ((["by","from","all","|","a","5","=","count","within","up","sort",","]:List Str).map V.str))) lB (.lst ((["@b","0","first"]:List Str).map V.str))) lC (.lst ((["by","from","all","|","a","5","=","count","within","up","sort",","]:List Str).map V.str++(["@b","0","first"]:List Str).map V.str))=HC at *
      have hCC:HC lC=some (.lst (someS.map V.str)):=hCC
      refine ⟨_,rfl,_,rfl,_,rfl,l6,_,rfl,SqL.of hl6C,fun c1 hc1=>?_⟩
      rw [cut_take]
      have g1:=sN_ hc1 (.lst (((us0.map Wd.txt).map V.str).take k1))
      have n1:c1≠dd:=evC.drw.ne_of_none hc1
      have ev1:=evC.then g1
      have hc1':(upd HC c1 (.lst (((us0.map Wd.txt).map V.str).take k1))) c1=some (.lst (((us0.map Wd.txt).map V.str).take k1)):=uS_
      have hl61:WdsAt _ l6 us0:=g1 _ _ hl6C
      have hCC1:=g1 _ _ hCC
      generalize upd HC c1 (.lst (((us0.map Wd.txt).map V.str).take k1))=HD at *
      refine ⟨_,rfl,_,rfl,dd,_,rfl,ev1.drw,.inr ⟨lC,_,rfl,hC1,hCC1,by decide,by decide,fun sv H13 ev13 hsv=>?_⟩⟩
      obtain ⟨sx,hsx,rfl⟩:=List.mem_map.mp hsv
      obtain ⟨wv,wok,rfl⟩:=some_wd sx hsx
      have ev2:=ev1.trans ev13
      have hc13:=ev13.same _ _ n1 hc1'
      have hl63:WdsAt H13 l6 us0:=ev13.same _ _ h6d hl61
      refine ⟨small (n:=1) (by decide),fun c2 hc2=>?_⟩
      have g2:=sN_ hc2 (.lst [.str wv.txt])
      refine ⟨_,rfl,_,_,rfl,rfl,.inr ⟨_,rfl,c2,_,_,rfl,rfl,uS_,?_,?_,?_,fun c3 hc3=>?_⟩⟩
      · split <;> decide
      · split <;> decide
      · split
        · exact small (n:=1) (by decide)
        · exact small (n:=0) (by decide)
      have g3:=sN_ hc3 (.lst (List.replicate (if decide (0 < r2)=true then (1:Int) else 0).toNat [V.str wv.txt]).flatten)
      have g23:=g2.trans g3
      have hc3':(upd (upd H13 c2 (.lst [.str wv.txt])) c3 (.lst (List.replicate (if decide (0 < r2)=true then (1:Int) else 0).toNat [V.str wv.txt]).flatten)) c3=some (.lst (List.replicate (if decide (0 < r2)=true then (1:Int) else 0).toNat [V.str wv.txt]).flatten):=uS_
      have ev3:=ev2.then g23
      have hc15:=g23 _ _ hc13
      have hl65:WdsAt _ l6 us0:=g23 _ _ hl63
      generalize upd (upd H13 c2 (.lst [.str wv.txt])) c3 (.lst (List.replicate (if decide (0 < r2)=true then (1:Int) else 0).toNat [V.str wv.txt]).flatten)=HE at *
      have lrep:(List.replicate (if decide (0 < r2)=true then (1:Int) else 0).toNat [V.str wv.txt]).flatten.length≤1:=by split <;> simp
      have ltk:(((us0.map Wd.txt).map V.str).take k1).length≤207:=by rw [List.length_take,List.length_map,List.length_map];omega
      refine ⟨c1,c3,_,_,rfl,rfl,hc15,hc3',small (by omega),fun c4 hc4=>?_⟩
      have g4':=sN_ hc4 (.lst (((us0.map Wd.txt).map V.str).take k1++(List.replicate (if decide (0 < r2)=true then (1:Int) else 0).toNat [V.str wv.txt]).flatten))
      refine ⟨_,rfl,_,rfl,_,rfl,_,_,rfl,rfl,.inr ⟨_,rfl,_,_,rfl,rfl,_,rfl,l6,_,rfl,SqL.of (g4' _ _ hl65),fun c5 hc5=>?_⟩⟩
      have ek:((k1:Int)+(if decide (r2 < 2)=true then (1:Int) else 0))=((k1+if decide (r2 < 2)=true then 1 else 0:Nat):Int):=by split <;> simp
      rw [ek,cut_drop]
      have g5':=sN_ hc5 (.lst (((us0.map Wd.txt).map V.str).drop (k1+if decide (r2 < 2)=true then 1 else 0)))
      have ldr:(((us0.map Wd.txt).map V.str).drop (k1+if decide (r2 < 2)=true then 1 else 0)).length≤207:=by rw [List.length_drop,List.length_map,List.length_map];omega
      refine ⟨c4,c5,_,_,rfl,rfl,g5' _ _ uS_,uS_,small (by rw [List.length_append];omega),fun c6 hc6=>?_⟩
      have g6':=sN_ hc6 (.lst (((us0.map Wd.txt).map V.str).take k1++(List.replicate (if decide (0 < r2)=true then (1:Int) else 0).toNat [V.str wv.txt]).flatten++((us0.map Wd.txt).map V.str).drop (k1+if decide (r2 < 2)=true then 1 else 0)))
      have ev6':=ev3.then ((g4'.trans g5').trans g6')
      have n6:c6≠dd:=(ev3.then (g4'.trans g5')).drw.ne_of_none hc6
      refine ⟨_,c6,us0.take k1++(if decide (0 < r2)=true then [wv] else [])++us0.drop (k1+if decide (r2 < 2)=true then 1 else 0),rfl,ev6',n6,?_,?_,?_,fun u hu=>?_⟩
      · show (upd _ c6 _) c6=some (.lst _)
        rw [uS_,← bent_lst]
      · intro z
        have:=congrArg List.length z
        rw [List.length_append,List.length_append,List.length_take,List.length_drop,List.length_nil] at this
        by_cases q2:0 < r2
        · rw [decide_eq_true q2,if_pos rfl] at this
          simp at this
        · rw [decide_eq_true (show r2 < 2 by omega),if_pos rfl] at this
          omega
      · rw [List.length_append,List.length_append,List.length_take,List.length_drop]
        by_cases q2:0 < r2
        · rw [decide_eq_true q2,if_pos rfl,List.length_singleton]
          split <;> omega
        · rw [decide_eq_false q2,if_neg (by decide),List.length_nil]
          split <;> omega
      · rcases List.mem_append.mp hu with hu | hu
        · rcases List.mem_append.mp hu with hu | hu
          · exact hus0 u (List.mem_of_mem_take hu)
          · split at hu
            · rw [List.mem_singleton.mp hu];exact wok
            · cases hu
        · exact hus0 u (List.mem_of_mem_drop hu)
    rintro σ' H13 ⟨s9,l7,us1,rfl,ev1,h7d,hl7,hne1,hln1,hok1⟩
    refine ⟨fun σ' H'=>∃ s9 l' us,σ'=[some (.ref b),some (.ref dd),some (.int (0+(i:Int))),some (.int (m:Int)),some (.ref l4),some (.str x0),some (.ref l'),some (.int (k1:Int)),some (.int r2),s9,s10,s11,s12]∧Ev dd H4 H'∧WdsAt H' l' us∧us≠[]∧us.length≤209∧(∀ u ∈ us,u.ok),?_,?_⟩
    · refine ⟨_,rfl,rfl,_,rfl,ite2 (fun k=>?_) (fun k=>?_)⟩
      rotate_left
      · exact ⟨_,l7,us1,rfl,ev1,hl7,hne1,by omega,hok1⟩
      refine ⟨_,rfl,_,rfl,_,_,rfl,rfl,_,rfl,l7,_,rfl,SqL.of hl7,fun c1 hc1=>?_⟩
      rw [show ((k1:Int)+1)=((k1+1:Nat):Int) by omega,cut_take]
      have g1:=sN_ hc1 (.lst (((us1.map Wd.txt).map V.str).take (k1+1)))
      refine ⟨_,rfl,_,rfl,_,rfl,l7,_,rfl,SqL.of (g1 _ _ hl7),fun c2 hc2=>?_⟩
      rw [cut_drop]
      have g2:=sN_ hc2 (.lst (((us1.map Wd.txt).map V.str).drop k1))
      refine ⟨c1,c2,_,_,rfl,rfl,g2 _ _ uS_,uS_,small (by rw [List.length_take,List.length_drop,List.length_map,List.length_map];omega),fun c3 hc3=>?_⟩
      have g3:=sN_ hc3 (.lst (((us1.map Wd.txt).map V.str).take (k1+1)++((us1.map Wd.txt).map V.str).drop k1))
      refine ⟨_,c3,us1.take (k1+1)++us1.drop k1,rfl,ev1.then ((g1.trans g2).trans g3),?_,?_,?_,fun u hu=>?_⟩
      · show (upd _ c3 _) c3=some (.lst _)
        rw [uS_]
        simp [List.map_take,List.map_drop]
      · intro z
        have:=congrArg List.length z
        have h0:us1.length≠0:=fun z=>hne1 (List.length_eq_zero_iff.mp z)
        rw [List.length_append,List.length_take,List.length_nil] at this
        omega
      · rw [List.length_append,List.length_take,List.length_drop];omega
      · rcases List.mem_append.mp hu with hu | hu
        · exact hok1 u (List.mem_of_mem_take hu)
        · exact hok1 u (List.mem_of_mem_drop hu)
    rintro σ' H14 ⟨s9,l8,us2,rfl,ev2,hl8,hne2,hln2,hok2⟩
    obtain ⟨w1,ws1,rfl⟩:∃ w ws,us2=w :: ws:=by
      cases us2 with
      | nil=>exact absurd rfl hne2
      | cons w ws=>exact ⟨w,ws,rfl⟩
    have hwl:∀ y ∈ (w1 :: ws1).map Wd.txt,y.length≤22:=fun y hy=>by
      obtain ⟨u,hu,rfl⟩:=List.mem_map.mp hy
      have:=lenJ_le [] u (hok2 u hu) (fun _ z=>nomatch z)
      simpa [lenJ] using this
    have hwn:((w1 :: ws1).map Wd.txt).length≤209:=by rw [List.length_map];exact hln2
    refine ⟨rfl,_,rfl," ",l8,_,rfl,rfl,SqL.of hl8,join_ok (L:=22) (m:=1) (n:=209) hwl hwn (Nat.le_of_eq blank1) (by decide),?_⟩
    have hx1:TxW (Txt.join " " ((w1 :: ws1).map Wd.txt)) w1 ws1:=⟨hok2 w1 List.mem_cons_self,fun v hv=>hok2 v (List.mem_cons_of_mem _ hv),by rw [List.map_cons,join_list blank_l,List.map_map];rfl⟩
    generalize Txt.join " " ((w1 :: ws1).map Wd.txt)=x1 at *
    have hlx1:x1.length≤4600:=by
      have:=lenJ_le ws1 w1 hx1.ok hx1.al
      rw [hx1.len];omega
    refine ⟨_,rfl,x1,w1,ws1,rfl,hx1,by omega,fun H15 g15=>?_⟩
    have ev3:=ev2.then g15
    have hkv:=prts_kv ws1 w1 hx1.ok hx1.al
    have hpl:=prts_len ws1 w1
    have hgood:=good_prts ws1 w1 hx1.ok hx1.al
    have hspr:x1.cps.toList=[]++spr (prts w1 ws1):=by rw [spr_prts];exact hx1.ch
    have hnb:nb x1.cps.toList=catP ((prts w1 ws1).map (·.1)):=by rw [hx1.ch];exact nb_prts ws1 w1 hx1.ok hx1.al
    generalize prts w1 ws1=ps at *
    obtain ⟨hLk,hnum,hno⟩:=tk_fine hkv
    have hlex:lexN (x1.length+1) x1 0=.inr (tkP ps 0):=lex_tk (x:=x1) (f:=x1.length+1) ps [] hgood hspr (by simp)
    obtain ⟨hTs,hpos,_⟩:=lex_ok x1 _ _ _ hlex
    obtain ⟨hW,hF⟩:=wok_of hkv (by omega)
    have htl:=tkP_len ps 0
    have hwl2:=wdP_len ps
    obtain ⟨ag1,ag2⟩:=ag_quest hLk hW (by omega)
    refine ⟨fun σ' H'=>∃ s12',σ'=[some (.ref b),some (.ref dd),some (.int (0+(i:Int))),some (.int (m:Int)),some (.ref l4),some (.str x1),some (.ref l8),some (.int (k1:Int)),some (.int r2),s9,some (wrV ps),some (wrV ps),s12']∧Ev dd H4 H',?_,?_⟩
    · refine ⟨rfl,_,rfl,x1,rfl,by omega,fun p ep=>?_,fun ts ets=>?_⟩
      · rw [hlex] at ep;cases ep
      rw [hlex] at ets
      cases ets
      refine ⟨hTs,by omega,hpos,hnum,hno,fun p ez H' dx g hdx=>?_,fun q' ez v H' g hq'=>?_⟩
      · have hn:¬ okE (wdP ps) (wrgE (wdP ps)):=fun ho=>by
          obtain ⟨sts,z,_⟩:=ag1 ho
          rw [z] at ez;cases ez
        have hp:wrV ps=.int (p:Int):=by
          have z:=ag2 hn
          rw [z] at ez
          injection ez with ez
          unfold wrV
          rw [if_neg (show ¬ ((wrgE (wdP ps)).2=true∧wAt (wdP ps) (wrgE (wdP ps)).1="") from hn),ez]
        refine ⟨a.c_BadText,rfl,T.y_BadText,fun ea hea=>?_⟩
        have g13:=sN_ hea (XCo a.c_BadText (some dx) ea)
        have hk:PySem.W.kitOne K (.ref a.c_BadText) (.ref a.c_BadText)=some true:=by unfold PySem.W.kitOne;rw [if_pos (by simp)]
        refine ⟨_,rfl,ea,a.c_BadText,some dx,_,.ref a.c_BadText,rfl,uS_,fun u hu=>hu,hk,_,rfl,iteT ?_⟩
        refine ⟨_,rfl,ea,a.c_BadText,dx,.int p,rfl,uS_,g13 _ _ hdx,T.x_BadText.get,?_⟩
        rw [hp]
        exact ⟨_,rfl,ev3.then (g.trans g13)⟩
      · have ho:okE (wdP ps) (wrgE (wdP ps)):=Classical.byContradiction fun hn=>by rw [ag2 hn] at ez;cases ez
        obtain ⟨sts,z,sg,hfit,h12⟩:=ag1 ho
        rw [z] at ez
        injection ez with ez
        subst ez
        have hwr:wrV ps=.non:=by unfold wrV;rw [if_pos (show (wrgE (wdP ps)).2=true∧wAt (wdP ps) (wrgE (wdP ps)).1="" from ho)]
        have hall:=seg_all hkv (stgE_up hW 11 _ (stE_up hW true (by omega))) sg ho.2
        have hok:QnOk sts:=⟨h12,fun s hs=>fit_ok (N:=420) (hfit s hs) (by have:=pcs_le sts s hs;have:=sg.len;omega) (by decide)⟩
        refine ⟨v,sts,rfl,hq',hok,fun H2 g2=>?_⟩
        have hq1:=tjoin_len (L:=38009) (m:=3) (n:=12) (z:=" | ") (ys:=sts.map Sg.txt) (qn_all hok) (by rw [List.length_map];exact h12) bar3
        have l0:("":Str).length=0:=by decide +kernel
        have hq1:(qnT sts).length≤(38009+3) * 12:=hq1
        refine ⟨_,rfl,by rw [l0];omega,_,rfl,_,rfl,by rw [l0];omega,rfl,_,rfl,?_⟩
        have he:Txt.replace (qnT sts) " " ""=Txt.replace x1 " " "":=str_ext (by rw [repl_nb,repl_nb,nb_qn hfit,hall,hnb])
        rw [hwr]
        refine ite2 (fun k=>absurd k (by rw [decide_eq_true (by rw [he])];decide)) (fun _=>⟨_,rfl,ev3.then (g.trans g2)⟩)
    rintro σ' H16 ⟨s12',rfl,ev16⟩
    have hsc:scal (wrV ps) (wrV ps)=true:=by unfold wrV;split <;> rfl
    refine ⟨_,rfl,_,rfl,hsc,_,rfl,ite2 (fun k=>absurd k (by rw [decide_eq_true rfl];decide)) (fun _=>?_)⟩
    exact ⟨_,_,_,_,_,_,_,_,_,_,_,rfl,ev16.drw⟩
  · exact q _
end
end My
namespace My
open PySem L2
theorem mk_txt {K:PySem.W.Frag} {h:Heap} {mg:Str→Option Value} {C_Reader:Addr} {f0:Addr} {od0 an0:Option Addr} {sl0:Array (Option Value)} {oc0 kV0 dc0 pm0 cd0 ct0:Value} {f1:Addr} {od1 an1:Option Addr} {sl1:Array (Option Value)} {oc1 kV1 dc1 pm1 cd1 ct1:Value} {f2:Addr} {od2 an2:Option Addr} {sl2:Array (Option Value)} {oc2 kV2 dc2 pm2 cd2 ct2:Value} {f3:Addr} {od3 an3:Option Addr} {sl3:Array (Option Value)} {oc3 kV3 dc3 pm3 cd3 ct3:Value} {f4:Addr} {od4 an4:Option Addr} {sl4:Array (Option Value)} {oc4 kV4 dc4 pm4 cd4 ct4:Value} {f5:Addr} {od5 an5:Option Addr} {sl5:Array (Option Value)} {oc5 kV5 dc5 pm5 cd5 ct5:Value} {f6:Addr} {od6 an6:Option Addr} {sl6:Array (Option Value)} {oc6 kV6 dc6 pm6 cd6 ct6:Value} {f7:Addr} {od7 an7:Option Addr} {sl7:Array (Option Value)} {oc7 kV7 dc7 pm7 cd7 ct7:Value} {f8:Addr} {od8 an8:Option Addr} {sl8:Array (Option Value)} {oc8 kV8 dc8 pm8 cd8 ct8:Value} {f9:Addr} {od9 an9:Option Addr} {sl9:Array (Option Value)} {oc9 kV9 dc9 pm9 cd9 ct9:Value} {f10:Addr} {od10 an10:Option Addr} {sl10:Array (Option Value)} {oc10 kV10 dc10 pm10 cd10 ct10:Value} {f11:Addr} {od11 an11:Option Addr} {sl11:Array (Option Value)} {oc11 kV11 dc11 pm11 cd11 ct11:Value} {f12:Addr} {od12 an12:Option Addr} {sl12:Array (Option Value)} {oc12 kV12 dc12 pm12 cd12 ct12:Value} {f13:Addr} {od13 an13:Option Addr} {sl13:Array (Option Value)} {oc13 kV13 dc13 pm13 cd13 ct13:Value} {f14:Addr} {od14 an14:Option Addr} {sl14:Array (Option Value)} {oc14 kV14 dc14 pm14 cd14 ct14:Value} {f15:Addr} {od15 an15:Option Addr} {sl15:Array (Option Value)} {oc15 kV15 dc15 pm15 cd15 ct15:Value} {f16:Addr} {od16 an16:Option Addr} {sl16:Array (Option Value)} {oc16 kV16 dc16 pm16 cd16 ct16:Value} {f17:Addr} {od17 an17:Option Addr} {sl17:Array (Option Value)} {oc17 kV17 dc17 pm17 cd17 ct17:Value} {f18:Addr} {od18 an18:Option Addr} {sl18:Array (Option Value)} {oc18 kV18 dc18 pm18 cd18 ct18:Value} {f19:Addr} {od19 an19:Option Addr} {sl19:Array (Option Value)} {oc19 kV19 dc19 pm19 cd19 ct19:Value} {f20:Addr} {od20 an20:Option Addr} {sl20:Array (Option Value)} {oc20 kV20 dc20 pm20 cd20 ct20:Value} {f21:Addr} {od21 an21:Option Addr} {sl21:Array (Option Value)} {oc21 kV21 dc21 pm21 cd21 ct21:Value} {f22:Addr} {od22 an22:Option Addr} {sl22:Array (Option Value)} {oc22 kV22 dc22 pm22 cd22 ct22:Value} {f23:Addr} {od23 an23:Option Addr} {sl23:Array (Option Value)} {oc23 kV23 dc23 pm23 cd23 ct23:Value} {f24:Addr} {od24 an24:Option Addr} {sl24:Array (Option Value)} {oc24 kV24 dc24 pm24 cd24 ct24:Value} {f25:Addr} {od25 an25:Option Addr} {sl25:Array (Option Value)} {oc25 kV25 dc25 pm25 cd25 ct25:Value} {f26:Addr} {od26 an26:Option Addr} {sl26:Array (Option Value)} {oc26 kV26 dc26 pm26 cd26 ct26:Value} {f27:Addr} {od27 an27:Option Addr} {sl27:Array (Option Value)} {oc27 kV27 dc27 pm27 cd27 ct27:Value} {f28:Addr} {od28 an28:Option Addr} {sl28:Array (Option Value)} {oc28 kV28 dc28 pm28 cd28 ct28:Value} {f29:Addr} {od29 an29:Option Addr} {sl29:Array (Option Value)} {oc29 kV29 dc29 pm29 cd29 ct29:Value} {f30:Addr} {od30 an30:Option Addr} {sl30:Array (Option Value)} {oc30 kV30 dc30 pm30 cd30 ct30:Value} {f31:Addr} {od31 an31:Option Addr} {sl31:Array (Option Value)} {oc31 kV31 dc31 pm31 cd31 ct31:Value} {f32:Addr} {od32 an32:Option Addr} {sl32:Array (Option Value)} {oc32 kV32 dc32 pm32 cd32 ct32:Value} {f33:Addr} {od33 an33:Option Addr} {sl33:Array (Option Value)} {oc33 kV33 dc33 pm33 cd33 ct33:Value} {f34:Addr} {od34 an34:Option Addr} {sl34:Array (Option Value)} {oc34 kV34 dc34 pm34 cd34 ct34:Value} {f35:Addr} {od35 an35:Option Addr} {sl35:Array (Option Value)} {oc35 kV35 dc35 pm35 cd35 ct35:Value} {f36:Addr} {od36 an36:Option Addr} {sl36:Array (Option Value)} {oc36 kV36 dc36 pm36 cd36 ct36:Value} {f37:Addr} {od37 an37:Option Addr} {sl37:Array (Option Value)} {oc37 kV37 dc37 pm37 cd37 ct37:Value} {f38:Addr} {od38 an38:Option Addr} {sl38:Array (Option Value)} {oc38 kV38 dc38 pm38 cd38 ct38:Value} {f39:Addr} {od39 an39:Option Addr} {sl39:Array (Option Value)} {oc39 kV39 dc39 pm39 cd39 ct39:Value} {f40:Addr} {od40 an40:Option Addr} {sl40:Array (Option Value)} {oc40 kV40 dc40 pm40 cd40 ct40:Value} {f41:Addr} {od41 an41:Option Addr} {sl41:Array (Option Value)} {oc41 kV41 dc41 pm41 cd41 ct41:Value} {f42:Addr} {od42 an42:Option Addr} {sl42:Array (Option Value)} {oc42 kV42 dc42 pm42 cd42 ct42:Value} {f43:Addr} {od43 an43:Option Addr} {sl43:Array (Option Value)} {oc43 kV43 dc43 pm43 cd43 ct43:Value} {f44:Addr} {od44 an44:Option Addr} {sl44:Array (Option Value)} {oc44 kV44 dc44 pm44 cd44 ct44:Value} {f45:Addr} {od45 an45:Option Addr} {sl45:Array (Option Value)} {oc45 kV45 dc45 pm45 cd45 ct45:Value} {f46:Addr} {od46 an46:Option Addr} {sl46:Array (Option Value)} {oc46 kV46 dc46 pm46 cd46 ct46:Value} {f47:Addr} {od47 an47:Option Addr} {sl47:Array (Option Value)} {oc47 kV47 dc47 pm47 cd47 ct47:Value} {f48:Addr} {od48 an48:Option Addr} {sl48:Array (Option Value)} {oc48 kV48 dc48 pm48 cd48 ct48:Value} {f49:Addr} {od49 an49:Option Addr} {sl49:Array (Option Value)} {oc49 kV49 dc49 pm49 cd49 ct49:Value} {f50:Addr} {od50 an50:Option Addr} {sl50:Array (Option Value)} {oc50 kV50 dc50 pm50 cd50 ct50:Value} {f51:Addr} {od51 an51:Option Addr} {sl51:Array (Option Value)} {oc51 kV51 dc51 pm51 cd51 ct51:Value} {f52:Addr} {od52 an52:Option Addr} {sl52:Array (Option Value)} {oc52 kV52 dc52 pm52 cd52 ct52:Value} {f53:Addr} {od53 an53:Option Addr} {sl53:Array (Option Value)} {oc53 kV53 dc53 pm53 cd53 ct53:Value} {f54:Addr} {od54 an54:Option Addr} {sl54:Array (Option Value)} {oc54 kV54 dc54 pm54 cd54 ct54:Value} {tc0:PySem.Tok} {tc1:PySem.Tok} {tc2:PySem.Tok} {tc3:PySem.Tok} {tc4:PySem.Tok} {tc5:PySem.Tok} {tc6:PySem.Tok} {tc7:PySem.Tok} {tc8:PySem.Tok} {tc9:PySem.Tok} {tc10:PySem.Tok} {tc11:PySem.Tok} {tc12:PySem.Tok} {tc13:PySem.Tok} {tc14:PySem.Tok} {ta0:Addr} {td0:Option Addr} {tn0:Nat} {ts0:Array (Option Value)} {tt0_0 tt0_1 tt0_2 tt0_3 tt0_4 tt0_5 tt0_6 tt0_7 tt0_8 tt0_9 tt0_10 tt0_11 tt0_12 tt0_13 tt0_14 tt0_15:PySem.Tok} {ta1:Addr} {td1:Option Addr} {tn1:Nat} {ts1:Array (Option Value)} {tt1_0 tt1_1 tt1_2:PySem.Tok} {ta2:Addr} {td2:Option Addr} {tn2:Nat} {ts2:Array (Option Value)} {tt2_0 tt2_1 tt2_2 tt2_3:PySem.Tok} {ka0:Addr} {kd0:Option Addr} {kn0:Nat} {ks0:Array (Option Value)} {kt0_0 kt0_1 kt0_2 kt0_3 kt0_4 kt0_5 kt0_6 kt0_7 kt0_8 kt0_9:PySem.Tok} {kh0_0 kh0_1 kh0_2 kh0_3 kh0_4 kh0_5 kh0_6 kh0_7 kh0_8 kh0_9:Int} {bL0 bN0:Addr} {bd0 be0:Option Addr} {bs0:Array (Option Value)} {bo0:Value} {bE0:Array DictEntry} {bn0:Nat} {b1_0 b2_0:Str} {b3_0:List Value} {b4_0:Bool} {b5_0:List Str} {b6_0:List Value} {b7_0:Bool} {b8_0:Option Bool} {b9_0 ba_0 bb_0 bc_0 bf_0:Option Value} {bi0:String} {xC0 xN0 xf0 xT0:Addr} {xt0:Option Addr} {xu0:Array (Option Value)} {xw0:Nat} {xy0 xv0:Value} {xd0 xo0 xa0:Option Addr} {xs0:Array (Option Value)} {xc0 xk0 xm0 xp0 xq0 xr0:Value} {x1_0 x2_0:Str} {x3_0:List Value} {x5_0:List Str} {x6_0:List Value} {x7_0:Bool} {x8_0:Option Bool} {x9_0 xa_0 xb_0 xc_0 xe_0:Option Value} (X:K.In h) (G:h.Ns mainGlobals mg)
    (cA_Reader:PySem.W.nsIn K mainGlobals "Reader"=some (some (.ref C_Reader)))
    (cB_Reader:PySem.W.plainGet K C_Reader Str.empty=true) (cC_Reader:PySem.W.hasDictIn K C_Reader=true) (cD_Reader:PySem.W.plainOver K C_Reader=true) (cE_Reader:PySem.W.findIn K (.ref C_Reader) "__setattr__"=some (some (.builtin "object.__setattr__"))) (cF_Reader:PySem.W.makesIn K C_Reader=true) (cG_Reader:PySem.W.keepIn K (.ref C_Reader)=true)
    (cN_Reader_signs:PySem.W.findIn K (.ref C_Reader) "signs"=some none)
    (cN_Reader_passed:PySem.W.findIn K (.ref C_Reader) "passed"=some none)
    (a0:PySem.W.nsIn K mainGlobals "is_word"=some (some (.ref f0)))
    (l0:K.lookup f0=some ⟨oc0,od0,.func (PySem.W.fnOf "is_word" "is_word" (defArgs (top 14)) (defBody (top 14)) (defScope (top 14)) .none kV0 dc0 pm0 an0 cd0 ct0),sl0⟩)
    (c0:PySem.W.codeIn K cd0 "is_word"=true) (k0:PySem.W.keepIn K (.ref f0)=true)
    (a1:PySem.W.nsIn K mainGlobals "begins_with_letter"=some (some (.ref f1)))
    (l1:K.lookup f1=some ⟨oc1,od1,.func (PySem.W.fnOf "begins_with_letter" "begins_with_letter" (defArgs (top 15)) (defBody (top 15)) (defScope (top 15)) .none kV1 dc1 pm1 an1 cd1 ct1),sl1⟩)
    (c1:PySem.W.codeIn K cd1 "begins_with_letter"=true) (k1:PySem.W.keepIn K (.ref f1)=true)
    (a2:PySem.W.nsIn K mainGlobals "has_only"=some (some (.ref f2)))
    (l2:K.lookup f2=some ⟨oc2,od2,.func (PySem.W.fnOf "has_only" "has_only" (defArgs (top 16)) (defBody (top 16)) (defScope (top 16)) .none kV2 dc2 pm2 an2 cd2 ct2),sl2⟩)
    (c2:PySem.W.codeIn K cd2 "has_only"=true) (k2:PySem.W.keepIn K (.ref f2)=true)
    (a3:PySem.W.nsIn K mainGlobals "number_in"=some (some (.ref f3)))
    (l3:K.lookup f3=some ⟨oc3,od3,.func (PySem.W.fnOf "number_in" "number_in" (defArgs (top 17)) (defBody (top 17)) (defScope (top 17)) .none kV3 dc3 pm3 an3 cd3 ct3),sl3⟩)
    (c3:PySem.W.codeIn K cd3 "number_in"=true) (k3:PySem.W.keepIn K (.ref f3)=true)
    (a4:PySem.W.nsIn K mainGlobals "signs_in"=some (some (.ref f4)))
    (l4:K.lookup f4=some ⟨oc4,od4,.func (PySem.W.fnOf "signs_in" "signs_in" (defArgs (top 26)) (defBody (top 26)) (defScope (top 26)) .none kV4 dc4 pm4 an4 cd4 ct4),sl4⟩)
    (c4:PySem.W.codeIn K cd4 "signs_in"=true) (k4:PySem.W.keepIn K (.ref f4)=true)
    (a5:PySem.W.nsIn K mainGlobals "sign_at"=some (some (.ref f5)))
    (l5:K.lookup f5=some ⟨oc5,od5,.func (PySem.W.fnOf "sign_at" "sign_at" (defArgs (top 27)) (defBody (top 27)) (defScope (top 27)) .none kV5 dc5 pm5 an5 cd5 ct5),sl5⟩)
    (c5:PySem.W.codeIn K cd5 "sign_at"=true) (k5:PySem.W.keepIn K (.ref f5)=true)
    (a6:PySem.W.nsIn K mainGlobals "is_figure_at"=some (some (.ref f6)))
    (l6:K.lookup f6=some ⟨oc6,od6,.func (PySem.W.fnOf "is_figure_at" "is_figure_at" (defArgs (top 28)) (defBody (top 28)) (defScope (top 28)) .none kV6 dc6 pm6 an6 cd6 ct6),sl6⟩)
    (c6:PySem.W.codeIn K cd6 "is_figure_at"=true) (k6:PySem.W.keepIn K (.ref f6)=true)
    (a7:PySem.W.nsIn K mainGlobals "end_of_run"=some (some (.ref f7)))
    (l7:K.lookup f7=some ⟨oc7,od7,.func (PySem.W.fnOf "end_of_run" "end_of_run" (defArgs (top 29)) (defBody (top 29)) (defScope (top 29)) .none kV7 dc7 pm7 an7 cd7 ct7),sl7⟩)
    (c7:PySem.W.codeIn K cd7 "end_of_run"=true) (k7:PySem.W.keepIn K (.ref f7)=true)
    (a8:PySem.W.nsIn K mainGlobals "name_at"=some (some (.ref f8)))
    (l8:K.lookup f8=some ⟨oc8,od8,.func (PySem.W.fnOf "name_at" "name_at" (defArgs (top 30)) (defBody (top 30)) (defScope (top 30)) .none kV8 dc8 pm8 an8 cd8 ct8),sl8⟩)
    (c8:PySem.W.codeIn K cd8 "name_at"=true) (k8:PySem.W.keepIn K (.ref f8)=true)
    (a9:PySem.W.nsIn K mainGlobals "word_at"=some (some (.ref f9)))
    (l9:K.lookup f9=some ⟨oc9,od9,.func (PySem.W.fnOf "word_at" "word_at" (defArgs (top 31)) (defBody (top 31)) (defScope (top 31)) .none kV9 dc9 pm9 an9 cd9 ct9),sl9⟩)
    (c9:PySem.W.codeIn K cd9 "word_at"=true) (k9:PySem.W.keepIn K (.ref f9)=true)
    (a10:PySem.W.nsIn K mainGlobals "number_at"=some (some (.ref f10)))
    (l10:K.lookup f10=some ⟨oc10,od10,.func (PySem.W.fnOf "number_at" "number_at" (defArgs (top 32)) (defBody (top 32)) (defScope (top 32)) .none kV10 dc10 pm10 an10 cd10 ct10),sl10⟩)
    (c10:PySem.W.codeIn K cd10 "number_at"=true) (k10:PySem.W.keepIn K (.ref f10)=true)
    (a11:PySem.W.nsIn K mainGlobals "mark_at"=some (some (.ref f11)))
    (l11:K.lookup f11=some ⟨oc11,od11,.func (PySem.W.fnOf "mark_at" "mark_at" (defArgs (top 33)) (defBody (top 33)) (defScope (top 33)) .none kV11 dc11 pm11 an11 cd11 ct11),sl11⟩)
    (c11:PySem.W.codeIn K cd11 "mark_at"=true) (k11:PySem.W.keepIn K (.ref f11)=true)
    (a12:PySem.W.nsIn K mainGlobals "read_question"=some (some (.ref f12)))
    (l12:K.lookup f12=some ⟨oc12,od12,.func (PySem.W.fnOf "read_question" "read_question" (defArgs (top 50)) (defBody (top 50)) (defScope (top 50)) .none kV12 dc12 pm12 an12 cd12 ct12),sl12⟩)
    (c12:PySem.W.codeIn K cd12 "read_question"=true) (k12:PySem.W.keepIn K (.ref f12)=true)
    (a13:PySem.W.nsIn K mainGlobals "take_stage"=some (some (.ref f13)))
    (l13:K.lookup f13=some ⟨oc13,od13,.func (PySem.W.fnOf "take_stage" "take_stage" (defArgs (top 51)) (defBody (top 51)) (defScope (top 51)) .none kV13 dc13 pm13 an13 cd13 ct13),sl13⟩)
    (c13:PySem.W.codeIn K cd13 "take_stage"=true) (k13:PySem.W.keepIn K (.ref f13)=true)
    (a14:PySem.W.nsIn K mainGlobals "take_from"=some (some (.ref f14)))
    (l14:K.lookup f14=some ⟨oc14,od14,.func (PySem.W.fnOf "take_from" "take_from" (defArgs (top 52)) (defBody (top 52)) (defScope (top 52)) .none kV14 dc14 pm14 an14 cd14 ct14),sl14⟩)
    (c14:PySem.W.codeIn K cd14 "take_from"=true) (k14:PySem.W.keepIn K (.ref f14)=true)
    (a15:PySem.W.nsIn K mainGlobals "take_where"=some (some (.ref f15)))
    (l15:K.lookup f15=some ⟨oc15,od15,.func (PySem.W.fnOf "take_where" "take_where" (defArgs (top 53)) (defBody (top 53)) (defScope (top 53)) .none kV15 dc15 pm15 an15 cd15 ct15),sl15⟩)
    (c15:PySem.W.codeIn K cd15 "take_where"=true) (k15:PySem.W.keepIn K (.ref f15)=true)
    (a16:PySem.W.nsIn K mainGlobals "take_with"=some (some (.ref f16)))
    (l16:K.lookup f16=some ⟨oc16,od16,.func (PySem.W.fnOf "take_with" "take_with" (defArgs (top 54)) (defBody (top 54)) (defScope (top 54)) .none kV16 dc16 pm16 an16 cd16 ct16),sl16⟩)
    (c16:PySem.W.codeIn K cd16 "take_with"=true) (k16:PySem.W.keepIn K (.ref f16)=true)
    (a17:PySem.W.nsIn K mainGlobals "take_list"=some (some (.ref f17)))
    (l17:K.lookup f17=some ⟨oc17,od17,.func (PySem.W.fnOf "take_list" "take_list" (defArgs (top 55)) (defBody (top 55)) (defScope (top 55)) .none kV17 dc17 pm17 an17 cd17 ct17),sl17⟩)
    (c17:PySem.W.codeIn K cd17 "take_list"=true) (k17:PySem.W.keepIn K (.ref f17)=true)
    (a18:PySem.W.nsIn K mainGlobals "take_sort"=some (some (.ref f18)))
    (l18:K.lookup f18=some ⟨oc18,od18,.func (PySem.W.fnOf "take_sort" "take_sort" (defArgs (top 56)) (defBody (top 56)) (defScope (top 56)) .none kV18 dc18 pm18 an18 cd18 ct18),sl18⟩)
    (c18:PySem.W.codeIn K cd18 "take_sort"=true) (k18:PySem.W.keepIn K (.ref f18)=true)
    (a19:PySem.W.nsIn K mainGlobals "take_first"=some (some (.ref f19)))
    (l19:K.lookup f19=some ⟨oc19,od19,.func (PySem.W.fnOf "take_first" "take_first" (defArgs (top 57)) (defBody (top 57)) (defScope (top 57)) .none kV19 dc19 pm19 an19 cd19 ct19),sl19⟩)
    (c19:PySem.W.codeIn K cd19 "take_first"=true) (k19:PySem.W.keepIn K (.ref f19)=true)
    (a20:PySem.W.nsIn K mainGlobals "take_every"=some (some (.ref f20)))
    (l20:K.lookup f20=some ⟨oc20,od20,.func (PySem.W.fnOf "take_every" "take_every" (defArgs (top 58)) (defBody (top 58)) (defScope (top 58)) .none kV20 dc20 pm20 an20 cd20 ct20),sl20⟩)
    (c20:PySem.W.codeIn K cd20 "take_every"=true) (k20:PySem.W.keepIn K (.ref f20)=true)
    (a21:PySem.W.nsIn K mainGlobals "take_sessions"=some (some (.ref f21)))
    (l21:K.lookup f21=some ⟨oc21,od21,.func (PySem.W.fnOf "take_sessions" "take_sessions" (defArgs (top 59)) (defBody (top 59)) (defScope (top 59)) .none kV21 dc21 pm21 an21 cd21 ct21),sl21⟩)
    (c21:PySem.W.codeIn K cd21 "take_sessions"=true) (k21:PySem.W.keepIn K (.ref f21)=true)
    (a22:PySem.W.nsIn K mainGlobals "take_join"=some (some (.ref f22)))
    (l22:K.lookup f22=some ⟨oc22,od22,.func (PySem.W.fnOf "take_join" "take_join" (defArgs (top 60)) (defBody (top 60)) (defScope (top 60)) .none kV22 dc22 pm22 an22 cd22 ct22),sl22⟩)
    (c22:PySem.W.codeIn K cd22 "take_join"=true) (k22:PySem.W.keepIn K (.ref f22)=true)
    (a23:PySem.W.nsIn K mainGlobals "take_fold"=some (some (.ref f23)))
    (l23:K.lookup f23=some ⟨oc23,od23,.func (PySem.W.fnOf "take_fold" "take_fold" (defArgs (top 61)) (defBody (top 61)) (defScope (top 61)) .none kV23 dc23 pm23 an23 cd23 ct23),sl23⟩)
    (c23:PySem.W.codeIn K cd23 "take_fold"=true) (k23:PySem.W.keepIn K (.ref f23)=true)
    (a24:PySem.W.nsIn K mainGlobals "take_thing"=some (some (.ref f24)))
    (l24:K.lookup f24=some ⟨oc24,od24,.func (PySem.W.fnOf "take_thing" "take_thing" (defArgs (top 62)) (defBody (top 62)) (defScope (top 62)) .none kV24 dc24 pm24 an24 cd24 ct24),sl24⟩)
    (c24:PySem.W.codeIn K cd24 "take_thing"=true) (k24:PySem.W.keepIn K (.ref f24)=true)
    (a25:PySem.W.nsIn K mainGlobals "take_by"=some (some (.ref f25)))
    (l25:K.lookup f25=some ⟨oc25,od25,.func (PySem.W.fnOf "take_by" "take_by" (defArgs (top 63)) (defBody (top 63)) (defScope (top 63)) .none kV25 dc25 pm25 an25 cd25 ct25),sl25⟩)
    (c25:PySem.W.codeIn K cd25 "take_by"=true) (k25:PySem.W.keepIn K (.ref f25)=true)
    (a26:PySem.W.nsIn K mainGlobals "take_names"=some (some (.ref f26)))
    (l26:K.lookup f26=some ⟨oc26,od26,.func (PySem.W.fnOf "take_names" "take_names" (defArgs (top 64)) (defBody (top 64)) (defScope (top 64)) .none kV26 dc26 pm26 an26 cd26 ct26),sl26⟩)
    (c26:PySem.W.codeIn K cd26 "take_names"=true) (k26:PySem.W.keepIn K (.ref f26)=true)
    (a27:PySem.W.nsIn K mainGlobals "take_number"=some (some (.ref f27)))
    (l27:K.lookup f27=some ⟨oc27,od27,.func (PySem.W.fnOf "take_number" "take_number" (defArgs (top 65)) (defBody (top 65)) (defScope (top 65)) .none kV27 dc27 pm27 an27 cd27 ct27),sl27⟩)
    (c27:PySem.W.codeIn K cd27 "take_number"=true) (k27:PySem.W.keepIn K (.ref f27)=true)
    (a28:PySem.W.nsIn K mainGlobals "_law_begin"=some (some (.ref f28)))
    (l28:K.lookup f28=some ⟨oc28,od28,.func (PySem.W.fnOf "_law_begin" "_law_begin" (defArgs (top 68)) (defBody (top 68)) (defScope (top 68)) .none kV28 dc28 pm28 an28 cd28 ct28),sl28⟩)
    (c28:PySem.W.codeIn K cd28 "_law_begin"=true) (k28:PySem.W.keepIn K (.ref f28)=true)
    (a29:PySem.W.nsIn K mainGlobals "_law_take"=some (some (.ref f29)))
    (l29:K.lookup f29=some ⟨oc29,od29,.func (PySem.W.fnOf "_law_take" "_law_take" (defArgs (top 69)) (defBody (top 69)) (defScope (top 69)) .none kV29 dc29 pm29 an29 cd29 ct29),sl29⟩)
    (c29:PySem.W.codeIn K cd29 "_law_take"=true) (k29:PySem.W.keepIn K (.ref f29)=true)
    (a30:PySem.W.nsIn K mainGlobals "_law_of"=some (some (.ref f30)))
    (l30:K.lookup f30=some ⟨oc30,od30,.func (PySem.W.fnOf "_law_of" "_law_of" (defArgs (top 70)) (defBody (top 70)) (defScope (top 70)) .none kV30 dc30 pm30 an30 cd30 ct30),sl30⟩)
    (c30:PySem.W.codeIn K cd30 "_law_of"=true) (k30:PySem.W.keepIn K (.ref f30)=true)
    (a31:PySem.W.nsIn K mainGlobals "_law_kept_word"=some (some (.ref f31)))
    (l31:K.lookup f31=some ⟨oc31,od31,.func (PySem.W.fnOf "_law_kept_word" "_law_kept_word" (defArgs (top 71)) (defBody (top 71)) (defScope (top 71)) .none kV31 dc31 pm31 an31 cd31 ct31),sl31⟩)
    (c31:PySem.W.codeIn K cd31 "_law_kept_word"=true) (k31:PySem.W.keepIn K (.ref f31)=true)
    (a32:PySem.W.nsIn K mainGlobals "_law_letters"=some (some (.ref f32)))
    (l32:K.lookup f32=some ⟨oc32,od32,.func (PySem.W.fnOf "_law_letters" "_law_letters" (defArgs (top 72)) (defBody (top 72)) (defScope (top 72)) .none kV32 dc32 pm32 an32 cd32 ct32),sl32⟩)
    (c32:PySem.W.codeIn K cd32 "_law_letters"=true) (k32:PySem.W.keepIn K (.ref f32)=true)
    (a33:PySem.W.nsIn K mainGlobals "_law_drawn_name"=some (some (.ref f33)))
    (l33:K.lookup f33=some ⟨oc33,od33,.func (PySem.W.fnOf "_law_drawn_name" "_law_drawn_name" (defArgs (top 73)) (defBody (top 73)) (defScope (top 73)) .none kV33 dc33 pm33 an33 cd33 ct33),sl33⟩)
    (c33:PySem.W.codeIn K cd33 "_law_drawn_name"=true) (k33:PySem.W.keepIn K (.ref f33)=true)
    (a34:PySem.W.nsIn K mainGlobals "_law_text"=some (some (.ref f34)))
    (l34:K.lookup f34=some ⟨oc34,od34,.func (PySem.W.fnOf "_law_text" "_law_text" (defArgs (top 77)) (defBody (top 77)) (defScope (top 77)) .none kV34 dc34 pm34 an34 cd34 ct34),sl34⟩)
    (c34:PySem.W.codeIn K cd34 "_law_text"=true) (k34:PySem.W.keepIn K (.ref f34)=true)
    (a35:PySem.W.nsIn K mainGlobals "_law_by_text"=some (some (.ref f35)))
    (l35:K.lookup f35=some ⟨oc35,od35,.func (PySem.W.fnOf "_law_by_text" "_law_by_text" (defArgs (top 78)) (defBody (top 78)) (defScope (top 78)) .none kV35 dc35 pm35 an35 cd35 ct35),sl35⟩)
    (c35:PySem.W.codeIn K cd35 "_law_by_text"=true) (k35:PySem.W.keepIn K (.ref f35)=true)
    (a36:PySem.W.nsIn K mainGlobals "_law_stage_text"=some (some (.ref f36)))
    (l36:K.lookup f36=some ⟨oc36,od36,.func (PySem.W.fnOf "_law_stage_text" "_law_stage_text" (defArgs (top 79)) (defBody (top 79)) (defScope (top 79)) .none kV36 dc36 pm36 an36 cd36 ct36),sl36⟩)
    (c36:PySem.W.codeIn K cd36 "_law_stage_text"=true) (k36:PySem.W.keepIn K (.ref f36)=true)
    (a37:PySem.W.nsIn K mainGlobals "_law_asking"=some (some (.ref f37)))
    (l37:K.lookup f37=some ⟨oc37,od37,.func (PySem.W.fnOf "_law_asking" "_law_asking" (defArgs (top 80)) (defBody (top 80)) (defScope (top 80)) .none kV37 dc37 pm37 an37 cd37 ct37),sl37⟩)
    (c37:PySem.W.codeIn K cd37 "_law_asking"=true) (k37:PySem.W.keepIn K (.ref f37)=true)
    (a38:PySem.W.nsIn K mainGlobals "_law_cut"=some (some (.ref f38)))
    (l38:K.lookup f38=some ⟨oc38,od38,.func (PySem.W.fnOf "_law_cut" "_law_cut" (defArgs (top 81)) (defBody (top 81)) (defScope (top 81)) .none kV38 dc38 pm38 an38 cd38 ct38),sl38⟩)
    (c38:PySem.W.codeIn K cd38 "_law_cut"=true) (k38:PySem.W.keepIn K (.ref f38)=true)
    (a39:PySem.W.nsIn K mainGlobals "_law_is_name"=some (some (.ref f39)))
    (l39:K.lookup f39=some ⟨oc39,od39,.func (PySem.W.fnOf "_law_is_name" "_law_is_name" (defArgs (top 82)) (defBody (top 82)) (defScope (top 82)) .none kV39 dc39 pm39 an39 cd39 ct39),sl39⟩)
    (c39:PySem.W.codeIn K cd39 "_law_is_name"=true) (k39:PySem.W.keepIn K (.ref f39)=true)
    (a40:PySem.W.nsIn K mainGlobals "_law_names"=some (some (.ref f40)))
    (l40:K.lookup f40=some ⟨oc40,od40,.func (PySem.W.fnOf "_law_names" "_law_names" (defArgs (top 83)) (defBody (top 83)) (defScope (top 83)) .none kV40 dc40 pm40 an40 cd40 ct40),sl40⟩)
    (c40:PySem.W.codeIn K cd40 "_law_names"=true) (k40:PySem.W.keepIn K (.ref f40)=true)
    (a41:PySem.W.nsIn K mainGlobals "_law_fixed"=some (some (.ref f41)))
    (l41:K.lookup f41=some ⟨oc41,od41,.func (PySem.W.fnOf "_law_fixed" "_law_fixed" (defArgs (top 84)) (defBody (top 84)) (defScope (top 84)) .none kV41 dc41 pm41 an41 cd41 ct41),sl41⟩)
    (c41:PySem.W.codeIn K cd41 "_law_fixed"=true) (k41:PySem.W.keepIn K (.ref f41)=true)
    (a42:PySem.W.nsIn K mainGlobals "_law_by_end"=some (some (.ref f42)))
    (l42:K.lookup f42=some ⟨oc42,od42,.func (PySem.W.fnOf "_law_by_end" "_law_by_end" (defArgs (top 85)) (defBody (top 85)) (defScope (top 85)) .none kV42 dc42 pm42 an42 cd42 ct42),sl42⟩)
    (c42:PySem.W.codeIn K cd42 "_law_by_end"=true) (k42:PySem.W.keepIn K (.ref f42)=true)
    (a43:PySem.W.nsIn K mainGlobals "_law_fold_end"=some (some (.ref f43)))
    (l43:K.lookup f43=some ⟨oc43,od43,.func (PySem.W.fnOf "_law_fold_end" "_law_fold_end" (defArgs (top 86)) (defBody (top 86)) (defScope (top 86)) .none kV43 dc43 pm43 an43 cd43 ct43),sl43⟩)
    (c43:PySem.W.codeIn K cd43 "_law_fold_end"=true) (k43:PySem.W.keepIn K (.ref f43)=true)
    (a44:PySem.W.nsIn K mainGlobals "_law_stage_end"=some (some (.ref f44)))
    (l44:K.lookup f44=some ⟨oc44,od44,.func (PySem.W.fnOf "_law_stage_end" "_law_stage_end" (defArgs (top 87)) (defBody (top 87)) (defScope (top 87)) .none kV44 dc44 pm44 an44 cd44 ct44),sl44⟩)
    (c44:PySem.W.codeIn K cd44 "_law_stage_end"=true) (k44:PySem.W.keepIn K (.ref f44)=true)
    (a45:PySem.W.nsIn K mainGlobals "_law_wrong"=some (some (.ref f45)))
    (l45:K.lookup f45=some ⟨oc45,od45,.func (PySem.W.fnOf "_law_wrong" "_law_wrong" (defArgs (top 88)) (defBody (top 88)) (defScope (top 88)) .none kV45 dc45 pm45 an45 cd45 ct45),sl45⟩)
    (c45:PySem.W.codeIn K cd45 "_law_wrong"=true) (k45:PySem.W.keepIn K (.ref f45)=true)
    (a46:PySem.W.nsIn K mainGlobals "_law_stage_plain"=some (some (.ref f46)))
    (l46:K.lookup f46=some ⟨oc46,od46,.func (PySem.W.fnOf "_law_stage_plain" "_law_stage_plain" (defArgs (top 89)) (defBody (top 89)) (defScope (top 89)) .none kV46 dc46 pm46 an46 cd46 ct46),sl46⟩)
    (c46:PySem.W.codeIn K cd46 "_law_stage_plain"=true) (k46:PySem.W.keepIn K (.ref f46)=true)
    (a47:PySem.W.nsIn K mainGlobals "law"=some (some (.ref f47)))
    (l47:K.lookup f47=some ⟨oc47,od47,.func (PySem.W.fnOf "law" "law" (defArgs (top 90)) (defBody (top 90)) (defScope (top 90)) .none kV47 dc47 pm47 an47 cd47 ct47),sl47⟩)
    (c47:PySem.W.codeIn K cd47 "law"=true) (k47:PySem.W.keepIn K (.ref f47)=true)
    (a48:PySem.W.findIn K (.ref C_Reader) "__init__"=some (some (.ref f48))) (i48:PySem.W.isFn K (.ref f48)=true)
    (l48:K.lookup f48=some ⟨oc48,od48,.func (PySem.W.fnOf "__init__" "Reader.__init__" (defArgs (inClass (top 25) 0)) (defBody (inClass (top 25) 0)) (defScope (inClass (top 25) 0)) .none kV48 dc48 pm48 an48 cd48 ct48),sl48⟩)
    (c48:PySem.W.codeIn K cd48 "Reader.__init__"=true) (k48:PySem.W.keepIn K (.ref f48)=true)
    (a49:PySem.W.findIn K (.ref C_Reader) "place"=some (some (.ref f49))) (i49:PySem.W.isFn K (.ref f49)=true)
    (l49:K.lookup f49=some ⟨oc49,od49,.func (PySem.W.fnOf "place" "Reader.place" (defArgs (inClass (top 25) 1)) (defBody (inClass (top 25) 1)) (defScope (inClass (top 25) 1)) .none kV49 dc49 pm49 an49 cd49 ct49),sl49⟩)
    (c49:PySem.W.codeIn K cd49 "Reader.place"=true) (k49:PySem.W.keepIn K (.ref f49)=true)
    (a50:PySem.W.findIn K (.ref C_Reader) "sees"=some (some (.ref f50))) (i50:PySem.W.isFn K (.ref f50)=true)
    (l50:K.lookup f50=some ⟨oc50,od50,.func (PySem.W.fnOf "sees" "Reader.sees" (defArgs (inClass (top 25) 2)) (defBody (inClass (top 25) 2)) (defScope (inClass (top 25) 2)) .none kV50 dc50 pm50 an50 cd50 ct50),sl50⟩)
    (c50:PySem.W.codeIn K cd50 "Reader.sees"=true) (k50:PySem.W.keepIn K (.ref f50)=true)
    (a51:PySem.W.findIn K (.ref C_Reader) "sees_one"=some (some (.ref f51))) (i51:PySem.W.isFn K (.ref f51)=true)
    (l51:K.lookup f51=some ⟨oc51,od51,.func (PySem.W.fnOf "sees_one" "Reader.sees_one" (defArgs (inClass (top 25) 3)) (defBody (inClass (top 25) 3)) (defScope (inClass (top 25) 3)) .none kV51 dc51 pm51 an51 cd51 ct51),sl51⟩)
    (c51:PySem.W.codeIn K cd51 "Reader.sees_one"=true) (k51:PySem.W.keepIn K (.ref f51)=true)
    (a52:PySem.W.findIn K (.ref C_Reader) "take"=some (some (.ref f52))) (i52:PySem.W.isFn K (.ref f52)=true)
    (l52:K.lookup f52=some ⟨oc52,od52,.func (PySem.W.fnOf "take" "Reader.take" (defArgs (inClass (top 25) 4)) (defBody (inClass (top 25) 4)) (defScope (inClass (top 25) 4)) .none kV52 dc52 pm52 an52 cd52 ct52),sl52⟩)
    (c52:PySem.W.codeIn K cd52 "Reader.take"=true) (k52:PySem.W.keepIn K (.ref f52)=true)
    (a53:PySem.W.findIn K (.ref C_Reader) "take_kind"=some (some (.ref f53))) (i53:PySem.W.isFn K (.ref f53)=true)
    (l53:K.lookup f53=some ⟨oc53,od53,.func (PySem.W.fnOf "take_kind" "Reader.take_kind" (defArgs (inClass (top 25) 5)) (defBody (inClass (top 25) 5)) (defScope (inClass (top 25) 5)) .none kV53 dc53 pm53 an53 cd53 ct53),sl53⟩)
    (c53:PySem.W.codeIn K cd53 "Reader.take_kind"=true) (k53:PySem.W.keepIn K (.ref f53)=true)
    (a54:PySem.W.findIn K (.ref C_Reader) "take_one"=some (some (.ref f54))) (i54:PySem.W.isFn K (.ref f54)=true)
    (l54:K.lookup f54=some ⟨oc54,od54,.func (PySem.W.fnOf "take_one" "Reader.take_one" (defArgs (inClass (top 25) 6)) (defBody (inClass (top 25) 6)) (defScope (inClass (top 25) 6)) .none kV54 dc54 pm54 an54 cd54 ct54),sl54⟩)
    (c54:PySem.W.codeIn K cd54 "Reader.take_one"=true) (k54:PySem.W.keepIn K (.ref f54)=true)
    (gc0:PySem.W.nsIn K mainGlobals "NUMBER"=some (some (.str "number" tc0)))
    (gc1:PySem.W.nsIn K mainGlobals "WORD"=some (some (.str "word" tc1)))
    (gc2:PySem.W.nsIn K mainGlobals "LETTERS"=some (some (.str "abcdefghijklmnopqrstuvwxyz" tc2)))
    (gc3:PySem.W.nsIn K mainGlobals "FIGURES"=some (some (.str "0123456789" tc3)))
    (gc4:PySem.W.nsIn K mainGlobals "NAME_SIGNS"=some (some (.str "abcdefghijklmnopqrstuvwxyz_" tc4)))
    (gc5:PySem.W.nsIn K mainGlobals "WORD_SIGNS"=some (some (.str "abcdefghijklmnopqrstuvwxyz0123456789" tc5)))
    (gc6:PySem.W.nsIn K mainGlobals "NAME"=some (some (.str "name" tc6)))
    (gc7:PySem.W.nsIn K mainGlobals "MARK"=some (some (.str "mark" tc7)))
    (gc8:PySem.W.nsIn K mainGlobals "END"=some (some (.str "end" tc8)))
    (gc9:PySem.W.nsIn K mainGlobals "SHORT_MARKS"=some (some (.str "=<>+-*()|,@" tc9)))
    (gc10:PySem.W.nsIn K mainGlobals "KEPT"=some (some (.str "@" tc10)))
    (gc11:PySem.W.nsIn K mainGlobals "MOST_SIGNS"=some (some (.int 12 tc11)))
    (gc12:PySem.W.nsIn K mainGlobals "MOST_FIGURES"=some (some (.int 30 tc12)))
    (gc13:PySem.W.nsIn K mainGlobals "MOST_NAME_SIGNS"=some (some (.int 20 tc13)))
    (gc14:PySem.W.nsIn K mainGlobals "MOST_STAGES"=some (some (.int 12 tc14)))
    (ta0_g:PySem.W.nsIn K mainGlobals "KEPT_WORDS"=some (some (.ref ta0)))
    (tl0:K.lookup ta0=some ⟨.type "tuple",td0,.seq #[.str "and" tt0_0,.str "or" tt0_1,.str "not" tt0_2,.str "has" tt0_3,.str "yes" tt0_4,.str "no" tt0_5,.str "by" tt0_6,.str "up" tt0_7,.str "down" tt0_8,.str "count" tt0_9,.str "sum" tt0_10,.str "least" tt0_11,.str "most" tt0_12,.str "unlike" tt0_13,.str "all" tt0_14,.str "within" tt0_15] tn0,ts0⟩)
    (ta1_g:PySem.W.nsIn K mainGlobals "LONG_MARKS"=some (some (.ref ta1)))
    (tl1:K.lookup ta1=some ⟨.type "tuple",td1,.seq #[.str "!=" tt1_0,.str "<=" tt1_1,.str ">=" tt1_2] tn1,ts1⟩)
    (ta2_g:PySem.W.nsIn K mainGlobals "HOWS_WITH_FIELD"=some (some (.ref ta2)))
    (tl2:K.lookup ta2=some ⟨.type "tuple",td2,.seq #[.str "sum" tt2_0,.str "least" tt2_1,.str "most" tt2_2,.str "unlike" tt2_3] tn2,ts2⟩)
    (ka0_g:PySem.W.nsIn K mainGlobals "TAKERS"=some (some (.ref ka0)))
    (kl0:K.lookup ka0=some ⟨.type "dict",kd0,.dict #[⟨kh0_0,.str "where" kt0_0,.ref f15⟩,⟨kh0_1,.str "with" kt0_1,.ref f16⟩,⟨kh0_2,.str "keep" kt0_2,.ref f17⟩,⟨kh0_3,.str "drop" kt0_3,.ref f17⟩,⟨kh0_4,.str "sort" kt0_4,.ref f18⟩,⟨kh0_5,.str "first" kt0_5,.ref f19⟩,⟨kh0_6,.str "every" kt0_6,.ref f20⟩,⟨kh0_7,.str "sessions" kt0_7,.ref f21⟩,⟨kh0_8,.str "join" kt0_8,.ref f22⟩,⟨kh0_9,.str "fold" kt0_9,.ref f23⟩] kn0,ks0⟩)
    (ks0:(ka0 == sysModules)=false)
    (z_len:PySem.W.nsIn K mainGlobals "len"=some none)
    (z_all:PySem.W.nsIn K mainGlobals "all"=some none)
    (z_isinstance:PySem.W.nsIn K mainGlobals "isinstance"=some none)
    (z_int:PySem.W.nsIn K mainGlobals "int"=some none)
    (z_str:PySem.W.nsIn K mainGlobals "str"=some none)
    (z_list:PySem.W.nsIn K mainGlobals "list"=some none)
    (z_tuple:PySem.W.nsIn K mainGlobals "tuple"=some none)
    (z_range:PySem.W.nsIn K mainGlobals "range"=some none)
    (bg0:PySem.W.nsIn K mainGlobals "LogError"=some (some (.ref bL0)))
    (bh0:K.lookup bL0=some (excClassObj b1_0 b2_0 bL0 bN0 b3_0 vErr b4_0 b5_0 b6_0 b7_0 b8_0 bd0 b9_0 ba_0 bb_0 bc_0 bf_0 bi0))
    (bk0:K.lookup bN0=some ⟨bo0,be0,.dict bE0 bn0,bs0⟩)
    (bl0:(bE0.toList.all fun e=>match e.key with | .str _ _=>true | _=>false)=true)
    (bm0:PySem.W.nsIn K bN0 "__init__"=some none)
    (ea0:PySem.W.nsIn K mainGlobals "BadText"=some (some (.ref xC0)))
    (eb0:K.lookup xC0=some (excClassObj x1_0 x2_0 xC0 xN0 x3_0 (.ref bL0 :: vErr) true x5_0 x6_0 x7_0 x8_0 xd0 x9_0 xa_0 xb_0 xc_0 xe_0 "ValueError.__new__"))
    (ec0:PySem.W.findIn K (.ref xC0) "__init__"=some (some (.ref xf0)))
    (ed0:PySem.W.typeIn K (.ref xf0)=some (.type "function"))
    (ee0:K.lookup xf0=some ⟨xc0,xo0,.func (PySem.W.fnOf "__init__" "BadText.__init__" (defArgs (meth 2)) (defBody (meth 2)) (defScope (meth 2)) (.ref xT0) xk0 xm0 xp0 xa0 xq0 xr0),xs0⟩)
    (ef0:PySem.W.codeIn K xq0 "BadText.__init__"=true)
    (eg0:PySem.W.findIn K (.ref xC0) "__setattr__"=some (some (.builtin "object.__setattr__")))
    (eh0:PySem.W.findIn K (.ref xC0) "__getattribute__"=some (some (.builtin "BaseException.__getattribute__")))
    (ei0:PySem.W.findIn K (.ref xC0) "__getattr__"=some none)
    (ej0:PySem.W.findIn K (.ref xC0) "at"=some none)
    (ek0:PySem.W.takerIn K xC0 "at"=some none)
    (el0:PySem.W.keepIn K (.ref xC0)=true)
    (em0:PySem.W.hasDictIn K xC0=true)
    (en0:PySem.W.mroIn K xC0 (.type "BaseException")=some true)
    (eo0:PySem.W.subIn K (.ref xC0) (.type "ValueError")=some true)
    (eq0:K.lookup xT0=some ⟨xy0,xt0,.seq #[xv0] xw0,xu0⟩)
    (ep0:PySem.W.mroIn K xC0 (.ref bL0)=some true) :
    ∃ a,Txt K mg a:=by
  have F0:=fun_mk (st:=(top 14)) l0 c0 k0
  have F1:=fun_mk (st:=(top 15)) l1 c1 k1
  have F2:=fun_mk (st:=(top 16)) l2 c2 k2
  have F3:=fun_mk (st:=(top 17)) l3 c3 k3
  have F4:=fun_mk (st:=(top 26)) l4 c4 k4
  have F5:=fun_mk (st:=(top 27)) l5 c5 k5
  have F6:=fun_mk (st:=(top 28)) l6 c6 k6
  have F7:=fun_mk (st:=(top 29)) l7 c7 k7
  have F8:=fun_mk (st:=(top 30)) l8 c8 k8
  have F9:=fun_mk (st:=(top 31)) l9 c9 k9
  have F10:=fun_mk (st:=(top 32)) l10 c10 k10
  have F11:=fun_mk (st:=(top 33)) l11 c11 k11
  have F12:=fun_mk (st:=(top 50)) l12 c12 k12
  have F13:=fun_mk (st:=(top 51)) l13 c13 k13
  have F14:=fun_mk (st:=(top 52)) l14 c14 k14
  have F15:=fun_mk (st:=(top 53)) l15 c15 k15
  have F16:=fun_mk (st:=(top 54)) l16 c16 k16
  have F17:=fun_mk (st:=(top 55)) l17 c17 k17
  have F18:=fun_mk (st:=(top 56)) l18 c18 k18
  have F19:=fun_mk (st:=(top 57)) l19 c19 k19
  have F20:=fun_mk (st:=(top 58)) l20 c20 k20
  have F21:=fun_mk (st:=(top 59)) l21 c21 k21
  have F22:=fun_mk (st:=(top 60)) l22 c22 k22
  have F23:=fun_mk (st:=(top 61)) l23 c23 k23
  have F24:=fun_mk (st:=(top 62)) l24 c24 k24
  have F25:=fun_mk (st:=(top 63)) l25 c25 k25
  have F26:=fun_mk (st:=(top 64)) l26 c26 k26
  have F27:=fun_mk (st:=(top 65)) l27 c27 k27
  have F28:=fun_mk (st:=(top 68)) l28 c28 k28
  have F29:=fun_mk (st:=(top 69)) l29 c29 k29
  have F30:=fun_mk (st:=(top 70)) l30 c30 k30
  have F31:=fun_mk (st:=(top 71)) l31 c31 k31
  have F32:=fun_mk (st:=(top 72)) l32 c32 k32
  have F33:=fun_mk (st:=(top 73)) l33 c33 k33
  have F34:=fun_mk (st:=(top 77)) l34 c34 k34
  have F35:=fun_mk (st:=(top 78)) l35 c35 k35
  have F36:=fun_mk (st:=(top 79)) l36 c36 k36
  have F37:=fun_mk (st:=(top 80)) l37 c37 k37
  have F38:=fun_mk (st:=(top 81)) l38 c38 k38
  have F39:=fun_mk (st:=(top 82)) l39 c39 k39
  have F40:=fun_mk (st:=(top 83)) l40 c40 k40
  have F41:=fun_mk (st:=(top 84)) l41 c41 k41
  have F42:=fun_mk (st:=(top 85)) l42 c42 k42
  have F43:=fun_mk (st:=(top 86)) l43 c43 k43
  have F44:=fun_mk (st:=(top 87)) l44 c44 k44
  have F45:=fun_mk (st:=(top 88)) l45 c45 k45
  have F46:=fun_mk (st:=(top 89)) l46 c46 k46
  have F47:=fun_mk (st:=(top 90)) l47 c47 k47
  have F48:=fun_mk (st:=(inClass (top 25) 0)) l48 c48 k48
  have F49:=fun_mk (st:=(inClass (top 25) 1)) l49 c49 k49
  have F50:=fun_mk (st:=(inClass (top 25) 2)) l50 c50 k50
  have F51:=fun_mk (st:=(inClass (top 25) 3)) l51 c51 k51
  have F52:=fun_mk (st:=(inClass (top 25) 4)) l52 c52 k52
  have F53:=fun_mk (st:=(inClass (top 25) 5)) l53 c53 k53
  have F54:=fun_mk (st:=(inClass (top 25) 6)) l54 c54 k54
  have E0:=xtx_mk (n:="at") (st:=meth 2) eb0 bh0 bk0 bl0 bm0 ec0 ed0 ee0 ef0 eg0 eh0 ei0 ej0 ek0 el0 em0 en0 eo0 (fun s us kin hl=>match us,hl with | [_,_],_=>BindsTo.of_defaults (T:=xT0) rfl (kin _ _ eq0) rfl rfl rfl)
  exact ⟨⟨f0,_,f1,_,f2,_,f3,_,f4,_,f5,_,f6,_,f7,_,f8,_,f9,_,f10,_,f11,_,f12,_,f13,_,f14,_,f15,_,f16,_,f17,_,f18,_,f19,_,f20,_,f21,_,f22,_,f23,_,f24,_,f25,_,f26,_,f27,_,f28,_,f29,_,f30,_,f31,_,f32,_,f33,_,f34,_,f35,_,f36,_,f37,_,f38,_,f39,_,f40,_,f41,_,f42,_,f43,_,f44,_,f45,_,f46,_,f47,_,f48,_,f49,_,f50,_,f51,_,f52,_,f53,_,f54,_,C_Reader,_,_,_,_,_,_,_,_,_,_,_,_,_,_,_,ta0,ta1,ta2,ka0,bL0,xC0,xf0,_⟩,⟨F0,
    PySem.W.mg_of X G a0,
    F0.binds fun _ _ _ _ _ _ us hl=>match us,hl with | [_],_=>rfl,
    F1,
    PySem.W.mg_of X G a1,
    F1.binds fun _ _ _ _ _ _ us hl=>match us,hl with | [_],_=>rfl,
    F2,
    PySem.W.mg_of X G a2,
    F2.binds fun _ _ _ _ _ _ us hl=>match us,hl with | [_,_,_],_=>rfl,
    F3,
    PySem.W.mg_of X G a3,
    F3.binds fun _ _ _ _ _ _ us hl=>match us,hl with | [_],_=>rfl,
    F4,
    PySem.W.mg_of X G a4,
    F4.binds fun _ _ _ _ _ _ us hl=>match us,hl with | [_],_=>rfl,
    F5,
    PySem.W.mg_of X G a5,
    F5.binds fun _ _ _ _ _ _ us hl=>match us,hl with | [_,_],_=>rfl,
    F6,
    PySem.W.mg_of X G a6,
    F6.binds fun _ _ _ _ _ _ us hl=>match us,hl with | [_,_],_=>rfl,
    F7,
    PySem.W.mg_of X G a7,
    F7.binds fun _ _ _ _ _ _ us hl=>match us,hl with | [_,_,_],_=>rfl,
    F8,
    PySem.W.mg_of X G a8,
    F8.binds fun _ _ _ _ _ _ us hl=>match us,hl with | [_,_],_=>rfl,
    F9,
    PySem.W.mg_of X G a9,
    F9.binds fun _ _ _ _ _ _ us hl=>match us,hl with | [_,_],_=>rfl,
    F10,
    PySem.W.mg_of X G a10,
    F10.binds fun _ _ _ _ _ _ us hl=>match us,hl with | [_,_],_=>rfl,
    F11,
    PySem.W.mg_of X G a11,
    F11.binds fun _ _ _ _ _ _ us hl=>match us,hl with | [_,_],_=>rfl,
    F12,
    PySem.W.mg_of X G a12,
    F12.binds fun _ _ _ _ _ _ us hl=>match us,hl with | [_],_=>rfl,
    F13,
    PySem.W.mg_of X G a13,
    F13.binds fun _ _ _ _ _ _ us hl=>match us,hl with | [_],_=>rfl,
    F14,
    PySem.W.mg_of X G a14,
    F14.binds fun _ _ _ _ _ _ us hl=>match us,hl with | [_,_],_=>rfl,
    F15,
    PySem.W.mg_of X G a15,
    F15.binds fun _ _ _ _ _ _ us hl=>match us,hl with | [_,_],_=>rfl,
    F16,
    PySem.W.mg_of X G a16,
    F16.binds fun _ _ _ _ _ _ us hl=>match us,hl with | [_,_],_=>rfl,
    F17,
    PySem.W.mg_of X G a17,
    F17.binds fun _ _ _ _ _ _ us hl=>match us,hl with | [_,_],_=>rfl,
    F18,
    PySem.W.mg_of X G a18,
    F18.binds fun _ _ _ _ _ _ us hl=>match us,hl with | [_,_],_=>rfl,
    F19,
    PySem.W.mg_of X G a19,
    F19.binds fun _ _ _ _ _ _ us hl=>match us,hl with | [_,_],_=>rfl,
    F20,
    PySem.W.mg_of X G a20,
    F20.binds fun _ _ _ _ _ _ us hl=>match us,hl with | [_,_],_=>rfl,
    F21,
    PySem.W.mg_of X G a21,
    F21.binds fun _ _ _ _ _ _ us hl=>match us,hl with | [_,_],_=>rfl,
    F22,
    PySem.W.mg_of X G a22,
    F22.binds fun _ _ _ _ _ _ us hl=>match us,hl with | [_,_],_=>rfl,
    F23,
    PySem.W.mg_of X G a23,
    F23.binds fun _ _ _ _ _ _ us hl=>match us,hl with | [_,_],_=>rfl,
    F24,
    PySem.W.mg_of X G a24,
    F24.binds fun _ _ _ _ _ _ us hl=>match us,hl with | [_],_=>rfl,
    F25,
    PySem.W.mg_of X G a25,
    F25.binds fun _ _ _ _ _ _ us hl=>match us,hl with | [_],_=>rfl,
    F26,
    PySem.W.mg_of X G a26,
    F26.binds fun _ _ _ _ _ _ us hl=>match us,hl with | [_],_=>rfl,
    F27,
    PySem.W.mg_of X G a27,
    F27.binds fun _ _ _ _ _ _ us hl=>match us,hl with | [_,_],_=>rfl,
    F28,
    PySem.W.mg_of X G a28,
    F28.binds fun _ _ _ _ _ _ us hl=>match us,hl with | [_],_=>rfl,
    F29,
    PySem.W.mg_of X G a29,
    F29.binds fun _ _ _ _ _ _ us hl=>match us,hl with | [_,_],_=>rfl,
    F30,
    PySem.W.mg_of X G a30,
    F30.binds fun _ _ _ _ _ _ us hl=>match us,hl with | [_,_],_=>rfl,
    F31,
    PySem.W.mg_of X G a31,
    F31.binds fun _ _ _ _ _ _ us hl=>match us,hl with | [_],_=>rfl,
    F32,
    PySem.W.mg_of X G a32,
    F32.binds fun _ _ _ _ _ _ us hl=>match us,hl with | [_,_,_],_=>rfl,
    F33,
    PySem.W.mg_of X G a33,
    F33.binds fun _ _ _ _ _ _ us hl=>match us,hl with | [_],_=>rfl,
    F34,
    PySem.W.mg_of X G a34,
    F34.binds fun _ _ _ _ _ _ us hl=>match us,hl with | [_],_=>rfl,
    F35,
    PySem.W.mg_of X G a35,
    F35.binds fun _ _ _ _ _ _ us hl=>match us,hl with | [_],_=>rfl,
    F36,
    PySem.W.mg_of X G a36,
    F36.binds fun _ _ _ _ _ _ us hl=>match us,hl with | [_],_=>rfl,
    F37,
    PySem.W.mg_of X G a37,
    F37.binds fun _ _ _ _ _ _ us hl=>match us,hl with | [_],_=>rfl,
    F38,
    PySem.W.mg_of X G a38,
    F38.binds fun _ _ _ _ _ _ us hl=>match us,hl with | [_],_=>rfl,
    F39,
    PySem.W.mg_of X G a39,
    F39.binds fun _ _ _ _ _ _ us hl=>match us,hl with | [_],_=>rfl,
    F40,
    PySem.W.mg_of X G a40,
    F40.binds fun _ _ _ _ _ _ us hl=>match us,hl with | [_,_],_=>rfl,
    F41,
    PySem.W.mg_of X G a41,
    F41.binds fun _ _ _ _ _ _ us hl=>match us,hl with | [_,_,_],_=>rfl,
    F42,
    PySem.W.mg_of X G a42,
    F42.binds fun _ _ _ _ _ _ us hl=>match us,hl with | [_,_],_=>rfl,
    F43,
    PySem.W.mg_of X G a43,
    F43.binds fun _ _ _ _ _ _ us hl=>match us,hl with | [_,_],_=>rfl,
    F44,
    PySem.W.mg_of X G a44,
    F44.binds fun _ _ _ _ _ _ us hl=>match us,hl with | [_,_,_],_=>rfl,
    F45,
    PySem.W.mg_of X G a45,
    F45.binds fun _ _ _ _ _ _ us hl=>match us,hl with | [_],_=>rfl,
    F46,
    PySem.W.mg_of X G a46,
    F46.binds fun _ _ _ _ _ _ us hl=>match us,hl with | [_],_=>rfl,
    F47,
    PySem.W.mg_of X G a47,
    F47.binds fun _ _ _ _ _ _ us hl=>match us,hl with | [_],_=>rfl,
    F48,
    ⟨cF_Reader,a48,i48,cG_Reader⟩,
    F48.binds fun _ _ _ _ _ _ us hl=>match us,hl with | [_,_],_=>rfl,
    F49,
    ⟨a49,i49,k49⟩,
    F49.binds fun _ _ _ _ _ _ us hl=>match us,hl with | [_],_=>rfl,
    F50,
    ⟨a50,i50,k50⟩,
    F50.binds fun _ _ _ _ _ _ us hl=>match us,hl with | [_,_],_=>rfl,
    F51,
    ⟨a51,i51,k51⟩,
    F51.binds fun _ _ _ _ _ _ us hl=>match us,hl with | [_,_,_],_=>rfl,
    F52,
    ⟨a52,i52,k52⟩,
    F52.binds fun _ _ _ _ _ _ us hl=>match us,hl with | [_],_=>rfl,
    F53,
    ⟨a53,i53,k53⟩,
    F53.binds fun _ _ _ _ _ _ us hl=>match us,hl with | [_,_],_=>rfl,
    F54,
    ⟨a54,i54,k54⟩,
    F54.binds fun _ _ _ _ _ _ us hl=>match us,hl with | [_,_,_],_=>rfl,
    ⟨cB_Reader,cC_Reader,cD_Reader,cE_Reader⟩,
    PySem.W.mg_of X G cA_Reader,
    cN_Reader_signs,
    cN_Reader_passed,
    ⟨PySem.W.mg_of X G gc0,⟨_,rfl⟩⟩,
    ⟨PySem.W.mg_of X G gc1,⟨_,rfl⟩⟩,
    ⟨PySem.W.mg_of X G gc2,⟨_,rfl⟩⟩,
    ⟨PySem.W.mg_of X G gc3,⟨_,rfl⟩⟩,
    ⟨PySem.W.mg_of X G gc4,⟨_,rfl⟩⟩,
    ⟨PySem.W.mg_of X G gc5,⟨_,rfl⟩⟩,
    ⟨PySem.W.mg_of X G gc6,⟨_,rfl⟩⟩,
    ⟨PySem.W.mg_of X G gc7,⟨_,rfl⟩⟩,
    ⟨PySem.W.mg_of X G gc8,⟨_,rfl⟩⟩,
    ⟨PySem.W.mg_of X G gc9,⟨_,rfl⟩⟩,
    ⟨PySem.W.mg_of X G gc10,⟨_,rfl⟩⟩,
    ⟨PySem.W.mg_of X G gc11,⟨_,rfl⟩⟩,
    ⟨PySem.W.mg_of X G gc12,⟨_,rfl⟩⟩,
    ⟨PySem.W.mg_of X G gc13,⟨_,rfl⟩⟩,
    ⟨PySem.W.mg_of X G gc14,⟨_,rfl⟩⟩,
    ⟨PySem.W.mg_of X G ta0_g,rfl⟩,
    fun H=>.inr ⟨_,_,_,tl0,rfl,rfl,(by show 16≤sizeLine;rw [sizeLine_eq];decide),(.cons ⟨_,rfl⟩ (.cons ⟨_,rfl⟩ (.cons ⟨_,rfl⟩ (.cons ⟨_,rfl⟩ (.cons ⟨_,rfl⟩ (.cons ⟨_,rfl⟩ (.cons ⟨_,rfl⟩ (.cons ⟨_,rfl⟩ (.cons ⟨_,rfl⟩ (.cons ⟨_,rfl⟩ (.cons ⟨_,rfl⟩ (.cons ⟨_,rfl⟩ (.cons ⟨_,rfl⟩ (.cons ⟨_,rfl⟩ (.cons ⟨_,rfl⟩ (.cons ⟨_,rfl⟩ .nil))))))))))))))))⟩,
    ⟨PySem.W.mg_of X G ta1_g,rfl⟩,
    fun H=>.inr ⟨_,_,_,tl1,rfl,rfl,(by show 3≤sizeLine;rw [sizeLine_eq];decide),(.cons ⟨_,rfl⟩ (.cons ⟨_,rfl⟩ (.cons ⟨_,rfl⟩ .nil)))⟩,
    ⟨PySem.W.mg_of X G ta2_g,rfl⟩,
    fun H=>.inr ⟨_,_,_,tl2,rfl,rfl,(by show 4≤sizeLine;rw [sizeLine_eq];decide),(.cons ⟨_,rfl⟩ (.cons ⟨_,rfl⟩ (.cons ⟨_,rfl⟩ (.cons ⟨_,rfl⟩ .nil))))⟩,
    ⟨PySem.W.mg_of X G ka0_g,rfl⟩,
    ⟨_,_,_,kl0,rfl,rfl,(.cons rfl rfl (.cons rfl rfl (.cons rfl rfl (.cons rfl rfl (.cons rfl rfl (.cons rfl rfl (.cons rfl rfl (.cons rfl rfl (.cons rfl rfl (.cons rfl rfl .nil))))))))))⟩,
    ks0,
    PySem.W.mg_none_of X G z_len,
    PySem.W.mg_none_of X G z_all,
    PySem.W.mg_none_of X G z_isinstance,
    PySem.W.mg_none_of X G z_int,
    PySem.W.mg_none_of X G z_str,
    PySem.W.mg_none_of X G z_list,
    PySem.W.mg_none_of X G z_tuple,
    PySem.W.mg_none_of X G z_range,
    PySem.W.mg_of X G bg0,
    E0.2,
    PySem.W.mg_of X G ea0,
    E0.1,
    ep0⟩⟩
theorem walk {l:PySem.W.OpenLaw} {q:Program} {loose:List Str} {XP:(Str→Option Value)→Heap→Prop} {YP:World→Heap→Prop} {d:DefRec} {K:Params→PySem.W.Frag} (hn:l.most=some 63) (hdf:d.params.defaults=[])
    (hY:∀ (w:World) (h:Heap),YP w h→(K w.params).In h)
    (F:∀ (w:World) (mg:Str→Option Value) (fa:Addr) (h:Heap),(K w.params).In h→h.Ns mainGlobals mg→mg d.name=some (.ref fa) →
      ∃ fd:FuncData,(∀ (s:Shared) (u:Value),BindsTo s fd ⟨[u],[]⟩ [("_law_script",u)])∧∀ base:Heap,(K w.params).In base→base.Ns mainGlobals mg→FnOk l.prog w (K w.params) mg base CX0 30 fa fd ["_law_script"] (spLaw (K w.params))) :
    PySem.W.WalkO q loose XP YP l.row.toRowW d [] (fun f vs=>PySem.call f vs) :=
  L2.walk_of (n:=63) (k:=30) (x:="_law_script") (CX:=fun _=>CX0) (sp:=fun w=>spLaw (K w.params)) hn (by decide) hdf ⟨rfl,by decide,by decide,rfl⟩ hY F (fun _ _ a ns hl _ hS=>⟨a,ns,rfl,hS,hl,fun _=>rfl⟩) fun _ _ _ _ _ z=>z
theorem law_mk {l:PySem.W.OpenLaw} {w:World} {K:PySem.W.Frag} {h:Heap} {mg:Str→Option Value} {fa:Addr} (hfa:mg "law"=some (.ref fa)) (T:∃ a,Txt K mg a) :
    ∃ fd:FuncData,(∀ (s:Shared) (v:Value),BindsTo s fd ⟨[v],[]⟩ [("_law_script",v)])∧∀ base:Heap,K.In base→base.Ns mainGlobals mg→FnOk l.prog w K mg base CX0 30 fa fd ["_law_script"] (spLaw K):=by
  obtain ⟨a,T⟩:=T
  have e:=hfa.symm.trans T.m_law
  cases e
  obtain ⟨oc,od,kV,doc,pm,an,cdv,ct,osl,hfd,lk,hcd⟩:=T.F_law.ex
  refine ⟨a.d_law,fun s v=>?_,fun base _ _=>ok_law T⟩
  rw [hfd]
  exact .of_eq rfl
end My
theorem PySem.W.Fast.tw16803124714829013682 : True := trivial
theorem PySem.W.Fast.tw3905441917063311568 : True := trivial
theorem PySem.W.Fast.tw8675965802262379701 : True := trivial
theorem PySem.W.Fast.tw8553488168290993645 : True := trivial
theorem PySem.W.Fast.tw11823133228307995171 : True := trivial
theorem PySem.W.Fast.tw103333349353468014 : True := trivial
theorem PySem.W.Fast.tw2673469407064751715 : True := trivial
theorem PySem.W.Fast.tw2994420081705313591 : True := trivial
theorem PySem.W.Fast.tw2355863223300491759 : True := trivial
theorem PySem.W.Fast.tw1961709201828793432 : True := trivial
theorem PySem.W.Fast.tw18222986126631600850 : True := trivial
theorem PySem.W.Fast.tw13702521999904835650 : True := trivial
theorem PySem.W.Fast.tw17344127308455953538 : True := trivial
theorem PySem.W.Fast.tw4183414622637686630 : True := trivial
theorem PySem.W.Fast.tw4472146082217430324 : True := trivial
theorem PySem.W.Fast.tw649981919380923126 : True := trivial
theorem PySem.W.Fast.tw4204246271884869198 : True := trivial
theorem PySem.W.Fast.tw8371772940108847930 : True := trivial
theorem PySem.W.Fast.tw5996917301493898067 : True := trivial
theorem PySem.W.Fast.tw8222742164251634200 : True := trivial
theorem PySem.W.Fast.tw5610836409689066522 : True := trivial
theorem PySem.W.Fast.tw792470675007918288 : True := trivial
theorem PySem.W.Fast.tw7352168815638479815 : True := trivial
theorem PySem.W.Fast.tw6626063939624000146 : True := trivial
theorem PySem.W.Fast.tw12371378664577618296 : True := trivial
theorem PySem.W.Fast.tw3475919165877842437 : True := trivial
theorem PySem.W.Fast.tw18345043261544561696 : True := trivial
theorem PySem.W.Fast.tw14374183670056201028 : True := trivial
theorem PySem.W.Fast.tw13428563355577333293 : True := trivial
theorem PySem.W.Fast.tw8909265865257174870 : True := trivial
theorem PySem.W.Fast.tw15232163459818179395 : True := trivial
theorem PySem.W.Fast.tw1702215236240868517 : True := trivial
theorem PySem.W.Fast.tw14293275797769941415 : True := trivial
theorem PySem.W.Fast.tw12687879988051300498 : True := trivial
theorem PySem.W.Fast.tw9514298828431201194 : True := trivial
theorem PySem.W.Fast.tw4120024593035729888 : True := trivial
theorem PySem.W.Fast.tw17199931007832676382 : True := trivial
theorem PySem.W.Fast.tw3603747945410472445 : True := trivial
theorem PySem.W.Fast.tw12843831207526440851 : True := trivial
theorem PySem.W.Fast.tw6517627640963711232 : True := trivial
theorem PySem.W.Fast.tw2138075581820803683 : True := trivial
theorem PySem.W.Fast.tw11712818511913677068 : True := trivial
theorem PySem.W.Fast.tw943628956134420979 : True := trivial
theorem PySem.W.Fast.tw12216813067049669329 : True := trivial
theorem PySem.W.Fast.tw8464866657888587875 : True := trivial
theorem PySem.W.Fast.tw17527289953888258131 : True := trivial
theorem PySem.W.Fast.tw9628796567918780274 : True := trivial
theorem PySem.W.Fast.tw3520514943173483056 : True := trivial
theorem PySem.W.Fast.tw13582630645167366920 : True := trivial
theorem PySem.W.Fast.tw6115846612587652742 : True := trivial
theorem PySem.W.Fast.tw3901449268829151904 : True := trivial
theorem PySem.W.Fast.tw11413346059063913991 : True := trivial
theorem PySem.W.Fast.tw11356639987882035598 : True := trivial
theorem PySem.W.Fast.tw11552370259769582054 : True := trivial
theorem PySem.W.Fast.tw4038231436046787867 : True := trivial
theorem PySem.W.Fast.tw9412417785002169743 : True := trivial
theorem PySem.W.Fast.tw9927526093786745964 : True := trivial
theorem PySem.W.Fast.tw7799683803113207157 : True := trivial
theorem PySem.W.Fast.tw13393631240376743788 : True := trivial
theorem PySem.W.Fast.tw16595038696515827330 : True := trivial
open PySem PySem.W PyProof.Rows
set_option maxRecDepth 100000 in
set_option maxHeartbeats 0 in
theorem PySem.Challenge.cw_logdelve_k14_questions_misread_holds : PySem.Challenge.rw_logdelve_k14_questions_misread.Holds := by
  w_on;o_law;k_head;(case hw=>w_witness2)
  k_fill
  refine My.walk (l:=PySem.Challenge.rw_logdelve_k14_questions_misread) rfl rfl (fun w h Y=>PySem.W.kIn_of Y) ?F
  case F =>
    intro w mg fa h KX G hmg
    have T:∃ a,My.Txt (L2.KOf KX) mg a:=by
      dsimp only [L2.KOf]
      refine' My.mk_txt KX G ?cA_Reader ?cB_Reader ?cC_Reader ?cD_Reader ?cE_Reader ?cF_Reader ?cG_Reader ?cN_Reader_signs ?cN_Reader_passed ?a0 ?l0 ?c0 ?k0 ?a1 ?l1 ?c1 ?k1 ?a2 ?l2 ?c2 ?k2 ?a3 ?l3 ?c3 ?k3 ?a4 ?l4 ?c4 ?k4 ?a5 ?l5 ?c5 ?k5 ?a6 ?l6 ?c6 ?k6 ?a7 ?l7 ?c7 ?k7 ?a8 ?l8 ?c8 ?k8 ?a9 ?l9 ?c9 ?k9 ?a10 ?l10 ?c10 ?k10 ?a11 ?l11 ?c11 ?k11 ?a12 ?l12 ?c12 ?k12 ?a13 ?l13 ?c13 ?k13 ?a14 ?l14 ?c14 ?k14 ?a15 ?l15 ?c15 ?k15 ?a16 ?l16 ?c16 ?k16 ?a17 ?l17 ?c17 ?k17 ?a18 ?l18 ?c18 ?k18 ?a19 ?l19 ?c19 ?k19 ?a20 ?l20 ?c20 ?k20 ?a21 ?l21 ?c21 ?k21 ?a22 ?l22 ?c22 ?k22 ?a23 ?l23 ?c23 ?k23 ?a24 ?l24 ?c24 ?k24 ?a25 ?l25 ?c25 ?k25 ?a26 ?l26 ?c26 ?k26 ?a27 ?l27 ?c27 ?k27 ?a28 ?l28 ?c28 ?k28 ?a29 ?l29 ?c29 ?k29 ?a30 ?l30 ?c30 ?k30 ?a31 ?l31 ?c31 ?k31 ?a32 ?l32 ?c32 ?k32 ?a33 ?l33 ?c33 ?k33 ?a34 ?l34 ?c34 ?k34 ?a35 ?l35 ?c35 ?k35 ?a36 ?l36 ?c36 ?k36 ?a37 ?l37 ?c37 ?k37 ?a38 ?l38 ?c38 ?k38 ?a39 ?l39 ?c39 ?k39 ?a40 ?l40 ?c40 ?k40 ?a41 ?l41 ?c41 ?k41 ?a42 ?l42 ?c42 ?k42 ?a43 ?l43 ?c43 ?k43 ?a44 ?l44 ?c44 ?k44 ?a45 ?l45 ?c45 ?k45 ?a46 ?l46 ?c46 ?k46 ?a47 ?l47 ?c47 ?k47 ?a48 ?i48 ?l48 ?c48 ?k48 ?a49 ?i49 ?l49 ?c49 ?k49 ?a50 ?i50 ?l50 ?c50 ?k50 ?a51 ?i51 ?l51 ?c51 ?k51 ?a52 ?i52 ?l52 ?c52 ?k52 ?a53 ?i53 ?l53 ?c53 ?k53 ?a54 ?i54 ?l54 ?c54 ?k54 ?gc0 ?gc1 ?gc2 ?gc3 ?gc4 ?gc5 ?gc6 ?gc7 ?gc8 ?gc9 ?gc10 ?gc11 ?gc12 ?gc13 ?gc14 ?ta0_g ?tl0 ?ta1_g ?tl1 ?ta2_g ?tl2 ?ka0_g ?kl0 ?ks0 ?z_len ?z_all ?z_isinstance ?z_int ?z_str ?z_list ?z_tuple ?z_range ?bg0 ?bh0 ?bk0 ?bl0 ?bm0 ?ea0 ?eb0 ?ec0 ?ed0 ?ee0 ?ef0 ?eg0 ?eh0 ?ei0 ?ej0 ?ek0 ?el0 ?em0 ?en0 ?eo0 ?eq0 ?ep0
      (case cA_Reader=>k_is)
      (case cB_Reader=>k_is)
      (case cC_Reader=>k_is)
      (case cD_Reader=>k_is)
      (case cE_Reader=>k_is)
      (case cF_Reader=>k_is)
      (case cG_Reader=>k_is)
      (case cN_Reader_signs=>k_is)
      (case cN_Reader_passed=>k_is)
      (case a0=>k_is)
      (case l0=>k_is)
      (case c0=>k_is)
      (case k0=>k_is)
      (case a1=>k_is)
      (case l1=>k_is)
      (case c1=>k_is)
      (case k1=>k_is)
      (case a2=>k_is)
      (case l2=>k_is)
      (case c2=>k_is)
      (case k2=>k_is)
      (case a3=>k_is)
      (case l3=>k_is)
      (case c3=>k_is)
      (case k3=>k_is)
      (case a4=>k_is)
      (case l4=>k_is)
      (case c4=>k_is)
      (case k4=>k_is)
      (case a5=>k_is)
      (case l5=>k_is)
      (case c5=>k_is)
      (case k5=>k_is)
      (case a6=>k_is)
      (case l6=>k_is)
      (case c6=>k_is)
      (case k6=>k_is)
      (case a7=>k_is)
      (case l7=>k_is)
      (case c7=>k_is)
      (case k7=>k_is)
      (case a8=>k_is)
      (case l8=>k_is)
      (case c8=>k_is)
      (case k8=>k_is)
      (case a9=>k_is)
      (case l9=>k_is)
      (case c9=>k_is)
      (case k9=>k_is)
      (case a10=>k_is)
      (case l10=>k_is)
      (case c10=>k_is)
      (case k10=>k_is)
      (case a11=>k_is)
      (case l11=>k_is)
      (case c11=>k_is)
      (case k11=>k_is)
      (case a12=>k_is)
      (case l12=>k_is)
      (case c12=>k_is)
      (case k12=>k_is)
      (case a13=>k_is)
      (case l13=>k_is)
      (case c13=>k_is)
      (case k13=>k_is)
      (case a14=>k_is)
      (case l14=>k_is)
      (case c14=>k_is)
      (case k14=>k_is)
      (case a15=>k_is)
      (case l15=>k_is)
      (case c15=>k_is)
      (case k15=>k_is)
      (case a16=>k_is)
      (case l16=>k_is)
      (case c16=>k_is)
      (case k16=>k_is)
      (case a17=>k_is)
      (case l17=>k_is)
      (case c17=>k_is)
      (case k17=>k_is)
      (case a18=>k_is)
      (case l18=>k_is)
      (case c18=>k_is)
      (case k18=>k_is)
      (case a19=>k_is)
      (case l19=>k_is)
      (case c19=>k_is)
      (case k19=>k_is)
      (case a20=>k_is)
      (case l20=>k_is)
      (case c20=>k_is)
      (case k20=>k_is)
      (case a21=>k_is)
      (case l21=>k_is)
      (case c21=>k_is)
      (case k21=>k_is)
      (case a22=>k_is)
      (case l22=>k_is)
      (case c22=>k_is)
      (case k22=>k_is)
      (case a23=>k_is)
      (case l23=>k_is)
      (case c23=>k_is)
      (case k23=>k_is)
      (case a24=>k_is)
      (case l24=>k_is)
      (case c24=>k_is)
      (case k24=>k_is)
      (case a25=>k_is)
      (case l25=>k_is)
      (case c25=>k_is)
      (case k25=>k_is)
      (case a26=>k_is)
      (case l26=>k_is)
      (case c26=>k_is)
      (case k26=>k_is)
      (case a27=>k_is)
      (case l27=>k_is)
      (case c27=>k_is)
      (case k27=>k_is)
      (case a28=>k_is)
      (case l28=>k_is)
      (case c28=>k_is)
      (case k28=>k_is)
      (case a29=>k_is)
      (case l29=>k_is)
      (case c29=>k_is)
      (case k29=>k_is)
      (case a30=>k_is)
      (case l30=>k_is)
      (case c30=>k_is)
      (case k30=>k_is)
      (case a31=>k_is)
      (case l31=>k_is)
      (case c31=>k_is)
      (case k31=>k_is)
      (case a32=>k_is)
      (case l32=>k_is)
      (case c32=>k_is)
      (case k32=>k_is)
      (case a33=>k_is)
      (case l33=>k_is)
      (case c33=>k_is)
      (case k33=>k_is)
      (case a34=>k_is)
      (case l34=>k_is)
      (case c34=>k_is)
      (case k34=>k_is)
      (case a35=>k_is)
      (case l35=>k_is)
      (case c35=>k_is)
      (case k35=>k_is)
      (case a36=>k_is)
      (case l36=>k_is)
      (case c36=>k_is)
      (case k36=>k_is)
      (case a37=>k_is)
      (case l37=>k_is)
      (case c37=>k_is)
      (case k37=>k_is)
      (case a38=>k_is)
      (case l38=>k_is)
      (case c38=>k_is)
      (case k38=>k_is)
      (case a39=>k_is)
      (case l39=>k_is)
      (case c39=>k_is)
      (case k39=>k_is)
      (case a40=>k_is)
      (case l40=>k_is)
      (case c40=>k_is)
      (case k40=>k_is)
      (case a41=>k_is)
      (case l41=>k_is)
      (case c41=>k_is)
      (case k41=>k_is)
      (case a42=>k_is)
      (case l42=>k_is)
      (case c42=>k_is)
      (case k42=>k_is)
      (case a43=>k_is)
      (case l43=>k_is)
      (case c43=>k_is)
      (case k43=>k_is)
      (case a44=>k_is)
      (case l44=>k_is)
      (case c44=>k_is)
      (case k44=>k_is)
      (case a45=>k_is)
      (case l45=>k_is)
      (case c45=>k_is)
      (case k45=>k_is)
      (case a46=>k_is)
      (case l46=>k_is)
      (case c46=>k_is)
      (case k46=>k_is)
      (case a47=>k_is)
      (case l47=>k_is)
      (case c47=>k_is)
      (case k47=>k_is)
      (case a48=>k_is)
      (case i48=>k_is)
      (case l48=>k_is)
      (case c48=>k_is)
      (case k48=>k_is)
      (case a49=>k_is)
      (case i49=>k_is)
      (case l49=>k_is)
      (case c49=>k_is)
      (case k49=>k_is)
      (case a50=>k_is)
      (case i50=>k_is)
      (case l50=>k_is)
      (case c50=>k_is)
      (case k50=>k_is)
      (case a51=>k_is)
      (case i51=>k_is)
      (case l51=>k_is)
      (case c51=>k_is)
      (case k51=>k_is)
      (case a52=>k_is)
      (case i52=>k_is)
      (case l52=>k_is)
      (case c52=>k_is)
      (case k52=>k_is)
      (case a53=>k_is)
      (case i53=>k_is)
      (case l53=>k_is)
      (case c53=>k_is)
      (case k53=>k_is)
      (case a54=>k_is)
      (case i54=>k_is)
      (case l54=>k_is)
      (case c54=>k_is)
      (case k54=>k_is)
      (case gc0=>k_is)
      (case gc1=>k_is)
      (case gc2=>k_is)
      (case gc3=>k_is)
      (case gc4=>k_is)
      (case gc5=>k_is)
      (case gc6=>k_is)
      (case gc7=>k_is)
      (case gc8=>k_is)
      (case gc9=>k_is)
      (case gc10=>k_is)
      (case gc11=>k_is)
      (case gc12=>k_is)
      (case gc13=>k_is)
      (case gc14=>k_is)
      (case ta0_g=>k_is)
      (case tl0=>k_is)
      (case ta1_g=>k_is)
      (case tl1=>k_is)
      (case ta2_g=>k_is)
      (case tl2=>k_is)
      (case ka0_g=>k_is)
      (case kl0=>k_is)
      (case ks0=>rfl)
      (case z_len=>k_is)
      (case z_all=>k_is)
      (case z_isinstance=>k_is)
      (case z_int=>k_is)
      (case z_str=>k_is)
      (case z_list=>k_is)
      (case z_tuple=>k_is)
      (case z_range=>k_is)
      (case bg0=>k_is)
      (case bh0=>k_is)
      (case bk0=>k_is)
      (case bl0=>rfl)
      (case bm0=>k_is)
      (case ea0=>k_is)
      (case eb0=>k_is)
      (case ec0=>k_is)
      (case ed0=>k_is)
      (case ee0=>k_is)
      (case ef0=>k_is)
      (case eg0=>k_is)
      (case eh0=>k_is)
      (case ei0=>k_is)
      (case ej0=>k_is)
      (case ek0=>k_is)
      (case el0=>k_is)
      (case em0=>k_is)
      (case en0=>k_is)
      (case eo0=>k_is)
      (case eq0=>k_is)
      (case ep0=>k_is)
    exact My.law_mk (h:=h) hmg T
