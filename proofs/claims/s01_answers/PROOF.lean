import PyProof.Rows.All
import Wide.All
import OpenK.AllK
import Wide.FinOn
import PyProof.EqAt
import PyProof.EqKinds
import PyProof.TupleCall
import KE.BitLaws
import Open.SpecLaws
import KE.OsHead
import KE.OsGo
import KE.SpHead
import KE.OsShapes
import PyVatrka
import PyFlatLaws
import PySem.Challenge.RW_trackedtext_s01_answers
set_option Elab.async false
set_option linter.all false
set_option maxRecDepth 100000
section
namespace L2
open PySem PySem.Spec PyProof.Rows
abbrev Key:=Sum Int Str
def keyIs:Key→Value→Bool
 | .inl k,v=>Value.isInt k v
 | .inr x,v=>Value.isStrOf x v
def keyH (w:World):Key→Int
 | .inl k=>hashInt k
 | .inr x=>hashStr w x
theorem zaX:∀ {k:Key} {v:Value},keyIs k v=true→(∃ i t,k=Sum.inl i∧v=Value.int i t)∨(∃ x t,k=Sum.inr x∧v=Value.str x t)
 | .inl i,v,h=>by
  obtain ⟨t,e⟩:=Value.isInt_shape (k:=i) (v:=v) h
  exact .inl ⟨i,t,rfl,e⟩
 | .inr x,v,h=>by
  obtain ⟨t,e⟩:=Value.isStrOf_shape (x:=x) (v:=v) h
  exact .inr ⟨x,t,rfl,e⟩
theorem zit (i:Int) (t:Tok):keyIs (.inl i) (.int i t)=true:=by simp [keyIs,Value.isInt]
theorem zis (x:Str) (t:Tok):keyIs (.inr x) (.str x t)=true:=by simp [keyIs,Value.isStrOf]
theorem zkX (a b:Int):decide ((Sum.inl a:Key)=Sum.inl b)=(a == b):=by
 by_cases e:a=b
 ·subst e; simp
 ·have h:¬ (Sum.inl a:Key)=Sum.inl b:=fun q=>e (Sum.inl.inj q)
  rw [decide_eq_false h]
  exact (beq_eq_false_iff_ne.mpr e).symm
theorem zkU (a b:Str):decide ((Sum.inr a:Key)=Sum.inr b)=decide (a=b):=by
 by_cases e:a=b
 ·subst e; simp
 ·have h:¬ (Sum.inr a:Key)=Sum.inr b:=fun q=>e (Sum.inr.inj q)
  rw [decide_eq_false h,decide_eq_false e]
theorem zkW (a:Int) (b:Str):decide ((Sum.inl a:Key)=Sum.inr b)=false:=decide_eq_false (fun q=>nomatch q)
theorem zkV (a:Str) (b:Int):decide ((Sum.inr a:Key)=Sum.inl b)=false:=decide_eq_false (fun q=>nomatch q)
def mixKind (prog:Program) (w:World):PySem.KeyKind prog w Key where
 is:=keyIs
 hash:=keyH w
 inj:=fun v a b ha hb=>by
  rcases zaX ha with ⟨i,t,rfl,rfl⟩ | ⟨x,t,rfl,rfl⟩
  ·rcases zaX hb with ⟨j,u,rfl,e⟩ | ⟨y,u,rfl,e⟩
   ·injection e with e1 _; rw [e1]
   ·exact nomatch e
  ·rcases zaX hb with ⟨j,u,rfl,e⟩ | ⟨y,u,rfl,e⟩
   ·exact nomatch e
   ·injection e with e1 _; rw [e1]
 byValue:=fun k v h=>by
  rcases zaX h with ⟨i,t,rfl,rfl⟩ | ⟨x,t,rfl,rfl⟩<;>rfl
 pyHash:=fun hv h=>by
  rcases zaX hv with ⟨i,t,rfl,rfl⟩ | ⟨x,t,rfl,rfl⟩
  ·exact wpAny_pyHash_int h
  ·exact wpAny_pyHash_str h
 eqBool:=fun hu hv h=>by
  rcases zaX hu with ⟨i,t,rfl,rfl⟩ | ⟨x,t,rfl,rfl⟩
  ·rcases zaX hv with ⟨j,u,rfl,rfl⟩ | ⟨y,u,rfl,rfl⟩
   ·rw [zkX] at h; exact wpAny_eqBool_int h
   ·rw [zkW] at h; exact SeqAt.EqAt.int_str i t y u _ _ _ _ h
  ·rcases zaX hv with ⟨j,u,rfl,rfl⟩ | ⟨y,u,rfl,rfl⟩
   ·rw [zkV] at h; exact SeqAt.EqAt.str_int x t j u _ _ _ _ h
   ·rw [zkU] at h; exact wpAny_eqBool_str h
 «strs»:=fun k x t v h=>by
  rcases zaX h with ⟨i,u,rfl,e⟩ | ⟨y,u,rfl,e⟩
  ·exact nomatch e
  ·injection e with e1 _
   subst e1
   cases v<;>rfl
theorem zcy (prog:Program) (w:World) (i:Int) (t:Tok):(mixKind prog w).is (.inl i) (.int i t)=true:=zit i t
theorem zgj (prog:Program) (w:World) (x:Str) (t:Tok):(mixKind prog w).is (.inr x) (.str x t)=true:=zis x t
end L2
namespace L2
open PySem PySem.Spec PyProof.Rows
inductive V where
 | non | bl (b:Bool) | int (i:Int) | str (x:Str) | byt (b:Array UInt8) | flt (b:UInt64) | ref (a:Addr) | ty (n:String)
 deriving DecidableEq
def RelV:V→Value→Prop
 | .non,u=>u=Value.none
 | .bl b,u=>u=Value.bool b
 | .int i,u=>∃ t,u=Value.int i t
 | .str x,u=>∃ t,u=Value.str x t
 | .byt b,u=>∃ t,u=Value.bytes b t
 | .flt b,u=>∃ t,u=Value.float b t
 | .ref a,u=>u=Value.ref a
 | .ty n,u=>u=Value.type n
abbrev Vals:List V→List Value→Prop:=Paired RelV
theorem Vals.length {xs:List V} {us:List Value} (r:Vals xs us):xs.length=us.length:=Paired.length r
theorem Vals.get:∀ {xs:List V} {us:List Value} {i:Nat} {x:V},Vals xs us→xs[i]?=some x→∃ u,us[i]?=some u∧RelV x u
 | _,_,_,_,.nil,e=>by simp at e
 | _,_,0,_,.cons r _,e=>by simp at e; subst e; exact ⟨_,rfl,r⟩
 | _,_,i+1,x,.cons _ t,e=>by
  obtain ⟨u,h1,h2⟩:=Vals.get (i:=i) (x:=x) t (by simpa using e)
  exact ⟨u,by simpa using h1,h2⟩
theorem Vals.append:∀ {xs ys:List V} {us ws:List Value},Vals xs us→Vals ys ws→Vals (xs++ys) (us++ws)
 | _,_,_,_,.nil,s=>s
 | _,_,_,_,.cons r t,s=>.cons r (Vals.append t s)
theorem Vals.take:∀ {xs:List V} {us:List Value} (n:Nat),Vals xs us→Vals (xs.take n) (us.take n)
 | _,_,0,_=>.nil
 | _,_,_+1,.nil=>.nil
 | _,_,n+1,.cons r t=>.cons r (Vals.take n t)
theorem Vals.drop:∀ {xs:List V} {us:List Value} (n:Nat),Vals xs us→Vals (xs.drop n) (us.drop n)
 | _,_,0,r=>r
 | _,_,_+1,.nil=>.nil
 | _,_,n+1,.cons _ t=>Vals.drop n t
def RelO:Option V→Option Value→Prop
 | some v,some u=>RelV v u
 | none,none=>True
 | _,_=>False
def KV {κ:Type}:List (κ×V)→List (κ×Value)→Prop:=Paired fun (p:κ×V) (q:κ×Value)=>p.1=q.1∧RelV p.2 q.2
def kV:Key→V
 | .inl i=>.int i
 | .inr x=>.str x
inductive HO where
 /-- a list -/
 | lst (xs:List V)
 /-- a tuple (never changes) -/
 | tup (xs:List V)
 /-- a dict whose keys are ints and texts; one whose keys are tuples of ints and texts (the empty one is both) -/
 | dK (kvs:List (Key×V)) | dT (kvs:List (List Key×V))
 /-- a set of ints: its members,its size -/
 | set (S:Int→Bool) (n:Nat)
 /-- an instance of the class at C,its dict at dx,its attributes -/
 | ins (C dx:Addr) (fs:List (Str×V))
 /-- the dict of the instance at x -/
 | own (x:Addr)
 /-- the dict of an exception -/
 | xd (fs:List (Str×V))
 /-- a bound method,f of x -/
 | met (f x:Addr)
 /-- a range object lo,lo+1,.. below hi -/
 | rng (lo hi:Int)
 /-- a thing that is known to the object (the script; a dict while a loop walks it): read,never written while it is so -/
 | frz (o:Obj) (u:HO)
 /-- a code object's table -/
 | tbl (ps:Array Value)
 /-- any other thing,by what is true of its one object (a def of one's own: SetO a S n:=HO.ext fun h=>..) -/
 | ext (φ:Heap→Prop)
abbrev Hp:=Addr→Option HO
def upd (H:Hp) (a:Addr) (o:HO):Hp:=fun b=>if b=a then some o else H b
theorem zai {H:Hp} {a:Addr} {o:HO}:upd H a o a=some o:=by unfold upd; rw [if_pos rfl]
theorem zaA {H:Hp} {a b:Addr} {o:HO} (h:b≠a):upd H a o b=H b:=by unfold upd; rw [if_neg h]
theorem zbw {H:Hp} {a b:Addr} {o u:HO} (h:H a=some o) (h':H b=some u) (d:o≠u):a≠b:=by
 intro e; subst e; rw [h] at h'; exact d (Option.some.inj h')
theorem zag {H:Hp} {a b:Addr} {o:HO} (h:H a=some o) (h':H b=none):a≠b:=by
 intro e; subst e; rw [h] at h'; cases h'
section
variable (P:Program) (w:World)
def ObjOk (H:Hp) (h:Heap) (a:Addr):HO→Prop
 | .lst xs=>xs.length≤sizeLine∧∃ (its:List Value) (n:Nat),Vals xs its∧h.get? a=some { cls:=.type "list",data:=.seq its.toArray n }
 | .tup xs=>xs.length≤sizeLine∧∃ its:List Value,Vals xs its∧IsTup h a its.toArray
 | .dK kvs=>kvs.length≤sizeLine∧(a == sysModules)=false∧∃ vs,KV kvs vs∧h.DictOf (mixKind P w) a vs
 | .dT kvs=>kvs.length≤sizeLine∧(a == sysModules)=false∧∃ xs:List (List Key×Addr×Value),
   Paired (fun (p:List Key×V) (q:List Key×Addr×Value)=>p.1=q.1∧H q.2.1=some (.tup (p.1.map kV))∧RelV p.2 q.2.2) kvs xs ∧
   ∃ o es ep,h.get? a=some o∧o.ExactDict∧o.data = .dict es ep∧es.toList=xs.map (entryOfKey (tupleKind (mixKind P w)))∧(xs.map (·.1)).Nodup
 | .set S n=>h.SetOf (intKind P w) a S n
 | .ins C dx fs=>H dx=some (.own a)∧fs.length≤1000∧dx≠a∧h.get? a=some (PySem.W.instObj C dx) ∧
   ∃ mA,h.Ns1 dx mA∧(∀ f,RelO (fs.lookup f) (mA f))∧PySem.Within mA (fs.map (·.1))
 | .own _=>∃ o,h.get? a=some o
 | .xd fs=>∃ mA,h.Ns1 a mA∧∀ f,RelO (fs.lookup f) (mA f)
 | .rng lo hi=>∃ t u v,h.get? a=some { cls:=.type "range",data:=.fields #[.int lo t,.int hi u,.int 1 v] }
 | .frz o u=>h.get? a=some o∧ObjOk H h a u
 | .tbl ps=>h.get? a=some { cls:=.none,data:=.fields ps }
 | .met f x=>h.get? a=some (PySem.W.methodObj (.ref f) (.ref x))
 | .ext φ=>φ h∧(∃ o,h.get? a=some o)∧∀ h1 h2:Heap,φ h1→(∀ o,h1.get? a=some o→h2.get? a=some o)→φ h2
def HOk (H:Hp) (h:Heap):Prop:=∀ a o,H a=some o→ObjOk P w H h a o
end
section
variable {P:Program} {w:World} {H H':Hp} {h h':Heap} {a:Addr} {o:HO}
theorem ObjOk.lt (x:ObjOk P w H h a o):a < h.objs.size:=by
 cases o with
 | lst xs=>obtain ⟨_,_,_,_,e⟩:=x; exact Heap.lt_size e
 | tup xs=>obtain ⟨_,_,_,p⟩:=x; exact p.lt
 | dK kvs=>obtain ⟨_,_,_,_,o,_,_,e,_⟩:=x; exact Heap.lt_size e
 | dT kvs=>obtain ⟨_,_,_,_,o,_,_,e,_⟩:=x; exact Heap.lt_size e
 | set S n=>obtain ⟨o,_,_,_,e,_⟩:=x; exact Heap.lt_size e
 | ins C dx fs=>obtain ⟨_,_,_,e,_⟩:=x; exact Heap.lt_size e
 | own y=>obtain ⟨_,e⟩:=x; exact Heap.lt_size e
 | xd fs=>obtain ⟨_,⟨_,_,_,e,_⟩,_⟩:=x; exact Heap.lt_size e
 | rng lo hi=>obtain ⟨_,_,_,e⟩:=x; exact Heap.lt_size e
 | frz ob u=>obtain ⟨e,_⟩:=x; exact Heap.lt_size e
 | tbl ps=>exact Heap.lt_size (show h.get? a=some _ from x)
 | met f y=>exact Heap.lt_size (show h.get? a=some _ from x)
 | ext φ=>obtain ⟨_,⟨_,e⟩,_⟩:=x; exact Heap.lt_size e
theorem Paired.mapP {α β:Type} {F G:α→β→Prop}:∀ {l₁:List α} {l₂:List β},Paired F l₁ l₂→(∀ a b,F a b→G a b)→Paired G l₁ l₂
 | _,_,.nil,_=>.nil
 | _,_,.cons r t,f=>.cons (f _ _ r) (Paired.mapP t f)
theorem ObjOk.stay (x:ObjOk P w H h a o) (k:∀ b u,(b=a∨H b=some (.own a))→h.get? b=some u→h'.get? b=some u)
  (ho:∀ b,H b=some (.own a)→H' b=some (.own a)) (ht:∀ b xs,H b=some (.tup xs)→H' b=some (.tup xs)):ObjOk P w H' h' a o:=by
 induction o with
 | lst xs=>obtain ⟨z,its,n,r,e⟩:=x; exact ⟨z,its,n,r,k _ _ (.inl rfl) e⟩
 | tup xs=>obtain ⟨z,its,r,ob,e,c⟩:=x; exact ⟨z,its,r,ob,k _ _ (.inl rfl) e,c⟩
 | dK kvs=>obtain ⟨z,y,vs,r,ob,es,ep,e,c⟩:=x; exact ⟨z,y,vs,r,ob,es,ep,k _ _ (.inl rfl) e,c⟩
 | dT kvs =>
  obtain ⟨z,y,xs,r,ob,es,ep,e,c⟩:=x
  exact ⟨z,y,xs,Paired.mapP r fun p q z=>⟨z.1,ht _ _ z.2.1,z.2.2⟩,ob,es,ep,k _ _ (.inl rfl) e,c⟩
 | set S n=>obtain ⟨ob,es,ep,t,e,c⟩:=x; exact ⟨ob,es,ep,t,k _ _ (.inl rfl) e,c⟩
 | ins C dx fs =>
  obtain ⟨d,z,ne,e,mA,⟨od,es,ep,e2,c⟩,r⟩:=x
  exact ⟨ho _ d,z,ne,k _ _ (.inl rfl) e,mA,⟨od,es,ep,k _ _ (.inr d) e2,c⟩,r⟩
 | own y=>obtain ⟨ob,e⟩:=x; exact ⟨ob,k _ _ (.inl rfl) e⟩
 | xd fs=>obtain ⟨mA,⟨od,es,ep,e,c⟩,r⟩:=x; exact ⟨mA,⟨od,es,ep,k _ _ (.inl rfl) e,c⟩,r⟩
 | rng lo hi=>obtain ⟨t,u,v,e⟩:=x; exact ⟨t,u,v,k _ _ (.inl rfl) e⟩
 | frz ob u ih=>obtain ⟨e,q⟩:=x; exact ⟨k _ _ (.inl rfl) e,ih q⟩
 | tbl ps =>
  have e:h.get? a=some { cls:=.none,data:=.fields ps }:=x
  show h'.get? a=some { cls:=.none,data:=.fields ps }
  exact k a _ (.inl rfl) e
 | met f y =>
  have e:h.get? a=some (PySem.W.methodObj (.ref f) (.ref y)):=x
  show h'.get? a=some (PySem.W.methodObj (.ref f) (.ref y))
  exact k a _ (.inl rfl) e
 | ext φ=>obtain ⟨p,⟨o,e⟩,st⟩:=x; exact ⟨st _ _ p fun o q=>k _ _ (.inl rfl) q,⟨o,k _ _ (.inl rfl) e⟩,st⟩
theorem HOk.lt (x:HOk P w H h) (e:H a=some o):a < h.objs.size:=(x a o e).lt
theorem HOk.fresh (x:HOk P w H h) (e:h.objs.size≤a):H a=none:=by
 cases q:H a with
 | none=>rfl
 | some u=>exact absurd (Nat.lt_of_lt_of_le (x.lt q) e) (Nat.lt_irrefl _)
theorem HOk.kept (x:HOk P w H h) (k:∀ b u,h.get? b=some u→h'.get? b=some u):HOk P w H h':=fun a o e =>
 (x a o e).stay (fun b u _ q=>k b u q) (fun _ q=>q) fun _ _ q=>q
theorem HOk.laid (x:HOk P w H h) (k:∀ b u,h.get? b=some u→h'.get? b=some u) (hp:h.objs.size≤a) (new:ObjOk P w (upd H a o) h' a o):HOk P w (upd H a o) h':=fun b u e=>by
 have hn:=x.fresh hp
 by_cases hb:b=a
 ·subst hb; rw [zai] at e; cases e; exact new
 ·rw [zaA hb] at e
  exact (x b u e).stay (fun c v _ q=>k c v q) (fun c q=>by rw [zaA (zag q hn)]; exact q) fun c xs q=>by rw [zaA (zag q hn)]; exact q
end
def Rd (H:Hp) (a:Addr) (u:HO):Prop:=H a=some u∨∃ o,H a=some (.frz o u)
theorem Rd.ok {P:Program} {w:World} {H:Hp} {h:Heap} {a:Addr} {u:HO} (r:Rd H a u) (x:HOk P w H h):ObjOk P w H h a u:=by
 rcases r with r | ⟨o,r⟩
 ·exact x a u r
 ·obtain ⟨_,q⟩:=x a _ r
  exact q
def Mut:Option HO→Prop
 | some (.lst _)=>True
 | some (.dK _)=>True
 | some (.dT _)=>True
 | some (.set _ _)=>True
 | some (.ins _ _ _)=>True
 | some (.ext _)=>True
 | _=>False
section
variable {P:Program} {w:World} {H:Hp} {h h':Heap} {x e:Addr} {o':HO}
theorem HOk.write (ok:HOk P w H h) (mu:Mut (H x)) (he:e=x∨H e=some (.own x)) (k:∀ b u,b≠e→h.get? b=some u→h'.get? b=some u) (heo:∃ u,h'.get? e=some u)
  (new:ObjOk P w (upd H x o') h' x o'):HOk P w (upd H x o') h':=fun b u q=>by
 have nown:∀ c y,H c=some (.own y)→c≠x:=fun c y r z=>by subst z; rw [r] at mu; exact mu
 have ntup:∀ c xs,H c=some (.tup xs)→c≠x:=fun c xs r z=>by subst z; rw [r] at mu; exact mu
 by_cases hb:b=x
 ·subst hb; rw [zai] at q; cases q; exact new
 ·rw [zaA hb] at q
  by_cases hbe:b=e
  ·have q':H b=some (.own x):=by
    rcases he with z | z
    ·exact absurd (hbe.trans z) hb
    ·rw [hbe]; exact z
   rw [q] at q'; cases q'
   obtain ⟨v,hv⟩:=heo
   exact ⟨v,by rw [hbe]; exact hv⟩
  ·refine (ok b u q).stay (fun c v hc r=>k c v ?_ r) (fun c r=>by rw [zaA (nown c b r)]; exact r) fun c xs r=>by rw [zaA (ntup c xs r)]; exact r
   rcases hc with rfl | hc
   ·exact hbe
   ·rintro rfl
    rcases he with z | z
    ·exact nown c b hc z
    ·rw [hc] at z; cases z; exact hb rfl
end
structure Un (fs ex:List Addr) (H H':Hp) (h h':Heap):Prop where
 keep:∀ b o,h.get? b=some o→H b=none→b ∉ fs→b ∉ ex→h'.get? b=some o
 slot:∀ b o,h.get? b=some o→H b=none→b∈fs→b ∉ ex→∃ sl,h'.get? b=some { o with slots:=sl }
 free:∀ b o,h.get? b=some o→H b=none→b ∉ ex→H' b=none
 there:∀ b o,h.get? b=some o→b ∉ ex→∃ o',h'.get? b=some o'
 tups:∀ b xs,H b=some (.tup xs)→H' b=some (.tup xs)
 frzs:∀ b o u,H b=some (.frz o u)→H' b=some (.frz o u)
 tbls:∀ b ps,H b=some (.tbl ps)→∃ more,H' b=some (.tbl (ps++more))
section
variable {fs fs' ex ex':List Addr} {H H1 H2:Hp} {h h1 h2 h':Heap} {a x e:Addr} {o:HO}
theorem Un.any (u:Un fs ex H H1 h h1) {b:Addr} {ob:Obj} (q:h.get? b=some ob) (n:H b=none) (hx:b ∉ ex):∃ sl,h1.get? b=some { ob with slots:=sl }:=by
 by_cases hb:b∈fs
 ·exact u.slot b ob q n hb hx
 ·exact ⟨ob.slots,u.keep b ob q n hb hx⟩
theorem Un.kept (k:∀ b u,h.get? b=some u→h'.get? b=some u):Un fs ex H H h h' :=
 ⟨fun b ob q _ _ _=>k b ob q,fun b ob q _ _ _=>⟨ob.slots,k b ob q⟩,fun _ _ _ n _=>n,fun b ob q _=>⟨ob,k b ob q⟩,fun _ _ q=>q,fun _ _ _ q=>q,fun _ ps q=>⟨#[],by rw [q]; simp⟩⟩
theorem Un.refl:Un fs ex H H h h:=Un.kept fun _ _ q=>q
theorem Un.laid (k:∀ b u,h.get? b=some u→h'.get? b=some u) (hp:h.objs.size≤a) (hn:H a=none):Un fs ex H (upd H a o) h h' where
 keep:=fun b u q _ _ _=>k b u q
 slot:=fun b u q _ _ _=>⟨u.slots,k b u q⟩
 free:=fun b u q n _=>by rw [zaA (Nat.ne_of_lt (Nat.lt_of_lt_of_le (Heap.lt_size q) hp))]; exact n
 there:=fun b u q _=>⟨u,k b u q⟩
 tups:=fun b xs q=>by rw [zaA (zag q hn)]; exact q
 frzs:=fun b u xs q=>by rw [zaA (zag q hn)]; exact q
 tbls:=fun b ps q=>⟨#[],by rw [zaA (zag q hn),q]; simp⟩
theorem Un.write (mu:Mut (H x)) (he:e=x∨H e=some (.own x)) (k:∀ b u,b≠e→h.get? b=some u→h'.get? b=some u) (heo:∃ u,h'.get? e=some u):Un fs ex H (upd H x o) h h':=by
 have hx:∀ b,H b=none→b≠x:=fun b n z=>by subst z; rw [n] at mu; exact mu
 have hb:∀ b,H b=none→b≠e:=fun b n z=>by
  subst z
  rcases he with r | r
  ·exact hx b n r
  ·rw [n] at r; cases r
 have hm:∀ b u,H b=some u→¬ Mut (some u)→b≠x:=fun b u q nm z=>by subst z; rw [q] at mu; exact nm mu
 refine ⟨fun b u q n _ _=>k b u (hb b n) q,fun b u q n _ _=>⟨u.slots,k b u (hb b n) q⟩,fun b u q n _=>by rw [zaA (hx b n)]; exact n,fun b u q _=>?_,
  fun b xs q=>by rw [zaA (hm b _ q fun z=>z)]; exact q,fun b u xs q=>by rw [zaA (hm b _ q fun z=>z)]; exact q,fun b ps q=>⟨#[],by rw [zaA (hm b _ q fun z=>z),q]; simp⟩⟩
 by_cases hbe:b=e
 ·subst hbe; exact heo
 ·exact ⟨u,k b u hbe q⟩
end
def trk (h:Heap) (H:Hp):List Addr:=(List.range h.objs.size).filter fun a=>(H a).isSome
def hidT (h:Heap) (H:Hp):Heap:=PySem.W.hideAll h (trk h H)
theorem ziB (h:Heap) (H:Hp):(hidT h H).objs.size=h.objs.size:=PySem.W.hideAll_size _ _
theorem zjx {h:Heap} {H:Hp} {b:Addr} {o:Obj} (e:h.get? b=some o) (n:H b=none):(hidT h H).get? b=some o :=
 PySem.W.hideAll_get _ e fun hm=>by
  have q:(H b).isSome=true:=(List.mem_filter.mp hm).2
  rw [n] at q; simp at q
theorem zkc {h:Heap} {H:Hp} {b:Addr} {o:Obj} (e:(hidT h H).get? b=some o):h.get? b=some o∧H b=none:=by
 have e':h.get? b=some o:=PySem.W.of_hideAll (trk h H) e
 refine ⟨e',?_⟩
 cases q:H b with
 | none=>rfl
 | some x =>
  have hm:b∈trk h H:=List.mem_filter.mpr ⟨List.mem_range.mpr (Heap.lt_size e'),by simp [q]⟩
  have z:(hidT h H).get? b=none:=PySem.W.hideAll_none (trk h H) hm
  rw [z] at e; cases e
def allNews (g h:Heap) (L:Addr):List (Addr×Obj):=(List.range h.objs.size).filterMap fun a=>if a=L∨(g.get? a).isSome=true then none else (h.get? a).map fun o=>(a,o)
def rest (g h:Heap) (L d:Addr):List (Addr×Obj):=(allNews g h L).filter fun p=>decide (p.1≠d)
end L2
namespace L2
open PySem PySem.Spec PyProof.Rows
structure Mod (K:PySem.W.Frag) (mg:Str→Option Value) (base:Heap):Prop where
 kin:K.In base
 glob:base.Ns mainGlobals mg
 blt:∃ mb,base.Ns builtinsNs mb∧∀ x:Str,x≠"__name__"→mb x=bootBuiltins x
 nolimit:base.NoLimit
structure Cx where
 prog:Program
 w:World
 K:PySem.W.Frag
 mg:Str→Option Value
 base:Heap
 A:Around
 N:List Str
 s_0:Shared
 H_0:Hp
 env:Env
 outer:List Env
 stack:List Env
 ex:List Addr
 fn:Str→Bool
 calm:Bool
 pn:List (Addr×Obj)
 xe:Value→Shared→Prop
def frs (l:List Env):List Addr:=l.filterMap (·.frame)
abbrev Cx.fs (X:Cx):List Addr:=frs X.outer
def Vis (sc:Scope) (x:Str):Prop:=sc.names.lookup x=some .local∨sc.names.lookup x=some .cell∨sc.names.lookup x=some .free
def Loc (sc:Scope) (x:Str):Prop:=sc.names.lookup x=some .local∨sc.names.lookup x=some .cell
def Look (env:Env) (h:Heap) (m:Str→Option Value) (x:Str) (u:Value):Prop :=
 (env.kindOf x=some .local∧m x=some u)∨((env.kindOf x=some .cell∨env.kindOf x=some .free)∧∃ c,env.cells.lookup x=some c∧h.IsCell c (some u))
structure Cx.Ok (X:Cx):Prop where
 mod:Mod X.K X.mg X.base
 kind:X.env.scope.kind = .function
 glob:X.env.globals=mainGlobals
 blt:X.env.builtins=builtinsNs
 above:X.s_0.heap.objs.size≤X.env.locals
 inj:∀ x y c,X.env.cells.lookup x=some c→X.env.cells.lookup y=some c→x=y
 has:∀ x,(X.env.kindOf x=some .cell∨X.env.kindOf x=some .free)→∃ c,X.env.cells.lookup x=some c
 cab:∀ x c,X.fn x=true→X.env.cells.lookup x=some c→X.s_0.heap.objs.size≤c
 hd:X.calm=true→X.A.handled=none
 frames:X.A.frames=some X.stack
 stk:X.stack=X.outer∨(X.stack=X.env::X.outer∧X.env.frame=some X.env.locals)
 exf:∀ b∈X.ex,b≠X.env.locals∧∀ x c,X.env.cells.lookup x=some c→c≠b
 bs:∀ b o,X.base.get? b=some o→X.s_0.heap.get? b=some o∧X.H_0 b=none
 bsz:X.base.objs.size≤X.s_0.heap.objs.size
 noex:∀ b o,X.base.get? b=some o→b ∉ X.ex
 exfs:∀ b∈X.ex,b ∉ X.fs
 funs:X.s_0.heap.FunFrames X.base X.outer
 frf:∀ b∈X.fs,X.H_0 b=none
structure Inv (X:Cx) (pins:List (Addr×Obj)) (σ:List (Option V)) (H:Hp) (s:Shared):Prop where
 ok:X.Ok
 os:s.os=X.s_0.os
 bare:AllBare s.gens
 base:Un X.fs X.ex X.H_0 H X.s_0.heap s.heap
 loc:∃ m,s.heap.Ns X.env.locals m∧∀ (i:Nat) (x:Str) (v:V),X.N[i]?=some x→σ[i]?=some (some v)→Vis X.env.scope x→∃ u,RelV v u∧Look X.env s.heap m x u
 cell:∀ x c,X.env.cells.lookup x=some c→∃ v,s.heap.IsCell c v
 free:H X.env.locals=none
 freeC:∀ x c,X.env.cells.lookup x=some c→H c=none
 pin:∀ p∈X.pn++pins,s.heap.get? p.1=some p.2∧H p.1=none∧p.1≠X.env.locals∧p.1 ∉ X.fs∧∀ v,p.2.data≠.cell v
 hok:HOk X.prog X.w H s.heap
 len:σ.length=X.N.length
section
variable {X:Cx} {pins:List (Addr×Obj)} {σ:List (Option V)} {H H':Hp} {s:Shared} {h':Heap}
theorem Cx.Ok.nofr (ok:X.Ok) {b:Addr} {o:Obj} (e:X.base.get? b=some o):b ∉ X.fs:=fun hb=>by
 have:=(ok.funs.mem hb).1
 rw [e] at this; cases this
theorem Inv.bs (I:Inv X pins σ H s):∀ b o,X.base.get? b=some o→s.heap.get? b=some o∧H b=none:=fun b o e =>
 ⟨I.base.keep b o (I.ok.bs b o e).1 (I.ok.bs b o e).2 (I.ok.nofr e) (I.ok.noex b o e),I.base.free b o (I.ok.bs b o e).1 (I.ok.bs b o e).2 (I.ok.noex b o e)⟩
theorem Inv.bk (I:Inv X pins σ H s):∀ b o,X.base.get? b=some o→s.heap.get? b=some o:=fun b o e=>(I.bs b o e).1
theorem Inv.mod (I:Inv X pins σ H s):Mod X.K X.mg X.base:=I.ok.mod
theorem Inv.kIn (I:Inv X pins σ H s):X.K.In s.heap:=I.ok.mod.kin.keeps I.bk
theorem Inv.lt (I:Inv X pins σ H s):X.env.locals < s.heap.objs.size:=let ⟨_,hn,_⟩:=I.loc; hn.lt
theorem Inv.sz (I:Inv X pins σ H s):X.s_0.heap.objs.size≤s.heap.objs.size:=Nat.le_trans I.ok.above (Nat.le_of_lt I.lt)
theorem Inv.nofs (I:Inv X pins σ H s) {a:Addr} (h:s.heap.objs.size≤a):a ∉ X.fs:=fun hb=>by
 obtain ⟨_,o,ho,_⟩:=I.ok.funs.mem hb
 exact absurd (Nat.lt_of_lt_of_le (Heap.lt_size ho) (Nat.le_trans I.sz h)) (Nat.lt_irrefl _)
theorem Inv.cne (I:Inv X pins σ H s):∀ x c,X.env.cells.lookup x=some c→c≠X.env.locals:=fun x c e z=>by
 obtain ⟨v,o,ho,hd⟩:=I.cell x c e
 obtain ⟨m,⟨o',es,ep,ho',hd',_⟩,_⟩:=I.loc
 rw [z,ho'] at ho; cases ho; rw [hd'] at hd; cases hd
theorem Inv.funs (I:Inv X pins σ H s):s.heap.FunFrames X.base X.outer:=by
 have all:∀ (l:List Env),(∀ b∈frs l,b∈X.fs)→X.s_0.heap.FunFrames X.base l→s.heap.FunFrames X.base l:=by
  intro l
  induction l with
  | nil=>intro _ _; trivial
  | cons env r ih =>
   intro hs hl
   obtain ⟨hk,⟨L,o,hf,hn,ho,hd⟩,hr⟩:=hl
   have hL:L∈X.fs:=hs L (by unfold frs; rw [List.filterMap_cons,hf]; exact List.mem_cons_self)
   obtain ⟨sl,e⟩:=I.base.slot L o ho (I.ok.frf L hL) hL fun z=>I.ok.exfs L z hL
   exact ⟨hk,⟨L,_,hf,hn,e,hd⟩,ih (fun b hb=>hs b (by unfold frs; rw [List.filterMap_cons,hf]; exact List.mem_cons_of_mem _ hb)) hr⟩
 exact all X.outer (fun _ hb=>hb) I.ok.funs
theorem Inv.stack (I:Inv X pins σ H s):s.heap.FunFrames X.base X.stack:=by
 rcases I.ok.stk with e | ⟨e,hf⟩
 ·rw [e]; exact I.funs
 ·rw [e]
  obtain ⟨m,hn,_⟩:=I.loc
  refine .cons (by rw [I.ok.kind]; decide) hf hn ?_ I.funs
  exact Heap.get?_none_of_le (Nat.le_trans I.ok.bsz I.ok.above)
theorem Inv.stkSub (I:Inv X pins σ H s):∀ b∈frs X.stack,b∈X.env.locals::X.fs:=fun b hb=>by
 rcases I.ok.stk with e | ⟨e,hf⟩
 ·rw [e] at hb; exact List.mem_cons_of_mem _ hb
 ·rw [e] at hb
  unfold frs at hb
  rw [List.filterMap_cons,hf] at hb
  exact hb
theorem Inv.stkFree (I:Inv X pins σ H s):∀ b∈frs X.stack,H b=none:=fun b hb=>by
 rcases List.mem_cons.mp (I.stkSub b hb) with e | hb
 ·rw [e]; exact I.free
 ·obtain ⟨_,o,ho,_⟩:=I.ok.funs.mem hb
  exact I.base.free b o ho (I.ok.frf b hb) fun z=>I.ok.exfs b z hb
theorem Inv.step {g':Array GenState} {t':Nat} {d':Drawn} {ch:List Addr} (I:Inv X pins σ H s)
  (hch:∀ b∈ch,(b∈X.ex∨X.s_0.heap.objs.size≤b)∧b≠X.env.locals∧(∀ x c,X.env.cells.lookup x=some c→c≠b)∧∀ p∈X.pn++pins,p.1≠b)
  (keep:∀ b o,b≠X.env.locals→b ∉ X.fs→b ∉ ch→s.heap.get? b=some o→H b=none→h'.get? b=some o)
  (slot:∀ b o,b≠X.env.locals→b∈X.fs→b ∉ ch→s.heap.get? b=some o→H b=none→∃ sl,h'.get? b=some { o with slots:=sl }) (free:∀ b o,b ∉ ch→s.heap.get? b=some o→H b=none→H' b=none)
  (there:∀ b o,b ∉ ch→s.heap.get? b=some o→∃ o',h'.get? b=some o')
  (tups:∀ b xs,H b=some (.tup xs)→H' b=some (.tup xs)) (frzs:∀ b o u,H b=some (.frz o u)→H' b=some (.frz o u)) (tbls:∀ b ps,H b=some (.tbl ps)→∃ more,H' b=some (.tbl (ps++more)))
  (ns:∀ m,s.heap.Ns X.env.locals m→h'.Ns X.env.locals m) (hok:HOk X.prog X.w H' h') (hg:AllBare g') :
  Inv X pins σ H' { s with heap:=h',gens:=g',drawn:=d',toks:=t' }:=by
 have neL:∀ b o,X.s_0.heap.get? b=some o→b≠X.env.locals:=fun b o e=>Nat.ne_of_lt (Nat.lt_of_lt_of_le (Heap.lt_size e) I.ok.above)
 have neC:∀ b o,X.s_0.heap.get? b=some o→b ∉ X.ex→b ∉ ch:=fun b o e hx hb=>by
  rcases (hch b hb).1 with z | z
  ·exact hx z
  ·exact absurd (Nat.lt_of_lt_of_le (Heap.lt_size e) z) (Nat.lt_irrefl _)
 have cellK:∀ x c,X.env.cells.lookup x=some c→∀ v,s.heap.IsCell c v→h'.IsCell c v:=fun x c e v ⟨o,ho,hd⟩=>by
  have nch:c ∉ ch:=fun z=>(hch c z).2.2.1 x c e rfl
  by_cases hc:c∈X.fs
  ·obtain ⟨sl,q⟩:=slot c o (I.cne x c e) hc nch ho (I.freeC x c e)
   exact ⟨_,q,hd⟩
  ·exact ⟨o,keep c o (I.cne x c e) hc nch ho (I.freeC x c e),hd⟩
 refine ⟨I.ok,I.os,hg,⟨fun b o e n hb hx=>?_,fun b o e n hb hx=>?_,fun b o e n hx=>?_,fun b o e hx=>?_,fun b xs e=>tups b xs (I.base.tups b xs e),fun b o xs e=>frzs b o xs (I.base.frzs b o xs e),fun b ps e=>?_⟩,?_,fun x c e=>?_,?_,fun x c e=>?_,fun p hp=>?_,hok,I.len⟩
 ·exact keep b o (neL b o e) hb (neC b o e hx) (I.base.keep b o e n hb hx) (I.base.free b o e n hx)
 ·obtain ⟨sl,e1⟩:=I.base.slot b o e n hb hx
  obtain ⟨sl',e2⟩:=slot b _ (neL b o e) hb (neC b o e hx) e1 (I.base.free b o e n hx)
  exact ⟨sl',e2⟩
 ·obtain ⟨o',e1⟩:=I.base.there b o e hx
  exact free b o' (neC b o e hx) e1 (I.base.free b o e n hx)
 ·obtain ⟨o',e1⟩:=I.base.there b o e hx
  exact there b o' (neC b o e hx) e1
 ·obtain ⟨m1,e1⟩:=I.base.tbls b ps e
  obtain ⟨m2,e2⟩:=tbls b _ e1
  exact ⟨m1++m2,by rw [e2,Array.append_assoc]⟩
 ·obtain ⟨m,hn,hl⟩:=I.loc
  refine ⟨m,ns m hn,fun i x v e1 e2 e3=>?_⟩
  obtain ⟨u,r,l⟩:=hl i x v e1 e2 e3
  refine ⟨u,r,?_⟩
  rcases l with l | ⟨k,c,e,z⟩
  ·exact .inl l
  ·exact .inr ⟨k,c,e,cellK x c e _ z⟩
 ·obtain ⟨v,z⟩:=I.cell x c e
  exact ⟨v,cellK x c e v z⟩
 ·obtain ⟨m,⟨o,_,_,ho,_⟩,_⟩:=I.loc
  exact free _ o (fun z=>(hch _ z).2.1 rfl) ho I.free
 ·obtain ⟨v,o,ho,hd⟩:=I.cell x c e
  exact free c o (fun z=>(hch c z).2.2.1 x c e rfl) ho (I.freeC x c e)
 ·obtain ⟨e,n,ne,nf,d⟩:=I.pin p hp
  have nch:p.1 ∉ ch:=fun z=>(hch p.1 z).2.2.2 p hp rfl
  exact ⟨keep p.1 p.2 ne nf nch e n,free p.1 p.2 nch e n,ne,nf,d⟩
theorem Inv.un {t':Nat} (I:Inv X pins σ H s) (u:Un X.fs [] H H' s.heap h') (hok:HOk X.prog X.w H' h'):Inv X pins σ H' { s with heap:=h',toks:=t' }:=by
 obtain ⟨m,⟨o,es,ep,ho,r⟩,_⟩:=id I.loc
 obtain ⟨sl,hL⟩:=u.any ho I.free (by simp)
 exact I.step (g':=s.gens) (d':=s.drawn) (ch:=[]) (fun _ z=>nomatch z) (fun b o _ hb _ e n=>u.keep b o e n hb (by simp)) (fun b o _ hb _ e n=>u.slot b o e n hb (by simp)) (fun b o _ e n=>u.free b o e n (by simp)) (fun b o _ e=>u.there b o e (by simp)) u.tups u.frzs u.tbls (fun m' hm=>by
  obtain ⟨o',es',ep',ho',r'⟩:=hm
  rw [ho] at ho'; cases ho'
  exact ⟨_,es',ep',hL,r'⟩) hok I.bare
theorem Inv.call {g':Array GenState} {t':Nat} {d':Drawn} {ch:List Addr} (I:Inv X pins σ H s) (u:Un (frs X.stack) ch H H' s.heap h') (hok:HOk X.prog X.w H' h') (hg:AllBare g')
  (hch:∀ b∈ch,(b∈X.ex∨X.s_0.heap.objs.size≤b)∧b≠X.env.locals∧(∀ x c,X.env.cells.lookup x=some c→c≠b)∧∀ p∈X.pn++pins,p.1≠b) :
  Inv X pins σ H' { s with heap:=h',gens:=g',drawn:=d',toks:=t' }:=by
 obtain ⟨m,⟨o,es,ep,ho,r⟩,_⟩:=id I.loc
 obtain ⟨sl,hL⟩:=u.any ho I.free fun z=>(hch _ z).2.1 rfl
 exact I.step (ch:=ch) hch (fun b o hL hb hc e n=>u.keep b o e n (fun z=>(List.mem_cons.mp (I.stkSub b z)).elim hL hb) hc) (fun b o _ _ hc e n=>u.any e n hc) (fun b o hc e n=>u.free b o e n hc) (fun b o hc e=>u.there b o e hc) u.tups u.frzs u.tbls (fun m' hm=>by
  obtain ⟨o',es',ep',ho',r'⟩:=hm
  rw [ho] at ho'; cases ho'
  exact ⟨_,es',ep',hL,r'⟩) hok hg
theorem Inv.turned {t':Nat} {it:Addr} (I:Inv X pins σ H s) (k:∀ b o,b≠it→s.heap.get? b=some o→h'.get? b=some o) (hn:H it=none) (hL:it≠X.env.locals)
  (h1:it∈X.ex∨X.s_0.heap.objs.size≤it) (h2:∀ x c,X.env.cells.lookup x=some c→c≠it) (h3:∀ p∈X.pn++pins,p.1≠it):Inv X pins σ H { s with heap:=h',toks:=t' }:=by
 have nit:∀ b u,H b=some u→b≠it:=fun b u e z=>by rw [z,hn] at e; cases e
 refine I.step (g':=s.gens) (d':=s.drawn) (ch:=[it]) (fun b hb=>?_) (fun b o _ _ hc e _=>k b o (fun z=>hc (by simp [z])) e) (fun b o _ _ hc e _=>⟨o.slots,k b o (fun z=>hc (by simp [z])) e⟩) (fun _ _ _ _ n=>n)
  (fun b o hc e=>⟨o,k b o (fun z=>hc (by simp [z])) e⟩) (fun _ _ e=>e) (fun _ _ _ e=>e) (fun b ps e=>⟨#[],by rw [e]; simp⟩) (fun m hm=>?_) (fun b u e=>?_) I.bare
 ·have e:b=it:=by simpa using hb
  subst e
  exact ⟨h1,hL,h2,h3⟩
 ·obtain ⟨o,es,ep,ho,r⟩:=hm
  exact ⟨o,es,ep,k _ o (Ne.symm hL) ho,r⟩
 ·refine (I.hok b u e).stay (fun c v hc q=>k c v ?_ q) (fun _ q=>q) fun _ _ q=>q
  rcases hc with z | z
  ·rw [z]; exact nit b u e
  ·exact nit c _ z
theorem Inv.tok (I:Inv X pins σ H s) (t:Nat):Inv X pins σ H { s with toks:=t }:=I.un (h':=s.heap) (t':=t) Un.refl I.hok
theorem Inv.kept {t':Nat} (I:Inv X pins σ H s) (k:∀ b u,s.heap.get? b=some u→h'.get? b=some u):Inv X pins σ H { s with heap:=h',toks:=t' }:=I.un (Un.kept k) (I.hok.kept k)
theorem Inv.laid {a:Addr} {o:HO} {t':Nat} (I:Inv X pins σ H s) (k:∀ b u,s.heap.get? b=some u→h'.get? b=some u) (hp:s.heap.objs.size≤a) (new:ObjOk X.prog X.w (upd H a o) h' a o) :
  Inv X pins σ (upd H a o) { s with heap:=h',toks:=t' }:=I.un (Un.laid k hp (I.hok.fresh hp)) (I.hok.laid k hp new)
theorem Inv.write {x e:Addr} {o:HO} {t':Nat} (I:Inv X pins σ H s) (mu:Mut (H x)) (he:e=x∨H e=some (.own x)) (k:∀ b u,b≠e→s.heap.get? b=some u→h'.get? b=some u) (heo:∃ u,h'.get? e=some u)
  (new:ObjOk X.prog X.w (upd H x o) h' x o):Inv X pins σ (upd H x o) { s with heap:=h',toks:=t' }:=I.un (Un.write mu he k heo) (I.hok.write mu he k heo new)
theorem Inv.weak {σ':List (Option V)} (I:Inv X pins σ H s) (hl:σ'.length=σ.length) (w:∀ (i:Nat) v,σ'[i]?=some (some v)→σ[i]?=some (some v)):Inv X pins σ' H s :=
 ⟨I.ok,I.os,I.bare,I.base,let ⟨m,hn,hl'⟩:=I.loc; ⟨m,hn,fun i x v e1 e2 e3=>hl' i x v e1 (w i v e2) e3⟩,I.cell,I.free,I.freeC,I.pin,I.hok,hl.trans I.len⟩
theorem Inv.pins_of {pins':List (Addr×Obj)} (I:Inv X pins σ H s) (h:∀ p∈pins',s.heap.get? p.1=some p.2∧H p.1=none∧p.1≠X.env.locals∧p.1 ∉ X.fs∧∀ v,p.2.data≠.cell v):Inv X pins' σ H s :=
 ⟨I.ok,I.os,I.bare,I.base,I.loc,I.cell,I.free,I.freeC,fun p hp=>(List.mem_append.mp hp).elim (fun z=>I.pin p (List.mem_append_left _ z)) (h p),I.hok,I.len⟩
theorem zeW {N:List Str} (hN:N.Nodup) {i j:Nat} {x:Str} (a:N[i]?=some x) (b:N[j]?=some x):i=j:=by
 obtain ⟨h1,e1⟩:=List.getElem?_eq_some_iff.mp a
 obtain ⟨h2,e2⟩:=List.getElem?_eq_some_iff.mp b
 exact (List.getElem_inj hN).mp (e1.trans e2.symm)
theorem zfl {M:Model} {A:Around} {E:Value→Shared→Prop} {i:Nat} {x:Str} {v:V} {u:Value} {Q:Unit→Shared→Prop} (I:Inv X pins σ H s) (hN:X.N.Nodup) (hi:X.N[i]?=some x) (hx:Loc X.env.scope x) (r:RelV v u)
  (h:∀ s',Inv X pins (σ.set i (some v)) H s'→(∃ a,Heap.SameBut a s.heap s'.heap∧(a=X.env.locals∨X.env.cells.lookup x=some a))→Q () s') (hf:X.fn x=true∨X.env.scope.names.lookup x=some .local:=by first | exact .inl rfl | exact .inr rfl | assumption):wpAny M A (storeName X.env x u) Q E s:=by
 obtain ⟨m,hn,hl⟩:=id I.loc
 have hcls:(X.env.scope.kind == .class || (X.env.scope.kind == .module && X.env.locals != X.env.globals))=false:=by rw [I.ok.kind]; rfl
 have hiσ:i < σ.length:=by rw [I.len]; exact (List.getElem?_eq_some_iff.mp hi).1
 have cne:=I.cne
 have tracked:∀ {a:Addr} {h':Heap},(∃ o,s.heap.get? a=some o∧H a=none)→Heap.SameBut a s.heap h'→HOk X.prog X.w H h':=fun {a h'} ha hs b ob e=>by
  obtain ⟨_,_,hfree⟩:=ha
  refine (I.hok b ob e).stay (fun c w' hc q=>(hs.2 c ?_).trans q) (fun _ q=>q) fun _ _ q=>q
  rintro rfl
  rcases hc with rfl | hc
  ·rw [hfree] at e; cases e
  ·rw [hfree] at hc; cases hc
 rcases hx with hk | hk
 ·refine wpAny_storeName_local hk hn (fun h' hn' hs=>?_) hcls
  obtain ⟨oL,_,_,hoL,_⟩:=id hn
  refine h _ ⟨I.ok,I.os,I.bare,⟨fun b o e n hb hx=>?_,fun b o e n hb hx=>?_,I.base.free,fun b o e hx=>?_,I.base.tups,I.base.frzs,I.base.tbls⟩,⟨_,hn',fun j y v' e1 e2 e3=>?_⟩,fun y c e=>?_,I.free,I.freeC,fun p hp=>?_,tracked ⟨oL,hoL,I.free⟩ hs,by simpa using I.len⟩ ⟨_,hs,.inl rfl⟩
  ·exact (hs.2 b (Nat.ne_of_lt (Nat.lt_of_lt_of_le (Heap.lt_size e) I.ok.above))).trans (I.base.keep b o e n hb hx)
  ·obtain ⟨sl,e1⟩:=I.base.slot b o e n hb hx
   exact ⟨sl,(hs.2 b (Nat.ne_of_lt (Nat.lt_of_lt_of_le (Heap.lt_size e) I.ok.above))).trans e1⟩
  ·obtain ⟨o',e1⟩:=I.base.there b o e hx
   exact ⟨o',(hs.2 b (Nat.ne_of_lt (Nat.lt_of_lt_of_le (Heap.lt_size e) I.ok.above))).trans e1⟩
  ·by_cases hj:j=i
   ·subst hj
    rw [hi] at e1; cases e1
    rw [List.getElem?_set_self hiσ] at e2
    cases e2
    exact ⟨u,r,.inl ⟨hk,by simp⟩⟩
   ·rw [List.getElem?_set_ne (Ne.symm hj)] at e2
    obtain ⟨u',r',q⟩:=hl j y v' e1 e2 e3
    refine ⟨u',r',?_⟩
    rcases q with ⟨k,e⟩ | ⟨k,c,e,z⟩
    ·refine .inl ⟨k,?_⟩
     have:y≠x:=fun e=>hj (zeW hN e1 (e ▸ hi))
     simp [this,e]
    ·exact .inr ⟨k,c,e,z.sameBut hs (cne y c e)⟩
  ·obtain ⟨w',z⟩:=I.cell y c e
   exact ⟨w',z.sameBut hs (cne y c e)⟩
  ·obtain ⟨e,n,ne,nf,d⟩:=I.pin p hp
   exact ⟨(hs.2 p.1 ne).trans e,n,ne,nf,d⟩
 ·have hfn:X.fn x=true:=by
   rcases hf with z | z
   ·exact z
   ·rw [z] at hk; cases hk
  obtain ⟨c,hc⟩:=I.ok.has x (.inl hk)
  obtain ⟨w',z⟩:=I.cell x c hc
  refine wpAny_storeName_cell I.ok.kind hk hc z (fun h' hc' hs=>?_)
  obtain ⟨oc,hoc,hocd⟩:=id z
  refine h { s with heap:=h' } ⟨I.ok,I.os,I.bare,⟨fun b o e n hb hx=>?_,fun b o e n hb hx=>?_,I.base.free,fun b o e hx=>?_,I.base.tups,I.base.frzs,I.base.tbls⟩,⟨m,hn.sameBut hs (Ne.symm (cne x c hc)),fun j y v' e1 e2 e3=>?_⟩,fun y c' e=>?_,I.free,I.freeC,fun p hp=>?_,tracked ⟨oc,hoc,I.freeC x c hc⟩ hs,by simpa using I.len⟩ ⟨c,hs,.inr hc⟩
  ·exact (hs.2 b (Nat.ne_of_lt (Nat.lt_of_lt_of_le (Heap.lt_size e) (I.ok.cab x c hfn hc)))).trans (I.base.keep b o e n hb hx)
  ·obtain ⟨sl,e1⟩:=I.base.slot b o e n hb hx
   exact ⟨sl,(hs.2 b (Nat.ne_of_lt (Nat.lt_of_lt_of_le (Heap.lt_size e) (I.ok.cab x c hfn hc)))).trans e1⟩
  ·obtain ⟨o',e1⟩:=I.base.there b o e hx
   exact ⟨o',(hs.2 b (Nat.ne_of_lt (Nat.lt_of_lt_of_le (Heap.lt_size e) (I.ok.cab x c hfn hc)))).trans e1⟩
  ·by_cases hj:j=i
   ·subst hj
    rw [hi] at e1; cases e1
    rw [List.getElem?_set_self hiσ] at e2
    cases e2
    exact ⟨u,r,.inr ⟨.inl hk,c,hc,hc'⟩⟩
   ·rw [List.getElem?_set_ne (Ne.symm hj)] at e2
    obtain ⟨u',r',q⟩:=hl j y v' e1 e2 e3
    refine ⟨u',r',?_⟩
    rcases q with q | ⟨k,c',e,z'⟩
    ·exact .inl q
    ·refine .inr ⟨k,c',e,z'.sameBut hs ?_⟩
     rintro rfl
     exact hj (zeW hN e1 (I.ok.inj _ _ _ e hc ▸ hi))
  ·by_cases hcc:c'=c
   ·subst hcc; exact ⟨_,hc'⟩
   ·obtain ⟨w2,z2⟩:=I.cell y c' e
    exact ⟨w2,z2.sameBut hs hcc⟩
  ·obtain ⟨e,n,ne,nf,d⟩:=I.pin p hp
   refine ⟨(hs.2 p.1 ?_).trans e,n,ne,nf,d⟩
   intro q
   rw [q,hoc] at e
   have q':oc=p.2:=Option.some.inj e
   exact d w' (by rw [← q']; exact hocd)
theorem zew {M:Model} {A:Around} {E:Value→Shared→Prop} {i:Nat} {x:Str} {v:V} {u:Value} {Q:Unit→Shared→Prop} (I:Inv X pins σ H s) (hN:X.N.Nodup) (hi:X.N[i]?=some x) (hx:Loc X.env.scope x) (r:RelV v u)
  (h:∀ s',Inv X pins (σ.set i (some v)) H s'→Q () s') (hf:X.fn x=true∨X.env.scope.names.lookup x=some .local:=by first | exact .inl rfl | exact .inr rfl | assumption):wpAny M A (storeName X.env x u) Q E s :=
 zfl I hN hi hx r (fun s' I' _=>h s' I') hf
theorem Inv.call' {s':Shared} {ch:List Addr} (I:Inv X pins σ H s) (ho:s'.os=s.os) (u:Un (frs X.stack) ch H H' s.heap s'.heap) (hok:HOk X.prog X.w H' s'.heap) (hg:AllBare s'.gens)
  (hch:∀ b∈ch,(b∈X.ex∨X.s_0.heap.objs.size≤b)∧b≠X.env.locals∧(∀ x c,X.env.cells.lookup x=some c→c≠b)∧∀ p∈X.pn++pins,p.1≠b):Inv X pins σ H' s':=by
 obtain ⟨h',g',d',t',o'⟩:=s'
 have e:o'=s.os:=ho
 subst e
 exact I.call (g':=g') (t':=t') (d':=d') u hok hg hch
end
abbrev XK:=Value→Option Addr→Hp→Prop
abbrev St:=List (Option V)
abbrev VK:=V→Hp→Prop
abbrev TE:=St→Hp→VK→Prop
abbrev TT:=St→Hp→(Bool→Hp→Prop)→Prop
abbrev TA:=St→Hp→(List V→Hp→Prop)→Prop
structure Ends where
 nx:St→Hp→Prop
 rt:VK
 bk:St→Hp→Prop:=fun _ _=>False
 ct:St→Hp→Prop:=fun _ _=>False
abbrev TS:=Ends→St→Hp→Prop
def EP (X:Cx) (pins:List (Addr×Obj)) (σ:St) (Q:VK) (u:Value) (s':Shared):Prop:=∃ v H',Inv X pins σ H' s'∧RelV v u∧Q v H'
def TP (X:Cx) (pins:List (Addr×Obj)) (σ:St) (Q:Bool→Hp→Prop) (b:Bool) (s':Shared):Prop:=∃ H',Inv X pins σ H' s'∧Q b H'
def AP (X:Cx) (pins:List (Addr×Obj)) (σ:St) (Q:List V→Hp→Prop) (us:List Value) (s':Shared):Prop:=∃ vs H',Inv X pins σ H' s'∧Vals vs us∧Q vs H'
def SP (X:Cx) (pins:List (Addr×Obj)) (D:Ends) (f:Flow) (s':Shared):Prop :=
 match f with
 | .next=>∃ σ' H',Inv X pins σ' H' s'∧D.nx σ' H'
 | .brk=>∃ σ' H',Inv X pins σ' H' s'∧D.bk σ' H'
 | .cont=>∃ σ' H',Inv X pins σ' H' s'∧D.ct σ' H'
 | .ret u=>∃ v σ' H',Inv X pins σ' H' s'∧RelV v u∧D.rt v H'
def PE (X:Cx) (e:Expr) (t:TE):Prop :=
 ∀ (pins:List (Addr×Obj)) (s:Shared) (σ:St) (H:Hp) (Q:VK),Inv X pins σ H s→t σ H Q→wpAny (model X.prog X.w) X.A (eval e X.env) (EP X pins σ Q) X.xe s
def PT (X:Cx) (e:Expr) (t:TT):Prop :=
 ∀ (pins:List (Addr×Obj)) (s:Shared) (σ:St) (H:Hp) (Q:Bool→Hp→Prop),Inv X pins σ H s→t σ H Q→wpAny (model X.prog X.w) X.A (isTrue e X.env (eval e X.env)) (TP X pins σ Q) X.xe s
def PW (X:Cx) (e:Expr) (t:TT):Prop :=
 ∀ (whole:Sem Value) (pins:List (Addr×Obj)) (s:Shared) (σ:St) (H:Hp) (Q:Bool→Hp→Prop),Inv X pins σ H s→t σ H Q→wpAny (model X.prog X.w) X.A (isTrue e X.env whole) (TP X pins σ Q) X.xe s
theorem PW.pt {X:Cx} {e:Expr} {t:TT} (h:PW X e t):PT X e t:=h _
def PA (X:Cx) (es:List Expr) (t:TA):Prop :=
 ∀ (pos:Pos) (pins:List (Addr×Obj)) (s:Shared) (σ:St) (H:Hp) (Q:List V→Hp→Prop),Inv X pins σ H s→t σ H Q→wpAny (model X.prog X.w) X.A (spliced (backTo pos (starEach es X.env))) (AP X pins σ Q) X.xe s
def PS (X:Cx) (st:Stmt) (t:TS):Prop :=
 ∀ (pins:List (Addr×Obj)) (s:Shared) (σ:St) (H:Hp) (D:Ends),Inv X pins σ H s→t D σ H→wpAny (model X.prog X.w) X.A (exec st X.env) (SP X pins D) X.xe s
def PSs (X:Cx) (st:List Stmt) (t:TS):Prop :=
 ∀ (pins:List (Addr×Obj)) (s:Shared) (σ:St) (H:Hp) (D:Ends),Inv X pins σ H s→t D σ H→wpAny (model X.prog X.w) X.A (execs st X.env) (SP X pins D) X.xe s
theorem thn {α:Type} {t:Sem α} {Q Q':α→Shared→Prop} {M:Model} {A:Around} {E:Value→Shared→Prop} {s:Shared} (h:wpAny M A t Q E s) (hQ:∀ a s,Q a s→Q' a s):wpAny M A t Q' E s:=wpAny_mono h hQ fun _ _ x=>x
end L2
namespace L2
open PySem PySem.Spec PyProof.Rows
section
variable {X:Cx}
def tVar (i:Nat):TE:=fun σ H Q=>∃ v,σ[i]?=some (some v)∧Q v H
def tC (v:V):TE:=fun _ H Q=>Q v H
theorem zkJ {i:Nat} {x:Str} {pos:Pos} (hN:X.N[i]?=some x) (hv:Vis X.env.scope x) (hd:(x == ("__debug__":Str))=false:=by decide) (hcd:(x == ("__classdict__":Str))=false:=by decide):PE X (.Name x pos) (tVar i):=by
 intro pins s σ H Q I h
 obtain ⟨v,e,h⟩:=h
 obtain ⟨m,hn,hl⟩:=I.loc
 obtain ⟨u,r,l⟩:=hl i x v hN e hv
 have fin:EP X pins σ Q u s:=⟨v,H,I,r,h⟩
 rcases l with ⟨hk,hm⟩ | ⟨hk,c,hc,hcell⟩
 ·exact wpAny_Name (wpAny_loadName_local I.ok.kind hk hn hm fin) hd
 ·rcases hk with hk | hk
  ·exact wpAny_Name (wpAny_loadName_cell I.ok.kind hk hc hcell fin) hd
  ·exact wpAny_Name (wpAny_loadName_free I.ok.kind hk hc hcell fin hcd) hd
theorem zaf {i j pos}:PE X (.Constant (.int i) j pos) (tC (.int i)):=fun _ _ _ H _ I h=>wpAny_Constant_int ⟨.int i,H,I.tok _,⟨_,rfl⟩,h⟩
theorem zj9 {b j pos}:PE X (.Constant (.bool b) j pos) (tC (.bl b)):=fun _ _ _ H _ I h=>Constant_bool ⟨.bl b,H,I,rfl,h⟩
theorem zkM {j pos}:PE X (.Constant .none j pos) (tC .non):=fun _ _ _ H _ I h=>Constant_none ⟨.non,H,I,rfl,h⟩
def Gl (X:Cx) (x:Str):Prop:=X.env.kindOf x=some .globalImplicit
theorem zeZ {E:Value→Shared→Prop} {pins:List (Addr×Obj)} {s:Shared} {σ:St} {H:Hp} {x:Str} {u:Value} {pos:Pos} {Q:Value→Shared→Prop} (I:Inv X pins σ H s) (hg:Gl X x) (hm:X.mg x=some u) (h:Q u s)
  (hd:(x == ("__debug__":Str))=false:=by decide):wpAny (model X.prog X.w) X.A (eval (.Name x pos) X.env) Q E s :=
 Calls.Name_function_global I.ok.kind hg (Calls.loadGlobal_global (by rw [I.ok.glob]; exact I.mod.glob.keeps I.bk) hm h) hd
theorem zem {E:Value→Shared→Prop} {pins:List (Addr×Obj)} {s:Shared} {σ:St} {H:Hp} {x:Str} {u:Value} {pos:Pos} {Q:Value→Shared→Prop} (I:Inv X pins σ H s) (hg:Gl X x) (hm:X.mg x=none) (hv:bootBuiltins x=some u) (h:Q u s)
  (hn:x≠"__name__":=by decide) (hd:(x == ("__debug__":Str))=false:=by decide):wpAny (model X.prog X.w) X.A (eval (.Name x pos) X.env) Q E s:=by
 obtain ⟨mb,h1,h2⟩:=I.mod.blt
 exact Calls.Name_function_global I.ok.kind hg (Calls.loadGlobal_builtin (by rw [I.ok.glob]; exact I.mod.glob.keeps I.bk) hm (by rw [I.ok.blt]; exact h1.keeps I.bk) ((h2 x hn).trans hv) h) hd
theorem zeS {x:Str} {v:V} {u:Value} {pos:Pos} (hg:Gl X x) (hm:X.mg x=some u) (r:RelV v u) (hd:(x == ("__debug__":Str))=false:=by decide):PE X (.Name x pos) (tC v) :=
 fun _ _ _ H _ I h=>zeZ I hg hm ⟨v,H,I,r,h⟩ hd
variable {a b:Expr} {ta tb:TE} {pos:Pos}
def PC (X:Cx) (op:CmpOp) (a b:Expr) (t:TE):Prop :=
 ∀ (pins:List (Addr×Obj)) (s:Shared) (σ:St) (H:Hp) (Q:VK),Inv X pins σ H s→t σ H Q →
  wpAny (model X.prog X.w) X.A (eval a X.env) (fun v s₁=>wpAny (model X.prog X.w) X.A (eval b X.env) (fun u s₂=>wpAny (model X.prog X.w) X.A (compareOp op v u) (EP X pins σ Q) X.xe s₂) X.xe s₁) X.xe s
theorem nobehind (b:Expr) {op:CmpOp} (h:op≠.In) (h2:op≠.NotIn):behindInMarks op b=false:=by
 have e1:(op == CmpOp.In)=false:=by cases op<;>first | rfl | exact absurd rfl h
 have e2:(op == CmpOp.NotIn)=false:=by cases op<;>first | rfl | exact absurd rfl h2
 cases b<;>simp [behindInMarks,e1,e2]
def tNotN (ta:TE):TE:=fun σ H Q=>ta σ H fun x H1=>Q (.bl (!decide (x = .non))) H1
theorem RelV.none_iff {x:V} {v:Value} (r:RelV x v):(v == Value.none)=decide (x = .non):=by
 cases x with
 | non=>cases r; rfl
 | bl _=>cases r; rfl
 | int _=>obtain ⟨t,rfl⟩:=r; rfl
 | str _=>obtain ⟨t,rfl⟩:=r; rfl
 | byt _=>obtain ⟨t,rfl⟩:=r; rfl
 | flt _=>obtain ⟨t,rfl⟩:=r; rfl
 | ref _=>cases r; rfl
 | ty _=>cases r; rfl
theorem zka {j pos'} (ha:PE X a ta):PC X .IsNot a (.Constant .none j pos') (tNotN ta):=by
 intro pins s σ H Q I h
 refine thn (ha pins s σ H _ I h) fun v s1 ⟨x,H1,I1,r1,q1⟩=>?_
 exact Constant_none (isnot_none_gen ⟨.bl _,H1,I1,by rw [r1.none_iff]; rfl,q1⟩)
def tB (t:TE):TT:=fun σ H Q=>t σ H fun x H1=>∃ c,x = .bl c∧Q c H1
theorem zhS {op:CmpOp} {t:TE} (h:PC X op a b t) (h1:behindInMarks op b=false:=by first | exact nobehind _ (by decide) (by decide) | rfl):PT X (.Compare a [op] [b] pos) (tB t):=by
 intro pins s σ H Q I hw
 refine wpAny_isTrue_Compare1 (thn (h pins s σ H _ I hw) fun v s1 h1=>thn h1 fun u s2 h2=>thn h2 fun c s3 ⟨x,H1,I1,r1,q1⟩=>?_) h1
 obtain ⟨d,rfl,q⟩:=q1
 cases r1
 exact wpAny_truthy_bool ⟨H1,I1,q⟩
theorem zbD {e:Expr} {t:TE} (h:PE X e t) (he:∀ whole,isTrue e X.env whole=(do let v ← whole; standAt e.pos; holding [v] (truthy v)):=by intro _; rfl):PT X e (tB t):=by
 intro pins s σ H Q I hw
 refine isTrue_plain (thn (h pins s σ H _ I hw) fun v s1 ⟨x,H1,I1,r1,q1⟩=>?_) (he _)
 obtain ⟨d,rfl,q⟩:=q1
 cases r1
 exact wpAny_truthy_bool ⟨H1,I1,q⟩
variable {tA tB':TT} {rest:List Expr}
def tAnd (t u:TT):TT:=fun σ H Q=>t σ H fun c H1=>if c=true then u σ H1 Q else Q false H1
def tOr (t u:TT):TT:=fun σ H Q=>t σ H fun c H1=>if c=true then Q true H1 else u σ H1 Q
def tNot (t:TT):TT:=fun σ H Q=>t σ H fun c H1=>Q (!c) H1
theorem zge (ha:PT X a tA):PW X (.BoolOp .And [a] pos) tA:=by
 intro wh pins s σ H Q I h
 refine isTrue_and (thn (ha pins s σ H Q I h) fun c s1 e=>?_)
 cases c with
 | true=>exact isTrue_and_nil e
 | false=>exact e
theorem zel (ha:PT X a tA):PW X (.BoolOp .Or [a] pos) tA:=by
 intro wh pins s σ H Q I h
 refine isTrue_or (thn (ha pins s σ H Q I h) fun c s1 e=>?_)
 cases c with
 | false=>exact isTrue_or_nil e
 | true=>exact e
theorem zhR (ha:PT X a tA) (hb:PW X (.BoolOp .And (b::rest) pos) tB'):PW X (.BoolOp .And (a::b::rest) pos) (tAnd tA tB'):=by
 intro wh pins s σ H Q I h
 refine isTrue_and (thn (ha pins s σ H _ I h) fun c s1 ⟨H1,I1,q1⟩=>?_)
 cases c with
 | true=>exact hb wh pins s1 σ H1 Q I1 q1
 | false=>exact ⟨H1,I1,q1⟩
theorem zg9 (ha:PT X a tA) (hb:PW X (.BoolOp .Or (b::rest) pos) tB'):PW X (.BoolOp .Or (a::b::rest) pos) (tOr tA tB'):=by
 intro wh pins s σ H Q I h
 refine isTrue_or (thn (ha pins s σ H _ I h) fun c s1 ⟨H1,I1,q1⟩=>?_)
 cases c with
 | true=>exact ⟨H1,I1,q1⟩
 | false=>exact hb wh pins s1 σ H1 Q I1 q1
theorem zbE (ha:PT X a tA):PT X (.UnaryOp .Not a pos) (tNot tA):=by
 intro pins s σ H Q I h
 exact isTrue_not (ha pins s σ H (fun c H1=>Q (!c) H1) I h)
def tAndV (ta tb:TE):TE:=fun σ H Q=>ta σ H fun x H1=>∃ c,x = .bl c∧if c=true then tb σ H1 Q else Q (.bl false) H1
def tOrV (ta tb:TE):TE:=fun σ H Q=>ta σ H fun x H1=>∃ c,x = .bl c∧if c=true then Q (.bl true) H1 else tb σ H1 Q
def tNotV (ta:TE):TE:=fun σ H Q=>ta σ H fun x H1=>∃ c,x = .bl c∧Q (.bl (!c)) H1
theorem zh2 {op} {t:TE} (h:PE X a t):PE X (.BoolOp op [a] pos) t:=fun pins s σ H Q I hw=>BoolOp_one (h pins s σ H Q I hw)
theorem zjN (ha:PE X a ta) (hb:PE X (.BoolOp .And (b::rest) pos) tb):PE X (.BoolOp .And (a::b::rest) pos) (tAndV ta tb):=by
 intro pins s σ H Q I h
 refine BoolOp_and (thn (ha pins s σ H _ I h) fun v s1 ⟨x,H1,I1,r1,q1⟩=>?_)
 obtain ⟨c,rfl,q1⟩:=q1
 cases r1
 refine wpAny_truthy_bool ?_
 cases c with
 | true=>exact hb pins s1 σ H1 Q I1 q1
 | false=>exact ⟨.bl false,H1,I1,rfl,q1⟩
theorem zkK (ha:PE X a ta) (hb:PE X (.BoolOp .Or (b::rest) pos) tb):PE X (.BoolOp .Or (a::b::rest) pos) (tOrV ta tb):=by
 intro pins s σ H Q I h
 refine BoolOp_or (thn (ha pins s σ H _ I h) fun v s1 ⟨x,H1,I1,r1,q1⟩=>?_)
 obtain ⟨c,rfl,q1⟩:=q1
 cases r1
 refine wpAny_truthy_bool ?_
 cases c with
 | false=>exact hb pins s1 σ H1 Q I1 q1
 | true=>exact ⟨.bl true,H1,I1,rfl,q1⟩
theorem zkL (ha:PE X a ta):PE X (.UnaryOp .Not a pos) (tNotV ta):=by
 intro pins s σ H Q I h
 refine UnaryOp_ (thn (ha pins s σ H _ I h) fun v s1 ⟨x,H1,I1,r1,q1⟩=>?_)
 obtain ⟨c,rfl,q1⟩:=q1
 cases r1
 exact not_of (wpAny_truthy_bool ⟨.bl (!c),H1,I1,rfl,q1⟩)
def tIf (t:TT) (ta tb:TE):TE:=fun σ H Q=>t σ H fun c H1=>if c=true then ta σ H1 Q else tb σ H1 Q
theorem zcl {c:Expr} (hc:PT X c tA) (ha:PE X a ta) (hb:PE X b tb):PE X (.IfExp c a b pos) (tIf tA ta tb):=by
 intro pins s σ H Q I h
 refine wpAny_IfExp (thn (hc pins s σ H _ I h) fun d s1 ⟨H1,I1,q1⟩=>?_)
 cases d with
 | true=>exact ha pins s1 σ H1 Q I1 q1
 | false=>exact hb pins s1 σ H1 Q I1 q1
end
end L2
namespace L2
open PySem PySem.Spec PyProof.Rows
def SqL (K:PySem.W.Frag) (H:Hp) (a:Addr) (xs:List V):Prop :=
 Rd H a (.lst xs) ∨
  ∃ (o:Obj) (its:Array Value) (n:Nat),K.lookup a=some o∧o.cls = .type "list"∧o.dict=none∧o.data = .seq its n∧its.size≤sizeLine∧Vals xs its.toList
def SqT (K:PySem.W.Frag) (H:Hp) (a:Addr) (xs:List V):Prop :=
 Rd H a (.tup xs) ∨
  ∃ (o:Obj) (its:Array Value) (n:Nat),K.lookup a=some o∧o.cls = .type "tuple"∧o.data = .seq its n∧its.size≤sizeLine∧Vals xs its.toList
def absV:Value→Option V
 | .none=>some .non
 | .bool b=>some (.bl b)
 | .int i _=>some (.int i)
 | .str x _=>some (.str x)
 | .bytes b _=>some (.byt b)
 | .float b _=>some (.flt b)
 | .ref a=>some (.ref a)
 | .type n=>some (.ty n)
 | _=>none
theorem RelV.abs {x:V} {u:Value} (r:RelV x u):absV u=some x:=by
 cases x with
 | non=>cases r; rfl
 | bl _=>cases r; rfl
 | int _=>obtain ⟨t,rfl⟩:=r; rfl
 | str _=>obtain ⟨t,rfl⟩:=r; rfl
 | byt _=>obtain ⟨t,rfl⟩:=r; rfl
 | flt _=>obtain ⟨t,rfl⟩:=r; rfl
 | ref _=>cases r; rfl
 | ty _=>cases r; rfl
theorem RelV.inj {x y:V} {u:Value} (r:RelV x u) (q:RelV y u):x=y:=Option.some.inj (r.abs.symm.trans q.abs)
theorem Vals.inj:∀ {xs ys:List V} {us:List Value},Vals xs us→Vals ys us→xs=ys
 | _,_,_,.nil,.nil=>rfl
 | _,_,_,.cons r t,.cons r' t'=>by rw [r.inj r',Vals.inj t t']
section
variable {X:Cx} {pins:List (Addr×Obj)} {σ:St} {H:Hp} {s:Shared} {a:Addr} {xs ys:List V}
theorem SqL.of {K:PySem.W.Frag} (h:H a=some (.lst xs)):SqL K H a xs:=.inl (.inl h)
theorem SqT.of {K:PySem.W.Frag} (h:H a=some (.tup xs)):SqT K H a xs:=.inl (.inl h)
theorem Inv.list (I:Inv X pins σ H s) (h:SqL X.K H a xs):∃ its:List Value,Vals xs its∧PlainL s.heap a its.toArray∧xs.length≤sizeLine:=by
 rcases h with h | ⟨o,its,n,hk,hc,hd,hs,hz,r⟩
 ·obtain ⟨z,its,n,r,e⟩:=h.ok I.hok
  exact ⟨its,r,⟨_,n,e,rfl,rfl,rfl⟩,z⟩
 ·refine ⟨its.toList,r,⟨o,n,I.kIn a o hk,hc,hd,by simpa using hs⟩,?_⟩
  have e:=r.length
  simp only [Array.length_toList] at e
  omega
theorem Inv.tuple (I:Inv X pins σ H s) (h:SqT X.K H a xs):∃ its:List Value,Vals xs its∧IsTup s.heap a its.toArray∧xs.length≤sizeLine:=by
 rcases h with h | ⟨o,its,n,hk,hc,hs,hz,r⟩
 ·obtain ⟨z,its,r,p⟩:=h.ok I.hok
  exact ⟨its,r,p,z⟩
 ·refine ⟨its.toList,r,⟨o,I.kIn a o hk,hc,n,by simpa using hs⟩,?_⟩
  have e:=r.length
  simp only [Array.length_toList] at e
  omega
theorem Inv.list_inj (I:Inv X pins σ H s) (h:SqL X.K H a xs) (h':SqL X.K H a ys):xs=ys:=by
 obtain ⟨its,r,⟨o,n,e,_,_,d⟩,_⟩:=I.list h
 obtain ⟨its',r',⟨o',n',e',_,_,d'⟩,_⟩:=I.list h'
 rw [e] at e'; cases e'
 rw [d] at d'
 injection d' with d1 _
 have:its=its':=by simpa using congrArg Array.toList d1
 subst this
 exact r.inj r'
theorem Inv.tuple_inj (I:Inv X pins σ H s) (h:SqT X.K H a xs) (h':SqT X.K H a ys):xs=ys:=by
 obtain ⟨its,r,⟨o,e,_,n,d⟩,_⟩:=I.tuple h
 obtain ⟨its',r',⟨o',e',_,n',d'⟩,_⟩:=I.tuple h'
 rw [e] at e'; cases e'
 rw [d] at d'
 injection d' with d1 _
 have:its=its':=by simpa using congrArg Array.toList d1
 subst this
 exact r.inj r'
end
abbrev Cx.wish (X:Cx) (E:Value→Shared→Prop):Cx:={ X with xe:=E }
abbrev Cx.nox (X:Cx):Cx:=X.wish fun _ _=>False
theorem Cx.Ok.wish {X:Cx} (ok:X.Ok) (E:Value→Shared→Prop):(X.wish E).Ok :=
 ⟨ok.mod,ok.kind,ok.glob,ok.blt,ok.above,ok.inj,ok.has,ok.cab,ok.hd,ok.frames,ok.stk,ok.exf,ok.bs,ok.bsz,ok.noex,ok.exfs,ok.funs,ok.frf⟩
theorem Cx.Ok.unwish {X:Cx} {E:Value→Shared→Prop} (ok:(X.wish E).Ok):X.Ok :=
 ⟨ok.mod,ok.kind,ok.glob,ok.blt,ok.above,ok.inj,ok.has,ok.cab,ok.hd,ok.frames,ok.stk,ok.exf,ok.bs,ok.bsz,ok.noex,ok.exfs,ok.funs,ok.frf⟩
section
variable {X:Cx} {pins:List (Addr×Obj)} {σ:St} {H:Hp} {s:Shared} {E:Value→Shared→Prop}
theorem Inv.wish (I:Inv X pins σ H s) (E:Value→Shared→Prop):Inv (X.wish E) pins σ H s:=⟨I.ok.wish E,I.os,I.bare,I.base,I.loc,I.cell,I.free,I.freeC,I.pin,I.hok,I.len⟩
theorem Inv.unwish (I:Inv (X.wish E) pins σ H s):Inv X pins σ H s:=⟨I.ok.unwish,I.os,I.bare,I.base,I.loc,I.cell,I.free,I.freeC,I.pin,I.hok,I.len⟩
theorem SP.unwish {D:Ends} {f:Flow} {s':Shared} (h:SP (X.wish E) pins D f s'):SP X pins D f s':=by
 cases f with
 | next=>obtain ⟨σ',H',I,q⟩:=h; exact ⟨σ',H',I.unwish,q⟩
 | brk=>obtain ⟨σ',H',I,q⟩:=h; exact ⟨σ',H',I.unwish,q⟩
 | cont=>obtain ⟨σ',H',I,q⟩:=h; exact ⟨σ',H',I.unwish,q⟩
 | ret u=>obtain ⟨v,σ',H',I,r,q⟩:=h; exact ⟨v,σ',H',I.unwish,r,q⟩
theorem PSs.nox {st:List Stmt} {t:TS} (h:PSs X.nox st t):PSs X st t:=fun pins s σ H D I hw =>
 wpAny_mono (h pins s σ H D (I.wish _) hw) (fun _ _ q=>q.unwish) fun _ _ z=>False.elim z
end
section
variable {X:Cx} {st:Stmt} {rest:List Stmt} {t u:TS} {e:Expr} {te:TE} {pos:Pos}
def tNext:TS:=fun D σ H=>D.nx σ H
def tSeq (t u:TS):TS:=fun D σ H=>t { D with nx:=u D } σ H
theorem zaj:PSs X [] tNext:=fun _ _ σ H _ I h=>wpAny_execs_nil ⟨σ,H,I,h⟩
theorem zab (h1:PS X st t) (h2:PSs X rest u):PSs X (st::rest) (tSeq t u):=by
 intro pins s σ H D I h
 refine wpAny_execs_cons (thn (h1 pins s σ H { D with nx:=u D } I h) fun f s1 q=>?_)
 cases f with
 | next =>
  obtain ⟨σ',H',I',q⟩:=q
  exact h2 pins s1 σ' H' D I' q
 | ret v=>exact q
 | brk=>exact q
 | cont=>exact q
theorem zad (h1:PS X st t):PSs X [st] t:=by
 intro pins s σ H D I h
 refine wpAny_execs_cons (thn (h1 pins s σ H D I h) fun f s1 q=>?_)
 cases f with
 | next=>exact wpAny_execs_nil q
 | ret v=>exact q
 | brk=>exact q
 | cont=>exact q
theorem Inv.quiet {pins:List (Addr×Obj)} {σ:St} {H:Hp} {s:Shared} (I:Inv X pins σ H s):interactive X.env=false:=by simp [interactive,I.ok.kind]
def tDrop (te:TE):TS:=fun D σ H=>te σ H fun _ H1=>D.nx σ H1
theorem zaq (he:PE X e te) (hs:swapsWith e none pos.line X.env=pure false:=by rfl):PS X (.Expr e pos) (tDrop te):=by
 intro pins s σ H D I h
 exact wpAny_Expr_any (thn (he pins s σ H _ I h) fun v s1 ⟨x,H1,I1,r1,q1⟩=>⟨σ,H1,I1,q1⟩) I.quiet hs
def tRet (te:TE):TS:=fun D σ H=>te σ H D.rt
theorem zah (he:PE X e te):PS X (.Return (some e) pos) (tRet te):=by
 intro pins s σ H D I h
 exact wpAny_Return_some (thn (he pins s σ H _ I h) fun v s1 ⟨x,H1,I1,r1,q1⟩=>⟨x,σ,H1,I1,r1,q1⟩)
def tIfS (c:TT) (t u:TS):TS:=fun D σ H=>c σ H fun b H1=>if b=true then t D σ H1 else u D σ H1
theorem zaC {c:Expr} {a b:List Stmt} {tc:TT} (hc:PT X c tc) (ha:PSs X a t) (hb:PSs X b u):PS X (.If c a b pos) (tIfS tc t u):=by
 intro pins s σ H D I h
 refine wpAny_If (thn (hc pins s σ H _ I h) fun d s1 ⟨H1,I1,q1⟩=>?_)
 cases d with
 | true=>exact ha pins s1 σ H1 D I1 q1
 | false=>exact hb pins s1 σ H1 D I1 q1
def tNever:TS:=fun _ _ _=>False
theorem zjj:PS X st tNever:=fun _ _ _ _ _ _ h=>h.elim
end
abbrev TG:=V→St→Hp→(St→Hp→Prop)→Prop
abbrev TGs:=List V→St→Hp→(St→Hp→Prop)→Prop
def PG (X:Cx) (target:Expr) (t:TG):Prop :=
 ∀ (pins:List (Addr×Obj)) (s:Shared) (σ:St) (H:Hp) (v:V) (u:Value) (Q:St→Hp→Prop),Inv X pins σ H s→RelV v u→t v σ H Q →
  wpAny (model X.prog X.w) X.A (assign target X.env u) (fun _ s'=>∃ σ' H',Inv X pins σ' H' s'∧Q σ' H') X.xe s
def PGs (X:Cx) (ts:List Expr) (t:TGs):Prop :=
 ∀ (pins:List (Addr×Obj)) (s:Shared) (σ:St) (H:Hp) (vs:List V) (us:List Value) (Q:St→Hp→Prop),Inv X pins σ H s→Vals vs us→t vs σ H Q →
  wpAny (model X.prog X.w) X.A (assignInOrder ((assignEach ts X.env).map (·.2)) us) (fun _ s'=>∃ σ' H',Inv X pins σ' H' s'∧Q σ' H') X.xe s
abbrev TIp:=V→V→Hp→VK→Prop
def PIp (X:Cx) (op:Operator) (t:TIp):Prop :=
 ∀ (pins:List (Addr×Obj)) (s:Shared) (σ:St) (H:Hp) (x y:V) (v u:Value) (Q:VK),Inv X pins σ H s→RelV x v→RelV y u→t x y H Q →
  wpAny (model X.prog X.w) X.A (inplaceOp op v u) (EP X pins σ Q) X.xe s
section
variable {X:Cx} {pos:Pos}
def gName (i:Nat):TG:=fun v σ H Q=>Q (σ.set i (some v)) H
theorem zav {i:Nat} {x:Str} (hN:X.N.Nodup) (hi:X.N[i]?=some x) (hx:Loc X.env.scope x) (hf:X.fn x=true∨X.env.scope.names.lookup x=some .local:=by first | exact .inl rfl | exact .inr rfl | assumption):PG X (.Name x pos) (gName i):=by
 intro pins s σ H v u Q I r h
 exact wpAny_assign_Name (zew I hN hi hx r (fun s' I'=>⟨_,H,I',h⟩) hf)
def gNil:TGs:=fun vs σ H Q=>vs=[]∧Q σ H
def gCons (t:TG) (u:TGs):TGs:=fun vs σ H Q=>∃ v r,vs=v::r∧t v σ H fun σ' H'=>u r σ' H' Q
theorem zdG:PGs X [] gNil:=by
 intro pins s σ H vs us Q I r h
 obtain ⟨e,h⟩:=h
 subst e
 cases r
 exact assignInOrder_nil ⟨σ,H,I,h⟩
theorem zbl {e:Expr} {es:List Expr} {t:TG} {u:TGs} (h1:PG X e t) (h2:PGs X es u)
  (hs:(assignEach (e::es) X.env).map (·.2)=assign e X.env::(assignEach es X.env).map (·.2):=by rfl):PGs X (e::es) (gCons t u):=by
 intro pins s σ H vs us Q I r h
 obtain ⟨v,vr,e1,h⟩:=h
 subst e1
 cases r with
 | cons r rr =>
  rw [hs]
  refine assignInOrder_cons (thn (h1 pins s σ H _ _ _ I r h) fun _ s1 ⟨σ1,H1,I1,q1⟩=>?_)
  exact h2 pins s1 σ1 H1 _ _ Q I1 rr q1
def gTup (K:PySem.W.Frag) (n:Nat) (t:TGs):TG:=fun v σ H Q=>∃ a xs,v = .ref a∧SqT K H a xs∧xs.length=n∧t xs σ H Q
theorem zfy {es:List Expr} {k:Nat} {t:TGs} {n:Nat} (hc:X.calm=true) (h:PGs X es t)
  (hn:(assignEach es X.env).length=n:=by rfl) (hst:(assignEach es X.env).findIdx? (·.1)=none:=by rfl):PG X (.Tuple es k pos) (gTup X.K n t):=by
 intro pins s σ H v u Q I r hw
 obtain ⟨a,xs,e1,hq,hl,hw⟩:=hw
 subst e1
 cases r
 obtain ⟨its,rv,ht,hz⟩:=I.tuple hq
 refine assign_Tuple_tuple (I.ok.hd hc) ht (by simp [hn,← hl,rv.length]) hst fun h' hx=>?_
 have I1:Inv X pins σ H { s with heap:=h' }:=I.kept (t':=s.toks) fun b o e=>hx b o (Nat.ne_of_lt (Heap.lt_size e)) e
 exact h pins _ σ H xs _ Q I1 (by simpa using rv) hw
def tAsg (te:TE) (g:TG):TS:=fun D σ H=>te σ H fun x H1=>g x σ H1 D.nx
theorem zar {i:Nat} {x:Str} {e:Expr} {te:TE} {pos':Pos} (hN:X.N.Nodup) (hi:X.N[i]?=some x) (hx:Loc X.env.scope x) (he:PE X e te) (hs:swapsWith e (some (.Name x pos')) pos.line X.env=pure false:=by rfl) (hf:X.fn x=true∨X.env.scope.names.lookup x=some .local:=by first | exact .inl rfl | exact .inr rfl | assumption) :
  PS X (.Assign [.Name x pos'] e pos) (tAsg te (gName i)):=by
 intro pins s σ H D I h
 refine wpAny_Assign_Name (thn (he pins s σ H _ I h) fun v s1 ⟨y,H1,I1,r1,q1⟩=>?_) hs
 exact zew I1 hN hi hx r1 (fun s2 I2=>⟨_,H1,I2,q1⟩) hf
def tAug (i:Nat) (te:TE) (ti:TIp):TS:=fun D σ H=>∃ x,σ[i]?=some (some x)∧te σ H fun y H1=>ti x y H1 fun z H2=>D.nx (σ.set i (some z)) H2
theorem zb3 {i:Nat} {x:Str} {e:Expr} {te:TE} {op:Operator} {ti:TIp} {pos':Pos} (hN:X.N.Nodup) (hi:X.N[i]?=some x) (hx:Loc X.env.scope x) (he:PE X e te) (ho:PIp X op ti) (hf:X.fn x=true∨X.env.scope.names.lookup x=some .local:=by first | exact .inl rfl | exact .inr rfl | assumption) :
  PS X (.AugAssign (.Name x pos') op e pos) (tAug i te ti):=by
 intro pins s σ H D I h
 obtain ⟨v,e1,h⟩:=h
 obtain ⟨m,hn,hl⟩:=I.loc
 have vis:Vis X.env.scope x:=by rcases hx with k | k; exact .inl k; exact .inr (.inl k)
 obtain ⟨u,r,l⟩:=hl i x v hi e1 vis
 refine wpAny_AugAssign_Name ?_
 have go:wpAny (model X.prog X.w) X.A (eval e X.env) (fun w s₂=>wpAny (model X.prog X.w) X.A (inplaceOp op u w) (fun r s₃=>wpAny (model X.prog X.w) X.A (storeName X.env x r) (fun _=>SP X pins D .next) X.xe s₃) X.xe s₂) X.xe s:=by
  refine thn (he pins s σ H _ I h) fun w s1 ⟨y,H1,I1,r1,q1⟩=>?_
  refine thn (ho pins s1 σ H1 v y u w _ I1 r r1 q1) fun z s2 ⟨zv,H2,I2,r2,q2⟩=>?_
  exact zew I2 hN hi hx r2 (fun s3 I3=>⟨_,H2,I3,q2⟩) hf
 rcases l with ⟨hk,hm⟩ | ⟨hk,c,hc,hcell⟩
 ·exact wpAny_loadName_local I.ok.kind hk hn hm go
 ·rcases hk with hk | hk
  ·exact wpAny_loadName_cell I.ok.kind hk hc hcell go
  ·rcases hx with k | k
   ·have:X.env.scope.names.lookup x=some .free:=hk
    rw [k] at this; cases this
   ·have:X.env.scope.names.lookup x=some .free:=hk
    rw [k] at this; cases this
def ipI (f:Int→Int→Int):TIp:=fun x y H Q=>∃ i j,x = .int i∧y = .int j∧Q (.int (f i j)) H
theorem zcr:PIp X .Add (ipI fun i j=>i+j):=by
 intro pins s σ H x y v u Q I r1 r2 h
 obtain ⟨i,j,e1,e2,q⟩:=h
 subst e1; subst e2
 obtain ⟨t,rfl⟩:=r1
 obtain ⟨t',rfl⟩:=r2
 exact iadd_int ⟨.int _,H,I.tok _,⟨_,rfl⟩,q⟩
theorem zjQ:PIp X .Sub (ipI fun i j=>i - j):=by
 intro pins s σ H x y v u Q I r1 r2 h
 obtain ⟨i,j,e1,e2,q⟩:=h
 subst e1; subst e2
 obtain ⟨t,rfl⟩:=r1
 obtain ⟨t',rfl⟩:=r2
 exact isub_int ⟨.int _,H,I.tok _,⟨_,rfl⟩,q⟩
end
section
variable {X:Cx} {pos:Pos}
def tWhile (c:TT) (tb:TS):TS:=fun D σ H=>∃ W:Nat→St→Hp→Prop,(∃ m,W m σ H)∧∀ m σ H,W m σ H →
 c σ H fun b H1=>if b=true then ∃ N:St→Hp→Prop,(∀ σ' H',N σ' H'→∃ m',m' < m∧W m' σ' H')∧tb { D with nx:=N,ct:=N,bk:=D.nx } σ H1 else D.nx σ H1
theorem zeM {c:Expr} {body:List Stmt} {tc:TT} {tb:TS} (hp:PassesOwn (model X.prog X.w) X.A X.env X.xe) (hc:PT X c tc) (hb:PSs X body tb):PS X (.While c body [] pos) (tWhile tc tb):=by
 intro pins s σ H D I h
 obtain ⟨W,⟨m0,w0⟩,turn⟩:=h
 refine wpAny_While (codeAny_whileLoop (fun n s'=>∃ σ' H',Inv X pins σ' H' s'∧W n σ' H') ?_ m0 ⟨σ,H,I,w0⟩)
 rintro n s1 ⟨σ1,H1,I1,w1⟩
 refine wpAny_passesOwn hp (thn (hc pins s1 σ1 H1 _ I1 (turn n σ1 H1 w1)) fun b s2 ⟨H2,I2,q2⟩=>?_)
 cases b with
 | true =>
  obtain ⟨N,hN,q2⟩:=q2
  rw [if_pos rfl]
  refine wpAny_passesOwn hp (thn (hb pins s2 σ1 H2 _ I2 q2) fun f s3 q3=>?_)
  cases f with
  | next =>
   obtain ⟨σ3,H3,I3,n3⟩:=q3
   obtain ⟨m',hm,w3⟩:=hN σ3 H3 n3
   exact ⟨m',hm,σ3,H3,I3,w3⟩
  | cont =>
   obtain ⟨σ3,H3,I3,n3⟩:=q3
   obtain ⟨m',hm,w3⟩:=hN σ3 H3 n3
   exact ⟨m',hm,σ3,H3,I3,w3⟩
  | brk=>exact q3
  | ret v=>exact q3
 | false =>
  rw [if_neg Bool.false_ne_true]
  exact wpAny_execs_nil ⟨σ1,H2,I2,q2⟩
end
structure It where
 go:Nat→Hp→Prop
 yld:Nat→Hp→V→Hp→Prop
 stop:Nat→Hp→Prop
def FpOk (X:Cx) (pins:List (Addr×Obj)) (H:Hp) (b:Addr):Prop :=
 H b=none∧b≠X.env.locals∧b ∉ X.fs∧(b∈X.ex∨X.s_0.heap.objs.size≤b)∧(∀ x c,X.env.cells.lookup x=some c→c≠b)∧∀ p∈X.pn++pins,p.1≠b
theorem Inv.fpOk {X:Cx} {pins:List (Addr×Obj)} {σ:St} {H H':Hp} {s:Shared} {b:Addr} (I:Inv X pins σ H s) (hb:s.heap.objs.size≤b) (hn:H' b=none):FpOk X pins H' b:=by
 refine ⟨hn,Nat.ne_of_gt (Nat.lt_of_lt_of_le I.lt hb),I.nofs hb,.inr (Nat.le_trans I.sz hb),fun x c e z=>?_,fun p hp z=>?_⟩
 ·obtain ⟨v,q⟩:=I.cell x c e
  exact absurd (Nat.lt_of_lt_of_le q.lt (by rw [z]; exact hb)) (Nat.lt_irrefl _)
 ·exact absurd (Nat.lt_of_lt_of_le (Heap.lt_size (I.pin p hp).1) (by rw [z]; exact hb)) (Nat.lt_irrefl _)
structure Turn (P:Program) (w:World) (K:PySem.W.Frag) (tg:Expr) (J:It) (fp:List Addr) (it:Addr) (tn:Nat→Heap→Prop):Prop where
 mem:it∈fp
 obj:∀ i h,tn i h→∀ b∈fp,∃ o,h.get? b=some o∧∀ v,o.data≠.cell v
 keep:∀ i h h',tn i h→(∀ b∈fp,∀ o,h.get? b=some o→h'.get? b=some o)→tn i h'
 item:∀ (X:Cx),X.prog=P→X.w=w→X.K=K→X.calm=true→∀ (i:Nat) (pins:List (Addr×Obj)) (s:Shared) (σ:St) (H:Hp) (E:Value→Shared→Prop),Inv X pins σ H s→(∀ b∈fp,FpOk X pins H b)→tn i s.heap→J.go i H →
  wpAny (model P w) X.A (pyNext (.ref it)) (fun r s1=>∃ u,r=some u ∧
   wpAny (model P w) X.A (letOwnedTupleGo tg (.ref it) u) (fun _ s2=>∃ x H',Inv X pins σ H' s2∧RelV x u∧J.yld i H x H'∧tn (i+1) s2.heap∧∀ b∈fp,H' b=none) E s1) E s
 done:∀ (X:Cx),X.prog=P→X.w=w→X.K=K→X.calm=true→∀ (i:Nat) (pins:List (Addr×Obj)) (s:Shared) (σ:St) (H:Hp) (E:Value→Shared→Prop),Inv X pins σ H s→(∀ b∈fp,FpOk X pins H b)→tn i s.heap→J.stop i H →
  wpAny (model P w) X.A (pyNext (.ref it)) (fun r s1=>r=none∧Inv X pins σ H s1) E s
 self:∀ (A:Around) (i:Nat) (s:Shared) (Q:Value→Shared→Prop) (E:Value→Shared→Prop),tn i s.heap→Q (.ref it) s→wpAny (model P w) A (pyIter (.ref it)) Q E s
abbrev TI:=St→Hp→(It→Hp→Prop)→Prop
def PIE (X:Cx) (pins:List (Addr×Obj)) (σ:St) (tg:Expr) (R:It→Hp→Prop) (itv:Value) (s2:Shared):Prop :=
 ∃ (it:Addr) (fp:List Addr) (tn:Nat→Heap→Prop) (J:It) (H':Hp),itv = .ref it∧Inv X pins σ H' s2∧Turn X.prog X.w X.K tg J fp it tn∧tn 0 s2.heap∧(∀ b∈fp,FpOk X pins H' b)∧R J H'
def PI (X:Cx) (tg iter:Expr) (wi:TI):Prop :=
 ∀ (pins:List (Addr×Obj)) (s:Shared) (σ:St) (H:Hp) (R:It→Hp→Prop),Inv X pins σ H s→wi σ H R →
  wpAny (model X.prog X.w) X.A (eval iter X.env) (fun v s1=>wpAny (model X.prog X.w) X.A (pyIter v) (PIE X pins σ tg R) X.xe s1) X.xe s
theorem zkl {M:Model} {A:Around} {E:Value→Shared→Prop} {s:Shared} {tg:Expr} {it:Addr} {u:Value} {o:Obj} {n:String} {vs:Array Value} {Q:Unit→Shared→Prop} (ho:s.heap.get? it=some o) (hc:o.cls = .type n) (hd:o.data = .fields vs)
    (hn:["enumerate","zip","dict_itemiterator","dict_reverseitemiterator","odict_iterator","itertools.zip_longest","itertools.pairwise"].contains n=false) (hQ:Q () s):wpAny M A (letOwnedTupleGo tg (.ref it) u) Q E s:=by
  unfold letOwnedTupleGo
  cases tg<;>first
    | exact wpAny_pure hQ
    | (cases u<;>first
        | exact wpAny_pure hQ
        | (refine wpAny_bind (wpAny_load ho ?_)
           rw [hc,hd]
           show wpAny M A (if (["enumerate","zip","dict_itemiterator","dict_reverseitemiterator","odict_iterator","itertools.zip_longest","itertools.pairwise"].contains n && vs[0]? == some (rawInt _))=true then _ else _) Q E s
           rw [if_neg (by intro h; rw [hn,Bool.false_and] at h; cases h)]
           exact wpAny_pure hQ))
def Itl (K:PySem.W.Frag) (a:Addr):It :=
 ⟨fun i H=>∃ xs x,SqL K H a xs∧xs[i]?=some x,fun i H x H'=>H'=H∧∀ xs,SqL K H a xs→xs[i]?=some x,fun i H=>∃ xs,SqL K H a xs∧xs.length≤i⟩
def Itt (K:PySem.W.Frag) (a:Addr):It :=
 ⟨fun i H=>∃ xs x,SqT K H a xs∧xs[i]?=some x,fun i H x H'=>H'=H∧∀ xs,SqT K H a xs→xs[i]?=some x,fun i H=>∃ xs,SqT K H a xs∧xs.length≤i⟩
def Itr (lo:Int) (n:Nat):It:=⟨fun i _=>i < n,fun i H x H'=>H'=H∧x = .int (lo+i),fun i _=>n≤i⟩
theorem zfh {P:Program} {w:World} {K:PySem.W.Frag} {tg:Expr} (a it:Addr):Turn P w K tg (Itl K a) [it] it (fun i h=>h.IsListIter it a i) where
 mem:=by simp
 obj:=fun i h st b hb=>by
  have e:b=it:=by simpa using hb
  subst e
  obtain ⟨o,e,c,d⟩:=st
  exact ⟨o,e,fun v z=>by rw [d] at z; cases z⟩
 keep:=fun i h h' st k=>st.at fun o e=>k it (by simp) o e
 item:=by
  intro X hP hw hK hc i pins s σ H E I hf st hg
  subst hP hw hK
  obtain ⟨xs,x,hq,hx⟩:=hg
  obtain ⟨its,rv,p,hz⟩:=I.list hq
  obtain ⟨u,hu,ru⟩:=rv.get hx
  obtain ⟨f0,f1,f2,f3,f4,f5⟩:=hf it (by simp)
  refine wpAny_pyNext_list_item st p.isList (x:=u) (by simpa using hu) fun h' st' sb=>?_
  have I1:Inv X pins σ H { s with heap:=h' }:=I.turned (t':=s.toks) (fun b o hb e=>(sb.2 b hb).trans e) f0 f1 f3 f4 f5
  obtain ⟨o,e,c,d⟩:=id st'
  exact ⟨u,rfl,zkl (s:={ s with heap:=h' }) e c d (by decide) ⟨x,H,I1,ru,⟨rfl,fun ys hy=>by rw [I.list_inj hy hq]; exact hx⟩,st',fun b hb=>(hf b hb).1⟩⟩
 done:=by
  intro X hP hw hK hc i pins s σ H E I hf st hg
  subst hP hw hK
  obtain ⟨xs,hq,hx⟩:=hg
  obtain ⟨its,rv,p,hz⟩:=I.list hq
  obtain ⟨f0,f1,f2,f3,f4,f5⟩:=hf it (by simp)
  have hl:=rv.length
  exact wpAny_pyNext_list_end (I.ok.hd hc) st p.isList (by simp; omega) fun h' eb=>⟨rfl,I.turned (t':=s.toks) (fun b o hb e=>eb b o hb e) f0 f1 f3 f4 f5⟩
 self:=fun _ _ _ _ _ st h=>wpAny_pyIter_listiter st h
theorem zef {P:Program} {w:World} {K:PySem.W.Frag} {tg:Expr} (a it:Addr):Turn P w K tg (Itt K a) [it] it (fun i h=>h.IsTupleIter it a i) where
 mem:=by simp
 obj:=fun i h st b hb=>by
  have e:b=it:=by simpa using hb
  subst e
  obtain ⟨o,e,c,d⟩:=st
  exact ⟨o,e,fun v z=>by rw [d] at z; cases z⟩
 keep:=fun i h h' st k=>st.at fun o e=>k it (by simp) o e
 item:=by
  intro X hP hw hK hc i pins s σ H E I hf st hg
  subst hP hw hK
  obtain ⟨xs,x,hq,hx⟩:=hg
  obtain ⟨its,rv,p,hz⟩:=I.tuple hq
  obtain ⟨u,hu,ru⟩:=rv.get hx
  obtain ⟨f0,f1,f2,f3,f4,f5⟩:=hf it (by simp)
  refine wpAny_pyNext_tuple_item st (show s.heap.IsTuple a its.toArray from p) (x:=u) (by simpa using hu) fun h' st' sb=>?_
  have I1:Inv X pins σ H { s with heap:=h' }:=I.turned (t':=s.toks) (fun b o hb e=>(sb.2 b hb).trans e) f0 f1 f3 f4 f5
  obtain ⟨o,e,c,d⟩:=id st'
  exact ⟨u,rfl,zkl (s:={ s with heap:=h' }) e c d (by decide) ⟨x,H,I1,ru,⟨rfl,fun ys hy=>by rw [I.tuple_inj hy hq]; exact hx⟩,st',fun b hb=>(hf b hb).1⟩⟩
 done:=by
  intro X hP hw hK hc i pins s σ H E I hf st hg
  subst hP hw hK
  obtain ⟨xs,hq,hx⟩:=hg
  obtain ⟨its,rv,p,hz⟩:=I.tuple hq
  obtain ⟨f0,f1,f2,f3,f4,f5⟩:=hf it (by simp)
  have hl:=rv.length
  exact wpAny_pyNext_tuple_end (I.ok.hd hc) st (show s.heap.IsTuple a its.toArray from p) (by simp; omega) fun h' eb=>⟨rfl,I.turned (t':=s.toks) (fun b o hb e=>eb b o hb e) f0 f1 f3 f4 f5⟩
 self:=fun _ _ _ _ _ st h=>wpAny_pyIter_tupleiter st h
theorem zg1 {P:Program} {w:World} {K:PySem.W.Frag} {tg:Expr} (it:Addr) (lo:Int) (n:Nat):Turn P w K tg (Itr lo n) [it] it (fun i h=>IsRangeIter h it (lo+(i:Nat) * 1) ((n:Int) - (i:Nat)) 1) where
 mem:=by simp
 obj:=fun i h st b hb=>by
  have e:b=it:=by simpa using hb
  subst e
  exact ⟨_,st,fun v z=>by
   have z':Data.fields _=Data.cell v:=z
   cases z'⟩
 keep:=fun i h h' st k=>k it (by simp) _ st
 item:=by
  intro X hP hw hK hc i pins s σ H E I hf st hg
  subst hP hw hK
  obtain ⟨f0,f1,f2,f3,f4,f5⟩:=hf it (by simp)
  have W:=Walks.range (prog:=X.prog) (w:=X.w) (I.ok.hd hc) it lo 1 n
  refine W.item i s _ _ hg st fun v h' tk hv st' kk=>?_
  obtain ⟨t,rfl⟩:=hv
  have I1:Inv X pins σ H { s with heap:=h',toks:=tk }:=I.turned (fun b o hb e=>kk b o (by simpa using hb) e) f0 f1 f3 f4 f5
  refine ⟨_,rfl,zkl (s:={ s with heap:=h',toks:=tk }) (n:="range_iterator") st' rfl rfl (by decide) ⟨.int (lo+i),H,I1,⟨t,?_⟩,⟨rfl,rfl⟩,st',fun b hb=>(hf b hb).1⟩⟩
  rw [Int.mul_one]
 done:=by
  intro X hP hw hK hc i pins s σ H E I hf st hg
  subst hP hw hK
  obtain ⟨f0,f1,f2,f3,f4,f5⟩:=hf it (by simp)
  exact wpAny_pyNext_range_end (I.ok.hd hc) st (by have:n≤i:=hg; omega) fun h' eb=>⟨rfl,I.turned (t':=s.toks) (fun b o hb e=>eb b o hb e) f0 f1 f3 f4 f5⟩
 self:=fun _ _ _ _ _ st h=>wpAny_pyIter_rangeiter st h
end L2
namespace L2
open PySem PySem.Spec PyProof.Rows
section
variable {X:Cx} {tg:Expr}
def iList (K:PySem.W.Frag) (tl:TE):TI:=fun σ H R=>tl σ H fun x H1=>∃ a,x = .ref a∧(∃ xs,SqL K H1 a xs)∧R (Itl K a) H1
def iTup (K:PySem.W.Frag) (tl:TE):TI:=fun σ H R=>tl σ H fun x H1=>∃ a,x = .ref a∧(∃ xs,SqT K H1 a xs)∧R (Itt K a) H1
theorem zaW {l:Expr} {tl:TE} (hl:PE X l tl):PI X tg l (iList X.K tl):=by
 intro pins s σ H R I h
 refine thn (hl pins s σ H _ I h) fun v s1 ⟨x,H1,I1,r1,q1⟩=>?_
 obtain ⟨a,e,⟨xs,hq⟩,q⟩:=q1
 subst e
 cases r1
 obtain ⟨its,rv,p,hz⟩:=I1.list hq
 refine wpAny_pyIter_list p.isList ?_
 refine ⟨s1.heap.objs.size,[s1.heap.objs.size],_,_,H1,rfl,I1.kept (t':=s1.toks) fun b o e=>Heap.get?_push_of_some _ e,zfh a _,⟨_,Heap.get?_push_size _ rfl,rfl,rfl⟩,fun b hb=>?_,q⟩
 have e:b=s1.heap.objs.size:=by simpa using hb
 subst e
 exact I1.fpOk (Nat.le_refl _) (I1.hok.fresh (Nat.le_refl _))
theorem zhZ {l:Expr} {tl:TE} (hl:PE X l tl):PI X tg l (iTup X.K tl):=by
 intro pins s σ H R I h
 refine thn (hl pins s σ H _ I h) fun v s1 ⟨x,H1,I1,r1,q1⟩=>?_
 obtain ⟨a,e,⟨xs,hq⟩,q⟩:=q1
 subst e
 cases r1
 obtain ⟨its,rv,p,hz⟩:=I1.tuple hq
 refine wpAny_pyIter_tuple (show s1.heap.IsTuple a its.toArray from p) ?_
 refine ⟨s1.heap.objs.size,[s1.heap.objs.size],_,_,H1,rfl,I1.kept (t':=s1.toks) fun b o e=>Heap.get?_push_of_some _ e,zef a _,⟨_,Heap.get?_push_size _ rfl,rfl,rfl⟩,fun b hb=>?_,q⟩
 have e:b=s1.heap.objs.size:=by simpa using hb
 subst e
 exact I1.fpOk (Nat.le_refl _) (I1.hok.fresh (Nat.le_refl _))
theorem zgB {pins:List (Addr×Obj)} {σ:St} {H:Hp} {s:Shared} {R:It→Hp→Prop} {E:Value→Shared→Prop} {lo hi:Int} {t u v:Tok} {tk:Nat} (I:Inv X pins σ H s) (h1:-(2 ^ 62)≤lo) (h2:lo < 2 ^ 62) (h3:-(2 ^ 62)≤hi) (h4:hi < 2 ^ 62)
  (q:R (Itr lo (hi - lo).toNat) H):wpAny (model X.prog X.w) X.A (pyIter (.ref s.heap.objs.size)) (PIE X pins σ tg R) E { s with heap:=s.heap.push { cls:=.type "range",data:=.fields #[.int lo t,.int hi u,.int 1 v] },toks:=tk }:=by
 refine wpAny_pyIter_range (IsRange.new ..) (small_one h1 h2 h3 h4) ?_
 have I1:Inv X pins σ H { s with heap:=s.heap.push { cls:=.type "range",data:=.fields #[.int lo t,.int hi u,.int 1 v] },toks:=tk }:=I.kept fun b o e=>Heap.get?_push_of_some _ e
 refine ⟨(s.heap.push { cls:=.type "range",data:=.fields #[.int lo t,.int hi u,.int 1 v] }).objs.size,[(s.heap.push { cls:=.type "range",data:=.fields #[.int lo t,.int hi u,.int 1 v] }).objs.size],_,_,H,rfl,
  I1.kept (t':=tk) fun b o e=>Heap.get?_push_of_some _ e,zg1 _ lo (hi - lo).toNat,?_,fun b hb=>?_,q⟩
 ·have e1:lo+((0:Nat):Int) * 1=lo:=by simp
  have e2:(((hi - lo).toNat:Nat):Int) - ((0:Nat):Int)=Builtin.Range.rangeSize lo hi 1:=by rw [rangeSize_one]; split<;>omega
  show IsRangeIter _ _ (lo+((0:Nat):Int) * 1) ((((hi - lo).toNat:Nat):Int) - ((0:Nat):Int)) 1
  rw [e1,e2]
  exact Heap.get?_push_size _ rfl
 ·have e:b=(s.heap.push { cls:=.type "range",data:=.fields #[.int lo t,.int hi u,.int 1 v] }).objs.size:=by simpa using hb
  subst e
  exact I1.fpOk (Nat.le_refl _) (I1.hok.fresh (Nat.le_refl _))
def iRng1 (ta:TA):TI:=fun σ H R=>ta σ H fun vs H1=>∃ j:Int,vs=[.int j]∧-(2 ^ 62)≤j∧j < 2 ^ 62∧R (Itr 0 j.toNat) H1
def iRng2 (ta:TA):TI:=fun σ H R=>ta σ H fun vs H1=>∃ i j:Int,vs=[.int i,.int j]∧(-(2 ^ 62)≤i∧i < 2 ^ 62∧-(2 ^ 62)≤j∧j < 2 ^ 62)∧R (Itr i (j - i).toNat) H1
theorem zh1 {a:Expr} {ta:TA} {p pos:Pos} (hg:Gl X "range") (hm:X.mg "range"=none) (ha:PA X [a] ta) (hs:starEach [a] X.env=[(false,eval a X.env)]:=by rfl):PI X tg (.Call (.Name "range" p) [a] [] pos) (iRng1 ta):=by
 intro pins s σ H R I h
 refine Call_ (zem I hg hm boot_range (PyProof.Rows.callWith_type1 (thn (ha pos pins s σ H _ I h) fun us s1 ⟨vs,H1,I1,r1,q1⟩=>?_) hs rfl))
 obtain ⟨j,e,q1,q2,q⟩:=q1
 subst e
 cases r1 with
 | cons r rr =>
  cases rr
  obtain ⟨t,rfl⟩:=r
  exact call_range_1 (zgB I1 (by omega) (by omega) q1 q2 (by simpa using q))
theorem zh0 {a b:Expr} {ta:TA} {p pos:Pos} (hg:Gl X "range") (hm:X.mg "range"=none) (ha:PA X [a,b] ta) (hs:starEach [a,b] X.env=[(false,eval a X.env),(false,eval b X.env)]:=by rfl) (hs2:starEach [b] X.env=[(false,eval b X.env)]:=by rfl) :
  PI X tg (.Call (.Name "range" p) [a,b] [] pos) (iRng2 ta):=by
 intro pins s σ H R I h
 refine Call_ (zem I hg hm boot_range (PyProof.Rows.callWith_type1 (thn (ha pos pins s σ H _ I h) fun us s1 ⟨vs,H1,I1,r1,q1⟩=>?_) (by rw [hs,hs2]) (by rw [hs2]; rfl)))
 obtain ⟨i,j,e,⟨q1,q2,q3,q4⟩,q⟩:=q1
 subst e
 cases r1 with
 | cons r rr =>
  cases rr with
  | cons r' rr =>
   cases rr
   obtain ⟨t,rfl⟩:=r
   obtain ⟨t',rfl⟩:=r'
   exact call_range_2 (zgB I1 q1 q2 q3 q4 q)
def tFor (wi:TI) (g:TG) (tb:TS):TS:=fun D σ H=>wi σ H fun J H1=>∃ W:Nat→Nat→St→Hp→Prop,(∃ m,W 0 m σ H1)∧∀ i m σ H,W i m σ H →
 (J.stop i H∧D.nx σ H)∨(J.go i H∧∃ N:St→Hp→Prop,(∀ σ' H',N σ' H'→∃ m',m' < m∧W (i+1) m' σ' H')∧∀ x H',J.yld i H x H'→g x σ H' fun σ2 H2=>tb { D with nx:=N,ct:=N,bk:=D.nx } σ2 H2)
def pinsAt (fp:List Addr) (h:Heap):List (Addr×Obj):=fp.filterMap fun b=>(h.get? b).map fun o=>(b,o)
theorem zcZ {fp:List Addr} {h:Heap} {b:Addr} {o:Obj} (hb:b∈fp) (e:h.get? b=some o):(b,o)∈pinsAt fp h:=List.mem_filterMap.mpr ⟨b,hb,by rw [e]; rfl⟩
theorem zid {fp:List Addr} {h:Heap} {p:Addr×Obj} (hp:p∈pinsAt fp h):p.1∈fp∧h.get? p.1=some p.2:=by
 obtain ⟨b,hb,e⟩:=List.mem_filterMap.mp hp
 cases q:h.get? b with
 | none=>rw [q] at e; cases e
 | some o =>
  rw [q] at e
  have e':(b,o)=p:=Option.some.inj e
  subst e'
  exact ⟨hb,q⟩
theorem Inv.pinned {pins:List (Addr×Obj)} {σ:St} {H:Hp} {s:Shared} {fp:List Addr} (I:Inv X pins σ H s) (hf:∀ b∈fp,FpOk X pins H b) (ho:∀ b∈fp,∃ o,s.heap.get? b=some o∧∀ v,o.data≠.cell v):Inv X (pins++pinsAt fp s.heap) σ H s :=
 I.pins_of fun p hp=>(List.mem_append.mp hp).elim (fun z=>I.pin p (List.mem_append_right _ z)) fun z=>by
  obtain ⟨hb,e⟩:=zid z
  obtain ⟨f0,f1,f2,_⟩:=hf p.1 hb
  obtain ⟨o,e',d⟩:=ho p.1 hb
  rw [e] at e'; cases e'
  exact ⟨e,f0,f1,f2,d⟩
theorem Inv.unpinned {pins pl:List (Addr×Obj)} {σ:St} {H:Hp} {s:Shared} (I:Inv X (pins++pl) σ H s):Inv X pins σ H s:=I.pins_of fun p hp=>I.pin p (List.mem_append_right _ (List.mem_append_left _ hp))
theorem za7 {iter:Expr} {body:List Stmt} {wi:TI} {g:TG} {tb:TS} {pos:Pos} (hp:PassesOwn (model X.prog X.w) X.A X.env X.xe) (hc:X.calm=true) (hi:PI X tg iter wi) (hg:PG X tg g) (hb:PSs X body tb)
  (hs:∀ x,foldedSetIterable iter X.env x=pure x:=by intro _; rfl):PS X (.For tg iter body [] pos) (tFor wi g tb):=by
 intro pins s σ H D I h
 refine wpAny_For (thn (hi pins s σ H _ I h) fun v s1 h1=>thn h1 fun itv s2 h2=>?_) hs
 obtain ⟨it,fp,tn,J,H2,e,I2,T,st2,f2,W,⟨m0,w0⟩,turn⟩:=h2
 subst e
 have stat:∀ {H':Hp},(∀ b∈fp,H' b=none)→∀ b∈fp,FpOk X pins H' b:=fun hn b hb=>⟨hn b hb,(f2 b hb).2⟩
 refine codeAny_forLoop_any (fun n s'=>∃ i σ' H',Inv X pins σ' H' s'∧tn i s'.heap∧(∀ b∈fp,H' b=none)∧W i n σ' H') ?_ m0 ⟨0,σ,H2,I2,st2,fun b hb=>(f2 b hb).1,w0⟩
 rintro n s3 ⟨i,σ3,H3,I3,st3,fr3,w3⟩
 rcases turn i n σ3 H3 w3 with ⟨stop,qn⟩ | ⟨go,N,hN,step⟩
 ·refine wpAny_passesOwn hp (thn (T.done X rfl rfl rfl hc i pins s3 σ3 H3 X.xe I3 (stat fr3) st3 stop) fun r s4 ⟨hr,I4⟩=>?_)
  subst hr
  exact wpAny_execs_nil ⟨σ3,H3,I4,qn⟩
 ·refine wpAny_passesOwn hp (thn (T.item X rfl rfl rfl hc i pins s3 σ3 H3 X.xe I3 (stat fr3) st3 go) fun r s4 ⟨u,hr,h4⟩=>?_)
  subst hr
  refine wpAny_passesOwn hp (thn h4 fun _ s5 ⟨x,H5,I5,r5,y5,st5,fr5⟩=>?_)
  have I5':=I5.pinned (stat fr5) (T.obj _ _ st5)
  refine wpAny_passesOwn hp (thn (hg _ s5 σ3 H5 x u _ I5' r5 (step x H5 y5)) fun _ s6 ⟨σ6,H6,I6,q6⟩=>?_)
  refine wpAny_passesOwn hp (thn (hb _ s6 σ6 H6 _ I6 q6) fun f s7 q7=>?_)
  have again:∀ {σ7:St} {H7:Hp},Inv X (pins++pinsAt fp s5.heap) σ7 H7 s7→N σ7 H7→∃ m,m < n∧∃ i σ' H',Inv X pins σ' H' s7∧tn i s7.heap∧(∀ b∈fp,H' b=none)∧W i m σ' H':=fun {σ7 H7} I7 n7=>by
   obtain ⟨m',hm,w7⟩:=hN σ7 H7 n7
   refine ⟨m',hm,i+1,σ7,H7,I7.unpinned,T.keep _ _ _ st5 fun b hb o e=>(I7.pin (b,o) (List.mem_append_right _ (List.mem_append_right _ (zcZ hb e)))).1,fun b hb=>?_,w7⟩
   obtain ⟨o,e,d⟩:=T.obj _ _ st5 b hb
   exact (I7.pin (b,o) (List.mem_append_right _ (List.mem_append_right _ (zcZ hb e)))).2.1
  cases f with
  | next=>obtain ⟨σ7,H7,I7,n7⟩:=q7; exact again I7 n7
  | cont=>obtain ⟨σ7,H7,I7,n7⟩:=q7; exact again I7 n7
  | brk=>obtain ⟨σ7,H7,I7,q7⟩:=q7; exact ⟨σ7,H7,I7.unpinned,q7⟩
  | ret v=>obtain ⟨x7,σ7,H7,I7,r7,q7⟩:=q7; exact ⟨x7,σ7,H7,I7.unpinned,r7,q7⟩
end
theorem za8 {K:PySem.W.Frag} {a:Addr} {xs:List V} {g:TG} {tb:TS} {D:Ends} {σ:St} {H:Hp} (Pv:Nat→St→Hp→Prop) (h0:Pv 0 σ H) (hl:∀ i σ H,i≤xs.length→Pv i σ H→SqL K H a xs)
  (hs:∀ i x σ H,xs[i]?=some x→Pv i σ H→g x σ H fun σ2 H2=>tb { D with nx:=Pv (i+1),ct:=Pv (i+1),bk:=D.nx } σ2 H2) (hd:∀ σ H,Pv xs.length σ H→D.nx σ H) :
  ∃ W:Nat→Nat→St→Hp→Prop,(∃ m,W 0 m σ H)∧∀ i m σ H,W i m σ H →
   ((Itl K a).stop i H∧D.nx σ H)∨((Itl K a).go i H∧∃ N:St→Hp→Prop,(∀ σ' H',N σ' H'→∃ m',m' < m∧W (i+1) m' σ' H')∧∀ x H',(Itl K a).yld i H x H'→g x σ H' fun σ2 H2=>tb { D with nx:=N,ct:=N,bk:=D.nx } σ2 H2):=by
 refine ⟨fun i m σ H=>m=xs.length - i∧i≤xs.length∧Pv i σ H,⟨xs.length,by simp,Nat.zero_le _,h0⟩,?_⟩
 rintro i m σ H ⟨rfl,hi,p⟩
 have q:=hl i σ H hi p
 by_cases hlt:i < xs.length
 ·refine .inr ⟨⟨xs,xs[i],q,by simp [hlt]⟩,Pv (i+1),fun σ' H' p'=>⟨xs.length - (i+1),by omega,rfl,hlt,p'⟩,fun x H' y=>?_⟩
  obtain ⟨e,y⟩:=y
  subst e
  exact hs i x σ _ (y xs q) p
 ·have e:i=xs.length:=by omega
  subst e
  exact .inl ⟨⟨xs,q,Nat.le_refl _⟩,hd σ H p⟩
theorem ziG {K:PySem.W.Frag} {a:Addr} {xs:List V} {g:TG} {tb:TS} {D:Ends} {σ:St} {H:Hp} (Pv:Nat→St→Hp→Prop) (h0:Pv 0 σ H) (hl:∀ i σ H,i≤xs.length→Pv i σ H→SqT K H a xs)
  (hs:∀ i x σ H,xs[i]?=some x→Pv i σ H→g x σ H fun σ2 H2=>tb { D with nx:=Pv (i+1),ct:=Pv (i+1),bk:=D.nx } σ2 H2) (hd:∀ σ H,Pv xs.length σ H→D.nx σ H) :
  ∃ W:Nat→Nat→St→Hp→Prop,(∃ m,W 0 m σ H)∧∀ i m σ H,W i m σ H →
   ((Itt K a).stop i H∧D.nx σ H)∨((Itt K a).go i H∧∃ N:St→Hp→Prop,(∀ σ' H',N σ' H'→∃ m',m' < m∧W (i+1) m' σ' H')∧∀ x H',(Itt K a).yld i H x H'→g x σ H' fun σ2 H2=>tb { D with nx:=N,ct:=N,bk:=D.nx } σ2 H2):=by
 refine ⟨fun i m σ H=>m=xs.length - i∧i≤xs.length∧Pv i σ H,⟨xs.length,by simp,Nat.zero_le _,h0⟩,?_⟩
 rintro i m σ H ⟨rfl,hi,p⟩
 have q:=hl i σ H hi p
 by_cases hlt:i < xs.length
 ·refine .inr ⟨⟨xs,xs[i],q,by simp [hlt]⟩,Pv (i+1),fun σ' H' p'=>⟨xs.length - (i+1),by omega,rfl,hlt,p'⟩,fun x H' y=>?_⟩
  obtain ⟨e,y⟩:=y
  subst e
  exact hs i x σ _ (y xs q) p
 ·have e:i=xs.length:=by omega
  subst e
  exact .inl ⟨⟨xs,q,Nat.le_refl _⟩,hd σ H p⟩
theorem zfJ {lo:Int} {n:Nat} {g:TG} {tb:TS} {D:Ends} {σ:St} {H:Hp} (Pv:Nat→St→Hp→Prop) (h0:Pv 0 σ H)
  (hs:∀ i σ H,i < n→Pv i σ H→g (.int (lo+i)) σ H fun σ2 H2=>tb { D with nx:=Pv (i+1),ct:=Pv (i+1),bk:=D.nx } σ2 H2) (hd:∀ σ H,Pv n σ H→D.nx σ H) :
  ∃ W:Nat→Nat→St→Hp→Prop,(∃ m,W 0 m σ H)∧∀ i m σ H,W i m σ H →
   ((Itr lo n).stop i H∧D.nx σ H)∨((Itr lo n).go i H∧∃ N:St→Hp→Prop,(∀ σ' H',N σ' H'→∃ m',m' < m∧W (i+1) m' σ' H')∧∀ x H',(Itr lo n).yld i H x H'→g x σ H' fun σ2 H2=>tb { D with nx:=N,ct:=N,bk:=D.nx } σ2 H2):=by
 refine ⟨fun i m σ H=>m=n - i∧i≤n∧Pv i σ H,⟨n,by simp,Nat.zero_le _,h0⟩,?_⟩
 rintro i m σ H ⟨rfl,hi,p⟩
 by_cases hlt:i < n
 ·refine .inr ⟨hlt,Pv (i+1),fun σ' H' p'=>⟨n - (i+1),by omega,rfl,hlt,p'⟩,fun x H' y=>?_⟩
  obtain ⟨e,y⟩:=y
  subst e y
  exact hs i σ _ hlt p
 ·have e:i=n:=by omega
  subst e
  exact .inl ⟨Nat.le_refl _,hd σ H p⟩
end L2
namespace L2
open PySem PySem.Spec PyProof.Rows
abbrev R2:=V→V→Hp→VK→Prop
def OpR (X:Cx) (f:Value→Value→Sem Value) (r:R2):Prop :=
 ∀ (pins:List (Addr×Obj)) (s:Shared) (σ:St) (H:Hp) (x y:V) (v u:Value) (Q:VK),Inv X pins σ H s→RelV x v→RelV y u→r x y H Q →
  wpAny (model X.prog X.w) X.A (f v u) (EP X pins σ Q) X.xe s
def UnR (X:Cx) (f:Value→Sem Value) (r:V→Hp→VK→Prop):Prop :=
 ∀ (pins:List (Addr×Obj)) (s:Shared) (σ:St) (H:Hp) (x:V) (v:Value) (Q:VK),Inv X pins σ H s→RelV x v→r x H Q →
  wpAny (model X.prog X.w) X.A (f v) (EP X pins σ Q) X.xe s
def CallR (X:Cx) (f:Value) (r:List V→Hp→VK→Prop):Prop :=
 ∀ (pins:List (Addr×Obj)) (s:Shared) (σ:St) (H:Hp) (xs:List V) (us:List Value) (Q:VK),Inv X pins σ H s→Vals xs us→r xs H Q →
  wpAny (model X.prog X.w) X.A (call f us) (EP X pins σ Q) X.xe s
def tOp (r:R2) (ta tb:TE):TE:=fun σ H Q=>ta σ H fun x H1=>tb σ H1 fun y H2=>r x y H2 Q
def tUn (r:V→Hp→VK→Prop) (ta:TE):TE:=fun σ H Q=>ta σ H fun x H1=>r x H1 Q
def rI (C:Int→Int→Prop) (g:Int→Int→V):R2:=fun x y H Q=>∃ i j,x = .int i∧y = .int j∧C i j∧Q (g i j) H
def rI0 (g:Int→Int→V):R2:=fun x y H Q=>∃ i j,x = .int i∧y = .int j∧Q (g i j) H
def rU (g:Int→V):V→Hp→VK→Prop:=fun x H Q=>∃ i,x = .int i∧Q (g i) H
section
variable {X:Cx} {a b c:Expr} {ta tb tc:TE} {pos:Pos}
theorem binT (ha:PE X a ta) (hb:PE X b tb) {pins:List (Addr×Obj)} {s:Shared} {σ:St} {H:Hp} {R:V→V→Hp→Prop} (I:Inv X pins σ H s)
  (h:ta σ H fun x H1=>tb σ H1 fun y H2=>R x y H2) {Q:Value→Shared→Prop} {f:Value→Value→Sem Value}
  (hf:∀ v u s2 x y H2,Inv X pins σ H2 s2→RelV x v→RelV y u→R x y H2→wpAny (model X.prog X.w) X.A (f v u) Q X.xe s2) :
  wpAny (model X.prog X.w) X.A (eval a X.env) (fun v s₁=>wpAny (model X.prog X.w) X.A (eval b X.env) (fun u s₂=>wpAny (model X.prog X.w) X.A (f v u) Q X.xe s₂) X.xe s₁) X.xe s:=by
 refine thn (ha pins s σ H _ I h) fun v s1 ⟨x,H1,I1,r1,q1⟩=>?_
 refine thn (hb pins s1 σ H1 _ I1 q1) fun u s2 ⟨y,H2,I2,r2,q2⟩=>?_
 exact hf v u s2 x y H2 I2 r1 r2 q2
theorem zaH {op:Operator} {r:R2} (ho:OpR X (binaryOp op) r) (ha:PE X a ta) (hb:PE X b tb):PE X (.BinOp a op b pos) (tOp r ta tb):=by
 intro pins s σ H Q I h
 exact wpAny_BinOp (binT ha hb I h fun v u s2 x y H2 I2 rx ry q=>ho pins s2 σ H2 x y v u Q I2 rx ry q)
theorem zbm {op:UnaryOp} {r:V→Hp→VK→Prop} (ho:UnR X (unaryOp op) r) (ha:PE X a ta):PE X (.UnaryOp op a pos) (tUn r ta):=by
 intro pins s σ H Q I h
 exact UnaryOp_ (thn (ha pins s σ H _ I h) fun v s1 ⟨x,H1,I1,r1,q1⟩=>ho pins s1 σ H1 x v Q I1 r1 q1)
theorem opI {f:Value→Value→Sem Value} {C:Int→Int→Prop} {g:Int→Int→Int}
  (rule:∀ (i j:Int) (t u:Tok) (s:Shared) (Q:Value→Shared→Prop) (E:Value→Shared→Prop),C i j→Q (.int (g i j) s.toks) { s with toks:=s.toks+1 }→wpAny (model X.prog X.w) X.A (f (.int i t) (.int j u)) Q E s) :
  OpR X f (rI C fun i j=>.int (g i j)):=by
 intro pins s σ H x y v u Q I rx ry h
 obtain ⟨i,j,rfl,rfl,hc,q⟩:=h
 obtain ⟨t,rfl⟩:=rx
 obtain ⟨t',rfl⟩:=ry
 exact rule i j t t' s _ _ hc ⟨.int (g i j),H,I.tok _,⟨_,rfl⟩,q⟩
theorem opI0 {f:Value→Value→Sem Value} {g:Int→Int→Int}
  (rule:∀ (i j:Int) (t u:Tok) (s:Shared) (Q:Value→Shared→Prop) (E:Value→Shared→Prop),Q (.int (g i j) s.toks) { s with toks:=s.toks+1 }→wpAny (model X.prog X.w) X.A (f (.int i t) (.int j u)) Q E s) :
  OpR X f (rI0 fun i j=>.int (g i j)):=by
 intro pins s σ H x y v u Q I rx ry h
 obtain ⟨i,j,rfl,rfl,q⟩:=h
 obtain ⟨t,rfl⟩:=rx
 obtain ⟨t',rfl⟩:=ry
 exact rule i j t t' s _ _ ⟨.int (g i j),H,I.tok _,⟨_,rfl⟩,q⟩
theorem opB0 {f:Value→Value→Sem Value} {g:Int→Int→Bool}
  (rule:∀ (i j:Int) (t u:Tok) (s:Shared) (Q:Value→Shared→Prop) (E:Value→Shared→Prop),Q (.bool (g i j)) s→wpAny (model X.prog X.w) X.A (f (.int i t) (.int j u)) Q E s) :
  OpR X f (rI0 fun i j=>.bl (g i j)):=by
 intro pins s σ H x y v u Q I rx ry h
 obtain ⟨i,j,rfl,rfl,q⟩:=h
 obtain ⟨t,rfl⟩:=rx
 obtain ⟨t',rfl⟩:=ry
 exact rule i j t t' s _ _ ⟨.bl (g i j),H,I,rfl,q⟩
def CPow (i j:Int):Prop:=0≤j∧j≤1000000∧i.natAbs < 2 ^ 64
def CMul (i j:Int):Prop:=(-(2 ^ 64) < i∧i < 2 ^ 64)∨(-(2 ^ 64) < j∧j < 2 ^ 64)
theorem CMul.ok {i j:Int} (h:CMul i j):IntMulOk i j:=by
 rcases h with ⟨h1,h2⟩ | ⟨h1,h2⟩
 ·exact .of_left (intBits_le_64 h1 h2)
 ·exact .of_right (intBits_le_64 h1 h2)
theorem zbu:OpR X (binaryOp .Add) (rI0 fun i j=>.int (i+j)):=opI0 fun _ _ _ _ _ _ _ q=>add_int q
theorem zb4:OpR X (binaryOp .Sub) (rI0 fun i j=>.int (i - j)):=opI0 fun _ _ _ _ _ _ _ q=>sub_int q
theorem zkR:OpR X (binaryOp .Mult) (rI CMul fun i j=>.int (i * j)):=opI fun _ _ _ _ _ _ _ hc q=>mul_int q hc.ok
theorem zkO:OpR X (binaryOp .LShift) (rI CPow fun i j=>.int (i * 2 ^ j.toNat)):=opI fun _ _ _ _ _ _ _ hc q=>lshift_int_small hc.1 hc.2.1 hc.2.2 q
theorem zh9:OpR X (binaryOp .BitAnd) (rI0 fun i j=>.int (Builtin.bitAnd i j)):=opI0 fun _ _ _ _ _ _ _ q=>and_int q
theorem zld:OpR X (binaryOp .BitOr) (rI0 fun i j=>.int (Builtin.bitOr i j)):=opI0 fun _ _ _ _ _ _ _ q=>or_int q
theorem unI {f:Value→Sem Value} {g:Int→Int}
  (rule:∀ (i:Int) (t:Tok) (s:Shared) (Q:Value→Shared→Prop) (E:Value→Shared→Prop),Q (.int (g i) s.toks) { s with toks:=s.toks+1 }→wpAny (model X.prog X.w) X.A (f (.int i t)) Q E s) :
  UnR X f (rU fun i=>.int (g i)):=by
 intro pins s σ H x v Q I rx h
 obtain ⟨i,rfl,q⟩:=h
 obtain ⟨t,rfl⟩:=rx
 exact rule i t s _ _ ⟨.int (g i),H,I.tok _,⟨_,rfl⟩,q⟩
theorem zaZ:UnR X (unaryOp .USub) (rU fun i=>.int (-i)):=unI fun _ _ _ _ _ q=>neg_int q
theorem zkv:UnR X (unaryOp .Invert) (rU fun i=>.int (Builtin.bitNot i)):=unI fun _ _ _ _ _ q=>invert_int q
end
def scal:V→V→Bool
 | .non,.non=>true | .non,.int _=>true | .int _,.non=>true | .non,.bl _=>true | .bl _,.non=>true | .non,.str _=>true | .str _,.non=>true
 | .int _,.int _=>true | .bl _,.bl _=>true | .str _,.str _=>true | .byt _,.byt _=>true
 | .int _,.str _=>true | .str _,.int _=>true | .bl _,.str _=>true | .str _,.bl _=>true
 | _,_=>false
def rEq:R2:=fun x y H Q=>scal x y=true∧Q (.bl (decide (x=y))) H
def rNe:R2:=fun x y H Q=>scal x y=true∧Q (.bl (!decide (x=y))) H
theorem zbH {i j:Int}:decide (V.int i=V.int j)=(i == j):=by
 rw [Bool.eq_iff_iff]
 simp
theorem zjT {i j:Bool}:decide (V.bl i=V.bl j)=(i == j):=by
 rw [Bool.eq_iff_iff]
 simp
theorem ziO {i j:Str}:decide (V.str i=V.str j)=(i == j):=by
 rw [Bool.eq_iff_iff]
 simp
theorem ziP {i j:Array UInt8}:decide (V.byt i=V.byt j)=(i.toList == j.toList):=by
 rw [Bool.eq_iff_iff]
 cases i
 cases j
 simp
section
variable {X:Cx} {a b c:Expr} {ta tb tc:TE} {pos:Pos}
theorem zaN {pins:List (Addr×Obj)} {σ:St} {H:Hp} {s:Shared} {Q:VK} {k k':Bool} (I:Inv X pins σ H s) (q:Q (.bl k) H) (e:k=k'):EP X pins σ Q (.bool k') s:=by
 subst e
 exact ⟨.bl k,H,I,rfl,q⟩
theorem za6:OpR X (compareOp .Eq) rEq:=by
 intro pins s σ H x y v u Q I rx ry h
 obtain ⟨hs,q⟩:=h
 cases x with
 | non =>
  cases rx
  cases y with
  | non=>cases ry; exact PySem.EqNone.eq_none_none (zaN I q (by simp))
  | bl j=>cases ry; exact PySem.EqNone.eq_none_bool (zaN I q (by simp))
  | int j=>obtain ⟨t',rfl⟩:=ry; exact PySem.EqNone.eq_none_int (zaN I q (by simp))
  | str j=>obtain ⟨t',rfl⟩:=ry; exact PySem.EqNone.eq_none_str (zaN I q (by simp))
  | _=>exact absurd (show false=true from hs) Bool.false_ne_true
 | bl i =>
  cases rx
  cases y with
  | non=>cases ry; exact PySem.EqNone.eq_bool_none (zaN I q (by simp))
  | bl j=>cases ry; exact eq_bool (zaN I q zjT)
  | str j=>obtain ⟨t',rfl⟩:=ry; exact PySem.EqMixed.eq_bool_str (zaN I q (by simp))
  | _=>exact absurd (show false=true from hs) Bool.false_ne_true
 | int i =>
  obtain ⟨t,rfl⟩:=rx
  cases y with
  | non=>cases ry; exact PySem.EqNone.eq_int_none (zaN I q (by simp))
  | int j=>obtain ⟨t',rfl⟩:=ry; exact eq_int (zaN I q zbH)
  | str j=>obtain ⟨t',rfl⟩:=ry; exact PySem.EqMixed.eq_int_str (zaN I q (by simp))
  | _=>exact absurd (show false=true from hs) Bool.false_ne_true
 | str i =>
  obtain ⟨t,rfl⟩:=rx
  cases y with
  | non=>cases ry; exact PySem.EqNone.eq_str_none (zaN I q (by simp))
  | bl j=>cases ry; exact PySem.EqMixed.eq_str_bool (zaN I q (by simp))
  | int j=>obtain ⟨t',rfl⟩:=ry; exact PySem.EqMixed.eq_str_int (zaN I q (by simp))
  | str j=>obtain ⟨t',rfl⟩:=ry; exact eq_str (zaN I q ziO)
  | _=>exact absurd (show false=true from hs) Bool.false_ne_true
 | byt i =>
  obtain ⟨t,rfl⟩:=rx
  cases y with
  | byt j=>obtain ⟨t',rfl⟩:=ry; exact PySem.W.eq_bytes (zaN I q ziP)
  | _=>exact absurd (show false=true from hs) Bool.false_ne_true
 | _=>cases y<;>exact absurd (show false=true from hs) Bool.false_ne_true
theorem zhe:OpR X (compareOp .NotEq) rNe:=by
 intro pins s σ H x y v u Q I rx ry h
 obtain ⟨hs,q⟩:=h
 cases x with
 | non =>
  cases rx
  cases y with
  | non=>cases ry; exact PySem.EqNone.ne_none_none (zaN I q (by simp))
  | bl j=>cases ry; exact PySem.EqNone.ne_none_bool (zaN I q (by simp))
  | int j=>obtain ⟨t',rfl⟩:=ry; exact PySem.EqNone.ne_none_int (zaN I q (by simp))
  | str j=>obtain ⟨t',rfl⟩:=ry; exact PySem.EqNone.ne_none_str (zaN I q (by simp))
  | _=>exact absurd (show false=true from hs) Bool.false_ne_true
 | bl i =>
  cases rx
  cases y with
  | non=>cases ry; exact PySem.EqNone.ne_bool_none (zaN I q (by simp))
  | bl j=>cases ry; exact ne_bool (zaN I q (congrArg not zjT))
  | str j=>obtain ⟨t',rfl⟩:=ry; exact PySem.EqMixed.ne_bool_str (zaN I q (by simp))
  | _=>exact absurd (show false=true from hs) Bool.false_ne_true
 | int i =>
  obtain ⟨t,rfl⟩:=rx
  cases y with
  | non=>cases ry; exact PySem.EqNone.ne_int_none (zaN I q (by simp))
  | int j=>obtain ⟨t',rfl⟩:=ry; exact ne_int (zaN I q (congrArg not zbH))
  | str j=>obtain ⟨t',rfl⟩:=ry; exact PySem.EqMixed.ne_int_str (zaN I q (by simp))
  | _=>exact absurd (show false=true from hs) Bool.false_ne_true
 | str i =>
  obtain ⟨t,rfl⟩:=rx
  cases y with
  | non=>cases ry; exact PySem.EqNone.ne_str_none (zaN I q (by simp))
  | bl j=>cases ry; exact PySem.EqMixed.ne_str_bool (zaN I q (by simp))
  | int j=>obtain ⟨t',rfl⟩:=ry; exact PySem.EqMixed.ne_str_int (zaN I q (by simp))
  | str j=>obtain ⟨t',rfl⟩:=ry; exact ne_str (zaN I q (congrArg not ziO))
  | _=>exact absurd (show false=true from hs) Bool.false_ne_true
 | byt i =>
  obtain ⟨t,rfl⟩:=rx
  cases y with
  | byt j=>obtain ⟨t',rfl⟩:=ry; exact PySem.W.ne_bytes (zaN I q (congrArg not ziP))
  | _=>exact absurd (show false=true from hs) Bool.false_ne_true
 | _=>cases y<;>exact absurd (show false=true from hs) Bool.false_ne_true
theorem zcY:OpR X (compareOp .Lt) (rI0 fun i j=>.bl (decide (i < j))):=opB0 fun _ _ _ _ _ _ _ q=>lt_int q
theorem zbg:OpR X (compareOp .LtE) (rI0 fun i j=>.bl (decide (i≤j))):=opB0 fun _ _ _ _ _ _ _ q=>le_int q
theorem zjp:OpR X (compareOp .Gt) (rI0 fun i j=>.bl (decide (j < i))):=opB0 fun _ _ _ _ _ _ _ q=>gt_int q
theorem nomark (b:Expr) {op:CmpOp} (h:op≠.In:=by decide) (h2:op≠.NotIn:=by decide):behindInMarks op b=false:=by
 have e1:(op == CmpOp.In)=false:=by cases op<;>first | rfl | exact absurd rfl h
 have e2:(op == CmpOp.NotIn)=false:=by cases op<;>first | rfl | exact absurd rfl h2
 cases b<;>simp [behindInMarks,e1,e2]
theorem zbY {op:CmpOp} {r:R2} (ho:OpR X (compareOp op) r) (ha:PE X a ta) (hb:PE X b tb) (hm:behindInMarks op b=false):PE X (.Compare a [op] [b] pos) (tOp r ta tb):=by
 intro pins s σ H Q I h
 exact wpAny_Compare1 (binT ha hb I h fun v u s2 x y H2 I2 rx ry q=>ho pins s2 σ H2 x y v u Q I2 rx ry q) hm
def tTest (t:TE):TT:=fun σ H Q=>t σ H fun x H'=>∃ k,x = .bl k∧Q k H'
theorem zan {op:CmpOp} {r:R2} (ho:OpR X (compareOp op) r) (ha:PE X a ta) (hb:PE X b tb) (hm:behindInMarks op b=false):PT X (.Compare a [op] [b] pos) (tTest (tOp r ta tb)):=by
 intro pins s σ H Q I h
 refine wpAny_isTrue_Compare1 (thn (ha pins s σ H _ I h) fun v s1 ⟨x,H1,I1,r1,q1⟩=>thn (hb pins s1 σ H1 _ I1 q1) fun u s2 ⟨y,H2,I2,r2,q2⟩ =>
  thn (ho pins s2 σ H2 x y v u _ I2 r1 r2 q2) fun c s3 ⟨z,H3,I3,r3,k,e,q3⟩=>?_) hm
 subst e
 cases r3
 exact wpAny_truthy_bool ⟨H3,I3,q3⟩
def tChain (r r':R2) (ta tb tc:TE):TE:=fun σ H Q=>ta σ H fun x H1=>tb σ H1 fun y H2=>r x y H2 fun z H3=>∃ k,z = .bl k ∧
 (if k=true then tc σ H3 fun w' H4=>r' y w' H4 Q else Q (.bl false) H3)
theorem zjo {op op':CmpOp} {r r':R2} (ho:OpR X (compareOp op) r) (ho':OpR X (compareOp op') r') (ha:PE X a ta) (hb:PE X b tb) (hc:PE X c tc)
  (hm:lastMarks [op,op'] [b,c]=false:=by with_unfolding_all rfl):PE X (.Compare a [op,op'] [b,c] pos) (tChain r r' ta tb tc):=by
 intro pins s σ H Q I h
 refine Compare_chain (thn (ha pins s σ H _ I h) fun v s1 ⟨x,H1,I1,r1,q1⟩=>chain_link (thn (hb pins s1 σ H1 _ I1 q1) fun u s2 ⟨y,H2,I2,r2,q2⟩ =>
  thn (ho pins s2 σ H2 x y v u _ I2 r1 r2 q2) fun d s3 ⟨z,H3,I3,r3,k,e,q3⟩=>?_)) hm
 subst e
 cases r3
 refine wpAny_truthy_bool ?_
 cases k with
 | false=>exact ite_ff ⟨.bl false,H3,I3,rfl,q3⟩
 | true=>exact ite_tt (chain_last (thn (hc pins s3 σ H3 _ I3 q3) fun w' s4 ⟨z',H4,I4,r4,q4⟩=>ho' pins s4 σ H4 y z' u w' Q I4 r2 r4 q4))
theorem zbk {op op':CmpOp} {r r':R2} (ho:OpR X (compareOp op) r) (ho':OpR X (compareOp op') r') (ha:PE X a ta) (hb:PE X b tb) (hc:PE X c tc)
  (hm:lastMarks [op,op'] [b,c]=false:=by with_unfolding_all rfl):PT X (.Compare a [op,op'] [b,c] pos) (tTest (tChain r r' ta tb tc)):=by
 intro pins s σ H Q I h
 refine isTrue_chain (thn (ha pins s σ H _ I h) fun v s1 ⟨x,H1,I1,r1,q1⟩=>test_link (thn (hb pins s1 σ H1 _ I1 q1) fun u s2 ⟨y,H2,I2,r2,q2⟩ =>
  thn (ho pins s2 σ H2 x y v u _ I2 r1 r2 q2) fun d s3 ⟨z,H3,I3,r3,k,e,q3⟩=>?_)) hm
 subst e
 cases r3
 refine wpAny_truthy_bool ?_
 cases k with
 | false =>
  obtain ⟨k',e',q'⟩:=q3
  cases e'
  exact ite_ff ⟨H3,I3,q'⟩
 | true =>
  refine ite_tt (test_last (thn (hc pins s3 σ H3 _ I3 q3) fun w' s4 ⟨z',H4,I4,r4,q4⟩=>thn (ho' pins s4 σ H4 y z' u w' _ I4 r2 r4 q4) fun d' s5 ⟨z2,H5,I5,r5,k2,e2,q5⟩=>?_))
  subst e2
  cases r5
  exact wpAny_truthy_bool ⟨H5,I5,q5⟩
theorem line63:(sizeLine:Nat) < 2 ^ 63:=by rw [sizeLine_eq]; decide
theorem vals1 {x:V} {us:List Value} (r:Vals [x] us):∃ u,us=[u]∧RelV x u:=by
 cases r with
 | cons r1 r2=>cases r2; exact ⟨_,rfl,r1⟩
end
end L2
namespace L2
open PySem PySem.Spec PyProof.Rows
structure ObjM (h:Heap) (x dx C:Addr) (mA:Str→Option Value):Prop where
 obj:h.get? x=some (PySem.W.instObj C dx)
 ns:h.Ns1 dx mA
 ne:dx≠x
theorem zin {h:Heap} {dx:Addr} {mA:Str→Option Value} (n:h.Ns1 dx mA):∃ od,h.get? dx=some od∧∀ name,PySem.W.lookIn name od=some (mA name):=by
 obtain ⟨o,es,ep,ho,hd,hk,_,hm⟩:=n
 refine ⟨o,ho,fun name=>?_⟩
 have e:=hm name
 unfold nsFind findBy at e
 rw [← Array.find?_toList] at e
 unfold PySem.W.lookIn
 rw [hd]
 dsimp only
 split
 ·rename_i y q
  rw [q] at e
  exact congrArg some e
 ·rename_i q
  rw [q] at e
  have a:es.toList.any (·.refKey)=false:=by
   rw [List.any_eq_false]
   intro y hy
   obtain ⟨z,t,hkey⟩:=hk y (Array.mem_toList_iff.mp hy)
   simp [DictEntry.refKey,hkey]
  have a':¬ es.toList.any (·.refKey)=true:=by rw [a]; exact Bool.false_ne_true
  rw [if_neg a']
  exact congrArg some e
theorem ObjM.look {h:Heap} {x dx C:Addr} {mA:Str→Option Value} (I:ObjM h x dx C mA):∃ od,PySem.W.InstAt h x (PySem.W.instObj C dx) C (some od)∧∀ name,PySem.W.lookIn name od=some (mA name) :=
 let ⟨od,ho,hl⟩:=zin I.ns
 ⟨od,⟨I.obj,rfl,rfl,ho⟩,hl⟩
section
variable {prog:Program} {w:World} {A:Around} {E:Value→Shared→Prop} {s:Shared} {K:PySem.W.Frag} {x dx C f:Addr} {mA:Str→Option Value} {name:Str} {v:Value}
theorem zkm {expr:Bool} {Q:Value→Shared→Prop} (X:K.In s.heap) (I:ObjM s.heap x dx C mA) (hg:PySem.W.plainGet K C name=true) (hh:PySem.W.hasDictIn K C=true)
  (ha:PySem.W.findIn K (.ref C) name=some none) (hv:mA name=some v) (hv':PySem.W.handedIn v=true) (h:Q v { s with toks:=s.toks+1 }) :
  wpAny (model prog w) A (getAttr (.ref x) name expr) Q E s:=by
 obtain ⟨od,J,hl⟩:=I.look
 exact PySem.W.get_value X J (PySem.W.plainGet_of hg).1 (PySem.W.findObj_own hh ha rfl (by rw [hl,hv])) hv' h
theorem zj0 {ns:List Str} {Q:Unit→Shared→Prop} (X:K.In s.heap) (I:ObjM s.heap x dx C mA)
  (hs:PySem.W.findIn K (.ref C) "__setattr__"=some (some (.builtin "object.__setattr__"))) (hp:PySem.W.plainOver K C=true) (ht:PySem.W.takerIn K C name=some none) (hh:PySem.W.hasDictIn K C=true)
  (hw:PySem.Within mA ns) (hsz:ns.length≤sizeLine)
  (h:∀ h',ObjM h' x dx C (fun y=>if y=name then some v else mA y)→Heap.SameBut dx s.heap h'→Q () { s with heap:=h',toks:=s.toks+2 }) :
  wpAny (model prog w) A (setAttr (.ref x) name v) Q E s:=by
 obtain ⟨od,J,hl⟩:=I.look
 refine PySem.W.set_plain X J hs (PySem.W.osa_open (s:={ s with toks:=s.toks+1 }) (r:=none) X J hp ht fun b=>?_)
 obtain ⟨cd,hc,hd'⟩:=PySem.W.any_some hh
 have hx:s.heap.get? x=some ⟨.ref C,some dx,.plain,#[]⟩:=I.obj
 refine wpAny_bind (wpAny_pure (wpAny_bind (wpAny_bind (wpAny_loadPart hx (wpAny_bind (PySem.W.Looks.here (s:={ s with toks:=s.toks+1 }) (PySem.W.looks_clsIn X hc) ?_))))))
 rw [hd']
 refine wpAny_pure (a:=some dx) (wpAny_bind (wpAny_pure (wpAny_bind ?_)))
 refine wpAny_nsSet1 (s:={ s with toks:=s.toks+1 }) I.ns fun h' hn2 hs2=>?_
 obtain ⟨oD,esD,epD,hoD,hdD,hcD⟩:=hn2.count (PySem.Within.cons name v hw)
 refine wpAny_bind (wpAny_lookBehind hoD (by rw [hdD]; exact pastItsLine_dict (Nat.le_trans hcD (by rw [List.length_cons]; omega))) ?_)
 exact wpAny_pure (h _ ⟨(hs2.2 _ (Ne.symm I.ne)).trans I.obj,hn2,I.ne⟩ hs2)
theorem zjs {R:Result→Shared→Prop} {vs:List Value} {kw:List (Str×Value)} (X:K.In s.heap) (hm:PySem.W.makesIn K C=true)
  (hi:PySem.W.findIn K (.ref C) "__init__"=some (some (.ref f))) (hf:PySem.W.typeIn K (.ref f)=some (.type "function"))
  (h:codeAny (model prog w) (A.under (.builtin "type.__call__" ⟨.ref C::vs,kw⟩)) (.call (.ref f) ⟨.ref (s.heap.objs.size+1)::vs,kw⟩) (PySem.W.InitBack (s.heap.objs.size+1) R)
   { s with heap:=(s.heap.push PySem.W.emptyDict).push (PySem.W.instObj C s.heap.objs.size) }) :
  codeAny (model prog w) A (.call (.ref C) ⟨vs,kw⟩) R s:=by
 obtain ⟨hh,g,d,t,os⟩:=s
 exact PySem.W.make_core (PySem.W.makes_of X hm) (PySem.W.looks_findIn X hi) (fun self=>PySem.W.bind_fn X self hf) (.inl rfl) h
end
def putF (f:Str) (v:V):List (Str×V)→List (Str×V)
 | []=>[(f,v)]
 | (g,x)::r=>if g=f then (g,v)::r else (g,x)::putF f v r
theorem zdL (f g:Str) (v:V):∀ fs:List (Str×V),(putF f v fs).lookup g=if g=f then some v else fs.lookup g
 | []=>by
  show List.lookup g [(f,v)]=_
  by_cases h:g=f
  ·have hb:(g == f)=true:=beq_iff_eq.mpr h
   simp only [List.lookup,hb,if_pos h]
  ·have hb:(g == f)=false:=beq_eq_false_iff_ne.mpr h
   simp only [List.lookup,hb,if_neg h]
 | (k,x)::r=>by
  have ih:=zdL f g v r
  rw [show putF f v ((k,x)::r)=(if k=f then (k,v)::r else (k,x)::putF f v r) from rfl]
  by_cases hk:k=f
  ·rw [if_pos hk]
   by_cases h:g=k
   ·have hb:(g == k)=true:=beq_iff_eq.mpr h
    simp only [List.lookup,hb,if_pos (h.trans hk)]
   ·have hb:(g == k)=false:=beq_eq_false_iff_ne.mpr h
    simp only [List.lookup,hb,if_neg (fun e:g=f=>h (e.trans hk.symm))]
  ·rw [if_neg hk]
   by_cases h:g=k
   ·have hb:(g == k)=true:=beq_iff_eq.mpr h
    simp only [List.lookup,hb,if_neg (fun e:g=f=>hk (h.symm.trans e))]
   ·have hb:(g == k)=false:=beq_eq_false_iff_ne.mpr h
    simp only [List.lookup,hb]
    exact ih
theorem zdO (f:Str) (v:V):∀ fs:List (Str×V),f∈(putF f v fs).map (·.1)∧∀ g,g∈fs.map (·.1)→g∈(putF f v fs).map (·.1)
 | []=>⟨by simp [putF],fun g h=>by simp at h⟩
 | (k,x)::r=>by
  obtain ⟨i1,i2⟩:=zdO f v r
  rw [show putF f v ((k,x)::r)=(if k=f then (k,v)::r else (k,x)::putF f v r) from rfl]
  by_cases hk:k=f
  ·rw [if_pos hk]
   subst hk
   exact ⟨by simp,fun g h=>by simpa using h⟩
  ·rw [if_neg hk]
   refine ⟨?_,fun g h=>?_⟩
   ·rw [List.map_cons]
    exact List.mem_cons_of_mem _ i1
   ·rw [List.map_cons] at h ⊢
    rcases List.mem_cons.mp h with e | e
    ·exact List.mem_cons.mpr (.inl e)
    ·exact List.mem_cons_of_mem _ (i2 g e)
theorem zdN (f:Str) (v:V):∀ fs:List (Str×V),(putF f v fs).length≤fs.length+1
 | []=>by simp [putF]
 | (k,x)::r=>by
  have ih:=zdN f v r
  rw [show putF f v ((k,x)::r)=(if k=f then (k,v)::r else (k,x)::putF f v r) from rfl]
  by_cases hk:k=f
  ·rw [if_pos hk,List.length_cons,List.length_cons]; omega
  ·rw [if_neg hk,List.length_cons,List.length_cons]; omega
theorem RelO.some_of {v:V} {o:Option Value} (r:RelO (some v) o):∃ u,o=some u∧RelV v u:=by
 cases o with
 | none=>exact (show False from r).elim
 | some u=>exact ⟨u,rfl,r⟩
theorem ziE {v:V} {u:Value} (r:RelV v u):PySem.W.handedIn u=true:=by
 cases v with
 | non=>cases (show u=Value.none from r); rfl
 | bl b=>cases (show u=Value.bool b from r); rfl
 | int i=>obtain ⟨t,e⟩:=(show ∃ t,u=Value.int i t from r); cases e; rfl
 | str x=>obtain ⟨t,e⟩:=(show ∃ t,u=Value.str x t from r); cases e; rfl
 | byt b=>obtain ⟨t,e⟩:=(show ∃ t,u=Value.bytes b t from r); cases e; rfl
 | flt b=>obtain ⟨t,e⟩:=(show ∃ t,u=Value.float b t from r); cases e; rfl
 | ref a=>cases (show u=Value.ref a from r); rfl
 | ty n=>cases (show u=Value.type n from r); rfl
section
variable {P:Program} {w:World} {H H':Hp} {h h':Heap} {a C dx:Addr} {fs fs':List (Str×V)}
theorem ziy (hok:HOk P w H h) (e:H a=some (.ins C dx fs)):∃ mA,ObjM h a dx C mA∧(∀ f,RelO (fs.lookup f) (mA f))∧PySem.Within mA (fs.map (·.1))∧fs.length≤1000∧H dx=some (.own a):=by
 obtain ⟨d,z,ne,ob,mA,n,r,q⟩:=(show ObjOk P w H h a (.ins C dx fs) from hok a _ e)
 exact ⟨mA,⟨ob,n,ne⟩,r,q,z,d⟩
end
structure Cls (K:PySem.W.Frag) (C:Addr):Prop where
 pg:PySem.W.plainGet K C Str.empty=true
 hd:PySem.W.hasDictIn K C=true
 po:PySem.W.plainOver K C=true
 sa:PySem.W.findIn K (.ref C) "__setattr__"=some (some (.builtin "object.__setattr__"))
theorem Cls.get {K:PySem.W.Frag} {C:Addr} (c:Cls K C) (f:Str):PySem.W.plainGet K C f=true:=c.pg
def NoAttr (K:PySem.W.Frag) (C:Addr) (f:Str):Prop:=PySem.W.findIn K (.ref C) f=some none
theorem NoAttr.taker {K:PySem.W.Frag} {C:Addr} {f:Str} (n:NoAttr K C f):PySem.W.takerIn K C f=some none:=by
 unfold PySem.W.takerIn
 rw [show PySem.W.findIn K (.ref C) f=some none from n]
 rfl
section
variable {X:Cx} {pins:List (Addr×Obj)} {σ:St} {H:Hp} {s:Shared} {a C dx:Addr} {fs:List (Str×V)} {f:Str} {v:V} {A:Around} {E:Value→Shared→Prop}
theorem zeo {b:Bool} {Q:Value→Shared→Prop} (I:Inv X pins σ H s) (e:H a=some (.ins C dx fs)) (c:Cls X.K C) (n:NoAttr X.K C f) (l:fs.lookup f=some v)
  (h:∀ u s',Inv X pins σ H s'→RelV v u→Q u s'):wpAny (model X.prog X.w) A (getAttr (.ref a) f b) Q E s:=by
 obtain ⟨mA,O,r,_,_,_⟩:=ziy I.hok e
 obtain ⟨u,hu,ru⟩:=RelO.some_of (v:=v) (o:=mA f) (by rw [← l]; exact r f)
 exact zkm I.kIn O (c.get f) c.hd n hu (ziE ru) (h u _ (I.tok _) ru)
theorem zek {y:V} {u:Value} {Q:Unit→Shared→Prop} (I:Inv X pins σ H s) (e:H a=some (.ins C dx fs)) (c:Cls X.K C) (n:NoAttr X.K C f) (hl:fs.length < 1000) (ry:RelV y u)
  (h:∀ s',Inv X pins σ (upd H a (.ins C dx (putF f y fs))) s'→Q () s'):wpAny (model X.prog X.w) A (setAttr (.ref a) f u) Q E s:=by
 obtain ⟨mA,O,r,wi,_,ho⟩:=ziy I.hok e
 have hz:(fs.map (·.1)).length≤sizeLine:=by rw [List.length_map,sizeLine_eq]; omega
 refine zj0 I.kIn O c.sa c.po n.taker c.hd wi hz fun h' O' sb=>h _ ?_
 have hd:∃ o,h'.get? dx=some o:=let ⟨o,_,_,e',_⟩:=O'.ns; ⟨o,e'⟩
 refine I.write (x:=a) (e:=dx) (by rw [e]; exact True.intro) (.inr ho) (fun b q hb z=>(sb.2 b hb).trans z) hd ?_
 refine ⟨by rw [zaA O.ne]; exact ho,?_,O.ne,O'.obj,_,O'.ns,fun g=>?_,fun g hg=>?_⟩
 ·have:=zdN f y fs; omega
 ·show RelO ((putF f y fs).lookup g) (if g=f then some u else mA g)
  rw [zdL]
  by_cases q:g=f
  ·rw [if_pos q,if_pos q]; exact ry
  ·rw [if_neg q,if_neg q]; exact r g
 ·by_cases q:g=f
  ·rw [q]; exact (zdO f y fs).1
  ·refine (zdO f y fs).2 g (wi g fun z=>hg ?_)
   show (if g=f then some u else mA g)=none
   rw [if_neg q]; exact z
theorem Inv.made (I:Inv X pins σ H s):Inv X pins σ (upd (upd H s.heap.objs.size (.own (s.heap.objs.size+1))) (s.heap.objs.size+1) (.ins C s.heap.objs.size []))
  { s with heap:=(s.heap.push PySem.W.emptyDict).push (PySem.W.instObj C s.heap.objs.size) }:=by
 have e1:(s.heap.push PySem.W.emptyDict).get? s.heap.objs.size=some PySem.W.emptyDict:=Heap.get?_push_size s.heap rfl
 have e2:((s.heap.push PySem.W.emptyDict).push (PySem.W.instObj C s.heap.objs.size)).get? (s.heap.objs.size+1)=some (PySem.W.instObj C s.heap.objs.size):=by
  have:=Heap.get?_push_size (s.heap.push PySem.W.emptyDict) (o:=PySem.W.instObj C s.heap.objs.size) rfl
  rwa [Heap.size_push] at this
 have e3:(s.heap.push PySem.W.emptyDict).Ns s.heap.objs.size (fun _=>none):=⟨PySem.W.emptyDict,#[],_,e1,rfl,(fun e he=>absurd he (by simp)),fun _=>rfl⟩
 have I1:=I.laid (a:=s.heap.objs.size) (o:=.own (s.heap.objs.size+1)) (h':=s.heap.push PySem.W.emptyDict) (t':=s.toks) (fun b u q=>Heap.get?_push_of_some _ q) (Nat.le_refl _) ⟨_,e1⟩
 refine I1.laid (a:=s.heap.objs.size+1) (o:=.ins C s.heap.objs.size []) (t':=s.toks) (fun b u q=>Heap.get?_push_of_some _ q) (Nat.le_of_eq (Heap.size_push _ _)) ?_
 have ne:s.heap.objs.size≠s.heap.objs.size+1:=Nat.ne_of_lt (Nat.lt_succ_self _)
 refine ⟨by rw [zaA ne,zai],Nat.zero_le _,ne,e2,fun _=>none,(Heap.Ns1.of_empty e3).at fun o q=>Heap.get?_push_of_some _ q,fun _=>True.intro,fun y hy=>absurd rfl hy⟩
theorem zkr {prog:Program} {w:World} {env:Env} {e:Expr} {f:Str} {pos:Pos} {s:Shared} {Q:Value→Shared→Prop} (hb:attributeBase e f env (eval e env)=eval e env)
  (h:wpAny (model prog w) A (eval e env) (fun o s₁=>wpAny (model prog w) A (getAttr o f true) Q E s₁) E s):wpAny (model prog w) A (eval (.Attribute e f pos) env) Q E s :=
 Attribute_any_ h (by rw [arm_eval_Attribute,hb])
end
def tFld (K:PySem.W.Frag) (ta:TE) (f:Str):TE:=fun σ H Q=>ta σ H fun x H1=>∃ a C dx fs v,x = .ref a∧H1 a=some (.ins C dx fs)∧Cls K C∧NoAttr K C f∧fs.lookup f=some v∧Q v H1
def InOp (X:Cx) (op:Operator) (rd:V→V→Hp→VK→Prop):Prop :=
 ∀ (pins:List (Addr×Obj)) (s:Shared) (σ:St) (H:Hp) (x y:V) (u v:Value) (Q:VK),Inv X pins σ H s→RelV x u→RelV y v→rd x y H Q→wpAny (model X.prog X.w) X.A (inplaceOp op u v) (EP X pins σ Q) X.xe s
section
variable {X:Cx} {o e value:Expr} {f:Str} {pos pos' tpos:Pos} {ta tv:TE}
theorem zae (he:PE X e ta) (hb:attributeBase e f X.env (eval e X.env)=eval e X.env):PE X (.Attribute e f pos) (tFld X.K ta f):=by
 intro pins s σ H Q I h
 refine zkr hb (thn (he pins s σ H _ I h) fun u s1 ⟨x,H1,I1,rx,a,C,dx,fs,v,ex,ea,c,n,l,q⟩=>?_)
 subst ex
 obtain rfl:u=Value.ref a:=rx
 exact zeo I1 ea c n l fun u' s2 I2 ru=>⟨v,H1,I2,ru,q⟩
def rAdd:V→V→Hp→VK→Prop:=fun x y H Q=>∃ i j,x = .int i∧y = .int j∧Q (.int (i+j)) H
theorem zkY:InOp X .Add rAdd:=by
 rintro pins s σ H x y u v Q I rx ry ⟨i,j,rfl,rfl,q⟩
 obtain ⟨t,rfl⟩:=(show ∃ t,u=Value.int i t from rx)
 obtain ⟨t',rfl⟩:=(show ∃ t',v=Value.int j t' from ry)
 exact PyProof.Rows.iadd_int ⟨.int (i+j),H,I.tok _,⟨_,rfl⟩,q⟩
end
end L2
namespace L2
open PySem PySem.Spec PyProof.Rows
structure Room (k:Nat) (A:Around):Prop where
 hd:A.handled=none
 dp:A.depth+3 * k+5 < recursionLimit
 un:A.units+16 * k+200 < cLine
theorem Room.mono {j k:Nat} {A:Around} (r:Room k A) (h:j≤k):Room j A:=⟨r.hd,by have:=r.dp; omega,by have:=r.un; omega⟩
theorem Room.deeper {k:Nat} {A:Around} (r:Room (k+1) A) (env:Env):Room k (A.deeper env) :=
 ⟨r.hd,by have:=r.dp; show A.depth+1+3 * k+5 < _; omega,by have:=r.un; show A.units+3+16 * k+200 < _; omega⟩
theorem zhi {A:Around} {C:Addr} {us:List Value} {kw:List (Str×Value)}:(A.under (.builtin "type.__call__" ⟨.ref C::us,kw⟩)).depth=A.depth+1:=by
 first | rfl | simp [Around.under,Code.weight,Code.isCreation,Code.isGuard,Code.isCaller,Code.frames,Code.isFrame,guardIds]
theorem zhh {A:Around} {C:Addr} {us:List Value} {kw:List (Str×Value)}:(A.under (.builtin "type.__call__" ⟨.ref C::us,kw⟩)).units=A.units+1:=by
 first | rfl | simp [Around.under,Code.cUnits,Code.frames,Code.isFrame]
theorem Room.make {k:Nat} {A:Around} (r:Room (k+1) A) (C:Addr) (us:List Value) (kw:List (Str×Value)):Room k (A.under (.builtin "type.__call__" ⟨.ref C::us,kw⟩)) :=
 ⟨r.hd,by have:=r.dp; rw [zhi]; omega,by have:=r.un; rw [zhh]; omega⟩
theorem Room.depth {k:Nat} {A:Around} (r:Room k A):A.depth < recursionLimit:=by have:=r.dp; omega
theorem Room.units {k:Nat} {A:Around} (r:Room k A):A.units+64 < cLine:=by have:=r.un; omega
def tNil:TA:=fun _ H Q=>Q [] H
def tCons (ta:TE) (tr:TA):TA:=fun σ H Q=>ta σ H fun x H1=>tr σ H1 fun xs H2=>Q (x::xs) H2
section
variable {X:Cx} {e:Expr} {es:List Expr} {te:TE} {t:TA} {pos:Pos}
theorem zac:PA X [] tNil:=fun _ _ _ _ H Q I h=>Calls.spliced_nil ⟨[],H,I,.nil,h⟩
theorem zaa (ha:PE X e te) (hr:PA X es t) (hs:starEach (e::es) X.env=(false,eval e X.env)::starEach es X.env:=by rfl):PA X (e::es) (tCons te t):=by
 intro pos pins s σ H Q I h
 rw [hs]
 show wpAny _ _ (spliced ((false,eval e X.env)::backTo pos (starEach es X.env))) _ _ s
 refine Calls.spliced_cons (thn (ha pins s σ H _ I h) fun u s1 ⟨x,H1,I1,r1,q1⟩=>?_)
 exact thn (hr pos pins s1 σ H1 _ I1 q1) fun us s2 ⟨xs,H2,I2,r2,q2⟩=>⟨x::xs,H2,I2,.cons r1 r2,q2⟩
end
abbrev Sp:=List V→Hp→VK→XK→Prop
abbrev CXT:=List Env→Hp→Shared→XK→Value→Shared→Prop
structure Env0 (P:Program) (w:World) (K:PySem.W.Frag) (mg:Str→Option Value) (base:Heap) (A:Around) (outer:List Env) (s:Shared) (H:Hp):Prop where
 frames:A.frames=some outer
 mod:Mod K mg base
 bs:∀ b o,base.get? b=some o→s.heap.get? b=some o∧H b=none
 bsz:base.objs.size≤s.heap.objs.size
 funs:s.heap.FunFrames base outer
 frf:∀ b∈frs outer,H b=none
 hok:HOk P w H s.heap
 bare:AllBare s.gens
def CE (outer:List Env) (P:Program) (w:World) (H:Hp) (s:Shared) (Q:VK) (u:Value) (s':Shared):Prop :=
 ∃ v H',s'.os=s.os∧AllBare s'.gens∧Un (frs outer) [] H H' s.heap s'.heap∧HOk P w H' s'.heap∧RelV v u∧Q v H'
def CR (CX:CXT) (outer:List Env) (P:Program) (w:World) (H:Hp) (s:Shared) (Q:VK) (E:XK) (r:Result) (s':Shared):Prop :=
 match r with
 | .ok (.ret u)=>CE outer P w H s Q u s'
 | .ok _=>False
 | .error e=>CX outer H s E e s'
structure FnOk (P:Program) (w:World) (K:PySem.W.Frag) (mg:Str→Option Value) (base:Heap) (CX:CXT) (k:Nat) (f:Addr) (fd:FuncData) (ps:List Str) (sp:Sp):Prop where
 len:∀ vs H Q E,sp vs H Q E→vs.length=ps.length
 run:∀ (A:Around) (outer:List Env) (s:Shared) (H:Hp) (args:Args) (us:List Value) (vs:List V) (Q:VK) (E:XK),Room k A→Env0 P w K mg base A outer s H→BindsTo s fd args (ps.zip us)→Vals vs us→sp vs H Q E →
  codeAny (model P w) A (.call (.ref f) args) (CR CX outer P w H s Q E) s
theorem Env0.make {P:Program} {w:World} {K:PySem.W.Frag} {mg:Str→Option Value} {base:Heap} {A:Around} {outer:List Env} {s:Shared} {H:Hp} (e:Env0 P w K mg base A outer s H) (C:Addr) (us:List Value) (kw:List (Str×Value)) :
  Env0 P w K mg base (A.under (.builtin "type.__call__" ⟨.ref C::us,kw⟩)) outer s H:=⟨by first | exact e.frames | (simpa [Around.under,Code.envs,Code.isFrame,pushEnvs] using e.frames),e.mod,e.bs,e.bsz,e.funs,e.frf,e.hok,e.bare⟩
section
variable {X:Cx} {pins:List (Addr×Obj)} {σ:St} {H:Hp} {s s':Shared}
theorem Inv.env0 (I:Inv X pins σ H s):Env0 X.prog X.w X.K X.mg X.base X.A X.stack s H :=
 ⟨I.ok.frames,I.ok.mod,I.bs,Nat.le_trans I.ok.bsz I.sz,I.stack,I.stkFree,I.hok,I.bare⟩
theorem Inv.after {Q:VK} {u:Value} (I:Inv X pins σ H s) (h:CE X.stack X.prog X.w H s Q u s'):EP X pins σ Q u s':=by
 obtain ⟨v,H',os,bare,un,hok,r,q⟩:=h
 obtain ⟨hh,g,d,t,os'⟩:=s'
 obtain rfl:os'=s.os:=os
 exact ⟨v,H',I.call (h':=hh) (g':=g) (d':=d) (t':=t) (ch:=[]) un hok bare (fun b z=>absurd z (by simp)),r,q⟩
end
def tCall (sp:Sp) (dvs:List V) (E:XK) (t:TA):TE:=fun σ H Q=>t σ H fun vs H1=>sp (vs++dvs) H1 Q E
def Binds (K:PySem.W.Frag) (fd:FuncData) (ps:List Str) (ds:List Value):Prop :=
 ∀ (s:Shared) (us:List Value),K.In s.heap→(us++ds).length=ps.length→BindsTo s fd ⟨us,[]⟩ (ps.zip (us++ds))
theorem Binds.all {K:PySem.W.Frag} {fd:FuncData} {ps:List Str} (h:∀ us:List Value,us.length=ps.length→bindArgs fd ⟨us,[]⟩=pure (ps.zip us)):Binds K fd ps []:=fun s us _ hl=>by
 rw [List.append_nil] at hl ⊢
 exact .of_eq (h us hl)
def Passes (CX:CXT) (X:Cx) (E:XK):Prop:=∀ (pins:List (Addr×Obj)) (σ:St) (H:Hp) (s:Shared) (e:Value) (s':Shared),Inv X pins σ H s→CX X.stack H s E e s'→X.xe e s'
section
variable {X:Cx} {CX:CXT} {k:Nat} {f C:Addr} {fd:FuncData} {ps:List Str} {sp:Sp} {dvs:List V} {ds:List Value} {E:XK} {x m:Str} {p pos apos:Pos} {e o:Expr} {es:List Expr} {ta:TE} {t:TA}
theorem zkE {pins:List (Addr×Obj)} {σ:St} {H:Hp} {s:Shared} {Q:VK} {us:List Value} {vs:List V} (F:FnOk X.prog X.w X.K X.mg X.base CX k f fd ps sp) (hr:Room k X.A) (hb:Binds X.K fd ps ds) (hd:Vals dvs ds) (hx:Passes CX X E)
  (I:Inv X pins σ H s) (r:Vals vs us) (h:sp (vs++dvs) H Q E):wpAny (model X.prog X.w) X.A (call (.ref f) us) (EP X pins σ Q) X.xe s:=by
 have r2:Vals (vs++dvs) (us++ds):=r.append hd
 have hl:(us++ds).length=ps.length:=by rw [← r2.length]; exact F.len _ _ _ _ h
 refine wpAny_call (codeAny_mono (F.run X.A X.stack s H ⟨us,[]⟩ (us++ds) (vs++dvs) Q E hr I.env0 (hb s us I.kIn hl) r2 h) fun r s' hq=>?_)
 cases r with
 | error e=>exact hx pins σ H s e s' I hq
 | ok fl =>
  cases fl with
  | ret u=>exact I.after hq
  | next=>exact False.elim hq
  | brk=>exact False.elim hq
  | cont=>exact False.elim hq
theorem zj8 (F:FnOk X.prog X.w X.K X.mg X.base CX k f fd ps sp) (hr:Room k X.A) (hg:Gl X x) (hm:X.mg x=some (.ref f)) (hk:PySem.W.keepIn X.K (.ref f)=true) (hb:Binds X.K fd ps ds) (hd:Vals dvs ds) (hx:Passes CX X E)
  (ha:PA X (e::es) t) (hdb:(x == ("__debug__":Str))=false:=by decide) (he:starEach (e::es) X.env=(false,eval e X.env)::starEach es X.env:=by rfl) (hpl:(backTo pos (starEach es X.env)).any (·.1)=false:=by rfl) :
  PE X (.Call (.Name x p) (e::es) [] pos) (tCall sp dvs E t):=by
 intro pins s σ H Q I h
 refine wpAny_Call_Name_kw (zeZ I hg hm ?_ hdb)
 refine PySem.W.callWith_K (h₀:=X.base) I.ok.mod.kin hk (thn (ha pos pins s σ H _ I h) fun us s1 ⟨vs,H1,I1,r,q⟩=>⟨I1.kIn,?_⟩) he hpl
 exact zkE F hr hb hd hx I1 r q
structure Mk (K:PySem.W.Frag) (C f:Addr):Prop where
 makes:PySem.W.makesIn K C=true
 init:PySem.W.findIn K (.ref C) "__init__"=some (some (.ref f))
 fn:PySem.W.isFn K (.ref f)=true
 kp:PySem.W.keepIn K (.ref C)=true
theorem zgw {pins:List (Addr×Obj)} {σ:St} {H:Hp} {s:Shared} {Q:VK} {us:List Value} {vs:List V} (M:Mk X.K C f) (F:FnOk X.prog X.w X.K X.mg X.base CX k f fd ps sp) (hr:Room (k+1) X.A) (hb:Binds X.K fd ps ds) (hd:Vals dvs ds)
  (hx:Passes CX X E) (I:Inv X pins σ H s) (r:Vals vs us)
  (h:∀ x dx,H x=none→H dx=none→dx≠x→sp (.ref x::(vs++dvs)) (upd (upd H dx (.own x)) x (.ins C dx [])) (fun v H2=>v = .non∧Q (.ref x) H2) E) :
  wpAny (model X.prog X.w) X.A (call (.ref C) us) (EP X pins σ Q) X.xe s:=by
 have hq:=h (s.heap.objs.size+1) s.heap.objs.size (I.hok.fresh (Nat.le_succ _)) (I.hok.fresh (Nat.le_refl _)) (Nat.ne_of_lt (Nat.lt_succ_self _))
 have I2:=Inv.made (C:=C) I
 have r2:Vals (V.ref (s.heap.objs.size+1)::(vs++dvs)) (Value.ref (s.heap.objs.size+1)::(us++ds)):=.cons rfl (r.append hd)
 have hl:(Value.ref (s.heap.objs.size+1)::us++ds).length=ps.length:=by
  have e:=r2.length
  rw [F.len _ _ _ _ hq] at e
  exact e.symm
 refine wpAny_call (zjs (f:=f) I.kIn M.makes M.init (beq_iff_eq.mp M.fn) (codeAny_mono (F.run _ X.stack _ _ ⟨Value.ref (s.heap.objs.size+1)::us,[]⟩ (Value.ref (s.heap.objs.size+1)::(us++ds)) _ _ E (hr.make C us [])
  (I2.env0.make C us []) (hb _ (Value.ref (s.heap.objs.size+1)::us) I2.kIn hl) r2 hq) fun r s' hq'=>?_))
 cases r with
 | error e=>exact hx pins σ _ _ e s' I2 hq'
 | ok fl =>
  cases fl with
  | ret u =>
   obtain ⟨v,H',I3,rv,ev,q3⟩:=I2.after hq'
   subst ev
   exact ⟨rv,⟨V.ref (s.heap.objs.size+1),H',I3,rfl,q3⟩⟩
  | next=>exact False.elim hq'
  | brk=>exact False.elim hq'
  | cont=>exact False.elim hq'
end
structure FnScope (N P:List Str) (sc:Scope):Prop where
 kind:sc.kind = .function
 co:sc.isCoroutine=false
 gen:sc.isGenerator=false
 nd:N.Nodup
 pre:N.take P.length=P
 par:∀ x∈P,sc.names.lookup x=some .local∨sc.names.lookup x=some .cell
 nofree:∀ y∈sc.names,y.2≠.free
theorem zfV {kindOf:Str→Option NameKind} {x:Str}:∀ {binds:List (Str×Value)} {m:Str→Option Value},(∀ v,(x,v) ∉ binds)→bindL kindOf binds m x=m x
 | [],_,_=>rfl
 | (n,v)::r,m,h=>by
  unfold bindL
  rw [zfV fun w hw=>h w (List.mem_cons_of_mem _ hw)]
  split
  ·have:x≠n:=by rintro rfl; exact h v List.mem_cons_self
   simp [this]
  ·rfl
theorem zfX {kindOf:Str→Option NameKind} {x:Str}:∀ {binds:List (Str×Value)} {m:Str→Option Value},(∀ v,(x,v) ∉ binds)→bindC kindOf binds m x=m x
 | [],_,_=>rfl
 | (n,v)::r,m,h=>by
  unfold bindC
  rw [zfX fun w hw=>h w (List.mem_cons_of_mem _ hw)]
  split
  ·rfl
  ·have:x≠n:=by rintro rfl; exact h v List.mem_cons_self
   simp [this]
theorem zfW {kindOf:Str→Option NameKind} {x:Str} {v:Value}:∀ {P:List Str} {vs:List Value} {i:Nat} {m:Str→Option Value},P.Nodup→P[i]?=some x→vs[i]?=some v→kindOf x=some .local →
  bindL kindOf (P.zip vs) m x=some v
 | [],_,_,_,_,h,_,_=>by simp at h
 | _::_,[],_,_,_,_,h,_=>by simp at h
 | p::P,w::vs,0,m,nd,h1,h2,hk=>by
  simp at h1 h2; subst h1; subst h2
  show bindL kindOf ((p,w)::P.zip vs) m p=_
  unfold bindL
  rw [zfV fun v hv=>(List.nodup_cons.mp nd).1 (List.of_mem_zip hv).1,if_pos hk]
  simp
 | p::P,w::vs,i+1,m,nd,h1,h2,hk=>by
  show bindL kindOf ((p,w)::P.zip vs) m x=_
  unfold bindL
  exact zfW (i:=i) (List.nodup_cons.mp nd).2 (by simpa using h1) (by simpa using h2) hk
theorem zfY {kindOf:Str→Option NameKind} {x:Str} {v:Value}:∀ {P:List Str} {vs:List Value} {i:Nat} {m:Str→Option Value},P.Nodup→P[i]?=some x→vs[i]?=some v→kindOf x≠some .local →
  bindC kindOf (P.zip vs) m x=some v
 | [],_,_,_,_,h,_,_=>by simp at h
 | _::_,[],_,_,_,_,h,_=>by simp at h
 | p::P,w::vs,0,m,nd,h1,h2,hk=>by
  simp at h1 h2; subst h1; subst h2
  show bindC kindOf ((p,w)::P.zip vs) m p=_
  unfold bindC
  rw [zfX fun v hv=>(List.nodup_cons.mp nd).1 (List.of_mem_zip hv).1,if_neg hk]
  simp
 | p::P,w::vs,i+1,m,nd,h1,h2,hk=>by
  show bindC kindOf ((p,w)::P.zip vs) m x=_
  unfold bindC
  exact zfY (i:=i) (List.nodup_cons.mp nd).2 (by simpa using h1) (by simpa using h2) hk
def start (N:List Str) (vs:List V):St:=vs.map some++List.replicate (N.length - vs.length) none
def cxOf (CX:CXT) (P:Program) (w:World) (K:PySem.W.Frag) (mg:Str→Option Value) (base:Heap) (N:List Str) (qual:Str) (scope:Scope) (f:Addr) (cd:Value) (A:Around) (outer:List Env) (s:Shared) (H:Hp) (E:XK):Cx where
 prog:=P
 w:=w
 K:=K
 mg:=mg
 base:=base
 A:=A.deeper (envOfC qual scope s.heap.objs.size f cd)
 N:=N
 s_0:=s
 H_0:=H
 env:=envOfC qual scope s.heap.objs.size f cd
 outer:=outer
 stack:=envOfC qual scope s.heap.objs.size f cd::outer
 ex:=[]
 calm:=true
 fn:=fun _=>true
 pn:=[]
 xe:=fun e s'=>wpAny (model P w) (A.deeper (envOfC qual scope s.heap.objs.size f cd)) (leaving (envOfC qual scope s.heap.objs.size f cd) e) (fun _ s''=>CX outer H s E e s'') (fun e' s''=>CX outer H s E e' s'') s'
theorem zgY {sc:Scope} {n:Nat} {x:Str} (h:sc.names.lookup x=some .cell):∃ c,(cellsFrom n sc.names []).lookup x=some c:=by
 have q:=PySem.W.cellsFrom_some sc.names n [] (.inl h)
 exact Option.isSome_iff_exists.mp q
theorem ziw {CX:CXT} {P:Program} {w:World} {K:PySem.W.Frag} {mg:Str→Option Value} {base:Heap} {N ps:List Str} {qual:Str} {scope:Scope} {f:Addr} {cd:Value} {A:Around} {outer:List Env} {s s1:Shared} {H:Hp} {E:XK} {us:List Value} {vs:List V}
  (S:FnScope N ps scope) (hd:A.handled=none) (e0:Env0 P w K mg base A outer s H) (hl:vs.length=ps.length) (r:Vals vs us)
  (x:InCallC s s.heap.objs.size (bindL (envOfC qual scope s.heap.objs.size f cd).kindOf (ps.zip us) fun _=>none) (cellsFrom (s.heap.objs.size+1) scope.names []) (bindC (envOfC qual scope s.heap.objs.size f cd).kindOf (ps.zip us) fun _=>none) s1) :
  Inv (cxOf CX P w K mg base N qual scope f cd A outer s H E) [] (start N vs) H s1:=by
 have hpl:ps.length≤N.length:=by have:=congrArg List.length S.pre; rw [List.length_take] at this; omega
 obtain ⟨h1,tk,rfl,hk⟩:=x.done
 have noA:∀ b:Addr,b ∉ (cxOf CX P w K mg base N qual scope f cd A outer s H E).ex:=fun b z=>absurd (show b∈([]:List Addr) from z) (by simp)
 refine ⟨⟨e0.mod,S.kind,rfl,rfl,Nat.le_refl _,fun y z c h1 h2=>?_,fun y hy=>?_,fun y c _ h=>?_,fun _=>hd,Around.frames_deeper e0.frames,.inr ⟨rfl,rfl⟩,fun b z=>absurd z (noA b),e0.bs,e0.bsz,fun b _ _=>noA b,fun b z=>absurd z (noA b),e0.funs,e0.frf⟩,
  rfl,e0.bare,Un.kept hk,⟨_,x.toInCall.ns,fun i y v h1 h2 h3=>?_⟩,fun y c h=>⟨_,x.cell y c h⟩,e0.hok.fresh (Nat.le_refl _),fun y c h=>?_,fun p hp=>absurd (show p∈([]:List (Addr×Obj)) from hp) (by simp),e0.hok.kept hk,?_⟩
 ·exact name_of_addr x.apart (PySem.mem_of_lookup h1) (PySem.mem_of_lookup h2)
 ·have hy:scope.names.lookup y=some .cell∨scope.names.lookup y=some .free:=hy
  rcases hy with hy | hy
  ·exact zgY hy
  ·exact absurd rfl (S.nofree _ (PySem.mem_of_lookup hy))
 ·exact Nat.le_of_lt (x.above y c (PySem.mem_of_lookup h))
 ·have hi:i < vs.length:=by
   unfold start at h2
   by_cases hi:i < vs.length
   ·exact hi
   ·rw [List.getElem?_append_right (by simpa using hi)] at h2
    rw [List.getElem?_replicate] at h2
    split at h2<;>cases h2
  have ha:vs[i]?=some v:=by
   unfold start at h2
   rw [List.getElem?_append_left (by simpa using hi),List.getElem?_map] at h2
   cases e:vs[i]? with
   | none=>rw [e] at h2; cases h2
   | some a=>rw [e] at h2; cases h2; rfl
  obtain ⟨u,hu,rv⟩:=r.get ha
  have hp:ps[i]?=some y:=by
   rw [← S.pre,List.getElem?_take_of_lt (by omega)]; exact h1
  have ndP:ps.Nodup:=by rw [← S.pre]; exact S.nd.sublist (List.take_sublist _ _)
  refine ⟨u,rv,?_⟩
  rcases S.par y (List.mem_of_getElem? hp) with k | k
  ·exact .inl ⟨k,zfW ndP hp hu k⟩
  ·obtain ⟨c,e⟩:=zgY (n:=s.heap.objs.size+1) k
   refine .inr ⟨.inl k,c,e,?_⟩
   have q:=x.cell y c e
   rw [zfY ndP hp hu (by show scope.names.lookup y≠_; rw [k]; decide)] at q
   exact q
 ·exact e0.hok.fresh (Nat.le_of_lt (x.above y c (PySem.mem_of_lookup h)))
 ·unfold start
  show _=N.length
  rw [List.length_append,List.length_map,List.length_replicate]
  omega
theorem zle {CX:CXT} {P:Program} {w:World} {K:PySem.W.Frag} {mg:Str→Option Value} {base:Heap} {k:Nat} {f:Addr} {name qual:Str} {params:Arguments} {body:List Stmt} {scope:Scope} {dV kV doc pm cdv ct oc:Value} {an od:Option Addr}
  {osl:Array (Option Value)} {N ps:List Str} {sp:Sp} (lk:K.lookup f=some ⟨oc,od,.func (PySem.W.fnOf name qual params body scope dV kV doc pm an cdv ct),osl⟩) (hcd:PySem.W.codeIn K cdv qual=true) (S:FnScope N ps scope)
  (len:∀ vs H Q E,sp vs H Q E→vs.length=ps.length)
  (hbody:∀ (A:Around) (outer:List Env) (s:Shared) (H:Hp) (vs:List V) (Q:VK) (E:XK),Room k (A.deeper (envOfC qual scope s.heap.objs.size f cdv))→sp vs H Q E →
   ∃ t,PSs (cxOf CX P w K mg base N qual scope f cdv A outer s H E) body t∧t { nx:=fun _ H'=>Q .non H',rt:=Q } (start N vs) H) :
  FnOk P w K mg base CX (k+1) f (PySem.W.fnOf name qual params body scope dV kV doc pm an cdv ct) ps sp:=by
 refine ⟨len,fun A outer s H args us vs Q E hr e0 hb r hsp=>?_⟩
 have hl:=len _ _ _ _ hsp
 have KX:K.In s.heap:=e0.mod.kin.keeps fun b o e=>(e0.bs b o e).1
 have lim:s.heap.NoLimit:=e0.mod.nolimit.keeps fun b o e=>(e0.bs b o e).1
 have hkind:∀ y∈ps.zip us,scope.names.lookup y.1=some .local∨(scope.names.lookup y.1=some .cell∧((cellsFrom (s.heap.objs.size+1) scope.names []).lookup y.1).isSome=true):=fun ⟨n,v⟩ hy=>by
  rcases S.par n (List.of_mem_zip hy).1 with q | q
  ·exact .inl q
  ·exact .inr ⟨q,PySem.W.cellsFrom_some _ _ _ (.inl q)⟩
 refine codeAny_call_function hr.depth (KX _ _ lk) rfl S.co S.gen rfl (PySem.W.codeRec_of KX hcd) (hb _ _ _ _ ?_)
 refine wpAny_newFunctionEnv_cells S.kind hkind fun env he s1 x=>?_
 subst he
 refine ⟨lim.keeps x.toInCall.keep,codeAny_func ?_⟩
 obtain ⟨t,ht,hq⟩:=hbody A outer s H vs Q E (hr.deeper _) hsp
 have I:Inv (cxOf CX P w K mg base N qual scope f cdv A outer s H E) [] (start N vs) H s1:=ziw S hr.hd e0 hl r x
 refine wpAny_mono (ht [] s1 (start N vs) H _ I hq) (fun fl s' hs=>?_) fun e s' hs=>hs
 have fin:∀ {σ':St} {H':Hp} {v:V} {u:Value},Inv (cxOf CX P w K mg base N qual scope f cdv A outer s H E) [] σ' H' s'→RelV v u→Q v H'→CE outer P w H s Q u s' :=
  fun {σ' H' v u} J rv q=>⟨v,H',J.os,J.bare,J.base,J.hok,rv,q⟩
 cases fl with
 | ret u =>
  obtain ⟨v,σ',H',J,rv,q⟩:=hs
  exact fin J rv q
 | next =>
  obtain ⟨σ',H',J,q⟩:=hs
  exact fin (v:=V.non) (u:=Value.none) J rfl q
 | brk =>
  obtain ⟨_,_,_,q⟩:=hs
  exact False.elim q
 | cont =>
  obtain ⟨_,_,_,q⟩:=hs
  exact False.elim q
end L2
namespace L2
open PySem PySem.Spec PyProof.Rows
section
variable {X:Cx} {x:Str} {p pos:Pos} {e:Expr} {es:List Expr} {t:TA} {id T:String} {r:List V→Hp→VK→Prop}
def tCB (r:List V→Hp→VK→Prop) (t:TA):TE:=fun σ H Q=>t σ H fun vs H1=>r vs H1 Q
theorem zax (hc:CallR X (.builtin id) r) (hg:Gl X x) (hm:X.mg x=none) (hv:bootBuiltins x=some (.builtin id)) (ha:PA X (e::es) t) (hn:x≠"__name__":=by decide) (hdb:(x == ("__debug__":Str))=false:=by decide)
  (he:starEach (e::es) X.env=(false,eval e X.env)::starEach es X.env:=by rfl) (hpl:(backTo pos (starEach es X.env)).any (·.1)=false:=by rfl):PE X (.Call (.Name x p) (e::es) [] pos) (tCB r t):=by
 intro pins s σ H Q I h
 refine wpAny_Call_Name_kw (zem I hg hm hv ?_ hn hdb)
 exact PyProof.Rows.callWith_builtin1 (thn (ha pos pins s σ H _ I h) fun us s1 ⟨vs,H1,I1,r1,q1⟩=>hc pins s1 σ H1 vs us Q I1 r1 q1) he hpl
theorem zfA (hc:CallR X (.type T) r) (hg:Gl X x) (hm:X.mg x=none) (hv:bootBuiltins x=some (.type T)) (ha:PA X (e::es) t) (hn:x≠"__name__":=by decide) (hdb:(x == ("__debug__":Str))=false:=by decide)
  (he:starEach (e::es) X.env=(false,eval e X.env)::starEach es X.env:=by rfl) (hpl:(backTo pos (starEach es X.env)).any (·.1)=false:=by rfl):PE X (.Call (.Name x p) (e::es) [] pos) (tCB r t):=by
 intro pins s σ H Q I h
 refine wpAny_Call_Name_kw (zem I hg hm hv ?_ hn hdb)
 exact PyProof.Rows.callWith_type1 (thn (ha pos pins s σ H _ I h) fun us s1 ⟨vs,H1,I1,r1,q1⟩=>hc pins s1 σ H1 vs us Q I1 r1 q1) he hpl
end
end L2
namespace HT
open PySem PyProof.Rows
section
variable {prog:Program} {w:World} {A:Around} {E:Value→Shared→Prop} {s:Shared}
theorem cat_tup {t b:Addr} {vs ws:List Value} {Q:Value→Shared→Prop} (ht:IsTup s.heap t vs.toArray) (hb:IsTup s.heap b ws.toArray) (hv:vs≠[])
  (h1:ws=[]→Q (.ref t) s) (h2:ws≠[]→Q (.ref s.heap.objs.size) { s with heap:=s.heap.push { cls:=.type "tuple",data:=.seq (vs++ws).toArray } })
  (hsz:vs.length+ws.length≤sizeLine):wpAny (model prog w) A (binaryOp .Add (.ref t) (.ref b)) Q E s:=by
 obtain ⟨⟨cls,dd,data,sl⟩,ho,hc,n,hd⟩:=id ht
 obtain ⟨⟨cls2,dd2,data2,sl2⟩,ho2,hc2,n2,hd2⟩:=id hb
 simp only at hc hd hc2 hd2
 subst hc hd hc2 hd2
 have e:vs.toArray++ws.toArray=(vs++ws).toArray:=by simp
 by_cases hw:ws=[]
 ·exact concat_meets ⟨_,ho,rfl⟩ ⟨_,ho2,rfl⟩ noFill_tuple_add seq_tuple_add PySem.F.slot_tuple_add PySem.F.entry_tuple_add (PySem.F.args_tuple_add_2 _ _)
   (tuple_addW1 t b vs.toArray ws.toArray n n2 dd dd2 sl sl2 (by simpa using hv) (by simp [hw])) ⟨ho,ho2,h1 hw⟩
 ·refine concat_meets ⟨_,ho,rfl⟩ ⟨_,ho2,rfl⟩ noFill_tuple_add seq_tuple_add PySem.F.slot_tuple_add PySem.F.entry_tuple_add (PySem.F.args_tuple_add_2 _ _)
   (tuple_addW2 t b vs.toArray ws.toArray n n2 dd dd2 sl sl2 (by simpa using hv) (by simpa using hw) (by rw [List.size_toArray,List.size_toArray]; exact hsz)) ⟨ho,ho2,?_⟩
  rw [e]
  exact h2 hw
def sIx (n d:Nat):Option Int→Nat
 | none=>d
 | some v=>if v < 0 then (v+(n:Int)).toNat else min v.toNat n
theorem zkD (n d:Nat) (hd:d≤n) (o:Option Int):sIx n d o≤n:=by
 cases o with
 | none=>exact hd
 | some v =>
  show (if v < 0 then (v+(n:Int)).toNat else min v.toNat n)≤n
  by_cases hv:v < 0
  ·rw [if_pos hv]; omega
  ·rw [if_neg hv]; exact Nat.min_le_right _ _
theorem ziU (v:Int) (n d:Nat):(if v < 0 then max (v+(n:Int)) 0 else min v (n:Int))=((sIx n d (some v):Nat):Int):=by
 show (if v < 0 then max (v+(n:Int)) 0 else min v (n:Int))=(((if v < 0 then (v+(n:Int)).toNat else min v.toNat n):Nat):Int)
 by_cases hv:v < 0
 ·simp only [if_pos hv]; omega
 ·simp only [if_neg hv]; omega
theorem zhr (lo hi:Option Int) (n:Nat):Builtin.Slice.sliceAdjust lo hi 1 (n:Int)=(((sIx n 0 lo:Nat):Int),((sIx n n hi:Nat):Int)):=by
 have h1:¬ ((1:Int) < 0):=by omega
 unfold Builtin.Slice.sliceAdjust
 simp only [h1,if_false]
 refine Prod.ext ?_ ?_
 ·cases lo with
  | none=>rfl
  | some v=>exact ziU v n 0
 ·cases hi with
  | none=>rfl
  | some v=>exact ziU v n n
theorem zhc (i j:Nat):Builtin.Slice.slicePlaces (i:Int) (j:Int) 1=j - i:=by
 unfold Builtin.Slice.slicePlaces
 have h1:(1:Int) > 0:=by omega
 simp only [h1,if_true,Int.ediv_one]
 split<;>omega
theorem zej {v:Value} {o:Option Int} {Q:Option Int→Shared→Prop} (p:IsPart v o) (h:Q o s):wpAny (model prog w) A (Builtin.Slice.slicePartIndex v) Q E s:=by
 cases p with
 | none=>exact slicePart_none h
 | int i t=>exact slicePart_int h
theorem zdg {sl:Addr} {vl vu:Value} {lo hi:Option Int} {n:Nat} {Q:Int×Int×Nat→Shared→Prop} (hs:s.heap.IsSliceOf sl vl vu .none) (pl:IsPart vl lo) (pu:IsPart vu hi)
  (h:Q (((sIx n 0 lo:Nat):Int),1,sIx n n hi - sIx n 0 lo) s):wpAny (model prog w) A (Builtin.Slice.sliceApplied (.ref sl) (pure (n:Int))) Q E s:=by
 obtain ⟨os,hos,hcs,hds⟩:=id hs
 unfold Builtin.Slice.sliceApplied Builtin.Slice.sliceFields
 refine wpAny_bind (wpAny_bind (wpAny_field hos hds (x:=vl) rfl (wpAny_bind (wpAny_field hos hds (x:=vu) rfl (wpAny_bind (wpAny_field hos hds (x:=.none) rfl (wpAny_pure ?_)))))))
 refine wpAny_bind (slicePart_none ?_)
 show wpAny _ _ (if ((1:Int) == 0)=true then _ else _) _ _ s
 rw [if_neg (by decide)]
 refine wpAny_bind (zej pl (wpAny_bind (zej pu (wpAny_bind (wpAny_pure ?_)))))
 show wpAny _ _ (match Builtin.Slice.sliceAdjust lo hi 1 (n:Int) with | (lo,hi)=>pure (lo,(1:Int),Builtin.Slice.slicePlaces lo hi 1)) _ _ s
 rw [zhr lo hi n]
 show wpAny _ _ (pure (((sIx n 0 lo:Nat):Int),(1:Int),Builtin.Slice.slicePlaces ((sIx n 0 lo:Nat):Int) ((sIx n n hi:Nat):Int) 1)) _ _ s
 rw [zhc]
 exact wpAny_pure h
theorem zjk (xs:Array Value) (i k:Nat):((List.range k).filterMap fun (m:Nat)=>xs[((i:Int)+(m:Int) * 1).toNat]?).toArray=((xs.toList.drop i).take k).toArray:=by
 have e:(fun (m:Nat)=>xs[((i:Int)+(m:Int) * 1).toNat]?)=fun m=>xs[i+m]?:=by
  funext m
  have:((i:Int)+(m:Int) * 1).toNat=i+m:=by omega
  rw [this]
 rw [e]
 have:=pick_run xs i k
 rw [List.filterMap_map] at this
 have e2:((fun x=>xs[x]?) ∘ fun x=>i+x)=fun m=>xs[i+m]?:=rfl
 rw [e2] at this
 rw [this]
theorem getItem_tuple_cut {t sl:Addr} {items:Array Value} {vl vu:Value} {lo hi:Option Int} {Q:Value→Shared→Prop} (ht:IsTup s.heap t items) (hs:s.heap.IsSliceOf sl vl vu .none) (pl:IsPart vl lo) (pu:IsPart vu hi)
  (hw:¬ (sIx items.size 0 lo=0∧sIx items.size items.size hi=items.size))
  (h:Q (.ref s.heap.objs.size) { s with heap:=s.heap.push { cls:=.type "tuple",data:=.seq ((items.toList.drop (sIx items.size 0 lo)).take (sIx items.size items.size hi - sIx items.size 0 lo)).toArray } })
  (hsz:items.size≤sizeLine):wpAny (model prog w) A (getItem (.ref t) (.ref sl)) Q E s:=by
 have htake:sizeOk (.seq ((items.toList.drop (sIx items.size 0 lo)).take (sIx items.size items.size hi - sIx items.size 0 lo)).toArray):=by
  show ((items.toList.drop (sIx items.size 0 lo)).take (sIx items.size items.size hi - sIx items.size 0 lo)).toArray.size≤sizeLine
  rw [List.size_toArray,List.length_take,List.length_drop,Array.length_toList]
  omega
 have hj:sIx items.size items.size hi≤items.size:=zkD _ _ (Nat.le_refl _) hi
 obtain ⟨os,hos,hcs,hds⟩:=id hs
 have hTs:s.TypeIs (.ref sl) "slice":=⟨os,hos,hcs⟩
 unfold getItem
 try with_reducible refine wpAny_holding ?_
 first | refine wpAny_bind (wpAny_pure ?_) | skip
 refine wpAny_bind (wpAny_sequenceKey ht.typeIs (by decide) ?_)
 refine wpAny_bind (wpAny_callSpecial?_slot (name:=Str.ofString "__getitem__") ht.typeIs PyProof.Rows.slot_tuple_getitem
  (wpAny_call_entry PyProof.Rows.slot_tuple_getitem ht.typeIs entry_tuple_getitem ?_ (args_tuple_getitem _ _)))
 show wpAny _ _ (Builtin.Tuple.tupleItemsOf (.ref t) >>= _) _ _ s
 refine wpAny_bind (tupleItemsOf_ ht ?_)
 refine wpAny_bind (wpAny_typeOf hTs ?_)
 rw [if_pos (by decide)]
 refine wpAny_bind (zdg hs pl pu ?_)
 have hno:¬ ((((sIx items.size 0 lo:Nat):Int) == 0 && (1:Int) == 1 && (sIx items.size items.size hi - sIx items.size 0 lo) == items.size)=true):=by
  intro q
  rw [Bool.and_eq_true,Bool.and_eq_true] at q
  have q1:((sIx items.size 0 lo:Nat):Int)=0:=eq_of_beq q.1.1
  have q2:sIx items.size items.size hi - sIx items.size 0 lo=items.size:=eq_of_beq q.2
  exact hw ⟨by omega,by omega⟩
 show wpAny _ _ (if (((sIx items.size 0 lo:Nat):Int) == 0 && (1:Int) == 1 && (sIx items.size items.size hi - sIx items.size 0 lo) == items.size)=true then _ else _) _ _ s
 rw [if_neg hno,zjk]
 first
  | exact wpAny_bind (m:=Builtin.Tuple.tupleExact _) (wpAny_newObj_type (wpAny_pure ⟨_,rfl,wpAny_pure h⟩) htake)
  | exact wpAny_bind (m:=Builtin.Tuple.tupleExact _) (wpAny_newObj_type (wpAny_bind (wpAny_pure (wpAny_pure ⟨_,rfl,wpAny_pure h⟩))) htake)
  | exact wpAny_bind (wpAny_bind (m:=Builtin.Tuple.tupleExact _) (wpAny_newObj_type (wpAny_pure (wpAny_pure ⟨_,rfl,wpAny_pure h⟩)) htake))
  | exact wpAny_bind (wpAny_bind (m:=Builtin.Tuple.tupleExact _) (wpAny_newObj_type (wpAny_pure ⟨_,rfl,wpAny_pure h⟩) htake))
end
end HT
namespace L2
open PySem PySem.Spec PyProof.Rows
abbrev TO:=St→Hp→(Option Int→Hp→Prop)→Prop
def PO (X:Cx) (e:Option Expr) (t:TO):Prop :=
 ∀ (pins:List (Addr×Obj)) (s:Shared) (σ:St) (H:Hp) (Q:Option Int→Hp→Prop),Inv X pins σ H s→t σ H Q →
  wpAny (model X.prog X.w) X.A (evalPart e X.env) (fun u s'=>∃ o H',Inv X pins σ H' s'∧IsPart u o∧Q o H') X.xe s
def tNoPart:TO:=fun _ H Q=>Q none H
def tPart (t:TE):TO:=fun σ H Q=>t σ H fun x H1=>∃ i,x = .int i∧Q (some i) H1
section
variable {X:Cx} {e:Expr} {te:TE} {lo hi:Option Expr} {tl th:TO} {pos p2:Pos}
theorem zbQ:PO X none tNoPart:=by
 intro pins s σ H Q I h
 rw [evalPart_none]
 exact wpAny_pure ⟨none,H,I,.none,h⟩
theorem zaI (h:PE X e te):PO X (some e) (tPart te):=by
 intro pins s σ H Q I hw
 rw [evalPart_some]
 refine thn (h pins s σ H _ I hw) fun u s1 ⟨x,H1,I1,r1,q1⟩=>?_
 obtain ⟨i,rfl,q⟩:=q1
 obtain ⟨t,rfl⟩:=r1
 exact ⟨some i,H1,I1,.int i t,q⟩
def SlR (X:Cx) (r:V→Option Int→Option Int→Hp→VK→Prop):Prop :=
 ∀ (pins:List (Addr×Obj)) (s:Shared) (σ:St) (H:Hp) (x:V) (v vl vu:Value) (lo hi:Option Int) (sl:Addr) (Q:VK),Inv X pins σ H s→RelV x v→s.heap.IsSliceOf sl vl vu .none→IsPart vl lo→IsPart vu hi→r x lo hi H Q →
  ∃ T id,typeLookup (.type T) "__getitem__"=pure (some (.builtin id))∧s.TypeIs v T∧wpAny (model X.prog X.w) X.A (getItem v (.ref sl)) (EP X pins σ Q) X.xe s
def tSl (r:V→Option Int→Option Int→Hp→VK→Prop) (te:TE) (tl th:TO):TE:=fun σ H Q=>te σ H fun x H1=>tl σ H1 fun l H2=>th σ H2 fun u H3=>r x l u H3 Q
theorem zaP {r:V→Option Int→Option Int→Hp→VK→Prop} (hr:SlR X r) (he:PE X e te) (hl:PO X lo tl) (hu:PO X hi th):PE X (.Subscript e (.Slice lo hi none p2) pos) (tSl r te tl th):=by
 intro pins s σ H Q I h
 refine Subscript_ (thn (he pins s σ H _ I h) fun v s1 ⟨x,H1,I1,r1,q1⟩=>?_)
 refine wpAny_Slice (thn (hl pins s1 σ H1 _ I1 q1) fun vl s2 ⟨l,H2,I2,pl,q2⟩=>thn (hu pins s2 σ H2 _ I2 q2) fun vu s3 ⟨u,H3,I3,pu,q3⟩=>?_)
 rw [evalPart_none]
 refine wpAny_pure ?_
 have I4:Inv X pins σ H3 { s3 with heap:=s3.heap.push { cls:=.type "slice",data:=.fields #[vl,vu,.none] } }:=I3.kept (t':=s3.toks) fun b ob q=>Heap.get?_push_of_some _ q
 obtain ⟨T,id,hT,ht,hg⟩:=hr pins { s3 with heap:=s3.heap.push { cls:=.type "slice",data:=.fields #[vl,vu,.none] } } σ H3 x v vl vu l u s3.heap.objs.size Q I4 r1 (Heap.IsSliceOf.new ..) pl pu q3
 show wpAny (model X.prog X.w) X.A (subscriptTail e (.Slice lo hi none p2) v (.ref s3.heap.objs.size)) (EP X pins σ Q) X.xe { s3 with heap:=s3.heap.push { cls:=.type "slice",data:=.fields #[vl,vu,.none] } }
 exact tail_any (ops:=[.ref s3.heap.objs.size,v]) ht hT hg (by with_unfolding_all rfl)
def cutV (xs:List V) (lo hi:Option Int):List V:=(xs.drop (HT.sIx xs.length 0 lo)).take (HT.sIx xs.length xs.length hi - HT.sIx xs.length 0 lo)
theorem zbI (xs:List V) (lo hi:Option Int):(cutV xs lo hi).length≤xs.length:=by
 unfold cutV
 rw [List.length_take,List.length_drop]
 omega
def rSlT (K:PySem.W.Frag):V→Option Int→Option Int→Hp→VK→Prop:=fun x lo hi H Q=>∃ a xs,x = .ref a∧SqT K H a xs ∧
 ¬ (HT.sIx xs.length 0 lo=0∧HT.sIx xs.length xs.length hi=xs.length)∧∀ p,H p=none→Q (.ref p) (upd H p (.tup (cutV xs lo hi)))
theorem zkz:SlR X (rSlT X.K):=by
 intro pins s σ H x v vl vu lo hi sl Q I rx hs pl pu h
 obtain ⟨a,xs,rfl,hx,hw,q⟩:=h
 cases rx
 obtain ⟨its,r,ht,hz⟩:=I.tuple hx
 have hlen:its.toArray.size=xs.length:=by rw [List.size_toArray]; exact r.length.symm
 refine ⟨"tuple",_,PyProof.Rows.slot_tuple_getitem.lookup,ht.typeIs,?_⟩
 refine HT.getItem_tuple_cut ht hs pl pu (by rw [hlen]; exact hw) ?_ (by rw [hlen]; exact hz)
 rw [hlen]
 refine ⟨.ref s.heap.objs.size,_,I.laid (t':=s.toks) (o:=.tup (cutV xs lo hi)) (fun b ob q=>Heap.get?_push_of_some _ q) (Nat.le_refl _) ?_,rfl,q _ (I.hok.fresh (Nat.le_refl _))⟩
 exact ⟨Nat.le_trans (zbI xs lo hi) hz,_,(r.drop (HT.sIx xs.length 0 lo)).take (HT.sIx xs.length xs.length hi - HT.sIx xs.length 0 lo),IsTup.new _ _⟩
def rCatT (K:PySem.W.Frag):R2:=fun x y H Q=>∃ a b xs ys,x = .ref a∧y = .ref b∧SqT K H a xs∧SqT K H b ys∧xs≠[]∧xs.length+ys.length≤sizeLine ∧
 (ys=[]→Q (.ref a) H)∧(ys≠[]→∀ p,H p=none→Q (.ref p) (upd H p (.tup (xs++ys))))
theorem Vals.nil_iff {xs:List V} {us:List Value} (r:Vals xs us):us=[]↔xs=[]:=by
 cases r with
 | nil=>simp
 | cons _ _=>simp
theorem zkb:OpR X (binaryOp .Add) (rCatT X.K):=by
 intro pins s σ H x y v u Q I rx ry h
 obtain ⟨a,b,xs,ys,rfl,rfl,ha,hb,hx,hz,q1,q2⟩:=h
 cases rx
 cases ry
 obtain ⟨its,r1,p1,_⟩:=I.tuple ha
 obtain ⟨its2,r2,p2,_⟩:=I.tuple hb
 refine HT.cat_tup p1 p2 (fun z=>hx (r1.nil_iff.mp z)) (fun z=>⟨.ref a,H,I,rfl,q1 (r2.nil_iff.mp z)⟩) (fun z=>?_) (by rw [← r1.length,← r2.length]; exact hz)
 refine ⟨.ref s.heap.objs.size,_,I.laid (t':=s.toks) (o:=.tup (xs++ys)) (fun b ob q=>Heap.get?_push_of_some _ q) (Nat.le_refl _) ?_,rfl,q2 (fun w=>z (r2.nil_iff.mpr w)) _ (I.hok.fresh (Nat.le_refl _))⟩
 exact ⟨by rw [List.length_append]; exact hz,_,r1.append r2,IsTup.new _ _⟩
end
end L2
namespace L2
open PySem PySem.Spec PyProof.Rows
def ixN (n:Nat) (i:Int):Option Nat:=if 0≤i then (if i < n then some i.toNat else none) else if -(n:Int)≤i then some (i+n).toNat else none
def atI {α:Type} (xs:List α) (i:Int):Option α:=(ixN xs.length i).bind fun j=>xs[j]?
theorem zkk {n:Nat} {i:Int} {j:Nat} (h:ixN n i=some j):seqIndex? i n=some j∧j < n∧-(n:Int)≤i∧i < n:=by
 unfold ixN at h
 by_cases h0:0≤i
 ·rw [if_pos h0] at h
  by_cases h1:i < n
  ·rw [if_pos h1] at h
   have e:i.toNat=j:=Option.some.inj h
   exact ⟨by rw [seqIndex_of h0 h1,e],by omega,by omega,h1⟩
  ·rw [if_neg h1] at h; cases h
 ·rw [if_neg h0] at h
  by_cases h1:-(n:Int)≤i
  ·rw [if_pos h1] at h
   have e:(i+n).toNat=j:=Option.some.inj h
   exact ⟨by rw [seqIndex_neg (by omega) h1,e],by omega,h1,by omega⟩
  ·rw [if_neg h1] at h; cases h
theorem zi3 {α:Type} {xs:List α} {i:Int} {v:α} (h:atI xs i=some v):∃ j,seqIndex? i xs.length=some j∧xs[j]?=some v∧j < xs.length∧-(xs.length:Int)≤i∧i < xs.length:=by
 unfold atI at h
 cases e:ixN xs.length i with
 | none=>rw [e] at h; cases h
 | some j =>
  rw [e] at h
  obtain ⟨h1,h2,h3,h4⟩:=zkk e
  exact ⟨j,h1,h,h2,h3,h4⟩
theorem zas {α:Type} {xs:List α} {j:Nat} {v:α} (h:xs[j]?=some v):atI xs (j:Int)=some v:=by
 have hj:j < xs.length:=(List.getElem?_eq_some_iff.mp h).1
 have e:ixN xs.length (j:Int)=some j:=by
  unfold ixN
  rw [if_pos (by omega),if_pos (by omega)]; simp
 unfold atI; rw [e]; exact h
def PlainIx (b:Expr):Prop:=∀ o i,subscripted b false o i=operate [o,i] (getItem o i)
def IxR (X:Cx) (r:R2):Prop :=
 ∀ (value slice:Expr) (pins:List (Addr×Obj)) (s:Shared) (σ:St) (H:Hp) (x y:V) (v u:Value) (Q:VK),Inv X pins σ H s→RelV x v→RelV y u→r x y H Q →
  subscripted slice false v u=operate [v,u] (getItem v u)→wpAny (model X.prog X.w) X.A (subscriptTail value slice v u) (EP X pins σ Q) X.xe s
def MtR (X:Cx) (id:String) (r:V→List V→Hp→VK→Prop):Prop :=
 ∀ (pins:List (Addr×Obj)) (s:Shared) (σ:St) (H:Hp) (x:V) (xs:List V) (v:Value) (us:List Value) (Q:VK),Inv X pins σ H s→RelV x v→Vals xs us→r x xs H Q →
  wpAny (model X.prog X.w) X.A (call (.builtin id) (v::us)) (EP X pins σ Q) X.xe s
section
variable {X:Cx} {a b:Expr} {ta tb:TE} {pos:Pos}
theorem zaE {r:R2} (hr:IxR X r) (ha:PE X a ta) (hb:PE X b tb) (hs:PlainIx b):PE X (.Subscript a b pos) (tOp r ta tb):=by
 intro pins s σ H Q I h
 exact Subscript_ (binT ha hb I h fun v u s2 x y H2 I2 rx ry q=>hr a b pins s2 σ H2 x y v u Q I2 rx ry q (hs _ _))
def rIxL (K:PySem.W.Frag):R2:=fun x y H Q=>∃ p xs i v,x = .ref p∧y = .int i∧SqL K H p xs∧atI xs i=some v∧Q v H
def rIxT (K:PySem.W.Frag):R2:=fun x y H Q=>∃ p xs i v,x = .ref p∧y = .int i∧SqT K H p xs∧atI xs i=some v∧Q v H
theorem zao:IxR X (rIxL X.K):=by
 intro value slice pins s σ H x y v u Q I rx ry h hs
 obtain ⟨p,xs,i,z,rfl,rfl,hq,he,q⟩:=h
 cases rx
 obtain ⟨t,rfl⟩:=ry
 obtain ⟨its,r,pl,hz⟩:=I.list hq
 obtain ⟨j,h1,h2,h3,h4,h5⟩:=zi3 he
 obtain ⟨w,ew,rw'⟩:=r.get h2
 have hl:=r.length
 have hn:=line63
 have fin:EP X pins σ Q w s:=⟨z,H,I,rw',q⟩
 by_cases h0:0≤i
 ·have hj:i.toNat=j:=by
   rw [seqIndex_of h0 h5] at h1
   exact Option.some.inj h1
  exact item_listR pl.isList h0 (by omega) (by rw [hj]; simpa using ew) fin hs
 ·have hj:(i+(its.toArray.size:Int)).toNat=j:=by
   rw [seqIndex_neg (by omega) h4] at h1
   rw [List.size_toArray,← hl]
   exact Option.some.inj h1
  exact subscriptTail_builtinR (x:=w) pl.isList.typeIs slot_list_getitem.lookup
   (wpAny_getItem_list_neg (Q:=fun r s'=>r=w∧EP X pins σ Q r s') pl.isList (by omega) (by rw [List.size_toArray]<;>omega) (by omega) (by rw [hj]; simpa using ew) ⟨rfl,fin⟩) hs
theorem zen:IxR X (rIxT X.K):=by
 intro value slice pins s σ H x y v u Q I rx ry h hs
 obtain ⟨p,xs,i,z,rfl,rfl,hq,he,q⟩:=h
 cases rx
 obtain ⟨t,rfl⟩:=ry
 obtain ⟨its,r,pl,hz⟩:=I.tuple hq
 obtain ⟨j,h1,h2,h3,h4,h5⟩:=zi3 he
 obtain ⟨w,ew,rw'⟩:=r.get h2
 have hl:=r.length
 have hn:=line63
 have fin:EP X pins σ Q w s:=⟨z,H,I,rw',q⟩
 exact subscriptTail_builtinR (x:=w) pl.typeIs slot_tuple_getitem.lookup
  (getItem_tuple (j:=j) (Q:=fun r s'=>r=w∧EP X pins σ Q r s') pl (by omega) (by omega) (by rw [List.size_toArray,← hl]; exact h1) (by simpa using ew) ⟨rfl,fin⟩) hs
theorem zfm (lo hi:Option Int) (n:Nat):(sliceBounds lo hi none n).1=((HT.sIx n 0 lo:Nat):Int)∧(sliceBounds lo hi none n).2.1=((HT.sIx n n hi:Nat):Int)∧(sliceBounds lo hi none n).2.2=1:=by
 refine ⟨?_,?_,rfl⟩
 ·cases lo with
  | none=>simp [sliceBounds,HT.sIx]
  | some i =>
   simp only [sliceBounds,HT.sIx,Option.getD_none,show (1:Int) > 0 by decide,if_true]
   by_cases h:i < 0
   ·simp only [h,if_true]<;>omega
   ·simp only [h,if_false]<;>omega
 ·cases hi with
  | none=>simp [sliceBounds,HT.sIx]
  | some i =>
   simp only [sliceBounds,HT.sIx,Option.getD_none,show (1:Int) > 0 by decide,if_true]
   by_cases h:i < 0
   ·simp only [h,if_true]<;>omega
   ·simp only [h,if_false]<;>omega
theorem zez (its:List Value) (lo hi:Option Int):slicePick its.toArray lo hi none=((its.drop (HT.sIx its.length 0 lo)).take (HT.sIx its.length its.length hi - HT.sIx its.length 0 lo)).toArray:=by
 obtain ⟨h1,h2,h3⟩:=zfm lo hi its.toArray.size
 unfold slicePick
 rw [h1,h2,h3]
 simp only [sliceRange_one,pick_run,List.size_toArray]<;>rfl
def rSlL (K:PySem.W.Frag):V→Option Int→Option Int→Hp→VK→Prop:=fun x lo hi H Q=>∃ a xs,x = .ref a∧SqL K H a xs∧∀ p,H p=none→Q (.ref p) (upd H p (.lst (cutV xs lo hi)))
theorem zjZ:SlR X (rSlL X.K):=by
 intro pins s σ H x v vl vu lo hi sl Q I rx hs pl pu h
 obtain ⟨a,xs,rfl,hx,q⟩:=h
 cases rx
 obtain ⟨its,r,ht,hz⟩:=I.list hx
 have hlen:=r.length
 refine ⟨"list",_,slot_list_getitem.lookup,ht.isList.typeIs,?_⟩
 refine wpAny_getItem_list_slice ht.isList hs pl pu .none (by simp) ?_ (by rw [List.size_toArray]<;>omega)
 rw [zez,← hlen]
 refine ⟨.ref s.heap.objs.size,_,I.laid (t':=s.toks) (o:=.lst (cutV xs lo hi)) (fun b ob q=>Heap.get?_push_of_some _ q) (Nat.le_refl _) ?_,rfl,q _ (I.hok.fresh (Nat.le_refl _))⟩
 exact ⟨Nat.le_trans (zbI xs lo hi) hz,_,0,(r.drop (HT.sIx xs.length 0 lo)).take (HT.sIx xs.length xs.length hi - HT.sIx xs.length 0 lo),Heap.get?_push_size _ rfl⟩
def flatV:V→Bool
 | .non=>true
 | .bl _=>true
 | .int _=>true
 | .str _=>true
 | _=>false
def eqV:V→V→Bool
 | .non,.non=>true
 | .bl a,.bl b=>a == b
 | .bl a,.int b=>(if a then 1 else 0) == b
 | .int a,.bl b=>a == (if b then 1 else 0)
 | .int a,.int b=>a == b
 | .str a,.str b=>a == b
 | _,_=>false
theorem zk4 {A:Around} {s:Shared} {y x:V} {u v:Value} (ry:RelV y u) (rx:RelV x v) (fy:flatV y=true) (fx:flatV x=true):SeqAt.EqAt A s u v (eqV y x):=by
 cases y with
 | non =>
  cases ry
  cases x with
  | non=>cases rx; exact SeqAt.EqAt.same _
  | bl b=>cases rx; exact SeqAt.EqAt.none_bool b
  | int b=>obtain ⟨t,rfl⟩:=rx; exact SeqAt.EqAt.none_int b t
  | str b=>obtain ⟨t,rfl⟩:=rx; exact SeqAt.EqAt.none_str b t
  | _=>exact absurd (show false=true from fx) Bool.false_ne_true
 | bl a =>
  cases ry
  cases x with
  | non=>cases rx; exact SeqAt.EqAt.bool_none a
  | bl b=>cases rx; exact SeqAt.EqAt.bool_bool a b
  | int b=>obtain ⟨t,rfl⟩:=rx; exact SeqAt.EqAt.bool_int a b t
  | str b=>obtain ⟨t,rfl⟩:=rx; exact SeqAt.EqAt.bool_str a b t
  | _=>exact absurd (show false=true from fx) Bool.false_ne_true
 | int a =>
  obtain ⟨t',rfl⟩:=ry
  cases x with
  | non=>cases rx; exact SeqAt.EqAt.int_none a t'
  | bl b=>cases rx; exact SeqAt.EqAt.int_bool a t' b
  | int b=>obtain ⟨t,rfl⟩:=rx; exact SeqAt.EqAt.int_int a t' b t
  | str b=>obtain ⟨t,rfl⟩:=rx; exact SeqAt.EqAt.int_str a t' b t
  | _=>exact absurd (show false=true from fx) Bool.false_ne_true
 | str a =>
  obtain ⟨t',rfl⟩:=ry
  cases x with
  | non=>cases rx; exact SeqAt.EqAt.str_none a t'
  | bl b=>cases rx; exact SeqAt.EqAt.str_bool a t' b
  | int b=>obtain ⟨t,rfl⟩:=rx; exact SeqAt.EqAt.str_int a t' b t
  | str b=>obtain ⟨t,rfl⟩:=rx; exact SeqAt.EqAt.str_str a t' b t
  | _=>exact absurd (show false=true from fx) Bool.false_ne_true
 | _=>exact absurd (show false=true from fy) Bool.false_ne_true
def eqU (x:V) (u:Value):Bool:=match u with
 | .none=>eqV .non x
 | .bool b=>eqV (.bl b) x
 | .int i _=>eqV (.int i) x
 | .str z _=>eqV (.str z) x
 | _=>false
theorem zjS {x y:V} {u:Value} (r:RelV y u) (f:flatV y=true):eqU x u=eqV y x:=by
 cases y with
 | non=>cases r; rfl
 | bl b=>cases r; rfl
 | int i=>obtain ⟨t,rfl⟩:=r; rfl
 | str z=>obtain ⟨t,rfl⟩:=r; rfl
 | _=>exact absurd (show false=true from f) Bool.false_ne_true
theorem zd1 {x:V}:∀ {xs:List V} {us:List Value},Vals xs us→xs.all flatV=true→us.any (eqU x)=xs.any fun y=>eqV y x
 | _,_,.nil,_=>rfl
 | y::xs,u::us,.cons r t,f=>by
  rw [List.all_cons,Bool.and_eq_true] at f
  rw [List.any_cons,List.any_cons,zjS r f.1,zd1 t f.2]
theorem zcL {A:Around} {s:Shared} {x:V} {v:Value} (rx:RelV x v) (fx:flatV x=true):∀ {xs:List V} {us:List Value},Vals xs us→xs.all flatV=true→∀ u∈us,SeqAt.EqAt A s u v (eqU x u)
 | _,_,.nil,_=>fun u hu=>by cases hu
 | y::xs,u::us,.cons r t,f=>fun u' hu=>by
  rw [List.all_cons,Bool.and_eq_true] at f
  rcases List.mem_cons.mp hu with rfl | hu
  ·rw [zjS r f.1]; exact zk4 r rx f.1 fx
  ·exact zcL rx fx t f.2 u' hu
def inV (x:V) (xs:List V):Bool:=xs.any fun y=>eqV y x
def rIn (K:PySem.W.Frag) (neg:Bool):R2:=fun x y H Q=>∃ p xs,y = .ref p∧(SqL K H p xs∨SqT K H p xs)∧flatV x=true∧xs.all flatV=true∧Q (.bl (if neg then !inV x xs else inV x xs)) H
theorem zfC:OpR X (compareOp .In) (rIn X.K false):=by
 intro pins s σ H x y v u Q I rx ry h
 obtain ⟨p,xs,rfl,hq,fx,fs,q⟩:=h
 cases ry
 rcases hq with hq | hq
 ·obtain ⟨its,r,pl,hz⟩:=I.list hq
  refine SeqAt.in_listAt (eqU x) pl.isList (fun w hw=>zcL rx fx r fs w (by simpa using hw)) ⟨.bl _,H,I,rfl,?_⟩
  rw [show its.toArray.any (eqU x)=its.any (eqU x) by simp,zd1 r fs]
  exact q
 ·obtain ⟨its,r,pl,hz⟩:=I.tuple hq
  refine SeqAt.in_tupleAt (eqU x) pl (fun w hw=>zcL rx fx r fs w (by simpa using hw)) ⟨.bl _,H,I,rfl,?_⟩
  rw [show its.toArray.any (eqU x)=its.any (eqU x) by simp,zd1 r fs]
  exact q
theorem zdd:OpR X (compareOp .NotIn) (rIn X.K true):=by
 intro pins s σ H x y v u Q I rx ry h
 obtain ⟨p,xs,rfl,hq,fx,fs,q⟩:=h
 cases ry
 rcases hq with hq | hq
 ·obtain ⟨its,r,pl,hz⟩:=I.list hq
  refine SeqAt.notIn_listAt (eqU x) pl.isList (fun w hw=>zcL rx fx r fs w (by simpa using hw)) ⟨.bl _,H,I,rfl,?_⟩
  rw [show its.toArray.any (eqU x)=its.any (eqU x) by simp,zd1 r fs]
  exact q
 ·obtain ⟨its,r,pl,hz⟩:=I.tuple hq
  refine SeqAt.notIn_tupleAt (eqU x) pl (fun w hw=>zcL rx fx r fs w (by simpa using hw)) ⟨.bl _,H,I,rfl,?_⟩
  rw [show its.toArray.any (eqU x)=its.any (eqU x) by simp,zd1 r fs]
  exact q
theorem zak:CallR X (.builtin "len") (fun xs H Q=>∃ p ys,xs=[.ref p]∧(SqL X.K H p ys∨SqT X.K H p ys)∧Q (.int ys.length) H):=by
 intro pins s σ H xs us Q I r h
 obtain ⟨p,ys,rfl,hq,q⟩:=h
 obtain ⟨u,rfl,rx⟩:=vals1 r
 cases rx
 have hn:=line63
 rcases hq with hq | hq
 ·obtain ⟨its,r',pl,hz⟩:=I.list hq
  have hlen:=r'.length
  exact Calls.call_len_list pl.isList (by simp only [List.size_toArray]<;>omega) ⟨.int ys.length,H,I.tok _,⟨s.toks+1,by rw [List.size_toArray,hlen]⟩,q⟩
 ·obtain ⟨its,r',pl,hz⟩:=I.tuple hq
  have hlen:=r'.length
  exact len_tuple pl (by simp only [List.size_toArray]<;>omega) ⟨.int ys.length,H,I.tok _,⟨s.toks+1,by rw [List.size_toArray,hlen]⟩,q⟩
theorem zfU:CallR X (.type "list") (fun xs H Q=>∃ p ys,xs=[.ref p]∧(SqL X.K H p ys∨SqT X.K H p ys)∧∀ l,H l=none→Q (.ref l) (upd H l (.lst ys))):=by
 intro pins s σ H xs us Q I r h
 obtain ⟨p,ys,rfl,hq,q⟩:=h
 obtain ⟨u,rfl,rx⟩:=vals1 r
 cases rx
 have fin:∀ (its:List Value),Vals ys its→ys.length≤sizeLine→∀ (h':Heap) (c':Nat),(∀ b o',s.heap.get? b=some o'→h'.get? b=some o') →
   h'.get? s.heap.objs.size=some { cls:=.type "list",dict:=none,data:=.seq its.toArray c',slots:=#[] }→EP X pins σ Q (.ref s.heap.objs.size) { s with heap:=h' }:=fun its r' hz h' c' kp e =>
  ⟨.ref s.heap.objs.size,_,I.laid (t':=s.toks) kp (Nat.le_refl _) (show ObjOk X.prog X.w _ h' _ (.lst ys) from ⟨hz,its,c',r',e⟩),rfl,q _ (I.hok.fresh (Nat.le_refl _))⟩
 rcases hq with hq | hq
 ·obtain ⟨its,r',pl,hz⟩:=I.list hq
  have hlen:=r'.length
  obtain ⟨o,ho,hc,n,hd⟩:=pl.isList
  exact call_list_seq p (.inl rfl) ho hc hd (fun h' c' kp e=>fin its r' hz h' c' kp e) (by simp only [List.size_toArray]<;>omega)
 ·obtain ⟨its,r',pl,hz⟩:=I.tuple hq
  have hlen:=r'.length
  obtain ⟨o,ho,hc,n,hd⟩:=pl
  exact call_list_seq p (.inr rfl) ho hc hd (fun h' c' kp e=>fin its r' hz h' c' kp e) (by simp only [List.size_toArray]<;>omega)
theorem ze8:CallR X (.type "tuple") (fun xs H Q=>∃ p ys,xs=[.ref p]∧((SqL X.K H p ys∧∀ l,H l=none→Q (.ref l) (upd H l (.tup ys)))∨(SqT X.K H p ys∧Q (.ref p) H))):=by
 intro pins s σ H xs us Q I r h
 obtain ⟨p,ys,rfl,h⟩:=h
 obtain ⟨u,rfl,rx⟩:=vals1 r
 cases rx
 rcases h with ⟨hq,q⟩ | ⟨hq,q⟩
 ·obtain ⟨its,r',pl,hz⟩:=I.list hq
  have hlen:=r'.length
  refine call_tuple_list pl.isList (fun h' kp=>?_) (by simp only [List.size_toArray]<;>omega)
  have I1:Inv X pins σ H { s with heap:=h' }:=I.kept (t':=s.toks) kp
  have I2:Inv X pins σ (upd H h'.objs.size (.tup ys)) { s with heap:=h'.push { cls:=.type "tuple",data:=.seq its.toArray } } :=
   I1.laid (t':=s.toks) (fun b o e=>Heap.get?_push_of_some _ e) (Nat.le_refl _) (show ObjOk X.prog X.w _ _ _ (.tup ys) from ⟨hz,its,r',IsTup.new _ _⟩)
  exact ⟨.ref h'.objs.size,_,I2,rfl,q _ (I1.hok.fresh (Nat.le_refl _))⟩
 ·obtain ⟨its,r',pl,hz⟩:=I.tuple hq
  exact call_tuple_same pl ⟨.ref p,H,I,rfl,q⟩
def tyV (K:PySem.W.Frag) (T:String) (x:V) (H:Hp):Prop:=match x with
 | .str _=>T="str"
 | .int _=>T="int"
 | .ref p=>(T="list"∧∃ xs,SqL K H p xs)∨(T="tuple"∧∃ o,K.lookup p=some o∧o.cls = .type "tuple"∧o.dict=none) ∨
   (T="dict"∧((∃ kvs,H p=some (.dK kvs))∨∃ kvs,H p=some (.dT kvs)))∨(T="set"∧∃ S n,H p=some (.set S n))
 | _=>False
theorem zjJ {pins:List (Addr×Obj)} {σ:St} {H:Hp} {s:Shared} {T:String} {x:V} {v:Value} (I:Inv X pins σ H s) (r:RelV x v) (ty:tyV X.K T x H) :
  s.TypeIs v T∧∀ a,v = .ref a→∃ ob,s.heap.get? a=some ob∧ob.dict=none:=by
 cases x with
 | str z =>
  obtain ⟨t,rfl⟩:=r
  cases (show T="str" from ty)
  exact ⟨typeIs_str s z t,fun _ e=>nomatch e⟩
 | int i =>
  obtain ⟨t,rfl⟩:=r
  cases (show T="int" from ty)
  exact ⟨typeIs_int s i t,fun _ e=>nomatch e⟩
 | ref p =>
  cases r
  rcases ty with ⟨rfl,xs,hq⟩ | ⟨rfl,o,hk,hc,hd⟩ | ⟨rfl,hk⟩ | ⟨rfl,S,n,hk⟩
  ·obtain ⟨its,_,pl,_⟩:=I.list hq
   refine ⟨pl.isList.typeIs,fun a e=>?_⟩
   cases e
   obtain ⟨o,n,e,c,hd,_⟩:=pl
   exact ⟨o,e,hd⟩
  ·refine ⟨⟨o,I.kIn p o hk,hc⟩,fun a e=>?_⟩
   cases e
   exact ⟨o,I.kIn _ o hk,hd⟩
  ·have z:∃ o,s.heap.get? p=some o∧o.ExactDict:=by
    rcases hk with ⟨kvs,hk⟩ | ⟨kvs,hk⟩
    ·obtain ⟨_,_,_,_,o,_,_,e,ex,_⟩:=I.hok p _ hk
     exact ⟨o,e,ex⟩
    ·obtain ⟨_,_,_,_,o,_,_,e,ex,_⟩:=I.hok p _ hk
     exact ⟨o,e,ex⟩
   obtain ⟨o,e,ex⟩:=z
   refine ⟨⟨o,e,ex.1⟩,fun a e2=>?_⟩
   cases e2
   exact ⟨o,e,ex.2.1⟩
  ·obtain ⟨o,_,_,_,e,ex,_⟩:=I.hok p _ hk
   refine ⟨⟨o,e,ex.1⟩,fun a e2=>?_⟩
   cases e2
   exact ⟨o,e,ex.2.1⟩
 | _=>exact False.elim ty
def tBM0 (K:PySem.W.Frag) (T:String) (r:V→List V→Hp→VK→Prop) (to:TE):TE:=fun σ H Q=>to σ H fun x H1=>tyV K T x H1∧r x [] H1 Q
def tBM (K:PySem.W.Frag) (T:String) (r:V→List V→Hp→VK→Prop) (to:TE) (t:TA):TE:=fun σ H Q=>to σ H fun x H1=>tyV K T x H1∧t σ H1 fun xs H2=>r x xs H2 Q
variable {o e:Expr} {es:List Expr} {to:TE} {t:TA} {name:Str} {apos cpos:Pos} {T id:String} {r:V→List V→Hp→VK→Prop}
theorem zkN (pa:PlainAttrs T) (slot:Slot T name id) (hty:typeOf (.builtin id)=pure (.type "method_descriptor")) (hm:MtR X id r) (ho:PE X o to)
  (hbase:attributeBase o name X.env (eval o X.env)=eval o X.env:=by rfl) (hline:(apos.endLine == cpos.line)=true:=by rfl):PE X (.Call (.Attribute o name apos) [] [] cpos) (tBM0 X.K T r to):=by
 intro pins s σ H Q I h
 refine wpAny_Call_method0_late hbase hline (thn (ho pins s σ H _ I h) fun v s1 ⟨x,H1,I1,r1,ty,q1⟩=>?_)
 obtain ⟨h1,h2⟩:=zjJ I1 r1 ty
 exact ⟨T,id,pa,slot,hty,h1,h2,Calls.callWith_builtin rfl (PySem.evalArgs_none (hm pins s1 σ H1 x [] v [] Q I1 r1 .nil q1))⟩
theorem zba (pa:PlainAttrs T) (slot:Slot T name id) (hty:typeOf (.builtin id)=pure (.type "method_descriptor")) (hm:MtR X id r) (ho:PE X o to) (ha:PA X (e::es) t)
  (hbase:attributeBase o name X.env (eval o X.env)=eval o X.env:=by rfl)
  (hfew:((backTo cpos (starEach (e::es) X.env)).all (fun x=>!x.1) && (backToKw cpos (keywordEach [] X.env)).all (fun x=>x.1.isSome)
   && decide ((e::es).length+([]:List Keyword).length+(if ([]:List Keyword).isEmpty then 0 else 1) < 30))=true:=by rfl)
  (hline:(apos.endLine == cpos.line)=true:=by rfl) (hs:starEach (e::es) X.env=(false,eval e X.env)::starEach es X.env:=by rfl) (hplain:(backTo cpos (starEach es X.env)).any (·.1)=false:=by rfl) :
  PE X (.Call (.Attribute o name apos) (e::es) [] cpos) (tBM X.K T r to t):=by
 intro pins s σ H Q I h
 refine wpAny_Call_method_late hbase hfew hline rfl (thn (ho pins s σ H _ I h) fun v s1 ⟨x,H1,I1,r1,ty,q1⟩=>?_)
 obtain ⟨h1,h2⟩:=zjJ I1 r1 ty
 refine ⟨T,id,pa,slot,hty,h1,h2,?_⟩
 have hA:=ha cpos pins s1 σ H1 _ I1 q1
 rw [hs] at hA ⊢
 refine Calls.callWith_builtin (by show (false || (backTo cpos (starEach es X.env)).any (·.1))=false; rw [hplain]<;>rfl) (Calls.evalArgs_plain ?_)
 exact thn hA fun us s2 ⟨vs,H2,I2,r2,q2⟩=>hm pins s2 σ H2 x vs v us Q I2 r1 r2 q2
end
end L2
namespace L2
open PySem PySem.Spec PyProof.Rows
def MtM (X:Cx) (id:String) (r:V→List V→Hp→VK→Prop):Prop :=
 ∀ (pins:List (Addr×Obj)) (s:Shared) (σ:St) (H:Hp) (x:V) (xs:List V) (v:Value) (us:List Value) (Q:VK),Inv X pins σ H s→RelV x v→Vals xs us→r x xs H Q →
  wpAny (model X.prog X.w) X.A (call (.builtin id) (v::us)) (EP X pins σ Q) X.xe s
theorem Vals.one:∀ {x:V} {us:List Value},Vals [x] us→∃ u,us=[u]∧RelV x u
 | _,_,.cons r .nil=>⟨_,rfl,r⟩
theorem Vals.rep {xs:List V} {us:List Value} (h:Vals xs us):∀ k:Nat,Vals (List.replicate k xs).flatten (List.replicate k us).flatten
 | 0=>.nil
 | k+1=>by
  rw [List.replicate_succ,List.replicate_succ,List.flatten_cons,List.flatten_cons]
  exact Vals.append h (Vals.rep h k)
theorem zfL (its:List Value):∀ (k:Nat) (acc:List Value),
  List.foldl (fun x1 x2=>x1++x2) acc.toArray (List.replicate k its.toArray)=(acc++(List.replicate k its).flatten).toArray
 | 0,acc=>by simp
 | k+1,acc=>by
  have e:acc.toArray++its.toArray=(acc++its).toArray:=by simp
  have e2:(acc++its)++(List.replicate k its).flatten=acc++(List.replicate (k+1) its).flatten:=by
   rw [List.replicate_succ,List.flatten_cons,List.append_assoc]
  rw [← e2,← zfL its k (acc++its),← e,List.replicate_succ,List.foldl_cons]
section
variable {X:Cx} {pins:List (Addr×Obj)} {σ:St} {H:Hp} {s:Shared} {l b:Addr} {xs ys zs:List V}
theorem Inv.lset {its its':List Value} {n:Nat} {f:Array Value→Array Value} {t':Nat} (I:Inv X pins σ H s) (hH:H l=some (.lst xs))
  (e:s.heap.get? l=some { cls:=.type "list",data:=.seq its.toArray n }) (hf:f its.toArray=its'.toArray) (hv:Vals ys its') (hz:ys.length≤sizeLine) :
  Inv X pins σ (upd H l (.lst ys)) { s with heap:=s.heap.update l (Obj.mapSeq f),toks:=t' }:=by
 have q:=PySem.IsL.update e f
 rw [hf] at q
 refine I.write (x:=l) (e:=l) (by rw [hH]; exact trivial) (.inl rfl) (fun b' u hb hu=>(Heap.get?_update_other s.heap (Obj.mapSeq f) (Ne.symm hb)).trans hu) ⟨_,q⟩ ?_
 exact ⟨hz,its',_,hv,q⟩
theorem Inv.lnew {its:List Value} {t':Nat} (I:Inv X pins σ H s) (hv:Vals ys its) (hz:ys.length≤sizeLine) :
  Inv X pins σ (upd H s.heap.objs.size (.lst ys)) { s with heap:=s.heap.push { cls:=.type "list",data:=.seq its.toArray },toks:=t' } :=
 I.laid (fun _ _ q=>Heap.get?_push_of_some _ q) (Nat.le_refl _) ⟨hz,its,0,hv,Heap.get?_push_size _ rfl⟩
theorem Inv.fresh (I:Inv X pins σ H s):H s.heap.objs.size=none:=I.hok.fresh (Nat.le_refl _)
theorem Inv.lstM (I:Inv X pins σ H s) (hH:H l=some (.lst xs)):xs.length≤sizeLine∧∃ (its:List Value) (n:Nat),Vals xs its∧xs.length=its.length∧s.heap.get? l=some { cls:=.type "list",data:=.seq its.toArray n }:=by
 obtain ⟨z,its,n,r,e⟩:=I.hok l _ hH
 exact ⟨z,its,n,r,r.length,e⟩
theorem notLongL {n:Nat} (h:n≤sizeLine):Builtin.List.listTooLong n=false:=by
 unfold Builtin.List.listTooLong
 exact decide_eq_false (by omega)
end
section
variable {X:Cx}
def rAppend:V→List V→Hp→VK→Prop:=fun x vs H Q=>∃ l xs y,x = .ref l∧vs=[y]∧H l=some (.lst xs)∧xs.length < sizeLine∧Q .non (upd H l (.lst (xs++[y])))
theorem zij:MtM X "list.append" rAppend:=by
 intro pins s σ H x vs v us Q I rx rv h
 obtain ⟨l,xs,y,rfl,rfl,hH,hz,q⟩:=h
 cases rx
 obtain ⟨u,rfl,ru⟩:=rv.one
 obtain ⟨z,its,n,r,hl,e⟩:=I.lstM hH
 refine call_meets F.slot_list_append ⟨_,e,rfl⟩ F.entry_list_append (F.args_list_append_2 _ _) (PySem.list_append l its.toArray n u (by rw [List.size_toArray]; omega)) ⟨e,?_⟩
 refine ⟨.non,_,I.lset (its':=its++[u]) hH e (by simp) (r.append (.cons ru .nil)) ?_,rfl,q⟩
 rw [List.length_append,List.length_singleton]
 omega
def rExtend:V→List V→Hp→VK→Prop:=fun x vs H Q=>∃ l b xs zs,x = .ref l∧vs=[.ref b]∧H l=some (.lst xs)∧H b=some (.lst zs)∧xs.length+zs.length≤sizeLine∧Q .non (upd H l (.lst (xs++zs)))
theorem zif:MtM X "list.extend" rExtend:=by
 intro pins s σ H x vs v us Q I rx rv h
 obtain ⟨l,b,xs,zs,rfl,rfl,hH,hB,hz,q⟩:=h
 cases rx
 obtain ⟨u,rfl,ru⟩:=rv.one
 cases ru
 obtain ⟨z,its,n,r,hl,e⟩:=I.lstM hH
 obtain ⟨z2,its2,n2,r2,hl2,e2⟩:=I.lstM hB
 have hsz:its.toArray.size+its2.toArray.size≤sizeLine:=by rw [List.size_toArray,List.size_toArray]; omega
 have hlong:¬ (!its.toArray.isEmpty && Builtin.List.listTooLong (its.toArray.size+its2.toArray.size))=true:=by
  rw [notLongL hsz,Bool.and_false]
  exact Bool.false_ne_true
 refine call_meets F.slot_list_extend ⟨_,e,rfl⟩ F.entry_list_extend (F.args_list_extend_2 _ _)
  (AutoSeq1.list_extend_list_list_0 l its.toArray n b its2.toArray n2 hlong (by rw [List.size_toArray]; omega) (by omega)) ⟨e,e2,?_⟩
 refine ⟨.non,_,I.lset (its':=its++its2) hH e (by simp) (r.append r2) ?_,rfl,q⟩
 rw [List.length_append]
 omega
def rCat:R2:=fun x y H Q=>∃ l b xs zs,x = .ref l∧y = .ref b∧H l=some (.lst xs)∧H b=some (.lst zs)∧xs.length+zs.length≤sizeLine∧∀ p,H p=none→Q (.ref p) (upd H p (.lst (xs++zs)))
theorem zkS:OpR X (binaryOp .Add) rCat:=by
 intro pins s σ H x y v u Q I rx ry h
 obtain ⟨l,b,xs,zs,rfl,rfl,hH,hB,hz,q⟩:=h
 cases rx
 cases ry
 obtain ⟨z,its,n,r,hl,e⟩:=I.lstM hH
 obtain ⟨z2,its2,n2,r2,hl2,e2⟩:=I.lstM hB
 refine PySem.P.add_list e e2 ?_ (by rw [List.size_toArray,List.size_toArray]; omega)
 have ea:its.toArray++its2.toArray=(its++its2).toArray:=by simp
 rw [ea]
 exact ⟨.ref _,_,I.lnew (t':=s.toks) (r.append r2) (by rw [List.length_append]; omega),rfl,q _ I.fresh⟩
def rRep:R2:=fun x y H Q=>∃ l k xs,x = .ref l∧y = .int k∧H l=some (.lst xs)∧-(2 ^ 63)≤k∧k < 2 ^ 63∧xs.length * k.toNat≤sizeLine ∧
 ∀ p,H p=none→Q (.ref p) (upd H p (.lst (List.replicate k.toNat xs).flatten))
theorem zki {α:Type} (xs:List α) (k:Nat):(List.replicate k xs).flatten.length=k * xs.length:=by
 induction k with
 | zero=>simp
 | succ k ih=>rw [List.replicate_succ,List.flatten_cons,List.length_append,ih,Nat.succ_mul,Nat.add_comm]
theorem zkP:OpR X (binaryOp .Mult) rRep:=by
 intro pins s σ H x y v u Q I rx ry h
 obtain ⟨l,k,xs,rfl,rfl,hH,h1,h2,hz,q⟩:=h
 cases rx
 obtain ⟨t,rfl⟩:=ry
 obtain ⟨z,its,n,r,hl,e⟩:=I.lstM hH
 have hlen:its.toArray.size * k.toNat≤sizeLine:=by rw [List.size_toArray,← hl]; exact hz
 have hcap:¬ its.toArray.size * k.toNat > (2 ^ 63 - 1) / 8:=by
  have:(sizeLine:Nat)≤(2 ^ 63 - 1) / 8:=by decide
  omega
 have hfit:¬ (!Builtin.List.listFitsIndex k)=true:=by
  rw [fitsIndex_both h1 h2]
  exact Bool.false_ne_true
 have hlong:¬ Builtin.List.listTooLong (its.toArray.size * k.toNat)=true:=by
  rw [notLongL hlen]
  exact Bool.false_ne_true
 have hnew:List.foldl (fun x1 x2=>x1++x2) #[] (List.replicate (if its.toArray.isEmpty=true then 0 else k.toNat) its.toArray)=(List.replicate k.toNat its).flatten.toArray:=by
  have f0:∀ m:Nat,List.foldl (fun x1 x2=>x1++x2) #[] (List.replicate m its.toArray)=(List.replicate m its).flatten.toArray:=fun m=>by
   have:=zfL its m []
   rw [List.nil_append] at this
   exact this
  rw [f0]
  cases its with
  | nil=>simp
  | cons a r'=>rw [if_neg (by simp)]
 refine wpAny_binaryOp_repeat_ref (T:="list") (U:="int") (by decide) ⟨_,e,rfl⟩ (fun s'=>typeIs_int s' k t) noFill_list_mul F.fills_int_mul F.slot_int_rmul repeat_list F.slot_int_index.lookup
  (call_meets F.slot_int_rmul (typeIs_int s k t) F.entry_int_rmul (F.args_int_rmul_2 _ _) (int___rmul___int_list k t l its.toArray n)
   ⟨e,rfl,⟨_,e,rfl⟩,call_meets F.slot_list_mul ⟨_,e,rfl⟩ F.entry_list_mul (F.args_list_mul_2 _ _) (AutoListH.list___mul___list_int_3 l its.toArray n k t hfit hcap hlong) ⟨e,?_⟩⟩)
 rw [hnew]
 exact ⟨.ref _,_,I.lnew (t':=s.toks) (r.rep k.toNat) (by rw [zki,Nat.mul_comm]; exact hz),rfl,q _ I.fresh⟩
end
end L2
namespace L2
open PySem PySem.Spec PyProof.Rows
theorem Vals.ints:∀ {ns:List Int} {us:List Value},Vals (ns.map V.int) us→IntsAre us ns
 | [],us,h=>by
  rw [List.map_nil] at h
  cases h
  exact IntsAre.nil
 | n::ns,us,h=>by
  rw [List.map_cons] at h
  cases h with
  | cons r t =>
   obtain ⟨k,rfl⟩:=r
   exact IntsAre.cons n k (Vals.ints t)
theorem Vals.bls:∀ {bs:List Bool} {us:List Value},Vals (bs.map V.bl) us→us=bs.map Value.bool
 | [],us,h=>by
  rw [List.map_nil] at h
  cases h
  rfl
 | b::bs,us,h=>by
  rw [List.map_cons] at h
  cases h with
  | cons r t =>
   cases r
   rw [Vals.bls t,List.map_cons]
theorem Vals.ref1 {a:Addr} {us:List Value} (r:Vals [V.ref a] us):us=[Value.ref a]:=by
 cases r with
 | cons r t =>
  cases t
  cases r
  rfl
section
variable {prog:Program} {w:World} {A:Around} {E:Value→Shared→Prop} {s:Shared} {l:Addr} {its:List Value} {ns:List Int} {Q:Value→Shared→Prop}
theorem zjW (hh:A.handled=none) (hl:s.heap.IsList l its.toArray) (hi:IntsAre its ns)
  (h:∀ h' tk t',(∀ b o,s.heap.get? b=some o→h'.get? b=some o)→Q (.int ns.sum t') { s with heap:=h',toks:=tk }):wpAny (model prog w) A (call (.builtin "sum") [.ref l]) Q E s:=by
 obtain ⟨xs,e⟩:=hi.allInts.items
 have hn:numsOf (intItems xs).toList=ns:=by rw [← e]; exact hi.numsOf
 rw [nums_intItems] at hn
 rw [e] at hl
 refine PySem.sum_intListG hh hl fun h' tk t' hk=>?_
 have:=h h' tk t' hk
 rw [preSum_eq,List.take_of_length_le (by simp),hn]; exact this
end
section
variable {X:Cx}
def rSum (K:PySem.W.Frag):List V→Hp→VK→Prop:=fun vs H Q=>∃ (a:Addr) (ns:List Int),vs=[V.ref a]∧SqL K H a (ns.map V.int)∧Q (.int ns.sum) H
theorem ziR (hc:X.calm=true):CallR X (.builtin "sum") (rSum X.K):=by
 intro pins s σ H vs us Q I r h
 obtain ⟨a,ns,rfl,hs,q⟩:=h
 obtain ⟨its,rv,hl,_⟩:=I.list hs
 rw [Vals.ref1 r]
 exact zjW (I.ok.hd hc) hl.isList rv.ints fun h' tk t' hk=>⟨.int _,H,I.kept hk,⟨_,rfl⟩,q⟩
end
theorem zjv {prog:Program} {w:World} {A:Around} {E:Value→Shared→Prop} {s:Shared} {l:Addr} {items:Array Value} {Q:Value→Shared→Prop} (hl:s.heap.IsList l items)
  (h:∀ s₂:Shared,s₂={ s with heap:=s.heap.push { cls:=.type "list_iterator",data:=.fields #[.ref l,.int 0 0] } } →
   (s₂.heap.IsListIter s.heap.objs.size l 0∧s₂.heap.IsList l items)→l≠s.heap.objs.size→Q (.ref s.heap.objs.size) s₂):wpAny (model prog w) A (pyIter (.ref l)) Q E s:=by
 have hlt:l < s.heap.objs.size:=by obtain ⟨_,e,_⟩:=hl; exact Heap.lt_size e
 exact wpAny_pyIter_list hl (h _ rfl ⟨⟨_,Heap.get?_push_size _ rfl,rfl,rfl⟩,hl.push _⟩ (Nat.ne_of_lt hlt))
theorem zf2 {prog:Program} {w:World} {A:Around} {bs:List Bool} {its:List Value} (e:its=bs.map Value.bool) :
  TruthOf prog w A (fun i v=>its.toArray[i]?=some v) (fun i=>bs.getD i false):=fun i v s Q E hv hq=>by
 have hv':its[i]?=some v:=by simpa using hv
 rw [e,List.getElem?_map] at hv'
 obtain ⟨b,hb,rfl⟩:=Option.map_eq_some_iff.mp hv'
 have hg:bs.getD i false=b:=by rw [List.getD_eq_getElem?_getD,hb]<;>rfl
 have hq':Q (bs.getD i false) s:=hq
 rw [hg] at hq'
 exact wpAny_truthy_bool hq'
theorem zf0:∀ bs:List Bool,(List.range bs.length).all (fun i=>bs.getD i false)=bs.all id
 | []=>rfl
 | b::bs=>by
  rw [List.length_cons,List.range_succ_eq_map,List.all_cons,List.all_map,List.all_cons,← zf0 bs]
  all_goals rfl
section
variable {X:Cx}
def rAll (K:PySem.W.Frag):List V→Hp→VK→Prop:=fun vs H Q=>∃ (a:Addr) (bs:List Bool),vs=[V.ref a]∧SqL K H a (bs.map V.bl)∧Q (.bl (bs.all id)) H
theorem zk7 (hc:X.calm=true):CallR X (.builtin "all") (rAll X.K):=by
 intro pins s σ H vs us Q I r h
 obtain ⟨a,bs,rfl,hs,q⟩:=h
 obtain ⟨its,rv,hl,_⟩:=I.list hs
 rw [Vals.ref1 r]
 have hb:=rv.bls
 refine call_all_walk (zjv hl.isList fun s₂ e2 st hne=>?_)
 subst e2
 refine ⟨_,_,_,_,_,_,_,rfl,Walks.list (A:=X.A.in1) (I.ok.hd hc) _ a hne its.toArray,st,zf2 hb,fun h' tk hk=>?_⟩
 refine ⟨.bl _,H,I.kept fun b o eo=>hk b o (fun hmem=>?_) (Heap.get?_push_of_some _ eo),?_,q⟩
 ·rcases List.mem_cons.mp hmem with e1 | hmem
  ·exact absurd (e1 ▸ Heap.lt_size eo) (Nat.lt_irrefl _)
  ·cases hmem
 ·show Value.bool _=Value.bool _
  rw [← zf0,hb,List.size_toArray,List.length_map]
end
mutual
inductive Dp (K:PySem.W.Frag) (H:Hp):V→PyData→Prop
 | non:Dp K H .non .none
 | bl (b:Bool):Dp K H (.bl b) (.bool b)
 | int (i:Int):Dp K H (.int i) (.int i)
 | str (x:Str):Dp K H (.str x) (.str x)
 | lst {a:Addr} {xs:List V} {ds:List PyData}:SqL K H a xs→DpAll K H xs ds→Dp K H (.ref a) (.list ds)
 | tup {a:Addr} {xs:List V} {ds:List PyData}:SqT K H a xs→DpAll K H xs ds→Dp K H (.ref a) (.tuple ds)
inductive DpAll (K:PySem.W.Frag) (H:Hp):List V→List PyData→Prop
 | nil:DpAll K H [] []
 | cons {v:V} {vs:List V} {d:PyData} {ds:List PyData}:Dp K H v d→DpAll K H vs ds→DpAll K H (v::vs) (d::ds)
end
section
variable {X:Cx} {pins:List (Addr×Obj)} {σ:St} {H:Hp} {s:Shared}
mutual
theorem Dp.reads (I:Inv X pins σ H s):∀ (d:PyData) (v:V) (u:Value),Dp X.K H v d→RelV v u→∃ as,Reads s.heap u d as
 | .none,_,_,h,r=>by
  cases h
  cases r
  exact ⟨_,Reads.none⟩
 | .bool b,_,_,h,r=>by
  cases h
  cases r
  exact ⟨_,Reads.bool b⟩
 | .int i,_,_,h,r=>by
  cases h
  obtain ⟨t,rfl⟩:=r
  exact ⟨_,Reads.int i t⟩
 | .str x,_,_,h,r=>by
  cases h
  obtain ⟨t,rfl⟩:=r
  exact ⟨_,Reads.str x t⟩
 | .list ds,_,_,h,r=>by
  cases h with
  | lst hs ha =>
   cases r
   obtain ⟨its,rv,⟨o,n,ho,hc,_,hd⟩,_⟩:=I.list hs
   obtain ⟨as,hr⟩:=Dp.readsAll I ds _ its ha rv
   exact ⟨_,Reads.list ho hc hd hr⟩
 | .tuple ds,_,_,h,r=>by
  cases h with
  | tup hs ha =>
   cases r
   obtain ⟨its,rv,⟨o,ho,hc,n,hd⟩,_⟩:=I.tuple hs
   obtain ⟨as,hr⟩:=Dp.readsAll I ds _ its ha rv
   exact ⟨_,Reads.tuple ho hc hd hr⟩
 | .dict _,_,_,h,_=>by cases h
theorem Dp.readsAll (I:Inv X pins σ H s):∀ (ds:List PyData) (vs:List V) (us:List Value),DpAll X.K H vs ds→Vals vs us→∃ as,ReadsAll s.heap us ds as
 | [],_,_,h,r=>by
  cases h
  cases r
  exact ⟨_,ReadsAll.nil⟩
 | d::ds,_,_,h,r=>by
  cases h with
  | cons h1 h2 =>
   cases r with
   | cons r1 r2 =>
    obtain ⟨as,q1⟩:=Dp.reads I d _ _ h1 r1
    obtain ⟨bs,q2⟩:=Dp.readsAll I ds _ _ h2 r2
    exact ⟨_,ReadsAll.cons q1 q2⟩
end
end
section
variable {X:Cx}
def rEqD (K:PySem.W.Frag):R2:=fun x y H Q=>∃ d e,Dp K H x d∧Dp K H y e∧SeqAt.shaped d=true∧SeqAt.shaped e=true∧Q (.bl (PyData.eqv d e)) H
def rNeD (K:PySem.W.Frag):R2:=fun x y H Q=>∃ d e,Dp K H x d∧Dp K H y e∧SeqAt.shaped d=true∧SeqAt.shaped e=true∧Q (.bl (!PyData.eqv d e)) H
theorem zdJ (hu:X.A.units+64 < cLine):OpR X (compareOp .Eq) (rEqD X.K):=by
 intro pins s σ H x y v u Q I rx ry h
 obtain ⟨d,e,hd,he,sd,se,q⟩:=h
 obtain ⟨as,r1⟩:=Dp.reads I d x v hd rx
 obtain ⟨bs,r2⟩:=Dp.reads I e y u he ry
 exact SeqAt.compareEq_shaped r1 r2 sd se hu ⟨.bl _,H,I,rfl,q⟩
theorem zkQ (hu:X.A.units+64 < cLine):OpR X (compareOp .NotEq) (rNeD X.K):=by
 intro pins s σ H x y v u Q I rx ry h
 obtain ⟨d,e,hd,he,sd,se,q⟩:=h
 obtain ⟨as,r1⟩:=Dp.reads I d x v hd rx
 obtain ⟨bs,r2⟩:=Dp.reads I e y u he ry
 exact SeqAt.compareNe_shaped r1 r2 sd se hu ⟨.bl _,H,I,rfl,q⟩
end
end L2
namespace L2
open PySem PySem.Spec PyProof.Rows
abbrev CellAt (h:Heap) (c:Addr) (v:Option Value):Prop:=h.IsCell c v
def relS (scope sc:Scope):Scope :=
 { scope with names:=scope.names.map fun (n,k)=>if (k == .free && sc.kind == .function && sc.names.lookup n == some .cell) then (n,.cell) else (n,k) }
def cloFrom (cells:List (Str×Addr)):List (Str×NameKind)→List (Str×Addr)→List (Str×Addr)
 | [],acc=>acc
 | (n,k)::r,acc=>if k == .free then cloFrom cells r ((n,(cells.lookup n).getD 0)::acc) else cloFrom cells r acc
theorem zdf (env:Env) (f:Str×NameKind→List (Str×Addr)→Sem (ForInStep (List (Str×Addr))))
  (hf:∀ n k c,f (n,k) c=if k == .free then (do let a ← cellOf env n; pure (.yield ((n,a)::c))) else pure (.yield c)) :
  ∀ (names:List (Str×NameKind)) (acc:List (Str×Addr)),(∀ y∈names,y.2 = .free→∃ c,env.cells.lookup y.1=some c)→forIn names acc f=pure (cloFrom env.cells names acc)
 | [],acc,_=>by rw [List.forIn_nil]; rfl
 | (n,k)::r,acc,h=>by
  rw [List.forIn_cons,hf]
  have ih:=fun acc=>zdf env f hf r acc fun y hy=>h y (List.mem_cons_of_mem _ hy)
  unfold cloFrom
  by_cases hk:(k == NameKind.free)=true
  ·rw [if_pos hk,if_pos hk]
   obtain ⟨c,hc⟩:=h (n,k) List.mem_cons_self (by simpa using hk)
   have e:cellOf env n=pure c:=by unfold cellOf; rw [hc]
   rw [e]
   have e2:(env.cells.lookup n).getD 0=c:=by rw [hc]; rfl
   rw [e2]
   exact ih _
  ·rw [if_neg hk,if_neg hk]
   exact ih _
theorem zhl {scope:Scope} {env:Env} (h:∀ y∈scope.names,y.2 = .free→∃ c,env.cells.lookup y.1=some c):closureFor scope env=pure (cloFrom env.cells scope.names []):=by
 simp only [closureFor]
 rw [zdf env _ (fun n k c=>rfl) scope.names [] h]
 rfl
theorem zc0 {α:Type}:∀ {l:List (Str×α)} {n:Str} {c:α},(n,c)∈l→∃ c',l.lookup n=some c'
 | (k,v)::r,n,c,h=>by
  rw [List.lookup_cons]
  cases hb:n == k with
  | true=>exact ⟨_,rfl⟩
  | false =>
   rcases List.mem_cons.mp h with e | h
   ·cases e; simp at hb
   ·exact zc0 h
theorem zb2 {cells:List (Str×Addr)}:∀ {names:List (Str×NameKind)} {acc:List (Str×Addr)} {n:Str} {c:Addr},(n,c)∈cloFrom cells names acc→(n,c)∈acc∨((n,.free)∈names∧c=(cells.lookup n).getD 0)
 | [],_,_,_,h=>.inl h
 | (m,k)::r,acc,n,c,h=>by
  unfold cloFrom at h
  split at h
  ·rename_i hk
   have hk:k = .free:=by simpa using hk
   rcases zb2 h with h | ⟨h1,h2⟩
   ·rcases List.mem_cons.mp h with e | h
    ·cases e; exact .inr ⟨hk ▸ List.mem_cons_self,rfl⟩
    ·exact .inl h
   ·exact .inr ⟨List.mem_cons_of_mem _ h1,h2⟩
  ·rcases zb2 h with h | ⟨h1,h2⟩
   ·exact .inl h
   ·exact .inr ⟨List.mem_cons_of_mem _ h1,h2⟩
theorem zcC {cells:List (Str×Addr)}:∀ {names:List (Str×NameKind)} {acc:List (Str×Addr)} {p:Str×Addr},p∈acc→p∈cloFrom cells names acc
 | [],_,_,h=>h
 | (m,k)::r,acc,p,h=>by
  unfold cloFrom
  split
  ·exact zcC (List.mem_cons_of_mem _ h)
  ·exact zcC h
theorem zcB {cells:List (Str×Addr)}:∀ {names:List (Str×NameKind)} {acc:List (Str×Addr)} {n:Str},(n,.free)∈names→(n,(cells.lookup n).getD 0)∈cloFrom cells names acc
 | (m,k)::r,acc,n,h=>by
  unfold cloFrom
  rcases List.mem_cons.mp h with e | h
  ·cases e
   exact zcC List.mem_cons_self
  ·split
   ·exact zcB h
   ·exact zcB h
theorem zch:∀ {names:List (Str×NameKind)} {h:Heap} {acc:List (Str×Addr)} {x:Str} {c:Addr},(x,c)∈cellsFrom h.objs.size names acc →
  (x,c)∈acc∨((x,.cell)∈names∧h.objs.size≤c∧CellAt (pushCells h names) c none)
 | [],_,_,_,_,h=>.inl h
 | (n,k)::r,h,acc,x,c,hm=>by
  unfold cellsFrom at hm
  unfold pushCells
  split at hm
  ·rename_i hk
   rw [if_pos hk]
   have hk:k = .cell:=by simpa using hk
   rw [← Heap.size_push h { cls:=.type "cell",data:=.cell none }] at hm
   rcases zch hm with hm | ⟨h1,h2,h3⟩
   ·rcases List.mem_cons.mp hm with e | hm
    ·cases e
     exact .inr ⟨hk ▸ List.mem_cons_self,Nat.le_refl _,_,pushCells_keeps r _ _ _ (Heap.get?_push_size _ rfl),rfl⟩
    ·exact .inl hm
   ·rw [Heap.size_push] at h2
    exact .inr ⟨List.mem_cons_of_mem _ h1,Nat.le_of_succ_le h2,h3⟩
  ·rename_i hk
   rw [if_neg hk]
   rcases zch hm with hm | ⟨h1,h2,h3⟩
   ·exact .inl hm
   ·exact .inr ⟨List.mem_cons_of_mem _ h1,h2,h3⟩
theorem zcP:∀ {names:List (Str×NameKind)} {n:Nat} {acc:List (Str×Addr)} {p:Str×Addr},p∈acc→p∈cellsFrom n names acc
 | [],_,_,_,h=>h
 | (m,k)::r,n,acc,p,h=>by
  unfold cellsFrom
  split
  ·exact zcP (List.mem_cons_of_mem _ h)
  ·exact zcP h
theorem zdZ:∀ {names:List (Str×NameKind)} {n:Nat} {acc:List (Str×Addr)} {x:Str},(x,.cell)∈names→∃ c,(x,c)∈cellsFrom n names acc
 | (m,k)::r,n,acc,x,h=>by
  unfold cellsFrom
  rcases List.mem_cons.mp h with e | h
  ·cases e
   exact ⟨n,zcP List.mem_cons_self⟩
  ·split
   ·exact zdZ h
   ·exact zdZ h
theorem zdY:∀ {names:List (Str×NameKind)} {h:Heap} {acc:List (Str×Addr)} {x y:Str} {c:Addr},(∀ p∈acc,p.2 < h.objs.size)→(∀ x y c,(x,c)∈acc→(y,c)∈acc→x=y) →
  (x,c)∈cellsFrom h.objs.size names acc→(y,c)∈cellsFrom h.objs.size names acc→x=y
 | [],_,_,_,_,_,_,hi,h1,h2=>hi _ _ _ h1 h2
 | (n,k)::r,h,acc,x,y,c,hl,hi,h1,h2=>by
  unfold cellsFrom at h1 h2
  split at h1
  ·rename_i hk
   rw [if_pos hk] at h2
   rw [← Heap.size_push h { cls:=.type "cell",data:=.cell none }] at h1 h2
   refine zdY (h:=h.push _) (fun p hp=>?_) (fun x y c a b=>?_) h1 h2
   ·rw [Heap.size_push]
    rcases List.mem_cons.mp hp with rfl | hp
    ·exact Nat.lt_succ_self _
    ·exact Nat.lt_succ_of_lt (hl p hp)
   ·rcases List.mem_cons.mp a with e | a<;>rcases List.mem_cons.mp b with e' | b
    ·cases e; cases e'; rfl
    ·cases e; exact absurd (hl _ b) (Nat.lt_irrefl _)
    ·cases e'; exact absurd (hl _ a) (Nat.lt_irrefl _)
    ·exact hi _ _ _ a b
  ·rename_i hk
   rw [if_neg hk] at h2
   exact zdY hl hi h1 h2
theorem zgi {M:Model} {A:Around} {E:Value→Shared→Prop} {s:Shared} {scope:Scope} {globals:Addr} {closure:List (Str×Addr)} {qual:Str} {func:Option Addr} {code:Value} {around:Env} {builtins:Addr} {Q:Env→Shared→Prop}
  (h:Q (newEnv scope s.heap.objs.size globals (cellsFrom (s.heap.objs.size+1) scope.names closure) qual func code (some around) builtins)
   { s with heap:=pushCells (s.heap.push { cls:=.type "dict",data:=.dict #[] }) scope.names }) :
  wpAny M A (newFunctionEnv scope globals closure [] qual func code (some around) builtins) Q E s:=by
 simp only [newFunctionEnv,Option.isSome_some,if_true]
 refine wpAny_bind (wpAny_alloc ?_)
 refine wpAny_bind (wpAny_layCells _ (fun n k c=>rfl) scope.names closure _ _ ?_)
 rw [show ({ s with heap:=s.heap.push { cls:=.type "dict",data:=.dict #[] } }:Shared).heap.objs.size=s.heap.objs.size+1 from Heap.size_push ..]
 rw [List.forIn_nil]
 exact wpAny_bind (wpAny_pure (wpAny_pure h))
theorem zcz {sc:Scope}:∀ {names:List (Str×NameKind)} {x:Str} {k:NameKind},
  (names.map fun (n,k)=>if (k == NameKind.free && sc.kind == .function && sc.names.lookup n == some .cell) then (n,NameKind.cell) else (n,k)).lookup x=some k →
  ∃ k',names.lookup x=some k'∧(k=k'∨(k' = .free∧k = .cell))
 | [],_,_,h=>by simp at h
 | (n,k₀)::r,x,k,h=>by
  have ih:=@zcz sc r x k
  have h':List.lookup x ((if (k₀ == NameKind.free && sc.kind == .function && sc.names.lookup n == some .cell)=true then (n,NameKind.cell) else (n,k₀))::(r.map _))=some k:=h
  cases hx:x == n with
  | true =>
   simp only [List.lookup_cons,hx]
   by_cases hc:(k₀ == NameKind.free && sc.kind == .function && sc.names.lookup n == some .cell)=true
   ·rw [if_pos hc] at h'
    simp only [List.lookup_cons,hx] at h'
    cases h'
    simp only [Bool.and_eq_true,beq_iff_eq] at hc
    exact ⟨k₀,rfl,.inr ⟨hc.1.1,rfl⟩⟩
   ·rw [if_neg hc] at h'
    simp only [List.lookup_cons,hx] at h'
    cases h'
    exact ⟨_,rfl,.inl rfl⟩
  | false =>
   simp only [List.lookup_cons,hx]
   by_cases hc:(k₀ == NameKind.free && sc.kind == .function && sc.names.lookup n == some .cell)=true
   ·rw [if_pos hc] at h'
    simp only [List.lookup_cons,hx] at h'
    exact ih h'
   ·rw [if_neg hc] at h'
    simp only [List.lookup_cons,hx] at h'
    exact ih h'
structure BlkOk (N:List Str) (sc scope:Scope) (own:List (Str×Nat)):Prop where
 kind:scope.kind = .function
 uniq:∀ y∈scope.names,scope.names.lookup y.1=some y.2
 ix:∀ p∈own,N[p.2]?=some p.1
 free:∀ y∈scope.names,y.2 = .free→sc.names.lookup y.1=some .cell∨sc.names.lookup y.1=some .free
 own:∀ y∈scope.names,y.2 = .local∨y.2 = .cell→y.1∈own.map (·.1)∨y.1 ∉ N
def wipe (σ:St):List Nat→St
 | []=>σ
 | v::vs=>(wipe σ vs).set v none
theorem zcs (σ:St):∀ vs:List Nat,(wipe σ vs).length=σ.length
 | []=>rfl
 | v::vs=>by unfold wipe; rw [List.length_set,zcs σ vs]
theorem zdr {σ:St} {i:Nat} {x:V}:∀ {vs:List Nat},(wipe σ vs)[i]?=some (some x)→σ[i]?=some (some x)∧i ∉ vs
 | [],h=>⟨h,by simp⟩
 | v::vs,h=>by
  unfold wipe at h
  by_cases hi:v=i
  ·subst hi
   by_cases hv:v < (wipe σ vs).length
   ·rw [List.getElem?_set_self hv] at h; cases h
   ·rw [List.getElem?_eq_none (by simpa using hv)] at h; cases h
  ·rw [List.getElem?_set_ne hi] at h
   obtain ⟨h1,h2⟩:=zdr h
   exact ⟨h1,by simp only [List.mem_cons,not_or]; exact ⟨fun e=>hi e.symm,h2⟩⟩
abbrev Cx.blk (X:Cx) (s:Shared) (H:Hp) (scope:Scope) (cenv:Env) (fp:List Addr):Cx:={ X with s_0:=s,H_0:=H,env:=cenv,outer:=X.stack,ex:=fp,fn:=fun x=>scope.names.lookup x == some .cell,pn:=[],xe:=fun _ _=>False }
section
variable {X:Cx} {pins:List (Addr×Obj)} {σ:St} {H:Hp} {s:Shared}
theorem zgo {scope:Scope} {own:List (Str×Nat)} {fp:List Addr} (I:Inv X pins σ H s) (ok:BlkOk X.N X.env.scope scope own) (hN:X.N.Nodup) (hfp:∀ b∈fp,FpOk X pins H b∧b < s.heap.objs.size) :
  Inv (X.blk s H scope (compEnvC scope (cellsFrom (s.heap.objs.size+1) scope.names (cloFrom X.env.cells scope.names [])) s.heap.objs.size X.env) fp) [] (wipe σ (own.map (·.2))) H { s with heap:=pushCells (s.heap.push { cls:=.type "dict",data:=.dict #[] }) scope.names }:=by
 have hfree:∀ y∈scope.names,y.2 = .free→∃ c,X.env.cells.lookup y.1=some c:=fun y hy e=>by
  rcases ok.free y hy e with k | k
  ·exact I.ok.has _ (.inl k)
  ·exact I.ok.has _ (.inr k)
 generalize hcenv:compEnvC scope (cellsFrom (s.heap.objs.size+1) scope.names (cloFrom X.env.cells scope.names [])) s.heap.objs.size X.env=cenv
 have kp:∀ b o,s.heap.get? b=some o→(pushCells (s.heap.push { cls:=.type "dict",data:=.dict #[] }) scope.names).get? b=some o:=fun b o e=>pushCells_keeps _ _ _ _ (Heap.get?_push_of_some _ e)
 have hL:cenv.locals=s.heap.objs.size:=by rw [← hcenv]; rfl
 have hcl:cenv.cells=cellsFrom (s.heap.objs.size+1) scope.names (cloFrom X.env.cells scope.names []):=by rw [← hcenv]; rfl
 have hsc:cenv.scope=relS scope X.env.scope:=by rw [← hcenv]; rfl
 rw [← Heap.size_push s.heap { cls:=.type "dict",data:=.dict #[] }] at hcl
 have cm:∀ {y c},(y,c)∈cloFrom X.env.cells scope.names []→X.env.cells.lookup y=some c∧c < s.heap.objs.size:=fun {y c} hm=>by
  rcases zb2 hm with hm | ⟨h1,rfl⟩
  ·cases hm
  ·obtain ⟨c,hc⟩:=hfree _ h1 rfl
   rw [hc]
   obtain ⟨w,z⟩:=I.cell _ _ hc
   exact ⟨rfl,z.lt⟩
 have mem:∀ {y c},cenv.cells.lookup y=some c→(X.env.cells.lookup y=some c∧c < s.heap.objs.size)∨(s.heap.objs.size+1≤c∧CellAt (pushCells (s.heap.push { cls:=.type "dict",data:=.dict #[] }) scope.names) c none):=fun {y c} e=>by
  rw [hcl] at e
  rcases zch (PySem.mem_of_lookup e) with hm | ⟨_,h2,h3⟩
  ·exact .inl (cm hm)
  ·rw [Heap.size_push] at h2; exact .inr ⟨h2,h3⟩
 have look:∀ {y},scope.names.lookup y=some .free→∃ c,cenv.cells.lookup y=some c∧X.env.cells.lookup y=some c:=fun {y} hl=>by
  have hy:(y,NameKind.free)∈scope.names:=PySem.mem_of_lookup hl
  obtain ⟨c',e'⟩:=zc0 (zcP (names:=scope.names) (n:=(s.heap.push { cls:=.type "dict",data:=.dict #[] }).objs.size) (zcB (cells:=X.env.cells) (acc:=[]) hy))
  rw [← hcl] at e'
  refine ⟨c',e',?_⟩
  rw [hcl] at e'
  rcases zch (PySem.mem_of_lookup e') with hm | ⟨h1,_,_⟩
  ·exact (cm hm).1
  ·have:=ok.uniq _ h1
   rw [hl] at this; cases this
 have okB:(X.blk s H scope cenv fp).Ok:=by
  refine ⟨I.ok.mod,by show cenv.scope.kind=_; rw [hsc]; exact ok.kind,by show cenv.globals=_; rw [← hcenv]; exact I.ok.glob,by show cenv.builtins=_; rw [← hcenv]; exact I.ok.blt,by show s.heap.objs.size≤cenv.locals; rw [hL]; exact Nat.le_refl _,
   fun y z c e1 e2=>?_,fun y hy=>?_,fun y c z e=>?_,I.ok.hd,I.ok.frames,.inl rfl,fun b hb=>⟨?_,fun y c e z=>?_⟩,I.bs,Nat.le_trans I.ok.bsz I.sz,fun b o e hb=>?_,fun b hb z=>?_,I.stack,I.stkFree⟩
  ·have e1:cenv.cells.lookup y=some c:=e1
   have e2:cenv.cells.lookup z=some c:=e2
   rw [hcl] at e1 e2
   refine zdY (fun p hp=>?_) (fun y z c a b=>I.ok.inj y z c (cm a).1 (cm b).1) (PySem.mem_of_lookup e1) (PySem.mem_of_lookup e2)
   rw [Heap.size_push]
   exact Nat.lt_succ_of_lt (cm (y:=p.1) (c:=p.2) hp).2
  ·show ∃ c,cenv.cells.lookup y=some c
   have key:∀ k,cenv.kindOf y=some k→(k = .cell∨k = .free)→∃ c,cenv.cells.lookup y=some c:=fun k hk hk'=>by
    unfold Env.kindOf at hk
    rw [hsc] at hk
    obtain ⟨k',e,r⟩:=zcz hk
    have:k' = .cell∨k' = .free:=by
     rcases r with rfl | ⟨rfl,_⟩
     ·exact hk'
     ·exact .inr rfl
    rcases this with rfl | rfl
    ·obtain ⟨c,hm⟩:=zdZ (n:=(s.heap.push { cls:=.type "dict",data:=.dict #[] }).objs.size) (acc:=cloFrom X.env.cells scope.names []) (PySem.mem_of_lookup e)
     obtain ⟨c',e'⟩:=zc0 hm
     exact ⟨c',by rw [hcl]; exact e'⟩
    ·obtain ⟨c,h1,_⟩:=look e
     exact ⟨c,h1⟩
   rcases hy with hy | hy
   ·exact key _ hy (.inl rfl)
   ·exact key _ hy (.inr rfl)
  ·have z:(scope.names.lookup y == some NameKind.cell)=true:=z
   have z:scope.names.lookup y=some .cell:=by simpa using z
   have e:cenv.cells.lookup y=some c:=e
   rw [hcl] at e
   rcases zch (PySem.mem_of_lookup e) with hm | ⟨_,h2,_⟩
   ·rcases zb2 hm with hm | ⟨h1,_⟩
    ·cases hm
    ·have q:=ok.uniq _ h1
     rw [z] at q; cases q
   ·rw [Heap.size_push] at h2
    exact Nat.le_of_succ_le h2
  ·show b≠cenv.locals
   rw [hL]; exact Nat.ne_of_lt (hfp b hb).2
  ·have e:cenv.cells.lookup y=some c:=e
   rcases mem e with ⟨h1,_⟩ | ⟨h1,_⟩
   ·exact (hfp b hb).1.2.2.2.2.1 y c h1 z
   ·have h2:s.heap.objs.size+1≤b:=by rw [← z]; exact h1
    exact absurd (Nat.lt_of_lt_of_le (hfp b hb).2 (Nat.le_of_succ_le h2)) (Nat.lt_irrefl _)
  ·rcases (hfp b hb).1.2.2.2.1 with z | z
   ·exact I.ok.noex b o e z
   ·exact absurd (Nat.lt_of_lt_of_le (Heap.lt_size e) (Nat.le_trans I.ok.bsz z)) (Nat.lt_irrefl _)
  ·rcases List.mem_cons.mp (I.stkSub b z) with z | z
   ·exact (hfp b hb).1.2.1 z
   ·exact (hfp b hb).1.2.2.1 z
 refine ⟨okB,rfl,I.bare,Un.kept kp,⟨fun _=>none,?_,fun i y av e1 e2 e3=>?_⟩,fun y c e=>?_,?_,fun y c e=>?_,fun p hp=>?_,I.hok.kept kp,by rw [zcs]; exact I.len⟩
 ·show Heap.Ns _ cenv.locals _
  rw [hL]
  exact Heap.Ns.keeps (Heap.Ns.new ..) fun b o e=>pushCells_keeps _ _ _ _ e
 ·obtain ⟨e2,hne⟩:=zdr e2
  have hfr:scope.names.lookup y=some .free∧(cenv.kindOf y=some .cell∨cenv.kindOf y=some .free):=by
   have key:∀ k,cenv.scope.names.lookup y=some k→k = .local∨k = .cell∨k = .free→scope.names.lookup y=some .free∧(cenv.kindOf y=some .cell∨cenv.kindOf y=some .free):=fun k hk hk'=>by
    have hk0:=hk
    rw [hsc] at hk
    obtain ⟨k',e,r⟩:=zcz hk
    have no:¬ (k' = .local∨k' = .cell):=fun hh=>by
     rcases ok.own _ (PySem.mem_of_lookup e) hh with e' | e'
     ·obtain ⟨p,hp,hpy⟩:=List.mem_map.mp e'
      have e3:=ok.ix p hp
      have:p.1=y:=hpy
      rw [this] at e3
      exact hne (List.mem_map.mpr ⟨p,hp,zeW hN e3 e1⟩)
     ·exact e' (List.mem_of_getElem? e1)
    rcases r with rfl | ⟨rfl,rfl⟩
    ·rcases hk' with rfl | rfl | rfl
     ·exact absurd (.inl rfl) no
     ·exact absurd (.inr rfl) no
     ·exact ⟨e,.inr hk0⟩
    ·exact ⟨e,.inl hk0⟩
   have e3:Vis cenv.scope y:=e3
   rcases e3 with e3 | e3 | e3
   ·exact key _ e3 (.inl rfl)
   ·exact key _ e3 (.inr (.inl rfl))
   ·exact key _ e3 (.inr (.inr rfl))
  obtain ⟨m,hn,hl⟩:=I.loc
  have hvis:Vis X.env.scope y:=(ok.free _ (PySem.mem_of_lookup hfr.1) rfl).elim (fun k=>.inr (.inl k)) (fun k=>.inr (.inr k))
  obtain ⟨w,r,q⟩:=hl i y av e1 e2 hvis
  refine ⟨w,r,.inr ⟨hfr.2,?_⟩⟩
  obtain ⟨c,h1,h2⟩:=look hfr.1
  rcases q with ⟨k,_⟩ | ⟨_,c',e',z⟩
  ·have k:X.env.scope.names.lookup y=some .local:=k
   rcases ok.free _ (PySem.mem_of_lookup hfr.1) rfl with k' | k'<;>rw [show X.env.scope.names.lookup y=_ from k'] at k<;>cases k
  ·rw [h2] at e'; cases e'
   exact ⟨c,h1,z.keeps kp⟩
 ·have e:cenv.cells.lookup y=some c:=e
  rcases mem e with ⟨h1,_⟩ | ⟨_,z⟩
  ·obtain ⟨w,z⟩:=I.cell y c h1
   exact ⟨w,z.keeps kp⟩
  ·exact ⟨_,z⟩
 ·show H cenv.locals=none
  rw [hL]; exact I.hok.fresh (Nat.le_refl _)
 ·have e:cenv.cells.lookup y=some c:=e
  rcases mem e with ⟨h1,_⟩ | ⟨h1,_⟩
  ·exact I.freeC y c h1
  ·exact I.hok.fresh (Nat.le_of_succ_le h1)
 ·exact absurd (show p∈([]:List (Addr×Obj))++[] from hp) (by simp)
theorem zla {E:Value→Shared→Prop} {D:Addr} {xs:List V} {y:V} {v:Value} {Q:Value→Shared→Prop} (I:Inv X pins σ H s) (hD:H D=some (.lst xs)) (hz:xs.length < sizeLine) (r:RelV y v)
  (h:∀ s',Inv X pins σ (upd H D (.lst (xs++[y]))) s'→Q .none s'):wpAny (model X.prog X.w) X.A (call (.builtin "list.append") [.ref D,v]) Q E s:=by
 obtain ⟨hz',its,n,ri,e⟩:=I.hok D _ hD
 have hl:=ri.length
 refine append_at (hsz:=by rw [List.size_toArray]; omega) e fun h' sb ho'=>?_
 refine h { s with heap:=h' } (I.write (t':=s.toks) (by rw [hD]; trivial) (.inl rfl) (fun b u hb q=>(sb.2 b hb).trans q) ⟨_,ho'⟩ ⟨by rw [List.length_append]; exact hz,its++[v],n+1,ri.append (.cons r .nil),?_⟩)
 rw [ho']
 simp
def PTs (X:Cx) (ifs:List Expr) (t:TT):Prop :=
 ∀ (pins:List (Addr×Obj)) (s:Shared) (σ:St) (H:Hp) (Q:Bool→Hp→Prop),Inv X pins σ H s→t σ H Q →
  wpAny (model X.prog X.w) X.A (forIn ifs true fun c r=>if r=true then do let ok ← isTrue c X.env (eval c X.env); pure (ForInStep.yield ok) else pure (ForInStep.yield r)) (TP X pins σ Q) X.xe s
def tYes:TT:=fun _ H Q=>Q true H
theorem zcW:PTs X [] tYes:=fun _ _ _ H _ I h=>wpAny_tests_nil ⟨H,I,h⟩
theorem zdF {c:Expr} {t:TT} (h:PT X c t):PTs X [c] t:=fun pins s σ H Q I hw=>wpAny_tests_one (h pins s σ H Q I hw)
end
theorem thnF {α:Type} {t:Sem α} {Q Q':α→Shared→Prop} {M:Model} {A:Around} {E:Value→Shared→Prop} {s:Shared} (h:wpAny M A t Q (fun _ _=>False) s) (hQ:∀ a s,Q a s→Q' a s):wpAny M A t Q' E s:=wpAny_mono h hQ fun _ _ z=>False.elim z
theorem zfR {prog:Program} {w:World} {A:Around} {R:Result→Shared→Prop} {s:Shared} {elt target iter:Expr} {ifs:List Expr} {scope:Scope} {pos:Pos} {it acc:Value} {env:Env} (I:Nat→Shared→Prop)
  (turn:∀ n s,I n s→wpAny (model prog w) A (pyNext it) (fun r s₁=>match r with
   | none=>R (.ok .next) s₁
   | some v=>wpAny (model prog w) A (letOwnedTupleGo target it v) (fun _ s₁'=>wpAny (model prog w) A (assign target env v) (fun _ s₂ =>
     wpAny (model prog w) A (forIn ifs true fun c r=>if r=true then do let ok ← isTrue c env (eval c env); pure (ForInStep.yield ok) else pure (ForInStep.yield r)) (fun ok s₃ =>
      if ok=true then wpAny (model prog w) A (eval elt env) (fun x s₄ =>
       wpAny (model prog w) A (call (.builtin "list.append") [acc,x]) (fun _ s₅=>∃ m,m < n∧I m s₅) (notedBy (model prog w) A env fun e s'=>R (.error e) s') s₄) (notedBy (model prog w) A env fun e s'=>R (.error e) s') s₃
      else ∃ m,m < n∧I m s₃) (notedBy (model prog w) A env fun e s'=>R (.error e) s') s₂) (notedBy (model prog w) A env fun e s'=>R (.error e) s') s₁') (notedBy (model prog w) A env fun e s'=>R (.error e) s') s₁) (notedBy (model prog w) A env fun e s'=>R (.error e) s') s)
  (n:Nat) (h:I n s) :
  codeAny (model prog w) A (.compLoop (.ListComp elt [⟨target,iter,ifs,0⟩] scope pos) 0 it acc env) R s:=by
 refine codeAny_loop rfl I (fun n s hI=>?_) n h
 show wpAny _ A ((compTurn (.ListComp elt [⟨target,iter,ifs,0⟩] scope pos) 0 it acc env).onRaise (fun x=>do noteFrame x env; theTreesLotGoes x)) _ _ s
 refine wpAny_noted ?_
 rw [compTurn_list]
 refine wpAny_bind (wpAny_standAt (wpAny_bind (wpAny_mono (turn n s hI) (fun r s₁ h₁=>?_) fun _ _ h'=>h')))
 cases r with
 | none=>exact wpAny_pure h₁
 | some v =>
  refine wpAny_bind (wpAny_mono h₁ (fun _ s₁' h₁'=>?_) fun _ _ h'=>h')
  refine wpAny_bind (wpAny_mono h₁' (fun _ s₂ h₂=>wpAny_bind (wpAny_mono h₂ (fun ok s₃ h₃=>?_) fun _ _ h'=>h')) fun _ _ h'=>h')
  cases ok with
  | false=>exact wpAny_pure ⟨rfl,h₃⟩
  | true =>
   exact wpAny_bind (wpAny_bind (wpAny_mono h₃ (fun x s₄ h₄=>wpAny_bind (wpAny_mono h₄ (fun _ s₅ h₅=>wpAny_pure (wpAny_pure ⟨rfl,h₅⟩)) fun _ _ h'=>h')) fun _ _ h'=>h'))
section
variable {X:Cx}
def tLc (wi:TI) (g:TG) (tt:TT) (te:TE) (vs:List Nat):TE:=fun σ H Q=>wi σ H fun J H1=>∀ D,H1 D=none→∃ W:Nat→Nat→Hp→Prop,(∃ m,W 0 m (upd H1 D (.lst [])))∧∀ i m H,W i m H →
 (J.stop i H∧Q (.ref D) H)∨(J.go i H∧∃ Nx:Hp→Prop,(∀ H',Nx H'→∃ m',m' < m∧W (i+1) m' H')∧∀ x H',J.yld i H x H'→g x (wipe σ vs) H' fun σ2 H2=>wipe σ2 vs=wipe σ vs∧tt σ2 H2 fun b H3 =>
  if b=true then te σ2 H3 fun y H4=>∃ acc,H4 D=some (.lst acc)∧acc.length < sizeLine∧Nx (upd H4 D (.lst (acc++[y]))) else Nx H3)
theorem ziq {pins:List (Addr×Obj)} {s:Shared} {σ:St} {H:Hp} {Q:VK} {elt tg iter:Expr} {ifs:List Expr} {scope:Scope} {own:List (Str×Nat)} {pos pos':Pos} {wi:TI} {g:TG} {tt:TT} {te:TE} {use:Option (Value→Sem Unit)} {Qf:Value→Shared→Prop}
  (hc:X.calm=true) (hN:X.N.Nodup) (I:Inv X pins σ H s) (hi:PI X tg iter wi) (ok:BlkOk X.N X.env.scope scope own)
  (hg:∀ (s:Shared) (H:Hp) (C:Addr) (cl:List (Str×Addr)) (fp:List Addr),PG (X.blk s H scope (compEnvC scope cl C X.env) fp) tg g) (ht:∀ (s:Shared) (H:Hp) (C:Addr) (cl:List (Str×Addr)) (fp:List Addr),PTs (X.blk s H scope (compEnvC scope cl C X.env) fp) ifs tt)
  (he:∀ (s:Shared) (H:Hp) (C:Addr) (cl:List (Str×Addr)) (fp:List Addr),PE (X.blk s H scope (compEnvC scope cl C X.env) fp) elt te) (hs:∀ x,foldedSetIterable iter X.env x=pure x)
  (h:tLc wi g tt te (own.map (·.2)) σ H Q)
  (hRR:∀ D C s' m H',Inv X pins σ H' s'→Q (.ref D) H'→s'.heap.Ns C m→FpOk X pins H' C→compPost (model X.prog X.w) X.A X.xe use Qf (.ref D) C (.ok .next) s') :
  wpAny (model X.prog X.w) X.A (comprehension (.ListComp elt [⟨tg,iter,ifs,0⟩] scope pos) scope X.env pos' (newList []) false (eval iter X.env) use) Qf X.xe s:=by
 have hfree:∀ y∈scope.names,y.2 = .free→∃ c,X.env.cells.lookup y.1=some c:=fun y hy e=>by
  rcases ok.free y hy e with k | k
  ·exact I.ok.has _ (.inl k)
  ·exact I.ok.has _ (.inr k)
 refine wpAny_comprehension_free (use:=use) rfl hs (zhl hfree) ok.kind (fun y hy e=>by rw [ok.uniq y hy,e])
  (thn (hi pins s σ H _ I h) fun xv s1 hx=>thn hx fun itv s2 h2=>?_)
 obtain ⟨it,fp,tn,J,H2,e,I2,T,st2,f2,q⟩:=h2
 subst e
 refine wpAny_newObj_type (zgi ?_) (by show 0≤sizeLine; decide)
 generalize hD:s2.heap.objs.size=D
 have hDn:H2 D=none:=I2.hok.fresh (Nat.le_of_eq hD)
 obtain ⟨W,⟨m0,w0⟩,turn⟩:=q D hDn
 generalize hs3:({ s2 with heap:=s2.heap.push { cls:=.type "list",data:=.seq ([]:List Value).toArray } }:Shared)=s3
 have I3:Inv X pins σ (upd H2 D (.lst [])) s3:=by
  rw [← hs3]
  refine I2.laid (t':=s2.toks) (fun b o e=>Heap.get?_push_of_some _ e) (Nat.le_of_eq hD) ⟨Nat.zero_le _,[],0,.nil,?_⟩
  rw [← hD]
  exact Heap.get?_push_size _ rfl
 have h3:s3.heap=s2.heap.push { cls:=.type "list",data:=.seq ([]:List Value).toArray }:=by rw [← hs3]
 have sz:∀ b∈fp,b < s2.heap.objs.size:=fun b hb=>by
  obtain ⟨o,e,_⟩:=T.obj _ _ st2 b hb
  exact Heap.lt_size e
 have f3:∀ b∈fp,FpOk X pins (upd H2 D (.lst [])) b∧b < s3.heap.objs.size:=fun b hb=>by
  have hlt:=sz b hb
  refine ⟨⟨?_,(f2 b hb).2⟩,by rw [h3,Heap.size_push]; exact Nat.lt_succ_of_lt hlt⟩
  rw [zaA (by rw [← hD]; exact Nat.ne_of_lt hlt)]
  exact (f2 b hb).1
 have st3:tn 0 s3.heap:=T.keep _ _ _ st2 fun b _ o e=>by rw [h3]; exact Heap.get?_push_of_some _ e
 have I4:=zgo I3 ok hN f3
 have pg:=hg s3 (upd H2 D (.lst [])) s3.heap.objs.size (cellsFrom (s3.heap.objs.size+1) scope.names (cloFrom X.env.cells scope.names [])) fp
 have pt:=ht s3 (upd H2 D (.lst [])) s3.heap.objs.size (cellsFrom (s3.heap.objs.size+1) scope.names (cloFrom X.env.cells scope.names [])) fp
 have pe:=he s3 (upd H2 D (.lst [])) s3.heap.objs.size (cellsFrom (s3.heap.objs.size+1) scope.names (cloFrom X.env.cells scope.names [])) fp
 show codeAny _ _ (.compStart (.ListComp elt [⟨tg,iter,ifs,0⟩] scope pos) 0 (.ref it) (.ref D) (compEnvC scope (cellsFrom (s3.heap.objs.size+1) scope.names (cloFrom X.env.cells scope.names [])) s3.heap.objs.size X.env)) (compPost (model X.prog X.w) X.A X.xe use Qf (.ref D) s3.heap.objs.size) { s3 with heap:=pushCells (s3.heap.push { cls:=.type "dict",data:=.dict #[] }) scope.names }
 have nfp:∀ b∈fp,(upd H2 D (.lst [])) b=none:=fun b hb=>(f3 b hb).1.1
 generalize hce:compEnvC scope (cellsFrom (s3.heap.objs.size+1) scope.names (cloFrom X.env.cells scope.names [])) s3.heap.objs.size X.env=ce at I4 pg pt pe ⊢
 have cL:ce.locals=s3.heap.objs.size:=by subst hce; rfl
 generalize hH3:upd H2 D (.lst [])=H3 at I3 I4 pg pt pe w0 nfp f3
 generalize hs4:({ s3 with heap:=pushCells (s3.heap.push { cls:=.type "dict",data:=.dict #[] }) scope.names }:Shared)=s4 at I4 ⊢
 have st4:tn 0 s4.heap:=T.keep _ _ _ st3 fun b _ o e=>by rw [← hs4]; exact pushCells_keeps _ _ _ _ (Heap.get?_push_of_some _ e)
 have stat:∀ {σ':St} {H':Hp} {s':Shared},Inv (X.blk s3 H3 scope ce fp) [] σ' H' s'→(∀ b∈fp,H' b=none)→∀ b∈fp,FpOk (X.blk s3 H3 scope ce fp) [] H' b:=fun {σ' H' s'} I' hn b hb =>
  ⟨hn b hb,(I'.ok.exf b hb).1,I'.ok.exfs b hb,.inl hb,fun x c e=>(I'.ok.exf b hb).2 x c e,fun p hp=>absurd (show p∈([]:List (Addr×Obj))++[] from hp) (by simp)⟩
 have loop:codeAny (model X.prog X.w) X.A (.compLoop (.ListComp elt [⟨tg,iter,ifs,0⟩] scope pos) 0 (.ref it) (.ref D) ce) (compPost (model X.prog X.w) X.A X.xe use Qf (.ref D) s3.heap.objs.size) s4:=by
  refine zfR (fun n s'=>∃ i H',Inv (X.blk s3 H3 scope ce fp) [] (wipe σ (own.map (·.2))) H' s'∧tn i s'.heap∧(∀ b∈fp,H' b=none)∧W i n H') ?_ m0 ⟨0,H3,I4,st4,nfp,w0⟩
  rintro n s5 ⟨i,H5,I5,st5,n5,w5⟩
  rcases turn i n H5 w5 with ⟨stop,qq⟩ | ⟨go,Nx,hNx,step⟩
  ·have td:=T.done (X.blk s3 H3 scope ce fp) rfl rfl rfl hc i [] s5 _ H5 (fun _ _=>False) I5 (stat I5 n5) st5 stop
   refine thnF td fun r s6 ⟨hr,I6⟩=>?_
   subst hr
   have I7:Inv X pins σ H5 s6:=I3.call' (ch:=fp) I6.os I6.base I6.hok I6.bare fun b hb=>⟨(f3 b hb).1.2.2.2.1,(f3 b hb).1.2.1,(f3 b hb).1.2.2.2.2.1,(f3 b hb).1.2.2.2.2.2⟩
   have nC:H5 s3.heap.objs.size=none:=by
    have z:H5 ce.locals=none:=I6.free
    rw [cL] at z
    exact z
   obtain ⟨m,hn,_⟩:=I6.loc
   have hn:s6.heap.Ns ce.locals m:=hn
   rw [cL] at hn
   exact hRR D s3.heap.objs.size s6 m H5 I7 qq hn (I3.fpOk (Nat.le_refl _) nC)
  ·have ti:=T.item (X.blk s3 H3 scope ce fp) rfl rfl rfl hc i [] s5 _ H5 (fun _ _=>False) I5 (stat I5 n5) st5 go
   refine thnF ti fun r s6 ⟨u,hr,h6⟩=>?_
   subst hr
   refine thnF h6 fun _ s7 ⟨x,H7,I7,r7,y7,st7,n7⟩=>?_
   have I7':=I7.pinned (stat I7 n7) (T.obj _ _ st7)
   refine thnF (pg _ s7 _ H7 x u _ I7' r7 (step x H7 y7)) fun _ s8 ⟨σ8,H8,I8,hw8,q8⟩=>?_
   refine thnF (pt _ s8 σ8 H8 _ I8 q8) fun b s9 ⟨H9,I9,q9⟩=>?_
   have fin:∀ {s':Shared} {H':Hp},Inv (X.blk s3 H3 scope ce fp) ([]++pinsAt fp s7.heap) σ8 H' s'→Nx H'→∃ m,m < n∧∃ i H',Inv (X.blk s3 H3 scope ce fp) [] (wipe σ (own.map (·.2))) H' s'∧tn i s'.heap∧(∀ b∈fp,H' b=none)∧W i m H':=fun {s' H'} I' nx=>by
    obtain ⟨m',hm,w'⟩:=hNx H' nx
    have pin':∀ b∈fp,∀ o,s7.heap.get? b=some o→s'.heap.get? b=some o∧H' b=none:=fun b hb o e =>
     let z:=I'.pin (b,o) (List.mem_append_right _ (List.mem_append_right _ (zcZ hb e)))
     ⟨z.1,z.2.1⟩
    have hl:(wipe σ (own.map (·.2))).length=σ8.length:=by rw [← hw8,zcs]
    refine ⟨m',hm,i+1,H',(I'.unpinned (pins:=[])).weak hl (fun j v e=>?_),T.keep _ _ _ st7 fun b hb o e=>(pin' b hb o e).1,fun b hb=>?_,w'⟩
    ·rw [← hw8] at e
     exact (zdr e).1
    ·obtain ⟨o,e,_⟩:=T.obj _ _ st7 b hb
     exact (pin' b hb o e).2
   cases b with
   | false =>
    simp only [Bool.false_eq_true,if_false] at q9 ⊢
    exact fin I9 q9
   | true =>
    simp only [if_true] at q9 ⊢
    refine thnF (pe _ s9 σ8 H9 _ I9 q9) fun z s10 ⟨yv,H10,I10,r10,acc,hD10,hz10,nx⟩=>?_
    exact zla (X:=X.blk s3 H3 scope ce fp) I10 hD10 hz10 r10 fun s11 I11=>fin I11 nx
 exact codeAny_compStart_list loop (T.self X.A 0 _ _ _ st4 loop)
theorem zfz {elt tg iter:Expr} {ifs:List Expr} {scope:Scope} {own:List (Str×Nat)} {pos:Pos} {wi:TI} {g:TG} {tt:TT} {te:TE} (hc:X.calm=true) (hN:X.N.Nodup) (hi:PI X tg iter wi) (ok:BlkOk X.N X.env.scope scope own)
  (hg:∀ (s:Shared) (H:Hp) (C:Addr) (cl:List (Str×Addr)) (fp:List Addr),PG (X.blk s H scope (compEnvC scope cl C X.env) fp) tg g) (ht:∀ (s:Shared) (H:Hp) (C:Addr) (cl:List (Str×Addr)) (fp:List Addr),PTs (X.blk s H scope (compEnvC scope cl C X.env) fp) ifs tt)
  (he:∀ (s:Shared) (H:Hp) (C:Addr) (cl:List (Str×Addr)) (fp:List Addr),PE (X.blk s H scope (compEnvC scope cl C X.env) fp) elt te) (hs:∀ x,foldedSetIterable iter X.env x=pure x:=by intro _; rfl) :
  PE X (.ListComp elt [⟨tg,iter,ifs,0⟩] scope pos) (tLc wi g tt te (own.map (·.2))):=by
 intro pins s σ H Q I h
 rw [eval_ListComp]
 refine ziq hc hN I hi ok hg ht he hs h fun D C s' m H' I' q hn f=>⟨m,hn,fun h'' sb=>?_⟩
 obtain ⟨f0,f1,f2,f3,f4,f5⟩:=f
 exact ⟨.ref D,H',I'.turned (t':=s'.toks) (fun b o hb e=>(sb.2 b hb).trans e) f0 f1 f3 f4 f5,rfl,q⟩
theorem zeN {i:Nat} {y:Str} {py:Pos} {elt tg iter:Expr} {ifs:List Expr} {scope:Scope} {own:List (Str×Nat)} {pos spos:Pos} {wi:TI} {g:TG} {tt:TT} {te:TE} (hc:X.calm=true) (hN:X.N.Nodup) (hy:X.N[i]?=some y) (hyl:X.env.scope.names.lookup y=some .local)
  (hsw:swapsWith (.ListComp elt [⟨tg,iter,ifs,0⟩] scope pos) (some (.Name y py)) spos.line X.env=pure true) (hi:PI X tg iter wi) (ok:BlkOk X.N X.env.scope scope own)
  (hg:∀ (s:Shared) (H:Hp) (C:Addr) (cl:List (Str×Addr)) (fp:List Addr),PG (X.blk s H scope (compEnvC scope cl C X.env) fp) tg g) (ht:∀ (s:Shared) (H:Hp) (C:Addr) (cl:List (Str×Addr)) (fp:List Addr),PTs (X.blk s H scope (compEnvC scope cl C X.env) fp) ifs tt)
  (he:∀ (s:Shared) (H:Hp) (C:Addr) (cl:List (Str×Addr)) (fp:List Addr),PE (X.blk s H scope (compEnvC scope cl C X.env) fp) elt te) (hs:∀ x,foldedSetIterable iter X.env x=pure x:=by intro _; rfl) :
  PS X (.Assign [.Name y py] (.ListComp elt [⟨tg,iter,ifs,0⟩] scope pos) spos) (tAsg (tLc wi g tt te (own.map (·.2))) (gName i)):=by
 intro pins s σ H D I h
 rw [exec_Assign_Name_used _ _ _ _ hsw]
 refine wpAny_bind (wpAny_standAt (wpAny_bind ?_))
 show wpAny _ X.A (do let _ ← comprehension (.ListComp elt [⟨tg,iter,ifs,0⟩] scope pos) scope X.env (firstIterPos [⟨tg,iter,ifs,0⟩] pos) (newList []) false (eval iter X.env) (some (assign (.Name y py) X.env))) _ _ s
 have h:tLc wi g tt te (own.map (·.2)) σ H (fun x H1=>gName i x σ H1 D.nx):=h
 refine wpAny_bind (thn (ziq (Qf:=fun _ s'=>SP X pins D .next s') hc hN I hi ok hg ht he hs h fun L C s' m H' I' q hn f=>?_) fun _ s' hq=>wpAny_pure (wpAny_pure hq))
 show wpAny _ _ (assign (.Name y py) X.env (.ref L)) _ _ _
 refine wpAny_assign_Name (zfl (v:=V.ref L) I' hN hy (.inl hyl) rfl (fun s2 I2 ⟨a,sb,ha⟩=>?_) (.inr hyl))
 obtain ⟨f0,f1,f2,f3,f4,f5⟩:=f
 have haC:C≠a:=by
  rcases ha with z | z
  ·rw [z]; exact f1
  ·exact fun e=>f4 y a z e.symm
 refine ⟨m,hn.sameBut sb haC,fun h3 sb3=>?_⟩
 exact ⟨_,H',I2.turned (t':=s2.toks) (fun b o hb e=>(sb3.2 b hb).trans e) f0 f1 f3 f4 f5,q⟩
theorem zf3 {elt:Expr} {gs:List Comprehension} {scope:Scope} {pos py:Pos} {y:Str} {l:Nat} {env:Env} (hk:env.scope.kind = .function) (hy:env.scope.names.lookup y=some .local) (hl:(py.line == pos.line)=true)
  (ha:(scope.names.any fun (n,k)=>n == y && (k == .local || k == .cell))=false):swapsWith (.ListComp elt gs scope pos) (some (.Name y py)) l env=pure true:=by
 have ky:env.kindOf y=some .local:=hy
 have hb:env.blockKind = .function:=by unfold Env.blockKind; rw [hk]; rfl
 unfold swapsWith
 simp only [hb,ky,ha,Expr.pos,hl]
 rfl
end
theorem zcg {K:PySem.W.Frag} {a:Addr} {xs:List V} {g:TG} {tt:TT} {te:TE} {vs:List Nat} {σ:St} {H1:Hp} {D:Addr} {Qd:Hp→Prop} (Pv:Nat→Hp→Prop) (h0:Pv 0 (upd H1 D (.lst []))) (hl:∀ i H,i≤xs.length→Pv i H→SqL K H a xs)
  (hs:∀ i x H,xs[i]?=some x→Pv i H→g x (wipe σ vs) H fun σ2 H2=>wipe σ2 vs=wipe σ vs∧tt σ2 H2 fun b H3 =>
   if b=true then te σ2 H3 fun y H4=>∃ acc,H4 D=some (.lst acc)∧acc.length < sizeLine∧Pv (i+1) (upd H4 D (.lst (acc++[y]))) else Pv (i+1) H3) (hd:∀ H,Pv xs.length H→Qd H) :
  ∃ W:Nat→Nat→Hp→Prop,(∃ m,W 0 m (upd H1 D (.lst [])))∧∀ i m H,W i m H →
   ((Itl K a).stop i H∧Qd H)∨((Itl K a).go i H∧∃ Nx:Hp→Prop,(∀ H',Nx H'→∃ m',m' < m∧W (i+1) m' H')∧∀ x H',(Itl K a).yld i H x H'→g x (wipe σ vs) H' fun σ2 H2=>wipe σ2 vs=wipe σ vs∧tt σ2 H2 fun b H3 =>
    if b=true then te σ2 H3 fun y H4=>∃ acc,H4 D=some (.lst acc)∧acc.length < sizeLine∧Nx (upd H4 D (.lst (acc++[y]))) else Nx H3):=by
 refine ⟨fun i m H=>m=xs.length - i∧i≤xs.length∧Pv i H,⟨xs.length,by simp,Nat.zero_le _,h0⟩,?_⟩
 rintro i m H ⟨rfl,hi,p⟩
 have q:=hl i H hi p
 by_cases hlt:i < xs.length
 ·refine .inr ⟨⟨xs,xs[i],q,by simp [hlt]⟩,Pv (i+1),fun H' p'=>⟨xs.length - (i+1),by omega,rfl,hlt,p'⟩,fun x H' y=>?_⟩
  obtain ⟨e,y⟩:=y
  subst e
  exact hs i x _ (y xs q) p
 ·have e:i=xs.length:=by omega
  subst e
  exact .inl ⟨⟨xs,q,Nat.le_refl _⟩,hd H p⟩
theorem zjO {K:PySem.W.Frag} {a:Addr} {xs:List V} {g:TG} {tt:TT} {te:TE} {vs:List Nat} {σ:St} {H1:Hp} {D:Addr} {Qd:Hp→Prop} (Pv:Nat→Hp→Prop) (h0:Pv 0 (upd H1 D (.lst []))) (hl:∀ i H,i≤xs.length→Pv i H→SqT K H a xs)
  (hs:∀ i x H,xs[i]?=some x→Pv i H→g x (wipe σ vs) H fun σ2 H2=>wipe σ2 vs=wipe σ vs∧tt σ2 H2 fun b H3 =>
   if b=true then te σ2 H3 fun y H4=>∃ acc,H4 D=some (.lst acc)∧acc.length < sizeLine∧Pv (i+1) (upd H4 D (.lst (acc++[y]))) else Pv (i+1) H3) (hd:∀ H,Pv xs.length H→Qd H) :
  ∃ W:Nat→Nat→Hp→Prop,(∃ m,W 0 m (upd H1 D (.lst [])))∧∀ i m H,W i m H →
   ((Itt K a).stop i H∧Qd H)∨((Itt K a).go i H∧∃ Nx:Hp→Prop,(∀ H',Nx H'→∃ m',m' < m∧W (i+1) m' H')∧∀ x H',(Itt K a).yld i H x H'→g x (wipe σ vs) H' fun σ2 H2=>wipe σ2 vs=wipe σ vs∧tt σ2 H2 fun b H3 =>
    if b=true then te σ2 H3 fun y H4=>∃ acc,H4 D=some (.lst acc)∧acc.length < sizeLine∧Nx (upd H4 D (.lst (acc++[y]))) else Nx H3):=by
 refine ⟨fun i m H=>m=xs.length - i∧i≤xs.length∧Pv i H,⟨xs.length,by simp,Nat.zero_le _,h0⟩,?_⟩
 rintro i m H ⟨rfl,hi,p⟩
 have q:=hl i H hi p
 by_cases hlt:i < xs.length
 ·refine .inr ⟨⟨xs,xs[i],q,by simp [hlt]⟩,Pv (i+1),fun H' p'=>⟨xs.length - (i+1),by omega,rfl,hlt,p'⟩,fun x H' y=>?_⟩
  obtain ⟨e,y⟩:=y
  subst e
  exact hs i x _ (y xs q) p
 ·have e:i=xs.length:=by omega
  subst e
  exact .inl ⟨⟨xs,q,Nat.le_refl _⟩,hd H p⟩
def blkC (N:List Str) (sc scope:Scope) (own:List (Str×Nat)):Bool :=
 (match scope.kind with | .function=>true | _=>false) && (scope.names.all fun y=>decide (scope.names.lookup y.1=some y.2)) && (own.all fun p=>decide (N[p.2]?=some p.1)) &&
  (scope.names.all fun y=>match y.2 with
   | .free=>(match sc.names.lookup y.1 with | some .cell=>true | some .free=>true | _=>false)
   | .local=>decide (y.1∈own.map (·.1)) || decide (y.1 ∉ N)
   | .cell=>decide (y.1∈own.map (·.1)) || decide (y.1 ∉ N)
   | _=>true)
theorem zbe {N:List Str} {sc scope:Scope} {own:List (Str×Nat)} (h:blkC N sc scope own=true):BlkOk N sc scope own:=by
 unfold blkC at h
 simp only [Bool.and_eq_true,List.all_eq_true,decide_eq_true_eq] at h
 obtain ⟨⟨⟨h1,h2⟩,h3⟩,h4⟩:=h
 refine ⟨?_,h2,h3,fun y hy e=>?_,fun y hy e=>?_⟩
 ·split at h1
  ·assumption
  ·cases h1
 ·have q:=h4 y hy
  simp only [e] at q
  split at q<;>first | exact .inl (by assumption) | exact .inr (by assumption) | cases q
 ·have q:=h4 y hy
  rcases e with e | e<;>(simp only [e,Bool.or_eq_true,decide_eq_true_eq] at q; exact q)
end L2
namespace L2
open PySem PySem.Spec PyProof.Rows
section
variable {κ:Type} [DecidableEq κ]
def valV (kvs:List (κ×V)) (k:κ):Option V:=(kvs.find? fun kv=>decide (kv.1=k)).map (·.2)
def putK (kvs:List (κ×V)) (k:κ) (v:V):List (κ×V) :=
 if (kvs.any fun kv=>decide (kv.1=k))=true then kvs.map (fun kv=>if kv.1=k then (kv.1,v) else kv) else kvs++[(k,v)]
theorem zbb {p:κ×V} {r:List (κ×V)} {k:κ} (e:p.1=k):valV (p::r) k=some p.2:=by simp [valV,List.find?_cons,e]
theorem zbc {p:κ×V} {r:List (κ×V)} {k:κ} (e:¬ p.1=k):valV (p::r) k=valV r k:=by simp [valV,List.find?_cons,e]
theorem zcD (k:κ):∀ kvs:List (κ×V),(kvs.any fun kv=>decide (kv.1=k))=(valV kvs k).isSome
 | []=>rfl
 | p::r=>by
  rw [List.any_cons]
  by_cases e:p.1=k
  ·simp only [zbb e,decide_eq_true e,Bool.true_or,Option.isSome_some]
  ·rw [zbc e,decide_eq_false e,Bool.false_or]; exact zcD k r
theorem zgp (k j:κ) (y:V):∀ kvs:List (κ×V),valV (kvs.map fun kv=>if kv.1=k then (kv.1,y) else kv) j=(valV kvs j).map fun x=>if j=k then y else x
 | []=>rfl
 | p::r=>by
  have ih:=zgp k j y r
  rw [List.map_cons]
  by_cases h:p.1=k
  ·rw [if_pos h]
   by_cases e:p.1=j
   ·rw [zbb (p:=(p.1,y)) e,zbb e,Option.map_some,if_pos (e.symm.trans h)]
   ·rw [zbc (p:=(p.1,y)) e,zbc e,ih]
  ·rw [if_neg h]
   by_cases e:p.1=j
   ·rw [zbb (p:=p) e,zbb e,Option.map_some,if_neg (fun z=>h (e.trans z))]
   ·rw [zbc (p:=p) e,zbc e,ih]
theorem zfg (k j:κ) (y:V):∀ kvs:List (κ×V),valV kvs k=none→valV (kvs++[(k,y)]) j=if j=k then some y else valV kvs j
 | [],_=>by
  by_cases e:k=j
  ·rw [if_pos e.symm]; exact zbb (p:=(k,y)) e
  ·rw [if_neg (fun z=>e z.symm)]; exact zbc (p:=(k,y)) e
 | p::r,hn=>by
  rw [List.cons_append]
  have hk:¬ p.1=k:=fun z=>by rw [zbb z] at hn; cases hn
  rw [zbc hk] at hn
  have ih:=zfg k j y r hn
  by_cases e:p.1=j
  ·rw [zbb e,zbb e,if_neg (fun z=>hk (e.trans z))]
  ·rw [zbc e,zbc e,ih]
theorem zdj (kvs:List (κ×V)) (k j:κ) (y:V):valV (putK kvs k y) j=if j=k then some y else valV kvs j:=by
 unfold putK
 by_cases a:(kvs.any fun kv=>decide (kv.1=k))=true
 ·rw [if_pos a,zgp]
  rw [zcD] at a
  by_cases e:j=k
  ·obtain ⟨x,hx⟩:=Option.isSome_iff_exists.mp a
   rw [if_pos e,e,hx,Option.map_some,if_pos rfl]
  ·rw [if_neg e]
   cases valV kvs j with
   | none=>rfl
   | some x=>rw [Option.map_some,if_neg e]
 ·rw [if_neg a]
  refine zfg k j y kvs ?_
  rw [zcD] at a
  cases q:valV kvs k with
  | none=>rfl
  | some x=>rw [q] at a; exact (a rfl).elim
theorem zdM (kvs:List (κ×V)) (k:κ) (v:V):(putK kvs k v).length≤kvs.length+1:=by
 unfold putK
 split
 ·rw [List.length_map]; omega
 ·rw [List.length_append,List.length_cons,List.length_nil]; omega
theorem zgC {kvs:List (κ×V)} {k:κ} (v:V) (h:valV kvs k=none):putK kvs k v=kvs++[(k,v)]:=by
 unfold putK
 rw [zcD,h]
 exact if_neg (by decide)
theorem RelO.isSome_eq {o:Option V} {u:Option Value} (r:RelO o u):o.isSome=u.isSome:=by
 cases o with
 | none=>cases u with
  | none=>rfl
  | some _=>exact (show False from r).elim
 | some _=>cases u with
  | none=>exact (show False from r).elim
  | some _=>rfl
theorem RelO.getD {o:Option V} {u:Option Value} {d:V} {d':Value} (r:RelO o u) (rd:RelV d d'):RelV (o.getD d) (u.getD d'):=by
 cases o with
 | none=>cases u with
  | none=>exact rd
  | some _=>exact (show False from r).elim
 | some _=>cases u with
  | none=>exact (show False from r).elim
  | some _=>exact r
theorem KV.val {kvs:List (κ×V)} {vs:List (κ×Value)} (r:KV kvs vs) (k:κ):RelO (valV kvs k) (valueAt vs k):=by
 unfold KV at r
 induction r with
 | nil=>exact True.intro
 | @cons p q ps qs h t ih =>
  obtain ⟨h1,h2⟩:=h
  by_cases e:p.1=k
  ·have e':q.1=k:=h1.symm.trans e
   have b:valueAt (q::qs) k=some q.2:=by simp [valueAt,List.find?_cons,e']
   rw [zbb e,b]; exact h2
  ·have e':¬ q.1=k:=fun z=>e (h1.trans z)
   have b:valueAt (q::qs) k=valueAt qs k:=by simp [valueAt,List.find?_cons,e']
   rw [zbc e,b]; exact ih
theorem KV.any {kvs:List (κ×V)} {vs:List (κ×Value)} (r:KV kvs vs) (k:κ):(kvs.any fun kv=>decide (kv.1=k))=vs.any fun kv=>decide (kv.1=k):=by
 unfold KV at r
 induction r with
 | nil=>rfl
 | cons h t ih=>rw [List.any_cons,List.any_cons,ih,h.1]
theorem KV.repl {kvs:List (κ×V)} {vs:List (κ×Value)} (r:KV kvs vs) (k:κ) {y:V} {u:Value} (ry:RelV y u) :
  KV (kvs.map fun kv=>if kv.1=k then (kv.1,y) else kv) (vs.map fun kv=>if kv.1=k then (kv.1,u) else kv):=by
 unfold KV at r ⊢
 induction r with
 | nil=>exact .nil
 | @cons p q ps qs h t ih =>
  rw [List.map_cons,List.map_cons]
  refine .cons ?_ ih
  obtain ⟨h1,h2⟩:=h
  by_cases e:p.1=k
  ·rw [if_pos e,if_pos (h1.symm.trans e)]; exact ⟨h1,ry⟩
  ·rw [if_neg e,if_neg (fun z=>e (h1.trans z))]; exact ⟨h1,h2⟩
theorem KV.put {kvs:List (κ×V)} {vs:List (κ×Value)} (r:KV kvs vs) (k:κ) {y:V} {u:Value} (ry:RelV y u):KV (putK kvs k y) (stored vs k u):=by
 unfold putK stored
 rw [r.any k]
 by_cases e:(vs.any fun kv=>decide (kv.1=k))=true
 ·rw [if_pos e,if_pos e]; exact r.repl k ry
 ·rw [if_neg e,if_neg e]; exact Paired.snoc r ⟨rfl,ry⟩
theorem KV.length {kvs:List (κ×V)} {vs:List (κ×Value)} (r:KV kvs vs):kvs.length=vs.length:=Paired.length r
end
theorem ziu {P:Program} {w:World} {k:Key} {u:Value} (r:RelV (kV k) u):(mixKind P w).is k u=true:=by
 cases k with
 | inl i=>obtain ⟨t,e⟩:=(show ∃ t,u=Value.int i t from r); subst e; exact zcy P w i t
 | inr x=>obtain ⟨t,e⟩:=(show ∃ t,u=Value.str x t from r); subst e; exact zgj P w x t
theorem zfF {P:Program} {w:World}:∀ {ks:List Key} {us:List Value},Vals (ks.map kV) us→ItemsAre (mixKind P w) ks us
 | [],_,r=>by rw [List.map_nil] at r; cases r; exact .nil
 | k::ks,_,r=>by
  rw [List.map_cons] at r
  cases r with
  | cons h t=>exact .cons (ziu h) (zfF t)
abbrev KT (H:Hp):List (List Key×V)→List (List Key×Addr×Value)→Prop:=Paired fun p q=>p.1=q.1∧H q.2.1=some (.tup (p.1.map kV))∧RelV p.2 q.2.2
theorem KT.val {H:Hp} {kvs:List (List Key×V)} {xs:List (List Key×Addr×Value)} (r:KT H kvs xs) (k:List Key):RelO (valV kvs k) ((atKey xs k).map (·.2)):=by
 induction r with
 | nil=>exact True.intro
 | @cons p q ps qs h t ih =>
  obtain ⟨h1,_,h2⟩:=h
  by_cases e:p.1=k
  ·have e':q.1=k:=h1.symm.trans e
   have b:atKey (q::qs) k=some q.2:=by simp [atKey,List.find?_cons,e']
   rw [zbb e,b]; exact h2
  ·have e':¬ q.1=k:=fun z=>e (h1.trans z)
   have b:atKey (q::qs) k=atKey qs k:=by simp [atKey,List.find?_cons,e']
   rw [zbc e,b]; exact ih
theorem KT.repl {H:Hp} {kvs:List (List Key×V)} {xs:List (List Key×Addr×Value)} (r:KT H kvs xs) (k:List Key) {y:V} {u:Value} (ry:RelV y u) :
  KT H (kvs.map fun kv=>if kv.1=k then (kv.1,y) else kv) (xs.map (putAt k u)):=by
 induction r with
 | nil=>exact .nil
 | @cons p q ps qs h t ih =>
  rw [List.map_cons,List.map_cons]
  refine .cons ?_ ih
  obtain ⟨h1,h2,h3⟩:=h
  unfold putAt
  by_cases e:p.1=k
  ·rw [if_pos e,if_pos (h1.symm.trans e)]; exact ⟨h1,h2,ry⟩
  ·rw [if_neg e,if_neg (fun z=>e (h1.trans z))]; exact ⟨h1,h2,h3⟩
theorem KT.put {H:Hp} {kvs:List (List Key×V)} {xs:List (List Key×Addr×Value)} (r:KT H kvs xs) (k:List Key) {b:Addr} {y:V} {u:Value} (hb:H b=some (.tup (k.map kV))) (ry:RelV y u) :
  KT H (putK kvs k y) (storedH xs k b u):=by
 have e:(kvs.any fun kv=>decide (kv.1=k))=(atKey xs k).isSome:=by
  rw [zcD,(r.val k).isSome_eq,Option.isSome_map]
 unfold putK storedH
 rw [e]
 by_cases q:(atKey xs k).isSome=true
 ·rw [if_pos q,if_pos q]; exact r.repl k ry
 ·rw [if_neg q,if_neg q]; exact Paired.snoc r ⟨rfl,hb,ry⟩
theorem KT.keeps {H H':Hp} {kvs:List (List Key×V)} {xs:List (List Key×Addr×Value)} (r:KT H kvs xs) (ht:∀ b ys,H b=some (.tup ys)→H' b=some (.tup ys)):KT H' kvs xs :=
 Paired.mapP r fun _ _ z=>⟨z.1,ht _ _ z.2.1,z.2.2⟩
section
variable {P:Program} {w:World} {H:Hp} {h:Heap} {a:Addr}
theorem zkG {u:HO} (ok:HOk P w H h) (e:Rd H a u):ObjOk P w H h a u:=e.ok ok
theorem zjA {kvs:List (Key×V)} (ok:HOk P w H h) (e:Rd H a (.dK kvs)):kvs.length≤sizeLine∧(a == sysModules)=false∧∃ vs,KV kvs vs∧h.DictOf (mixKind P w) a vs :=
 show ObjOk P w H h a (.dK kvs) from zkG ok e
theorem zlg {kvs:List (Key×V)} (ok:HOk P w H h) (e:H a=some (.dK kvs)):kvs.length≤sizeLine∧(a == sysModules)=false∧∃ vs,KV kvs vs∧h.DictOf (mixKind P w) a vs:=zjA ok (.inl e)
theorem zgO {ks:List Key} (ok:HOk P w H h) (e:H a=some (.tup (ks.map kV))):(tupleKind (mixKind P w)).is h ks a:=by
 obtain ⟨_,its,r,o,h1,h2,n,h3⟩:=(show ObjOk P w H h a (.tup (ks.map kV)) from ok a _ e)
 exact ⟨o,its.toArray,n,h1,h2,h3,by simpa using zfF r⟩
theorem zjy {kvs:List (List Key×V)} (ok:HOk P w H h) (e:Rd H a (.dT kvs)):kvs.length≤sizeLine∧(a == sysModules)=false ∧
  ∃ xs,KT H kvs xs∧h.DictOfH (tupleKind (mixKind P w)) a xs:=by
 obtain ⟨z,y,xs,r,o,es,ep,h1,h2,h3,h4,h5⟩:=(show ObjOk P w H h a (.dT kvs) from zkG ok e)
 refine ⟨z,y,xs,r,o,es,ep,h1,h2,h3,h4,fun x hx=>?_,h5⟩
 have all:∀ {l:List (List Key×V)} {m:List (List Key×Addr×Value)},KT H l m→∀ x∈m,(tupleKind (mixKind P w)).is h x.1 x.2.1:=by
  intro l m q
  induction q with
  | nil=>intro x hx; exact nomatch hx
  | @cons p q ps qs hq t ih =>
   intro x hx
   rcases List.mem_cons.mp hx with e | hx
   ·subst e
    exact zgO ok (by rw [← hq.1]; exact hq.2.1)
   ·exact ih x hx
 exact all r x hx
theorem zlf {kvs:List (List Key×V)} (ok:HOk P w H h) (e:H a=some (.dT kvs)):kvs.length≤sizeLine∧(a == sysModules)=false ∧
  ∃ xs,KT H kvs xs∧h.DictOfH (tupleKind (mixKind P w)) a xs:=zjy ok (.inl e)
end
def DGet (H:Hp) (a:Addr) (y:V) (r:Option V):Prop :=
 (∃ kvs k,Rd H a (.dK kvs)∧y=kV k∧r=valV kvs k)∨∃ kvs k b,Rd H a (.dT kvs)∧y = .ref b∧H b=some (.tup (k.map kV))∧r=valV kvs k
def DPut (H:Hp) (a:Addr) (y v:V) (H':Hp):Prop :=
 (∃ kvs k,H a=some (.dK kvs)∧y=kV k∧kvs.length < sizeLine∧H'=upd H a (.dK (putK kvs k v))) ∨
 ∃ kvs k b,H a=some (.dT kvs)∧y = .ref b∧H b=some (.tup (k.map kV))∧kvs.length < sizeLine∧H'=upd H a (.dT (putK kvs k v))
theorem DGet.k {H:Hp} {a:Addr} {kvs:List (Key×V)} {k:Key} (e:H a=some (.dK kvs)):DGet H a (kV k) (valV kvs k):=.inl ⟨kvs,k,.inl e,rfl,rfl⟩
theorem DGet.t {H:Hp} {a b:Addr} {kvs:List (List Key×V)} {k:List Key} (e:H a=some (.dT kvs)) (eb:H b=some (.tup (k.map kV))):DGet H a (.ref b) (valV kvs k):=.inr ⟨kvs,k,b,.inl e,rfl,eb,rfl⟩
theorem DPut.k {H:Hp} {a:Addr} {kvs:List (Key×V)} {k:Key} {v:V} (e:H a=some (.dK kvs)) (hl:kvs.length < sizeLine):DPut H a (kV k) v (upd H a (.dK (putK kvs k v))):=.inl ⟨kvs,k,e,rfl,hl,rfl⟩
theorem DPut.t {H:Hp} {a b:Addr} {kvs:List (List Key×V)} {k:List Key} {v:V} (e:H a=some (.dT kvs)) (eb:H b=some (.tup (k.map kV))) (hl:kvs.length < sizeLine) :
  DPut H a (.ref b) v (upd H a (.dT (putK kvs k v))):=.inr ⟨kvs,k,b,e,rfl,eb,hl,rfl⟩
section
variable {X:Cx} {pins:List (Addr×Obj)} {σ:St} {H:Hp} {s:Shared} {a:Addr} {y v:V} {u r:Value} {o:Option V} {A:Around} {E:Value→Shared→Prop}
theorem Inv.big (I:Inv X pins σ H s):sysModules < s.heap.objs.size:=by
 have h:mainGlobals < s.heap.objs.size:=(I.mod.glob.keeps I.bk).lt
 exact Nat.lt_trans (by decide) h
theorem d_getItem {Q:Value→Shared→Prop} (hu:A.units+1 < cLine) (I:Inv X pins σ H s) (g:DGet H a y (some v)) (ry:RelV y u) (h:∀ w' s',Inv X pins σ H s'→RelV v w'→Q w' s') :
  wpAny (model X.prog X.w) A (getItem (.ref a) u) Q E s:=by
 rcases g with ⟨kvs,k,e,ey,l⟩ | ⟨kvs,k,b,e,ey,eb,l⟩
 ·subst ey
  obtain ⟨z,hd,vs,rel,dd⟩:=zjA I.hok e
  obtain ⟨w',hw,rw'⟩:=RelO.some_of (v:=v) (o:=valueAt vs k) (by rw [l]; exact rel.val k)
  exact wpAny_getItem_of (ziu ry) dd.mapOf hw (h w' _ (I.tok _) rw')
 ·subst ey
  cases (show u=Value.ref b from ry)
  obtain ⟨z,hd,xs,rel,dd⟩:=zjy I.hok e
  obtain ⟨w',hw,rw'⟩:=RelO.some_of (v:=v) (o:=(atKey xs k).map (·.2)) (by rw [l]; exact rel.val k)
  obtain ⟨p,hp,hp2⟩:=Option.map_eq_some_iff.mp hw
  refine wpAny_getItem_heap (tupleKind_room_in1 hu) (zgO I.hok eb) dd hp ?_
  rw [hp2]
  exact h w' _ (I.tok _) rw'
theorem d_notIn {Q:Value→Shared→Prop} (hu:A.units+1 < cLine) (I:Inv X pins σ H s) (g:DGet H a y o) (ry:RelV y u) (h:∀ s',Inv X pins σ H s'→Q (.bool (!o.isSome)) s') :
  wpAny (model X.prog X.w) A (compareOp .NotIn u (.ref a)) Q E s:=by
 rcases g with ⟨kvs,k,e,ey,l⟩ | ⟨kvs,k,b,e,ey,eb,l⟩
 ·subst ey
  obtain ⟨z,hd,vs,rel,dd⟩:=zjA I.hok e
  refine wpAny_notIn_of (ziu ry) hd dd.mapOf ?_
  rw [← (rel.val k).isSome_eq,← l]
  exact h _ (I.tok _)
 ·subst ey
  cases (show u=Value.ref b from ry)
  obtain ⟨z,hd,xs,rel,dd⟩:=zjy I.hok e
  refine wpAny_notIn_heap (tupleKind_room_in1 hu) (zgO I.hok eb) hd dd ?_
  have q:=(rel.val k).isSome_eq
  rw [Option.isSome_map] at q
  rw [← q,← l]
  exact h _ (I.tok _)
theorem d_write {h':Heap} {t':Nat} {ob:HO} (I:Inv X pins σ H s) (mu:Mut (H a)) (hs:Heap.SameBut a s.heap h') (he:∃ q,h'.get? a=some q) (new:ObjOk X.prog X.w (upd H a ob) h' a ob) :
  Inv X pins σ (upd H a ob) { s with heap:=h',toks:=t' } :=
 I.write (x:=a) (e:=a) mu (.inl rfl) (fun b q hb z=>(hs.2 b hb).trans z) he new
theorem zk6 {P:Program} {w:World} {H':Hp} {h':Heap} {kvs:List (Key×V)} {vs:List (Key×Value)} (z:kvs.length≤sizeLine) (hd:(a == sysModules)=false) (rel:KV kvs vs) (dd:h'.DictOf (mixKind P w) a vs) :
  ObjOk P w H' h' a (.dK kvs):=⟨z,hd,vs,rel,dd⟩
theorem d_setItem {H':Hp} {Q:Unit→Shared→Prop} (hu:A.units+1 < cLine) (I:Inv X pins σ H s) (g:DPut H a y v H') (ry:RelV y u) (rv:RelV v r) (h:∀ s',Inv X pins σ H' s'→Q () s') :
  wpAny (model X.prog X.w) A (setItem (.ref a) u r) Q E s:=by
 rcases g with ⟨kvs,k,e,ey,l,eH⟩ | ⟨kvs,k,b,e,ey,eb,l,eH⟩
 ·subst ey eH
  obtain ⟨z,hd,vs,rel,dd⟩:=zlg I.hok e
  have hz:vs.length≤sizeLine:=by rw [← rel.length]; exact z
  have hl:(putK kvs k v).length≤sizeLine:=by have:=zdM kvs k v; omega
  refine wpAny_setItem_pairs (hsz:=hz) (ziu ry) dd fun h' dd' hs=>h _ ?_
  have he:∃ q,h'.get? a=some q:=let ⟨q,_,_,hq,_⟩:=dd'; ⟨q,hq⟩
  exact d_write I (by rw [e]; exact True.intro) hs he (zk6 hl hd (rel.put k rv) dd')
 ·subst ey eH
  cases (show u=Value.ref b from ry)
  obtain ⟨z,hd,xs,rel,dd⟩:=zlf I.hok e
  have hz:xs.length≤sizeLine:=by rw [← Paired.length rel]; exact z
  have hl:(putK kvs k v).length≤sizeLine:=by have:=zdM kvs k v; omega
  refine wpAny_setItem_heap (hsz:=hz) (tupleKind_room_in1 hu) (zgO I.hok eb) dd fun h' dd' hs=>h _ ?_
  obtain ⟨q,es,ep,hq,h2,h3,h4,_,h5⟩:=dd'
  refine d_write I (by rw [e]; exact True.intro) hs ⟨q,hq⟩ ⟨hl,hd,_,(rel.put k eb rv).keeps fun c ys ec=>?_,q,es,ep,hq,h2,h3,h4,h5⟩
  rw [zaA (zbw ec e (fun z=>nomatch z))]
  exact ec
end
def NoSl (i:Expr):Prop:=∀ ov iv,subscripted i false ov iv=operate [ov,iv] (getItem ov iv)
theorem zjX {prog:Program} {w:World} {A:Around} {E:Value→Shared→Prop} {s:Shared} {env:Env} {value slice:Expr} {pos:Pos} {T id:String} {Q:Value→Shared→Prop}
  (hl:typeLookup (.type T) "__getitem__"=pure (some (.builtin id))) (hs:NoSl slice)
  (h:wpAny (model prog w) A (eval value env) (fun o s₁=>wpAny (model prog w) A (eval slice env) (fun i s₂=>s₂.TypeIs o T∧wpAny (model prog w) A (getItem o i) Q E s₂) E s₁) E s) :
  wpAny (model prog w) A (eval (.Subscript value slice pos) env) Q E s:=by
 refine Subscript_ (wpAny_mono h (fun o s₁ h₁=>wpAny_mono h₁ (fun i s₂ h₂=>?_) fun _ _ x=>x) fun _ _ x=>x)
 obtain ⟨hT,h₂⟩:=h₂
 unfold subscriptTail
 refine wpAny_bind ?_
 rw [getitemInPython_of_ne hT.not_modules]
 refine wpAny_bind (wpAny_specialOf hT hl ?_)
 have fin:wpAny (model prog w) A (subscripted slice false o i) (fun r s₃=>wpAny (model prog w) A (letTemporaryGo value o r >>= fun _=>pure r) Q E s₃) E s₂:=by
  rw [hs o i]
  exact wpAny_operating (wpAny_mono h₂ (fun r s₃ h₃=>wpAny_bind (wpAny_letTemporaryGo (wpAny_pure h₃))) fun _ _ x=>x)
 first
  | exact wpAny_pure (wpAny_bind fin)
  | exact wpAny_bind (wpAny_pure (wpAny_bind fin))
  | exact wpAny_bind fin
theorem zgn {X:Cx} {pins:List (Addr×Obj)} {σ:St} {H:Hp} {s:Shared} {a:Addr} {y:V} {o:Option V} (I:Inv X pins σ H s) (g:DGet H a y o):s.TypeIs (.ref a) "dict":=by
 rcases g with ⟨kvs,k,e,_,_⟩ | ⟨kvs,k,b,e,_,_,_⟩
 ·obtain ⟨_,_,vs,_,dd⟩:=zjA I.hok e
  exact dd.typeIs
 ·obtain ⟨_,_,xs,_,dd⟩:=zjy I.hok e
  exact dd.typeIs
def tDGet (td ty:TE):TE:=fun σ H Q=>td σ H fun x H1=>ty σ H1 fun y H2=>∃ a v,x = .ref a∧DGet H2 a y (some v)∧Q v H2
def tDNotIn (ty td:TE):TE:=fun σ H Q=>ty σ H fun y H1=>td σ H1 fun x H2=>∃ a o,x = .ref a∧DGet H2 a y o∧Q (.bl (!o.isSome)) H2
def sDPut (td ty tv:TE):TS:=fun D σ H=>tv σ H fun v H1=>td σ H1 fun x H2=>ty σ H2 fun y H3=>∃ a H4,x = .ref a∧DPut H3 a y v H4∧D.nx σ H4
section
variable {X:Cx} {o i e value:Expr} {pos pos' tpos:Pos} {td ty tv:TE}
theorem zh4 (hu:X.A.units+1 < cLine) (ho:PE X o td) (hi:PE X i ty) (hs:NoSl i):PE X (.Subscript o i pos) (tDGet td ty):=by
 intro pins s σ H Q I h
 refine zjX PySem.F.slot_dict_getitem.lookup hs (thn (ho pins s σ H _ I h) fun u s1 ⟨x,H1,I1,rx,q1⟩=>thn (hi pins s1 σ H1 _ I1 q1) fun iv s2 ⟨y,H2,I2,ry,a,v,ex,g,q2⟩=>?_)
 subst ex
 obtain rfl:u=Value.ref a:=rx
 exact ⟨zgn I2 g,d_getItem hu I2 g ry fun w' s3 I3 rw'=>⟨v,H2,I3,rw',q2⟩⟩
theorem zfB (hu:X.A.units+1 < cLine) (hi:PE X i ty) (ho:PE X o td):PC X .NotIn i o (tDNotIn ty td):=by
 intro pins s σ H Q I h
 refine thn (hi pins s σ H _ I h) fun iv s1 ⟨y,H1,I1,ry,q1⟩=>thn (ho pins s1 σ H1 _ I1 q1) fun u s2 ⟨x,H2,I2,rx,a,ov,ex,g,q2⟩=>?_
 subst ex
 obtain rfl:u=Value.ref a:=rx
 exact d_notIn hu I2 g ry fun s3 I3=>⟨.bl (!ov.isSome),H2,I3,rfl,q2⟩
theorem zhT (hu:X.A.units+1 < cLine) (ho:PE X o td) (hi:PE X i ty) (hv:PE X value tv) (hs:swapsWith value (some (.Subscript o i pos')) pos.line X.env=pure false) :
  PS X (.Assign [.Subscript o i pos'] value pos) (sDPut td ty tv):=by
 intro pins s σ H D I h
 refine wpAny_Assign_Subscript (thn (hv pins s σ H _ I h) fun r s1 ⟨v,H1,I1,rv,q1⟩=>thn (ho pins s1 σ H1 _ I1 q1) fun u s2 ⟨x,H2,I2,rx,q2⟩=>thn (hi pins s2 σ H2 _ I2 q2) fun iv s3 ⟨y,H3,I3,ry,a,H4,ex,g,q3⟩=>?_) hs
 subst ex
 obtain rfl:u=Value.ref a:=rx
 exact d_setItem hu I3 g ry rv fun s4 I4=>⟨σ,H4,I4,q3⟩
end
theorem zjB {P:Program} {w:World} {H:Hp} (h:Heap) (hb:sysModules < h.objs.size):ObjOk P w H (h.push { cls:=.type "dict",data:=.dict #[] }) h.objs.size (.dK []) :=
 ⟨Nat.zero_le _,beq_eq_false_iff_ne.mpr (Ne.symm (Nat.ne_of_lt hb)),[],.nil,Heap.DictOf.new h⟩
theorem zjz {P:Program} {w:World} {H:Hp} (h:Heap) (hb:sysModules < h.objs.size):ObjOk P w H (h.push { cls:=.type "dict",data:=.dict #[] }) h.objs.size (.dT []) :=
 ⟨Nat.zero_le _,beq_eq_false_iff_ne.mpr (Ne.symm (Nat.ne_of_lt hb)),[],.nil,_,#[],0,Heap.get?_push_size _ rfl,⟨rfl,rfl,rfl⟩,rfl,rfl,List.nodup_nil⟩
def tDNewK:TE:=fun _ H Q=>∀ p,H p=none→Q (.ref p) (upd H p (.dK []))
def tDNewT:TE:=fun _ H Q=>∀ p,H p=none→Q (.ref p) (upd H p (.dT []))
section
variable {X:Cx} {pos:Pos}
theorem zgI:PE X (.Dict [] [] pos) tDNewK:=fun pins s σ H Q I h =>
 wpAny_Dict_empty ⟨.ref s.heap.objs.size,_,I.laid (a:=s.heap.objs.size) (o:=.dK []) (t':=s.toks) (fun _ _ q=>Heap.get?_push_of_some _ q) (Nat.le_refl _) (zjB s.heap I.big),rfl,h _ (I.hok.fresh (Nat.le_refl _))⟩
theorem zjn:PE X (.Dict [] [] pos) tDNewT:=fun pins s σ H Q I h =>
 wpAny_Dict_empty ⟨.ref s.heap.objs.size,_,I.laid (a:=s.heap.objs.size) (o:=.dT []) (t':=s.toks) (fun _ _ q=>Heap.get?_push_of_some _ q) (Nat.le_refl _) (zjz s.heap I.big),rfl,h _ (I.hok.fresh (Nat.le_refl _))⟩
end
structure M2 (X:Cx) (o:Expr) (m:Str) (apos:Pos) (e f:Expr) (cpos:Pos):Prop where
 base:attributeBase o m X.env (eval o X.env)=eval o X.env
 few:((backTo cpos (starEach [e,f] X.env)).all (fun x=>!x.1) && (backToKw cpos (keywordEach [] X.env)).all (fun x=>x.1.isSome)
  && decide (([e,f]:List Expr).length+([]:List Keyword).length+(if ([]:List Keyword).isEmpty then 0 else 1) < 30))=true
 line:(apos.endLine == cpos.line)=true
 trees:backTo cpos (starEach [e,f] X.env)=[(false,eval e X.env),(false,eval f X.env)]
end L2
namespace L2
open PySem PySem.Spec PyProof.Rows
section
variable {X:Cx} {pins:List (Addr×Obj)} {σ:St} {H:Hp} {s:Shared} {h':Heap}
theorem Inv.turnedL {t':Nat} {ch:List Addr} (I:Inv X pins σ H s) (k:∀ b o,b ∉ ch→s.heap.get? b=some o→h'.get? b=some o) (hf:∀ b∈ch,FpOk X pins H b):Inv X pins σ H { s with heap:=h',toks:=t' }:=by
 have nit:∀ b u,H b=some u→b ∉ ch:=fun b u e z=>by
  have q:=(hf b z).1
  rw [q] at e; cases e
 refine I.step (g':=s.gens) (d':=s.drawn) (ch:=ch) (fun b hb=>⟨(hf b hb).2.2.2.1,(hf b hb).2.1,(hf b hb).2.2.2.2.1,(hf b hb).2.2.2.2.2⟩) (fun b o _ _ hc e _=>k b o hc e) (fun b o _ _ hc e _=>⟨o.slots,k b o hc e⟩)
  (fun _ _ _ _ n=>n) (fun b o hc e=>⟨o,k b o hc e⟩) (fun _ _ e=>e) (fun _ _ _ e=>e) (fun b ps e=>⟨#[],by rw [e]; simp⟩) (fun m hm=>?_) (fun b u e=>?_) I.bare
 ·obtain ⟨o,es,ep,ho,r⟩:=hm
  exact ⟨o,es,ep,k _ o (fun z=>(hf _ z).2.1 rfl) ho,r⟩
 ·refine (I.hok b u e).stay (fun c v hc q=>k c v ?_ q) (fun _ q=>q) fun _ _ q=>q
  rcases hc with z | z
  ·rw [z]; exact nit b u e
  ·exact nit c _ z
theorem Inv.turnedNew {t':Nat} {ch:List Addr} {T:Addr} {ob:HO} (I:Inv X pins σ H s) (k:∀ b o,b ∉ ch→s.heap.get? b=some o→h'.get? b=some o) (hf:∀ b∈ch,FpOk X pins H b) (hT:s.heap.objs.size≤T)
  (new:ObjOk X.prog X.w (upd H T ob) h' T ob):Inv X pins σ (upd H T ob) { s with heap:=h',toks:=t' }:=by
 have hn:H T=none:=I.hok.fresh hT
 have nit:∀ b u,H b=some u→b ∉ ch:=fun b u e z=>by
  have q:=(hf b z).1
  rw [q] at e; cases e
 refine I.step (g':=s.gens) (d':=s.drawn) (ch:=ch) (fun b hb=>⟨(hf b hb).2.2.2.1,(hf b hb).2.1,(hf b hb).2.2.2.2.1,(hf b hb).2.2.2.2.2⟩) (fun b o _ _ hc e _=>k b o hc e) (fun b o _ _ hc e _=>⟨o.slots,k b o hc e⟩)
  (fun b o _ e n=>?_) (fun b o hc e=>⟨o,k b o hc e⟩) (fun b xs e=>?_) (fun b o u e=>?_) (fun b ps e=>⟨#[],?_⟩) (fun m hm=>?_) (fun b u e=>?_) I.bare
 ·rw [zaA (Nat.ne_of_lt (Nat.lt_of_lt_of_le (Heap.lt_size e) hT))]; exact n
 ·rw [zaA (zag e hn)]; exact e
 ·rw [zaA (zag e hn)]; exact e
 ·rw [zaA (zag e hn),e]; simp
 ·obtain ⟨o,es,ep,ho,r⟩:=hm
  exact ⟨o,es,ep,k _ o (fun z=>(hf _ z).2.1 rfl) ho,r⟩
 ·by_cases hb:b=T
  ·subst hb
   rw [zai] at e
   cases e
   exact new
  ·rw [zaA hb] at e
   refine (I.hok b u e).stay (fun c v hc q=>k c v ?_ q) (fun c q=>by rw [zaA (zag q hn)]; exact q) fun c xs q=>by rw [zaA (zag q hn)]; exact q
   rcases hc with z | z
   ·rw [z]; exact nit b u e
   ·exact nit c _ z
end
def Ite (K:PySem.W.Frag) (a:Addr):It :=
 ⟨fun i H=>∃ (xs:List V) (x:V),SqL K H a xs∧xs[i]?=some x,fun i H v H'=>∃ T x,v = .ref T∧H T=none∧H'=upd H T (.tup [.int (i:Nat),x])∧∀ xs,SqL K H a xs→xs[i]?=some x,fun i H=>∃ xs:List V,SqL K H a xs∧xs.length≤i⟩
theorem zhx {P:Program} {w:World} {K:PySem.W.Frag} {elts:List Expr} {kk:Nat} {tpos:Pos} (a e it:Addr) :
  Turn P w K (.Tuple elts kk tpos) (Ite K a) [e,it] e (fun i h=>(∃ old,IsEnum h e it ((i:Nat):Int) old)∧h.IsListIter it a i∧e≠it) where
 mem:=by simp
 obj:=fun i h st b hb=>by
  obtain ⟨⟨old,he⟩,⟨o,ho,hc,hd⟩,_⟩:=st
  have e':b=e∨b=it:=by simpa using hb
  rcases e' with z | z
  ·rw [z]; exact ⟨_,he,fun v q=>nomatch q⟩
  ·rw [z]; exact ⟨o,ho,fun v q=>by rw [hd] at q; cases q⟩
 keep:=fun i h h' st k=>let ⟨⟨old,he⟩,hi,hne⟩:=st; ⟨⟨old,k e (by simp) _ he⟩,hi.at fun o q=>k it (by simp) o q,hne⟩
 item:=by
  intro X hP hw hK hc i pins s σ H E I hf st hg
  subst hP hw hK
  obtain ⟨⟨old,he⟩,hit,hne⟩:=st
  obtain ⟨xs,x,hq,hx⟩:=hg
  obtain ⟨its,rv,p,hz⟩:=I.list hq
  obtain ⟨u,hu,ru⟩:=rv.get hx
  have hel:e < s.heap.objs.size:=Heap.lt_size he
  have hil:it < s.heap.objs.size:=by obtain ⟨_,q,_⟩:=hit; exact Heap.lt_size q
  refine wpAny_pyNext_enum_item he hit p.isList (x:=u) (by simpa using hu) hne fun h' ho hit' hT hsz hk=>?_
  refine ⟨_,rfl,wpAny_letOwnedTupleGo_enum (s:={ s with heap:=h',toks:=s.toks+1 }) ho fun h'' he' sb=>?_⟩
  have hT2:h''.get? s.heap.objs.size=some { cls:=.type "tuple",data:=.seq #[.int i s.toks,u] }:=(sb.2 _ (Nat.ne_of_gt hel)).trans hT
  have new:ObjOk X.prog X.w (upd H s.heap.objs.size (.tup [.int (i:Nat),x])) h'' s.heap.objs.size (.tup [.int (i:Nat),x]) :=
   ⟨by show 2≤sizeLine; decide,[.int i s.toks,u],.cons ⟨_,rfl⟩ (.cons ru .nil),⟨_,hT2,rfl,_,rfl⟩⟩
  have I1:Inv X pins σ (upd H s.heap.objs.size (.tup [.int (i:Nat),x])) { s with heap:=h'',toks:=s.toks+1 } :=
   I.turnedNew (ch:=[e,it]) (fun b ob hb q=>(sb.2 b (fun z=>hb (by simp [z]))).trans (hk b ob (fun z=>hb (by simp [z])) (fun z=>hb (by simp [z])) q)) hf (Nat.le_refl _) new
  refine ⟨.ref s.heap.objs.size,_,I1,rfl,⟨_,x,rfl,I.hok.fresh (Nat.le_refl _),rfl,fun ys hy=>by rw [I.list_inj hy hq]; exact hx⟩,⟨⟨u,?_⟩,hit'.at fun o q=>(sb.2 it (Ne.symm hne)).trans q,hne⟩,fun b hb=>?_⟩
  ·have e1:((i+1:Nat):Int)=(i:Int)+1:=by omega
   rw [e1]; exact he'
  ·have hb':b < s.heap.objs.size:=by
    have e':b=e∨b=it:=by simpa using hb
    rcases e' with z | z
    ·rw [z]; exact hel
    ·rw [z]; exact hil
   rw [zaA (Nat.ne_of_lt hb')]
   exact (hf b hb).1
 done:=by
  intro X hP hw hK hc i pins s σ H E I hf st hg
  subst hP hw hK
  obtain ⟨⟨old,he⟩,hit,hne⟩:=st
  obtain ⟨xs,hq,hx⟩:=hg
  obtain ⟨its,rv,p,hz⟩:=I.list hq
  obtain ⟨f0,f1,f2,f3,f4,f5⟩:=hf it (by simp)
  have hl:=rv.length
  exact wpAny_pyNext_enum_end (I.ok.hd hc) he hit p.isList (by simp; omega) fun h' eb=>⟨rfl,I.turned (t':=s.toks) (fun b o hb q=>eb b o hb q) f0 f1 f3 f4 f5⟩
 self:=fun A i s Q E st h=>let ⟨⟨_,he⟩,_⟩:=st; wpAny_pyIter_enum he h
def iEnum (K:PySem.W.Frag) (ta:TA):TI:=fun σ H R=>ta σ H fun vs H1=>∃ a xs,vs=[.ref a]∧SqL K H1 a xs∧R (Ite K a) H1
theorem zgg {X:Cx} {e:Expr} {ta:TA} {p pos tpos:Pos} {elts:List Expr} {kk:Nat} (hg:Gl X "enumerate") (hm:X.mg "enumerate"=none) (ha:PA X [e] ta) (hs:starEach [e] X.env=[(false,eval e X.env)]:=by rfl) :
  PI X (.Tuple elts kk tpos) (.Call (.Name "enumerate" p) [e] [] pos) (iEnum X.K ta):=by
 intro pins s σ H R I h
 refine Call_ (zem I hg hm boot_enumerate (PyProof.Rows.callWith_type1 (thn (ha pos pins s σ H _ I h) fun us s1 ⟨vs,H1,I1,r1,q1⟩=>?_) hs rfl))
 obtain ⟨a,xs,ex,hq,q⟩:=q1
 subst ex
 cases r1 with
 | cons r rr =>
  cases rr
  cases r
  obtain ⟨its,rv,p',hz⟩:=I1.list hq
  refine call_enumerate_list p'.isList fun h' he hit hsz hk=>wpAny_pyIter_enum he ?_
  have I2:Inv X pins σ H1 { s1 with heap:=h' }:=I1.kept (t':=s1.toks) hk
  refine ⟨s1.heap.objs.size+1,[s1.heap.objs.size+1,s1.heap.objs.size],_,_,H1,rfl,I2,zhx a (s1.heap.objs.size+1) s1.heap.objs.size,⟨⟨.none,he⟩,hit,Nat.succ_ne_self _⟩,fun b hb=>?_,q⟩
  have e':b=s1.heap.objs.size+1∨b=s1.heap.objs.size:=by simpa using hb
  have hle:s1.heap.objs.size≤b:=by
   rcases e' with z | z
   ·rw [z]; exact Nat.le_add_right _ _
   ·rw [z]; exact Nat.le_refl _
  exact I1.fpOk hle (I1.hok.fresh hle)
theorem ziZ:bootBuiltins "zip"=some (.type "zip"):=by decide +kernel
def Itz (K:PySem.W.Frag) (a b:Addr):It :=
 ⟨fun i H=>∃ (xs ys:List V) (x y:V),SqL K H a xs∧SqL K H b ys∧xs[i]?=some x∧ys[i]?=some y,
  fun i H v H'=>∃ T x y,v = .ref T∧H T=none∧H'=upd H T (.tup [x,y])∧(∀ xs,SqL K H a xs→xs[i]?=some x)∧∀ ys,SqL K H b ys→ys[i]?=some y,
  fun i H=>∃ xs ys:List V,SqL K H a xs∧SqL K H b ys∧(xs.length≤i∨ys.length≤i)⟩
theorem zi9 {P:Program} {w:World} {K:PySem.W.Frag} {elts:List Expr} {kk:Nat} {tpos:Pos} {a b z TI TO i1 i2:Addr} (D:ZipApart z TI TO i1 i2 a b) :
  Turn P w K (.Tuple elts kk tpos) (Itz K a b) [z,TI,TO,i1,i2] z (fun i h=>IsZip h z TI TO .none∧IsPair h TI (.ref i1) (.ref i2)∧(∃ x y,IsPair h TO x y)∧h.IsListIter i1 a i∧h.IsListIter i2 b i) where
 mem:=by simp
 obj:=fun i h st c hc=>by
  obtain ⟨hz,hTI,⟨x,y,hTO⟩,⟨o1,e1,_,d1⟩,⟨o2,e2,_,d2⟩⟩:=st
  have e':c=z∨c=TI∨c=TO∨c=i1∨c=i2:=by simpa using hc
  rcases e' with q | q | q | q | q
  ·rw [q]; exact ⟨_,hz,fun v q=>nomatch q⟩
  ·rw [q]; exact ⟨_,hTI,fun v q=>nomatch q⟩
  ·rw [q]; exact ⟨_,hTO,fun v q=>nomatch q⟩
  ·rw [q]; exact ⟨o1,e1,fun v q=>by rw [d1] at q; cases q⟩
  ·rw [q]; exact ⟨o2,e2,fun v q=>by rw [d2] at q; cases q⟩
 keep:=fun i h h' st k=>by
  obtain ⟨hz,hTI,⟨x,y,hTO⟩,h1,h2⟩:=st
  exact ⟨k z (by simp) _ hz,k TI (by simp) _ hTI,⟨x,y,k TO (by simp) _ hTO⟩,h1.at fun o q=>k i1 (by simp) o q,h2.at fun o q=>k i2 (by simp) o q⟩
 item:=by
  intro X hP hw hK hc i pins s σ H E I hf st hg
  subst hP hw hK
  obtain ⟨hz,hTI,⟨x0,y0,hTO⟩,h1,h2⟩:=st
  obtain ⟨xs,ys,x,y,hqx,hqy,hx,hy⟩:=hg
  obtain ⟨its,rv,p,_⟩:=I.list hqx
  obtain ⟨its2,rv2,p2,_⟩:=I.list hqy
  obtain ⟨u,hu,ru⟩:=rv.get hx
  obtain ⟨u2,hu2,ru2⟩:=rv2.get hy
  have hzl:z < s.heap.objs.size:=Heap.lt_size hz
  refine wpAny_pyNext_zip_item D hz hTI hTO h1 h2 p.isList p2.isList (x:=u) (y:=u2) (by simpa using hu) (by simpa using hu2) fun h' z' TO' h1' h2' hT hsz hk=>?_
  refine ⟨_,rfl,wpAny_letOwnedTupleGo_zip (s:={ s with heap:=h' }) z' fun h'' z'' sb=>?_⟩
  have hT2:h''.get? s.heap.objs.size=some { cls:=.type "tuple",data:=.seq #[u,u2] }:=(sb.2 _ (Nat.ne_of_gt hzl)).trans hT
  have new:ObjOk X.prog X.w (upd H s.heap.objs.size (.tup [x,y])) h'' s.heap.objs.size (.tup [x,y]) :=
   ⟨by show 2≤sizeLine; decide,[u,u2],.cons ru (.cons ru2 .nil),⟨_,hT2,rfl,_,rfl⟩⟩
  have I1:Inv X pins σ (upd H s.heap.objs.size (.tup [x,y])) { s with heap:=h'' } :=
   I.turnedNew (t':=s.toks) (ch:=[z,TI,TO,i1,i2]) (fun c o hb q=>(sb.2 c (fun q'=>hb (by simp [q']))).trans (hk c o (fun q'=>hb (by simp [q'])) (fun q'=>hb (by simp [q'])) (fun q'=>hb (by simp [q'])) (fun q'=>hb (by simp [q'])) q)) hf (Nat.le_refl _) new
  refine ⟨.ref s.heap.objs.size,_,I1,rfl,⟨_,x,y,rfl,I.hok.fresh (Nat.le_refl _),rfl,fun l hl=>by rw [I.list_inj hl hqx]; exact hx,fun l hl=>by rw [I.list_inj hl hqy]; exact hy⟩,⟨z'',?_,⟨u,u2,?_⟩,?_,?_⟩,fun c hcm=>?_⟩
  ·exact (sb.2 _ D.TIz).trans (hk _ _ D.TIz D.TITO D.TIi1 D.TIi2 hTI)
  ·exact (sb.2 _ D.TOz).trans TO'
  ·exact h1'.at fun o q=>(sb.2 _ D.i1z).trans q
  ·exact h2'.at fun o q=>(sb.2 _ D.i2z).trans q
  ·have hlt:c < s.heap.objs.size:=by
    have e':c=z∨c=TI∨c=TO∨c=i1∨c=i2:=by simpa using hcm
    rcases e' with q | q | q | q | q
    ·rw [q]; exact hzl
    ·rw [q]; exact Heap.lt_size hTI
    ·rw [q]; exact Heap.lt_size hTO
    ·rw [q]; obtain ⟨_,e1,_⟩:=h1; exact Heap.lt_size e1
    ·rw [q]; obtain ⟨_,e2,_⟩:=h2; exact Heap.lt_size e2
   rw [zaA (Nat.ne_of_lt hlt)]
   exact (hf c hcm).1
 done:=by
  intro X hP hw hK hc i pins s σ H E I hf st hg
  subst hP hw hK
  obtain ⟨hz,hTI,⟨x0,y0,hTO⟩,h1,h2⟩:=st
  obtain ⟨xs,ys,hqx,hqy,hend⟩:=hg
  obtain ⟨its,rv,p,_⟩:=I.list hqx
  obtain ⟨its2,rv2,p2,_⟩:=I.list hqy
  have l1:=rv.length
  have l2:=rv2.length
  have he:its.toArray[i]?=none∨its2.toArray[i]?=none:=by
   rcases hend with q | q
   ·exact .inl (by simp; omega)
   ·exact .inr (by simp; omega)
  exact wpAny_pyNext_zip_end (I.ok.hd hc) D hz hTI hTO h1 h2 p.isList p2.isList he fun h' hk=>⟨rfl,I.turnedL (t':=s.toks) (ch:=[z,TI,TO,i1,i2]) (fun c o hb q =>
   hk c o (fun q'=>hb (by simp [q'])) (fun q'=>hb (by simp [q'])) (fun q'=>hb (by simp [q'])) (fun q'=>hb (by simp [q'])) q) hf⟩
 self:=fun A i s Q E st h=>wpAny_pyIter_zip st.1 h
def iZip (K:PySem.W.Frag) (ta:TA):TI:=fun σ H R=>ta σ H fun vs H1=>∃ a b xs ys,vs=[.ref a,.ref b]∧SqL K H1 a xs∧SqL K H1 b ys∧R (Itz K a b) H1
theorem zjM {X:Cx} {e e2:Expr} {ta:TA} {p pos tpos:Pos} {elts:List Expr} {kk:Nat} (hg:Gl X "zip") (hm:X.mg "zip"=none) (ha:PA X [e,e2] ta)
  (hs:starEach [e,e2] X.env=(false,eval e X.env)::starEach [e2] X.env:=by rfl) (hpl:(backTo pos (starEach [e2] X.env)).any (·.1)=false:=by rfl) :
  PI X (.Tuple elts kk tpos) (.Call (.Name "zip" p) [e,e2] [] pos) (iZip X.K ta):=by
 intro pins s σ H R I h
 refine Call_ (zem I hg hm ziZ (PyProof.Rows.callWith_type1 (thn (ha pos pins s σ H _ I h) fun us s1 ⟨vs,H1,I1,r1,q1⟩=>?_) hs hpl))
 obtain ⟨a,b,xs,ys,ex,hqx,hqy,q⟩:=q1
 subst ex
 cases r1 with
 | cons r rr =>
  cases rr with
  | cons r' rr =>
   cases rr
   cases r
   cases r'
   obtain ⟨its,rv,p1,_⟩:=I1.list hqx
   obtain ⟨its2,rv2,p2,_⟩:=I1.list hqy
   have la:a < s1.heap.objs.size:=p1.lt
   have lb:b < s1.heap.objs.size:=p2.lt
   refine call_zip_2 p1.isList p2.isList fun h' hz hTI hTO h1 h2 hsz hk=>wpAny_pyIter_zip hz ?_
   have I2:Inv X pins σ H1 { s1 with heap:=h' }:=I1.kept (t':=s1.toks) hk
   refine ⟨s1.heap.objs.size+4,[s1.heap.objs.size+4,s1.heap.objs.size+2,s1.heap.objs.size+3,s1.heap.objs.size,s1.heap.objs.size+1],_,_,H1,rfl,I2,zi9 (PySem.W.ktu_apart s1.heap.objs.size a b la lb),⟨hz,hTI,⟨_,_,hTO⟩,h1,h2⟩,fun c hcm=>?_,q⟩
   have e':c=s1.heap.objs.size+4∨c=s1.heap.objs.size+2∨c=s1.heap.objs.size+3∨c=s1.heap.objs.size∨c=s1.heap.objs.size+1:=by simpa using hcm
   have hle:s1.heap.objs.size≤c:=by
    rcases e' with z | z | z | z | z
    ·rw [z]; exact Nat.le_add_right _ _
    ·rw [z]; exact Nat.le_add_right _ _
    ·rw [z]; exact Nat.le_add_right _ _
    ·rw [z]; exact Nat.le_refl _
    ·rw [z]; exact Nat.le_add_right _ _
   exact I1.fpOk hle (I1.hok.fresh hle)
end L2
section
namespace TL
open PySem PySem.Builtin PySem.Builtin.Str PySem.StrLaws
abbrev tl (x:Str):List Nat:=x.cps.toList
def pre (S l:List Nat):Bool:=l.take S.length == S
def par (S:List Nat):List Nat→List Nat→Option (List Nat×List Nat)
 | _,[]=>none
 | acc,c::r=>if pre S (c::r)=true then some (acc,(c::r).drop S.length) else par S (acc++[c]) r
end TL
end
namespace L2
open PySem PySem.Spec PyProof.Rows
def inClass (s:Stmt) (j:Nat):Stmt:=match s with
 | .ClassDef _ _ _ body _ _ _ _ _ _ _=>body.getD j (.Pass ⟨0,0,0,0⟩)
 | _=>.Pass ⟨0,0,0,0⟩
def defArgs (s:Stmt):Arguments:=match s with
 | .FunctionDef _ a _ _ _ _ _ _ _ _=>a
 | _=>{ posonlyargs:=[],args:=[],vararg:=none,kwonlyargs:=[],kw_defaults:=[],kwarg:=none,defaults:=[] }
def defBody (s:Stmt):List Stmt:=match s with
 | .FunctionDef _ _ b _ _ _ _ _ _ _=>b
 | _=>[]
def defScope (s:Stmt):Scope:=match s with
 | .FunctionDef _ _ _ _ _ _ sc _ _ _=>sc
 | _=>{ kind:=.function,names:=[],isGenerator:=false,isCoroutine:=false }
abbrev CX0:CXT:=fun _ _ _ _ _ _=>False
abbrev E0:XK:=fun _ _ _=>False
theorem pass0 {X:Cx}:Passes CX0 X E0:=fun _ _ _ _ _ _ _ h=>h.elim
structure Fun (K:PySem.W.Frag) (x qual:Str) (st:Stmt) (f:Addr) (fd:FuncData):Prop where
 ex:∃ (oc:Value) (od:Option Addr) (kV doc pm:Value) (an:Option Addr) (cdv ct:Value) (osl:Array (Option Value)),
  fd=PySem.W.fnOf x qual (defArgs st) (defBody st) (defScope st) .none kV doc pm an cdv ct∧K.lookup f=some ⟨oc,od,.func fd,osl⟩∧PySem.W.codeIn K cdv qual=true
 kp:PySem.W.keepIn K (.ref f)=true
section
variable {P:Program} {w:World} {K:PySem.W.Frag} {mg:Str→Option Value} {base:Heap}
theorem Fun.ok {x qual:Str} {st:Stmt} {f:Addr} {fd:FuncData} {N ps:List Str} {k:Nat} {sp:Sp} (F:Fun K x qual st f fd) (S:FnScope N ps (defScope st)) (len:∀ vs H Q E,sp vs H Q E→vs.length=ps.length)
  (hbody:∀ (cdv:Value) (A:Around) (outer:List Env) (s:Shared) (H:Hp) (vs:List V) (Q:VK) (E:XK),Room k (A.deeper (envOfC qual (defScope st) s.heap.objs.size f cdv))→sp vs H Q E →
   ∃ t,PSs (cxOf CX0 P w K mg base N qual (defScope st) f cdv A outer s H E).nox (defBody st) t∧t { nx:=fun _ H'=>Q .non H',rt:=Q } (start N vs) H):FnOk P w K mg base CX0 (k+1) f fd ps sp:=by
 obtain ⟨oc,od,kV,doc,pm,an,cdv,ct,osl,rfl,lk,hcd⟩:=F.ex
 refine zle lk hcd S len fun A outer s H vs Q E hr hsp=>?_
 obtain ⟨t,h,q⟩:=hbody cdv A outer s H vs Q E hr hsp
 exact ⟨t,h.nox,q⟩
theorem Fun.binds {x qual:Str} {st:Stmt} {f:Addr} {fd:FuncData} {ps:List Str} (F:Fun K x qual st f fd)
  (h:∀ (kV doc pm:Value) (an:Option Addr) (cdv ct:Value) (us:List Value),us.length=ps.length→bindArgs (PySem.W.fnOf x qual (defArgs st) (defBody st) (defScope st) .none kV doc pm an cdv ct) ⟨us,[]⟩=pure (ps.zip us)):Binds K fd ps []:=by
 obtain ⟨oc,od,kV,doc,pm,an,cdv,ct,osl,rfl,lk,hcd⟩:=F.ex
 exact .all (h kV doc pm an cdv ct)
theorem zjR {x qual:Str} {st:Stmt} {f:Addr} {oc:Value} {od an:Option Addr} {osl:Array (Option Value)} {kV doc pm cdv ct:Value} (l:K.lookup f=some ⟨oc,od,.func (PySem.W.fnOf x qual (defArgs st) (defBody st) (defScope st) .none kV doc pm an cdv ct),osl⟩)
  (c:PySem.W.codeIn K cdv qual=true) (k:PySem.W.keepIn K (.ref f)=true):Fun K x qual st f (PySem.W.fnOf x qual (defArgs st) (defBody st) (defScope st) .none kV doc pm an cdv ct):=⟨⟨oc,od,kV,doc,pm,an,cdv,ct,osl,rfl,l,c⟩,k⟩
end
theorem zkZ {A:Around} {k:Nat} (hr:Room k A):A.units+1 < cLine:=Nat.lt_of_le_of_lt (Nat.add_le_add_left (by decide:1≤64) _) hr.units
section
variable {X:Cx}
theorem pv (i:Nat) {x:Str} {pos:Pos} (hN:X.N[i]?=some x:=by rfl) (hv:Vis X.env.scope x:=by first | exact Or.inl rfl | exact Or.inr (Or.inl rfl) | exact Or.inr (Or.inr rfl)) (hd:(x == ("__debug__":Str))=false:=by decide)
  (hcd:(x == ("__classdict__":Str))=false:=by decide):PE X (.Name x pos) (tVar i):=zkJ hN hv hd hcd
end
theorem iteF {A B:Prop} (h:B):if false=true then A else B:=by
 rw [if_neg Bool.false_ne_true]
 exact h
theorem iteT {A B:Prop} (h:A):if true=true then A else B:=by
 rw [if_pos rfl]
 exact h
theorem ite2 {c A B:Prop} [Decidable c] (h1:c→A) (h2:¬ c→B):if c then A else B:=by
 by_cases h:c
 ·rw [if_pos h]
  exact h1 h
 ·rw [if_neg h]
  exact h2 h
def Same (H H':Hp):Prop:=∀ b o,H b=some o→H' b=some o
theorem Same.refl (H:Hp):Same H H:=fun _ _ h=>h
theorem Same.trans {H H1 H2:Hp} (a:Same H H1) (b:Same H1 H2):Same H H2:=fun c o h=>b c o (a c o h)
theorem Same.free {H H':Hp} (e:Same H H') {l:Addr} (h:H' l=Option.none):H l=Option.none:=by
 cases q:H l with
 | none=>rfl
 | some o =>
  rw [e l o q] at h
  cases h
theorem Same.seq {K:PySem.W.Frag} {H H':Hp} {a:Addr} {xs:List V} (e:Same H H') (h:SqL K H a xs):SqL K H' a xs:=by
 rcases h with (h | ⟨o,h⟩) | h
 ·exact .inl (.inl (e _ _ h))
 ·exact .inl (.inr ⟨o,e _ _ h⟩)
 ·exact .inr h
theorem zd0 {xs:List V} {z:Int} {j:Nat} {v:V} (e:z=(j:Int)) (h:xs[j]?=some v):atI xs z=some v:=by
 rw [e]
 exact zas h
theorem zjq {α:Type} {l:List α} (hN:l.Nodup) {i j:Nat} {x:α} (a:l[i]?=some x) (b:l[j]?=some x):i=j:=by
 obtain ⟨h1,e1⟩:=List.getElem?_eq_some_iff.mp a
 obtain ⟨h2,e2⟩:=List.getElem?_eq_some_iff.mp b
 exact (List.getElem_inj hN).mp (e1.trans e2.symm)
end L2
end
section
namespace L2
open PySem PySem.Spec PyProof.Rows
open PySem.W (WData Codec OpenSpec Well WellAll ReadsW ReadsAllW)
mutual
/-- x stands for the datum d,lists and tuples all the way -/
inductive Dw (K:PySem.W.Frag) (H:Hp):V→WData→Prop
 | non:Dw K H .non .none
 | bl (b:Bool):Dw K H (.bl b) (.bool b)
 | int (i:Int):Dw K H (.int i) (.int i)
 | str (x:Str):Dw K H (.str x) (.str x)
 | byt (b:Array UInt8):Dw K H (.byt b) (.bytes b.toList)
 | lst {a:Addr} {xs:List V} {ds:List WData}:SqL K H a xs→DwAll K H xs ds→Dw K H (.ref a) (.list ds)
 | tup {a:Addr} {xs:List V} {ds:List WData}:SqT K H a xs→DwAll K H xs ds→Dw K H (.ref a) (.tuple ds)
inductive DwAll (K:PySem.W.Frag) (H:Hp):List V→List WData→Prop
 | nil:DwAll K H [] []
 | cons {v:V} {vs:List V} {d:WData} {ds:List WData}:Dw K H v d→DwAll K H vs ds→DwAll K H (v::vs) (d::ds)
end
theorem ziK {K:PySem.W.Frag} {H:Hp}:∀ ns:List Int,DwAll K H (ns.map V.int) (ns.map WData.int)
 | []=>.nil
 | n::r=>.cons (.int n) (ziK r)
theorem zix {K:PySem.W.Frag} {H:Hp}:∀ (ns:List Int) (xs:List V),DwAll K H xs (ns.map WData.int)→xs=ns.map V.int
 | [],xs,h=>by
  cases h
  rfl
 | n::r,xs,h=>by
  cases h with
  | cons h1 h2 =>
   cases h1
   rw [zix r _ h2]<;>rfl
section
variable {P:Program} {w:World} {K:PySem.W.Frag} {H:Hp} {h:Heap} {R:PySem.W.WRecords} {cl:Str→Option Addr}
theorem zky {a:Addr} {xs:List V} (hok:HOk P w H h) (KX:K.In h) (q:SqL K H a xs):∃ (its:List Value) (o:Obj) (n:Nat),Vals xs its∧h.get? a=some o∧o.cls = .type "list"∧o.data = .seq its.toArray n:=by
 rcases q with q | ⟨o,its,n,e,hc,_,hd,_,hv⟩
 ·obtain ⟨_,its,n,hv,e⟩:=(show ObjOk P w H h a (.lst xs) from q.ok hok)
  exact ⟨its,_,n,hv,e,rfl,rfl⟩
 ·exact ⟨its.toList,o,n,hv,KX _ _ e,hc,by simp [hd]⟩
theorem zkx {a:Addr} {xs:List V} (hok:HOk P w H h) (KX:K.In h) (q:SqT K H a xs):∃ (its:List Value) (o:Obj) (n:Nat),Vals xs its∧h.get? a=some o∧o.cls = .type "tuple"∧o.data = .seq its.toArray n:=by
 rcases q with q | ⟨o,its,n,e,hc,hd,_,hv⟩
 ·obtain ⟨_,its,hv,o,e,hc,n,hd⟩:=(show ObjOk P w H h a (.tup xs) from q.ok hok)
  exact ⟨its,o,n,hv,e,hc,hd⟩
 ·exact ⟨its.toList,o,n,hv,KX _ _ e,hc,by simp [hd]⟩
mutual
theorem Dw.reads (hok:HOk P w H h) (KX:K.In h):∀ (d:WData) (v:V) (u:Value),Dw K H v d→RelV v u→∃ as,ReadsW R cl h u d as
 | .none,_,_,x,r=>by
  cases x
  cases r
  exact ⟨_,ReadsW.none⟩
 | .bool b,_,_,x,r=>by
  cases x
  cases r
  exact ⟨_,ReadsW.bool b⟩
 | .int i,_,_,x,r=>by
  cases x
  obtain ⟨t,rfl⟩:=r
  exact ⟨_,ReadsW.int i t⟩
 | .str s,_,_,x,r=>by
  cases x
  obtain ⟨t,rfl⟩:=r
  exact ⟨_,ReadsW.str s t⟩
 | .bytes b,_,_,x,r=>by
  cases x
  obtain ⟨t,rfl⟩:=r
  exact ⟨_,ReadsW.bytes _ t⟩
 | .list ds,_,_,x,r=>by
  cases x with
  | lst hs ha =>
   cases r
   obtain ⟨its,o,n,rv,ho,hc,hd⟩:=zky hok KX hs
   obtain ⟨as,hr⟩:=Dw.readsAll hok KX ds _ its ha rv
   exact ⟨_,ReadsW.list ho hc hd hr⟩
 | .tuple ds,_,_,x,r=>by
  cases x with
  | tup hs ha =>
   cases r
   obtain ⟨its,o,n,rv,ho,hc,hd⟩:=zkx hok KX hs
   obtain ⟨as,hr⟩:=Dw.readsAll hok KX ds _ its ha rv
   exact ⟨_,ReadsW.tuple ho hc hd hr⟩
 | .float _,_,_,x,_=>by cases x
 | .dict _,_,_,x,_=>by cases x
 | .bytearray _,_,_,x,_=>by cases x
 | .set _,_,_,x,_=>by cases x
 | .frozenset _,_,_,x,_=>by cases x
 | .obj _ _,_,_,x,_=>by cases x
theorem Dw.readsAll (hok:HOk P w H h) (KX:K.In h):∀ (ds:List WData) (vs:List V) (us:List Value),DwAll K H vs ds→Vals vs us→∃ as,ReadsAllW R cl h us ds as
 | [],_,_,x,r=>by
  cases x
  cases r
  exact ⟨_,ReadsAllW.nil⟩
 | d::ds,_,_,x,r=>by
  cases x with
  | cons h1 h2 =>
   cases r with
   | cons r1 r2 =>
    obtain ⟨as,q1⟩:=Dw.reads hok KX d _ _ h1 r1
    obtain ⟨bs,q2⟩:=Dw.readsAll hok KX ds _ _ h2 r2
    exact ⟨_,ReadsAllW.cons q1 q2⟩
end
end
mutual
/-- data that a codec tells -/
def plW:WData→Bool
 | .none=>true
 | .bool _=>true
 | .int _=>true
 | .str _=>true
 | .bytes _=>true
 | .list xs=>plWs xs
 | .tuple xs=>plWs xs
 | _=>false
def plWs:List WData→Bool
 | []=>true
 | x::r=>plW x && plWs r
end
theorem zgF {α:Type} {f:α→WData} (h:∀ a,plW (f a)=true):∀ l:List α,plWs (l.map f)=true
 | []=>rfl
 | x::r=>by
  show (plW (f x) && plWs (r.map f))=true
  rw [h x,zgF h r]<;>rfl
theorem zda:∀ (c:Codec) (a:c.denote),plW (c.enc a)=true
 | .unit,_=>rfl
 | .bool,_=>rfl
 | .int _ _,_=>rfl
 | .nat _ _,_=>rfl
 | .u8,_=>rfl
 | .bytes _ _,_=>rfl
 | .text _ _ _ _,_=>rfl
 | .list _ _ c,a=>zgF (fun x=>zda c x) a
 | .pair c d,a=>by
  show (plW (c.enc a.1) && (plW (d.enc a.2) && true))=true
  rw [zda c a.1,zda d a.2]<;>rfl
 | .triple c d e,a=>by
  show (plW (c.enc a.1) && (plW (d.enc a.2.1) && (plW (e.enc a.2.2) && true)))=true
  rw [zda c a.1,zda d a.2.1,zda e a.2.2]<;>rfl
 | .option c,none=>rfl
 | .option c,some x=>zda c x
theorem zfx:∀ (cs:List Codec) (a:Codec.denoteAll cs),plWs (Codec.encAll cs a)=true
 | [],_=>rfl
 | c::cs,a=>by
  show (plW (c.enc a.1) && plWs (Codec.encAll cs a.2))=true
  rw [zda c a.1,zfx cs a.2]<;>rfl
theorem zcS:∀ {xs:List WData} {d:WData},d∈xs→d.weight≤WData.weightAll xs
 | [],d,h=>absurd h (by simp)
 | x::r,d,h=>by
  show d.weight≤x.weight+1+WData.weightAll r
  rcases List.mem_cons.mp h with e | m
  ·rw [e]
   omega
  ·have z:=zcS m
   omega
def toV:Value→V
 | .none=>.non
 | .bool b=>.bl b
 | .int i _=>.int i
 | .str x _=>.str x
 | .bytes b _=>.byt b
 | .ref a=>.ref a
 | _=>.non
def OkU (A:List Addr):Value→Prop
 | .none=>True
 | .bool _=>True
 | .int _ _=>True
 | .str _ _=>True
 | .bytes _ _=>True
 | .ref a=>a∈A
 | _=>False
theorem OkU.mono {A B:List Addr} (h:∀ a∈A,a∈B):∀ {u:Value},OkU A u→OkU B u:=fun {u} x=>by
 cases u with
 | ref a=>exact h a x
 | none=>trivial
 | bool b=>trivial
 | int i t=>trivial
 | str s t=>trivial
 | bytes b t=>trivial
 | _=>exact False.elim x
theorem zji {A:List Addr} {u:Value} (x:OkU A u):RelV (toV u) u:=by
 cases u with
 | ref a=>rfl
 | none=>rfl
 | bool b=>rfl
 | int i t=>exact ⟨t,rfl⟩
 | str s t=>exact ⟨t,rfl⟩
 | bytes b t=>exact ⟨t,rfl⟩
 | _=>exact False.elim x
theorem zci {A:List Addr}:∀ {vs:List Value},(∀ u∈vs,OkU A u)→Vals (vs.map toV) vs
 | [],_=>.nil
 | u::r,h=>.cons (zji (h u (List.mem_cons_self ..))) (zci fun x hx=>h x (List.mem_cons_of_mem _ hx))
def ArgOb (h:Heap) (A:List Addr) (a:Addr):Prop:=∃ vs:List Value,vs.length≤sizeLine∧(∀ u∈vs,OkU A u) ∧
 (h.get? a=some { cls:=.type "list",data:=.seq vs.toArray }∨h.get? a=some { cls:=.type "tuple",data:=.seq vs.toArray })
theorem ArgOb.mono {h:Heap} {A B:List Addr} {a:Addr} (k:∀ a∈A,a∈B) (x:ArgOb h A a):ArgOb h B a:=by
 obtain ⟨vs,h1,h2,h3⟩:=x
 exact ⟨vs,h1,fun u hu=>(h2 u hu).mono k,h3⟩
theorem zbW {P:Params} {h:Heap}:∀ {vs:List Value} {ds:List WData},WellAll P h vs ds→vs.length=ds.length
 | _,_,.nil=>rfl
 | _,_,.cons _ b=>by
  show _+1=_+1
  rw [zbW b]
theorem zfe {P:Params} {h:Heap} {v:Value} {ds:List WData} (x:Well P h v (.list ds)):∃ (a:Addr) (vs:List Value),v = .ref a∧h.get? a=some { cls:=.type "list",data:=.seq vs.toArray }∧WellAll P h vs ds:=by
 cases x with
 | list ho hall=>exact ⟨_,_,rfl,ho,hall⟩
theorem zee {P:Params} {h:Heap} {v:Value} {ds:List WData} (x:Well P h v (.tuple ds)):∃ (a:Addr) (vs:List Value),v = .ref a∧h.get? a=some { cls:=.type "tuple",data:=.seq vs.toArray }∧WellAll P h vs ds:=by
 cases x with
 | tuple ho hall=>exact ⟨_,_,rfl,ho,hall⟩
theorem zff {P:Params} {h:Heap} {us:List Value} {d:WData} {ds:List WData} (x:WellAll P h us (d::ds)):∃ (v:Value) (vs:List Value),us=v::vs∧Well P h v d∧WellAll P h vs ds:=by
 cases x with
 | cons a b=>exact ⟨_,_,rfl,a,b⟩
theorem zio {n:Nat} (h:n≤1048576):n≤sizeLine:=Nat.le_trans h (by decide)
section
variable {P:Params} {h:Heap}
mutual
theorem zjG:∀ (d:WData) (v:Value),Well P h v d→plW d=true→d.weight≤1048576→∃ A:List Addr,OkU A v∧∀ a∈A,ArgOb h A a
 | .none,_,x,_,_=>by
  cases x
  exact ⟨[],trivial,fun a m=>absurd m (by simp)⟩
 | .bool b,_,x,_,_=>by
  cases x
  exact ⟨[],trivial,fun a m=>absurd m (by simp)⟩
 | .int i,_,x,_,_=>by
  cases x
  exact ⟨[],trivial,fun a m=>absurd m (by simp)⟩
 | .str s,_,x,_,_=>by
  cases x
  exact ⟨[],trivial,fun a m=>absurd m (by simp)⟩
 | .bytes b,_,x,_,_=>by
  cases x
  exact ⟨[],trivial,fun a m=>absurd m (by simp)⟩
 | .list ds,_,x,p,z=>by
  obtain ⟨a,vs,rfl,ho,hall⟩:=zfe x
  have z2:WData.weightAll ds≤1048576:=z
  obtain ⟨A,h1,h2⟩:=zdp ds _ hall p fun d hd=>Nat.le_trans (zcS hd) z2
  have k:∀ b∈A,b∈a::A:=fun b hb=>List.mem_cons_of_mem _ hb
  refine ⟨a::A,List.mem_cons_self ..,fun b hb=>?_⟩
  rcases List.mem_cons.mp hb with e | m
  ·rw [e]
   exact ⟨vs,zio (by rw [zbW hall]; exact Nat.le_trans (PySem.W.length_le_weightAllW ds) z2),fun u hu=>(h1 u hu).mono k,.inl ho⟩
  ·exact (h2 b m).mono k
 | .tuple ds,_,x,p,z=>by
  obtain ⟨a,vs,rfl,ho,hall⟩:=zee x
  have z2:WData.weightAll ds≤1048576:=z
  obtain ⟨A,h1,h2⟩:=zdp ds _ hall p fun d hd=>Nat.le_trans (zcS hd) z2
  have k:∀ b∈A,b∈a::A:=fun b hb=>List.mem_cons_of_mem _ hb
  refine ⟨a::A,List.mem_cons_self ..,fun b hb=>?_⟩
  rcases List.mem_cons.mp hb with e | m
  ·rw [e]
   exact ⟨vs,zio (by rw [zbW hall]; exact Nat.le_trans (PySem.W.length_le_weightAllW ds) z2),fun u hu=>(h1 u hu).mono k,.inr ho⟩
  ·exact (h2 b m).mono k
 | .float _,_,_,p,_=>Bool.noConfusion (show false=true from p)
 | .dict _,_,_,p,_=>Bool.noConfusion (show false=true from p)
 | .bytearray _,_,_,p,_=>Bool.noConfusion (show false=true from p)
 | .set _,_,_,p,_=>Bool.noConfusion (show false=true from p)
 | .frozenset _,_,_,p,_=>Bool.noConfusion (show false=true from p)
 | .obj _ _,_,_,p,_=>Bool.noConfusion (show false=true from p)
theorem zdp:∀ (ds:List WData) (vs:List Value),WellAll P h vs ds→plWs ds=true→(∀ d∈ds,d.weight≤1048576)→∃ A:List Addr,(∀ u∈vs,OkU A u)∧∀ a∈A,ArgOb h A a
 | [],_,x,_,_=>by
  cases x
  exact ⟨[],fun u m=>absurd m (by simp),fun a m=>absurd m (by simp)⟩
 | d::ds,_,x,p,z=>by
  obtain ⟨v,vs,rfl,x1,x2⟩:=zff x
  have q:plW d=true∧plWs ds=true:=Bool.and_eq_true_iff.mp p
  obtain ⟨A,a1,a2⟩:=zjG d v x1 q.1 (z d (List.mem_cons_self ..))
  obtain ⟨B,b1,b2⟩:=zdp ds vs x2 q.2 fun e he=>z e (List.mem_cons_of_mem _ he)
  have kA:∀ b∈A,b∈A++B:=fun b hb=>List.mem_append.mpr (.inl hb)
  have kB:∀ b∈B,b∈A++B:=fun b hb=>List.mem_append.mpr (.inr hb)
  refine ⟨A++B,fun u hu=>?_,fun b hb=>?_⟩
  ·rcases List.mem_cons.mp hu with e | m
   ·rw [e]
    exact a1.mono kA
   ·exact (b1 u m).mono kB
  ·rcases List.mem_append.mp hb with m | m
   ·exact (a2 b m).mono kA
   ·exact (b2 b m).mono kB
end
end
def hoOf (o:Obj):Option HO:=match o.data with
 | .seq vs _=>if (o.cls == Value.type "list")=true then some (.frz o (.lst (vs.toList.map toV))) else some (.frz o (.tup (vs.toList.map toV)))
 | _=>none
def argH (K:PySem.W.Frag) (h:Heap) (A:List Addr):Hp:=fun b=>if b∈A then (if (K.lookup b).isNone=true then (h.get? b).bind hoOf else none) else none
def OnlyF (H:Hp):Prop:=∀ b,H b=none∨∃ o u,H b=some (.frz o u)
theorem zgQ (vs:List Value):hoOf { cls:=.type "list",data:=.seq vs.toArray }=some (.frz { cls:=.type "list",data:=.seq vs.toArray } (.lst (vs.map toV))):=by
 show (if (Value.type "list" == Value.type "list")=true then some (HO.frz { cls:=.type "list",data:=.seq vs.toArray } (.lst (vs.toArray.toList.map toV))) else some (HO.frz { cls:=.type "list",data:=.seq vs.toArray } (.tup (vs.toArray.toList.map toV))))=_
 rw [if_pos (beq_self_eq_true _)]
theorem zgP (vs:List Value):hoOf { cls:=.type "tuple",data:=.seq vs.toArray }=some (.frz { cls:=.type "tuple",data:=.seq vs.toArray } (.tup (vs.map toV))):=by
 show (if (Value.type "tuple" == Value.type "list")=true then some (HO.frz { cls:=.type "tuple",data:=.seq vs.toArray } (.lst (vs.toArray.toList.map toV))) else some (HO.frz { cls:=.type "tuple",data:=.seq vs.toArray } (.tup (vs.toArray.toList.map toV))))=_
 rw [if_neg (by decide)]
section
variable {P:Program} {w:World} {K:PySem.W.Frag} {h:Heap} {A:List Addr}
theorem zfc {b:Addr} {o:Obj} (hb:b∈A) (hk:K.lookup b=none) (e:h.get? b=some o):argH K h A b=hoOf o:=by
 unfold argH
 rw [if_pos hb,hk,if_pos (show (none:Option Obj).isNone=true from rfl),e]<;>rfl
theorem zkd {b:Addr} {u:HO} (q:argH K h A b=some u):b∈A∧K.lookup b=none:=by
 unfold argH at q
 by_cases hb:b∈A
 ·rw [if_pos hb] at q
  cases hk:K.lookup b with
  | none=>exact ⟨hb,rfl⟩
  | some o =>
   rw [hk,if_neg (by simp)] at q
   cases q
 ·rw [if_neg hb] at q
  cases q
theorem zfb (ar:∀ a∈A,ArgOb h A a) {b:Addr} {u:HO} (q:argH K h A b=some u):K.lookup b=none∧∃ vs:List Value,vs.length≤sizeLine∧(∀ u∈vs,OkU A u) ∧
    ((h.get? b=some { cls:=.type "list",data:=.seq vs.toArray }∧u = .frz { cls:=.type "list",data:=.seq vs.toArray } (.lst (vs.map toV))) ∨
     (h.get? b=some { cls:=.type "tuple",data:=.seq vs.toArray }∧u = .frz { cls:=.type "tuple",data:=.seq vs.toArray } (.tup (vs.map toV)))):=by
  obtain ⟨hb,hk⟩:=zkd q
  obtain ⟨vs,h1,h2,h3⟩:=ar b hb
  refine ⟨hk,vs,h1,h2,?_⟩
  rcases h3 with e | e
  · rw [zfc hb hk e,zgQ] at q
    exact .inl ⟨e,(Option.some.inj q).symm⟩
  · rw [zfc hb hk e,zgP] at q
    exact .inr ⟨e,(Option.some.inj q).symm⟩
theorem zi4 (ar:∀ a∈A,ArgOb h A a):OnlyF (argH K h A):=fun b=>by
 cases q:argH K h A b with
 | none=>exact .inl rfl
 | some u =>
  obtain ⟨_,vs,_,_,⟨_,e⟩ | ⟨_,e⟩⟩:=zfb ar q
  ·exact .inr ⟨_,_,by rw [e]⟩
  ·exact .inr ⟨_,_,by rw [e]⟩
theorem zks (ar:∀ a∈A,ArgOb h A a):HOk P w (argH K h A) h:=fun b u q=>by
 obtain ⟨_,vs,h1,h2,⟨e,rfl⟩ | ⟨e,rfl⟩⟩:=zfb ar q
 ·exact ⟨e,by rw [List.length_map]; exact h1,vs,_,zci h2,e⟩
 ·exact ⟨e,by rw [List.length_map]; exact h1,vs,zci h2,_,e,rfl,_,rfl⟩
theorem zeB {c c':Value} {vs us:List Value} (e:(some { cls:=c,data:=.seq vs.toArray }:Option Obj)=some { cls:=c',data:=.seq us.toArray }):c=c'∧vs=us:=by
 have e1:=Option.some.inj e
 have e2:c=c':=congrArg Obj.cls e1
 have e3:Data.seq vs.toArray=Data.seq us.toArray:=congrArg Obj.data e1
 injection e3 with e4
 refine ⟨e2,?_⟩
 have e5:=congrArg Array.toList e4
 simpa using e5
theorem argL (KX:K.In h) (ar:∀ a∈A,ArgOb h A a) {a:Addr} {vs:List Value} (ha:a∈A) (e:h.get? a=some { cls:=.type "list",data:=.seq vs.toArray }):(∀ u∈vs,OkU A u)∧SqL K (argH K h A) a (vs.map toV):=by
 obtain ⟨us,h1,h2,h3⟩:=ar a ha
 have hu:us=vs:=by
  rcases h3 with q | q
  ·rw [e] at q
   exact (zeB q).2.symm
  ·rw [e] at q
   exact absurd (Value.type.inj (zeB q).1) (by decide)
 subst hu
 refine ⟨h2,?_⟩
 cases hk:K.lookup a with
 | none=>exact .inl (.inr ⟨_,by rw [zfc ha hk e,zgQ]⟩)
 | some o =>
  have e2:=KX a o hk
  rw [e] at e2
  obtain rfl:=Option.some.inj e2
  exact .inr ⟨_,us.toArray,_,hk,rfl,rfl,rfl,by rw [List.size_toArray]; exact h1,by simpa using zci h2⟩
theorem argT (KX:K.In h) (ar:∀ a∈A,ArgOb h A a) {a:Addr} {vs:List Value} (ha:a∈A) (e:h.get? a=some { cls:=.type "tuple",data:=.seq vs.toArray }):(∀ u∈vs,OkU A u)∧SqT K (argH K h A) a (vs.map toV):=by
 obtain ⟨us,h1,h2,h3⟩:=ar a ha
 have hu:us=vs:=by
  rcases h3 with q | q
  ·rw [e] at q
   exact absurd (Value.type.inj (zeB q).1) (by decide)
  ·rw [e] at q
   exact (zeB q).2.symm
 subst hu
 refine ⟨h2,?_⟩
 cases hk:K.lookup a with
 | none=>exact .inl (.inr ⟨_,by rw [zfc ha hk e,zgP]⟩)
 | some o =>
  have e2:=KX a o hk
  rw [e] at e2
  obtain rfl:=Option.some.inj e2
  exact .inr ⟨_,us.toArray,_,hk,rfl,rfl,by rw [List.size_toArray]; exact h1,by simpa using zci h2⟩
mutual
theorem zk5 {Pm:Params} (KX:K.In h) (ar:∀ a∈A,ArgOb h A a):∀ (d:WData) (v:Value),Well Pm h v d→plW d=true→OkU A v→Dw K (argH K h A) (toV v) d
 | .none,_,x,_,_=>by
  cases x
  exact .non
 | .bool b,_,x,_,_=>by
  cases x
  exact .bl b
 | .int i,_,x,_,_=>by
  cases x
  exact .int i
 | .str s,_,x,_,_=>by
  cases x
  exact .str s
 | .bytes b,_,x,_,_=>by
  cases x
  have z:=Dw.byt (K:=K) (H:=argH K h A) b.toArray
  exact z
 | .list ds,_,x,p,hu=>by
  obtain ⟨a,vs,rfl,ho,hall⟩:=zfe x
  obtain ⟨h2,hs⟩:=argL KX ar hu ho
  exact .lst hs (zgW KX ar ds _ hall p h2)
 | .tuple ds,_,x,p,hu=>by
  obtain ⟨a,vs,rfl,ho,hall⟩:=zee x
  obtain ⟨h2,hs⟩:=argT KX ar hu ho
  exact .tup hs (zgW KX ar ds _ hall p h2)
 | .float _,_,_,p,_=>Bool.noConfusion (show false=true from p)
 | .dict _,_,_,p,_=>Bool.noConfusion (show false=true from p)
 | .bytearray _,_,_,p,_=>Bool.noConfusion (show false=true from p)
 | .set _,_,_,p,_=>Bool.noConfusion (show false=true from p)
 | .frozenset _,_,_,p,_=>Bool.noConfusion (show false=true from p)
 | .obj _ _,_,_,p,_=>Bool.noConfusion (show false=true from p)
theorem zgW {Pm:Params} (KX:K.In h) (ar:∀ a∈A,ArgOb h A a):∀ (ds:List WData) (vs:List Value),WellAll Pm h vs ds→plWs ds=true→(∀ u∈vs,OkU A u)→DwAll K (argH K h A) (vs.map toV) ds
 | [],_,x,_,_=>by
  cases x
  exact .nil
 | d::ds,_,x,p,hu=>by
  obtain ⟨v,vs,rfl,x1,x2⟩:=zff x
  have q:plW d=true∧plWs ds=true:=Bool.and_eq_true_iff.mp p
  exact .cons (zk5 KX ar d v x1 q.1 (hu _ (List.mem_cons_self ..))) (zgW KX ar ds vs x2 q.2 fun u m=>hu u (List.mem_cons_of_mem _ m))
end
end
theorem zhA {P:Program} {w:World} {K:PySem.W.Frag} {mg mb:Str→Option Value} {CX:CXT} {k:Nat} {fa:Addr} {fd:FuncData} {ps:List Str} {sp:Sp} {s₁:Shared} {vals:List Value} {ds:List WData} {R:PySem.W.WRecords} {cl:Str→Option Addr} {d0:WData}
  (KX:K.In s₁.heap) (hns:s₁.heap.Ns mainGlobals mg) (hb:s₁.heap.Ns builtinsNs mb) (hbb:∀ x:Str,x≠"__name__"→mb x=bootBuiltins x) (hlim:s₁.heap.NoLimit) (hg:s₁.gens=#[])
  (hwl:WellAll w.params s₁.heap vals ds) (hpl:plWs ds=true) (hwt:∀ d∈ds,d.weight≤1048576) (hr:Room k callerA)
  (F:∀ base:Heap,K.In base→base.Ns mainGlobals mg→FnOk P w K mg base CX k fa fd ps sp) (hbind:∀ (s:Shared) (us:List Value),us.length=ps.length→BindsTo s fd ⟨us,[]⟩ (ps.zip us)) (hlen:ds.length=ps.length)
  (hsp:∀ (H:Hp) (xs:List V),OnlyF H→DwAll K H xs ds→sp xs H (fun v H'=>Dw K H' v d0) fun _ _ _=>False)
  (hCX:∀ H e s',CX [] H s₁ (fun _ _ _=>False) e s'→False) :
  codeAny (model P w) callerA (.call (.ref fa) ⟨vals,[]⟩) (fun r s'=>∃ u as,r = .ok (.ret u)∧ReadsW R cl s'.heap u d0 as∧OldK s₁.heap s'.heap∧s'.os=s₁.os∧AllBare s'.gens) s₁:=by
 obtain ⟨A,ho,ar⟩:=zdp ds vals hwl hpl hwt
 have hO:OnlyF (argH K s₁.heap A):=zi4 ar
 have hok:HOk P w (argH K s₁.heap A) s₁.heap:=zks ar
 have hS:=zgW KX ar ds vals hwl hpl ho
 have hV:=zci ho
 have hK:∀ b u,argH K s₁.heap A b=some u→K.lookup b=none:=fun b u q=>(zfb ar q).1
 have noA:∀ {b:Addr} {o:Obj} {es:Array DictEntry} {ep:Nat},s₁.heap.get? b=some o→o.data = .dict es ep→argH K s₁.heap A b=none:=fun {b o es ep} e d=>by
  cases q:argH K s₁.heap A b with
  | none=>rfl
  | some u =>
   obtain ⟨_,vs,_,_,⟨e2,_⟩ | ⟨e2,_⟩⟩:=zfb ar q
   ·rw [e2] at e
    cases e
    have d':Data.seq vs.toArray _=Data.dict es ep:=d
    cases d'
   ·rw [e2] at e
    cases e
    have d':Data.seq vs.toArray _=Data.dict es ep:=d
    cases d'
 generalize argH K s₁.heap A=H at hO hok hS hK noA
 have base_of:∀ {b:Addr} {o:Obj},s₁.heap.get? b=some o→H b=none→(hidT s₁.heap H).get? b=some o:=fun e n=>zjx e n
 have nsK:∀ {b:Addr} {m:Str→Option Value},s₁.heap.Ns b m→(hidT s₁.heap H).Ns b m:=fun {b m} ⟨o,es,ep,e,d,r⟩=>⟨o,es,ep,base_of e (noA e d),d,r⟩
 have nK:∀ b o,K.lookup b=some o→H b=none:=fun b o e=>by
  cases q:H b with
  | none=>rfl
  | some u =>
   rw [hK b u q] at e
   cases e
 have hKb:K.In (hidT s₁.heap H):=fun b o e=>base_of (KX b o e) (nK b o e)
 have hM:Mod K mg (hidT s₁.heap H):=⟨hKb,nsK hns,⟨mb,nsK hb,hbb⟩,let ⟨mc,h1,h2⟩:=hlim; ⟨mc,nsK h1,h2⟩⟩
 have e0:Env0 P w K mg (hidT s₁.heap H) callerA [] s₁ H:=⟨rfl,hM,fun b o e=>zkc e,Nat.le_of_eq (ziB _ _),trivial,fun b hb=>absurd (show b∈([]:List Addr) from hb) (by simp),hok,.of_eq hg⟩
 have hl:vals.length=ps.length:=by rw [zbW hwl]; exact hlen
 refine codeAny_mono ((F _ hKb (nsK hns)).run callerA [] s₁ H ⟨vals,[]⟩ vals (vals.map toV) _ _ hr e0 (hbind s₁ vals hl) hV (hsp H _ hO hS)) fun r s' x=>?_
 cases r with
 | error e=>exact (hCX H e s' x).elim
 | ok fl =>
  cases fl with
  | next=>exact False.elim x
  | brk=>exact False.elim x
  | cont=>exact False.elim x
  | ret u =>
   obtain ⟨v,H',os,bare,un,hok',r',q⟩:=x
   have kept:∀ b o,s₁.heap.get? b=some o→s'.heap.get? b=some o:=fun b o e=>by
    cases q2:H b with
    | none=>exact un.keep b o e q2 (by intro z; exact absurd (show b∈([]:List Addr) from z) (by simp)) (by simp)
    | some u2 =>
     rcases hO b with z | ⟨ob,u3,z⟩
     ·rw [q2] at z
      cases z
     ·have z2:=un.frzs b ob _ z
      obtain ⟨e1,_⟩:=hok b _ z
      obtain ⟨e2,_⟩:=hok' b _ z2
      rw [e] at e1
      cases e1
      exact e2
   have KX':K.In s'.heap:=fun b o e=>kept b o (KX b o e)
   obtain ⟨as,hrd⟩:=Dw.reads (R:=R) (cl:=cl) hok' KX' d0 v u q r'
   exact ⟨u,as,rfl,hrd,OldK.of_keep kept,os,bare⟩
theorem zec {ds:List WData} (h:WData.layableAll ds=true):∀ d∈ds,d.weight≤1048576:=fun d hd =>
 (PySem.W.layableW_iff.mp (List.all_eq_true.mp h d hd)).2.2
theorem zer:∀ (cs:List Codec) (a:Codec.denoteAll cs),(Codec.encAll cs a).length=cs.length
 | [],_=>rfl
 | c::cs,a=>by
  show (Codec.encAll cs a.2).length+1=cs.length+1
  rw [zer cs a.2]
theorem zhw {r:OpenSpec} {k:Nat} {q:Program} {loose:List Str} {XP:(Str→Option Value)→Heap→Prop} {YP:World→Heap→Prop} {d:DefRec} {K:Params→PySem.W.Frag} {CX:World→CXT} {ps:List Str} {sp:World→Sp}
  (hwell:r.wellSaid=true) (hdf:d.params.defaults=[]) (hlen:r.args.length=ps.length) (hr:Room k callerA)
  (hY:∀ (w:World) (h:Heap),YP w h→(K w.params).In h)
  (F:∀ (w:World) (mg:Str→Option Value) (fa:Addr) (h:Heap),YP w h→(K w.params).In h→h.Ns mainGlobals mg→mg d.name=some (.ref fa) →
   ∃ fd:FuncData,(∀ (s:Shared) (us:List Value),us.length=ps.length→BindsTo s fd ⟨us,[]⟩ (ps.zip us)) ∧
    ∀ base:Heap,(K w.params).In base→base.Ns mainGlobals mg→FnOk r.prog w (K w.params) mg base (CX w) k fa fd ps (sp w))
  (hsp:∀ (w:World) (H:Hp) (xs:List V) (a:Codec.denoteAll r.args),OnlyF H→Codec.withinAll r.args a=true→Codec.app r.args r.asked a=true→DwAll (K w.params) H xs (Codec.encAll r.args a) →
   sp w xs H (fun v H'=>Dw (K w.params) H' v (r.ret.enc (Codec.app r.args r.f a))) fun _ _ _=>False)
  (hCX:∀ (w:World) (H:Hp) (s:Shared) (e:Value) (s':Shared),CX w [] H s (fun _ _ _=>False) e s'→False) :
  PySem.W.WalkOS q loose XP YP r d [] (fun f vs=>PySem.call f vs):=by
 intro w s_0 s₁ mg mb G Y fa o pm cd doc dV kV ho hd hcd hD hmg hg args vals as hpre hlay hrd hwl hlo
 obtain ⟨a,e1,e2⟩:=PySem.W.os_pre_some hpre
 obtain ⟨e3,hwi⟩:=Codec.encAll_of_decAll r.args args a e1
 subst e3
 have KX:=hY w _ Y
 obtain ⟨fd,hb,hF⟩:=F w mg fa _ Y KX G.T.g hmg
 refine PySem.W.enter_call (codeAny_mono (zhA (R:=[]) (cl:=classAt s_0.heap) (d0:=r.ret.enc (Codec.app r.args r.f a)) KX G.T.g G.T.b G.T.builtins G.T.nolimit hg hwl (zfx _ _) (zec hlay) hr hF hb (by rw [zer]; exact hlen)
  (fun H xs hO hS=>hsp w H xs a hO hwi e2 hS) fun H e s'=>hCX w H s₁ e s') fun r' s' hq=>?_)
 obtain ⟨u,as',rfl,h1,h2,h3,h4⟩:=hq
 exact ⟨.inl ⟨u,_,as',rfl,fun _=>rfl,h1,(OpenSpec.post_iff hwell hwi _ _).mpr rfl,fun z=>Bool.noConfusion (show false=true from z)⟩,h2,h3,h4⟩
theorem walk_specK {r:OpenSpec} {k:Nat} {q:Program} {loose:List Str} {XP:(Str→Option Value)→Heap→Prop} {YP:World→Heap→Prop} {d:DefRec} {K:Params→PySem.W.Frag} {CX:CXT} {ps:List Str} {sp:PySem.W.Frag→Sp}
  (hwell:r.wellSaid=true) (hdf:d.params.defaults=[]) (hlen:r.args.length=ps.length) (hr:Room k callerA)
  (hY:∀ (w:World) (h:Heap),YP w h→(K w.params).In h)
  (F:∀ (w:World) (mg:Str→Option Value) (fa:Addr) (h:Heap),YP w h→(K w.params).In h→h.Ns mainGlobals mg→mg d.name=some (.ref fa) →
   ∃ fd:FuncData,(∀ (s:Shared) (us:List Value),us.length=ps.length→BindsTo s fd ⟨us,[]⟩ (ps.zip us)) ∧
    ∀ base:Heap,(K w.params).In base→base.Ns mainGlobals mg→FnOk r.prog w (K w.params) mg base CX k fa fd ps (sp (K w.params)))
  (hsp:∀ (K:PySem.W.Frag) (H:Hp) (xs:List V) (a:Codec.denoteAll r.args),OnlyF H→Codec.withinAll r.args a=true→Codec.app r.args r.asked a=true→DwAll K H xs (Codec.encAll r.args a) →
   sp K xs H (fun v H'=>Dw K H' v (r.ret.enc (Codec.app r.args r.f a))) fun _ _ _=>False)
  (hCX:∀ (H:Hp) (s:Shared) (e:Value) (s':Shared),CX [] H s (fun _ _ _=>False) e s'→False) :
  PySem.W.WalkOS q loose XP YP r d [] (fun f vs=>PySem.call f vs) :=
 zhw (K:=K) (CX:=fun _=>CX) (sp:=fun w=>sp (K w.params)) hwell hdf hlen hr hY F (fun w H xs a h1 h2 h3 h4=>hsp (K w.params) H xs a h1 h2 h3 h4) fun _ H s e s'=>hCX H s e s'
end L2
end
section
namespace Tt
open PySem PySem.Spec PyProof.Rows L2
def stays:HO→Prop
 | .tup _=>True
 | .frz _ _=>True
 | _=>False
structure Ext (S:Addr→Prop) (H H':Hp):Prop where
 kp:∀ b o,H b=some o→(S b→stays o)→H' b=some o
 dom:∀ b,H' b=none→H b=none
instance {S:Addr→Prop} {H H':Hp}:CoeFun (Ext S H H') (fun _=>∀ b o,H b=some o→(S b→stays o)→H' b=some o):=⟨Ext.kp⟩
theorem Ext.refl {S:Addr→Prop} {H:Hp}:Ext S H H:=⟨fun _ _ h _=>h,fun _ h=>h⟩
theorem Ext.mono {S S':Addr→Prop} {H H':Hp} (e:Ext S H H') (h:∀ b o,H b=some o→S b→¬ stays o→S' b):Ext S' H H':=⟨fun b o hb hs=>by
 by_cases q:stays o
 ·exact e.kp b o hb fun _=>q
 ·exact e.kp b o hb fun z=>hs (h b o hb z q),e.dom⟩
theorem Ext.trans {S:Addr→Prop} {H H1 H2:Hp} (e:Ext S H H1) (f:Ext S H1 H2):Ext S H H2:=⟨fun b o h k=>f.kp b o (e.kp b o h k) k,fun b h=>e.dom b (f.dom b h)⟩
theorem _root_.L2.Same.ext {S:Addr→Prop} {H H':Hp} (e:Same H H'):Ext S H H':=⟨fun b o h _=>e b o h,fun _ h=>e.free h⟩
theorem zbG {S:Addr→Prop} {H:Hp} {a:Addr} {o o':HO} (h:H a=some o) (hs:¬ stays o) (ha:S a):Ext S H (upd H a o'):=⟨fun b u hb k=>by
 by_cases q:b=a
 ·subst q
  rw [h] at hb
  cases hb
  exact absurd (k ha) hs
 ·rw [zaA q]
  exact hb,fun b hb=>by
 by_cases q:b=a
 ·subst q
  rw [zai] at hb
  cases hb
 ·rw [zaA q] at hb
  exact hb⟩
theorem zaz {H:Hp} {a:Addr} {o:HO} (h:H a=none):Same H (upd H a o):=fun b u hb=>by
 rw [zaA (zag hb h)]
 exact hb
theorem Ext.tup {S:Addr→Prop} {H H':Hp} {a:Addr} {xs:List V} (e:Ext S H H') (h:H a=some (.tup xs)):H' a=some (.tup xs):=e a _ h fun _=>trivial
theorem Ext.sqT {S:Addr→Prop} {K:PySem.W.Frag} {H H':Hp} {a:Addr} {xs:List V} (e:Ext S H H') (h:SqT K H a xs):SqT K H' a xs:=by
 rcases h with (h | ⟨o,h⟩) | h
 ·exact .inl (.inl (e _ _ h fun _=>trivial))
 ·exact .inl (.inr ⟨o,e _ _ h fun _=>trivial⟩)
 ·exact .inr h
theorem Ext.at {S:Addr→Prop} {H H':Hp} {a:Addr} {o:HO} (e:Ext S H H') (h:H a=some o) (n:¬ S a):H' a=some o:=e a o h fun z=>absurd z n
structure FunAt (K:PySem.W.Frag) (mg:Str→Option Value) (name:Str) (st:Stmt):Prop where
 ex:∃ f fd,mg name=some (.ref f)∧Fun K name name st f fd
structure Def (P:Program) (w:World) (K:PySem.W.Frag) (mg:Str→Option Value) (base:Heap) (name:Str) (k:Nat) (ps:List Str) (sp:Sp):Prop where
 ex:∃ f fd,mg name=some (.ref f)∧PySem.W.keepIn K (.ref f)=true∧Binds K fd ps []∧FnOk P w K mg base CX0 k f fd ps sp
theorem ar1 {p:Str} {C:List Value→Prop} (h:∀ a,C [a]):∀ us:List Value,us.length=[p].length→C us
 | [a],_=>h a
theorem ar2 {p q:Str} {C:List Value→Prop} (h:∀ a b,C [a,b]):∀ us:List Value,us.length=[p,q].length→C us
 | a::us,e=>ar1 (p:=q) (C:=fun l=>C (a::l)) (h a) us (Nat.succ.inj e)
theorem ar3 {p q r:Str} {C:List Value→Prop} (h:∀ a b c,C [a,b,c]):∀ us:List Value,us.length=[p,q,r].length→C us
 | a::us,e=>ar2 (p:=q) (q:=r) (C:=fun l=>C (a::l)) (h a) us (Nat.succ.inj e)
theorem ar4 {p q r s:Str} {C:List Value→Prop} (h:∀ a b c d,C [a,b,c,d]):∀ us:List Value,us.length=[p,q,r,s].length→C us
 | a::us,e=>ar3 (p:=q) (q:=r) (r:=s) (C:=fun l=>C (a::l)) (h a) us (Nat.succ.inj e)
theorem ar5 {p q r s t:Str} {C:List Value→Prop} (h:∀ a b c d e,C [a,b,c,d,e]):∀ us:List Value,us.length=[p,q,r,s,t].length→C us
 | a::us,e=>ar4 (p:=q) (q:=r) (r:=s) (s:=t) (C:=fun l=>C (a::l)) (h a) us (Nat.succ.inj e)
section
variable {P:Program} {w:World} {K:PySem.W.Frag} {mg:Str→Option Value} {base:Heap} {name:Str} {st:Stmt} {N ps:List Str} {k:Nat} {sp:Sp}
theorem FunAt.def (F:FunAt K mg name st) (S:FnScope N ps (defScope st))
  (hb:∀ (kV doc pm:Value) (an:Option Addr) (cdv ct:Value) (us:List Value),us.length=ps.length→bindArgs (PySem.W.fnOf name name (defArgs st) (defBody st) (defScope st) .none kV doc pm an cdv ct) ⟨us,[]⟩=pure (ps.zip us))
  (len:∀ vs H Q E,sp vs H Q E→vs.length=ps.length)
  (hbody:∀ (f:Addr) (cdv:Value) (A:Around) (outer:List Env) (s:Shared) (H:Hp) (vs:List V) (Q:VK) (E:XK),Room k (A.deeper (envOfC name (defScope st) s.heap.objs.size f cdv))→sp vs H Q E →
   ∃ t,PSs (cxOf CX0 P w K mg base N name (defScope st) f cdv A outer s H E).nox (defBody st) t∧t { nx:=fun _ H'=>Q .non H',rt:=Q } (start N vs) H):Def P w K mg base name (k+1) ps sp:=by
 obtain ⟨f,fd,hm,F⟩:=F.ex
 exact ⟨f,fd,hm,F.kp,F.binds hb,F.ok S len fun cdv A outer s H vs Q E=>hbody f cdv A outer s H vs Q E⟩
end
theorem zap {X:Cx} {name:Str} {k:Nat} {ps:List Str} {sp:Sp} {p pos:Pos} {e:Expr} {es:List Expr} {t:TA} (D:Def X.prog X.w X.K X.mg X.base name k ps sp) (hr:Room k X.A) (hg:Gl X name) (hx:Passes CX0 X E0) (ha:PA X (e::es) t)
  (hdb:(name == ("__debug__":Str))=false:=by decide) (he:starEach (e::es) X.env=(false,eval e X.env)::starEach es X.env:=by rfl) (hpl:(backTo pos (starEach es X.env)).any (·.1)=false:=by rfl) :
  PE X (.Call (.Name name p) (e::es) [] pos) (tCall sp [] E0 t):=by
 obtain ⟨f,fd,hm,hk,hb,F⟩:=D.ex
 exact zj8 F hr hg hm hk hb .nil hx ha hdb he hpl
section
variable {X:Cx}
theorem zjD {prog:Program} {w:World} {A:Around} {E:Value→Shared→Prop} {s:Shared} {t b:Addr} {ws:List Value} {Q:Value→Shared→Prop} (ht:IsTup s.heap t (#[]:Array Value)) (hb:IsTup s.heap b ws.toArray)
  (h1:Q (.ref b) s):wpAny (model prog w) A (binaryOp .Add (.ref t) (.ref b)) Q E s:=by
 obtain ⟨⟨cls,dd,data,sl⟩,ho,hc,n,hd⟩:=id ht
 obtain ⟨⟨cls2,dd2,data2,sl2⟩,ho2,hc2,n2,hd2⟩:=id hb
 simp only at hc hd hc2 hd2
 subst hc hd hc2 hd2
 exact concat_meets ⟨_,ho,rfl⟩ ⟨_,ho2,rfl⟩ noFill_tuple_add seq_tuple_add PySem.F.slot_tuple_add PySem.F.entry_tuple_add (PySem.F.args_tuple_add_2 _ _)
   (tuple_addW0 t b #[] ws.toArray n n2 dd dd2 sl sl2 rfl) ⟨ho,ho2,h1⟩
def rCatA (K:PySem.W.Frag):R2:=fun x y H Q=>∃ a b xs ys,x = .ref a∧y = .ref b∧SqT K H a xs∧SqT K H b ys∧xs.length+ys.length≤sizeLine ∧
 ∀ p H',Same H H'→SqT K H' p (xs++ys)→(H a=some (.tup xs)→H b=some (.tup ys)→H' p=some (.tup (xs++ys)))→Q (.ref p) H'
theorem zeU:OpR X (binaryOp .Add) (rCatA X.K):=by
 intro pins s σ H x y v u Q I rx ry h
 obtain ⟨a,b,xs,ys,rfl,rfl,ha,hb,hz,q⟩:=h
 by_cases hx:xs=[]
 ·subst hx
  cases rx
  cases ry
  obtain ⟨its,r1,p1,_⟩:=I.tuple ha
  obtain ⟨its2,r2,p2,_⟩:=I.tuple hb
  cases r1
  exact zjD p1 p2 ⟨.ref b,H,I,rfl,q b H (Same.refl H) hb fun _ z=>z⟩
 ·refine zkb pins s σ H _ _ v u Q I rx ry ⟨a,b,xs,ys,rfl,rfl,ha,hb,hx,hz,fun e=>?_,fun e p hp=>?_⟩
  ·subst e
   exact q a H (Same.refl H) (by rw [List.append_nil]; exact ha) fun z _=>by rw [List.append_nil]; exact z
  ·exact q p _ (zaz hp) (SqT.of zai) fun _ _=>zai
end
section
variable {X:Cx} {o e value:Expr} {es:List Expr} {f:Str} {pos pos':Pos} {ta tv:TE} {t:TA}
def sFldA (K:PySem.W.Frag) (ta tv:TE) (f:Str):TS:=fun D σ H=>tv σ H fun y H1=>ta σ H1 fun x H2=>∃ a C dx fs,x = .ref a∧H2 a=some (.ins C dx fs)∧Cls K C∧NoAttr K C f∧fs.length < 1000 ∧
 ∀ H3,Ext (·=a) H2 H3→H3 a=some (.ins C dx (putF f y fs))→D.nx σ H3
theorem zat (ha:PE X o ta) (hv:PE X value tv) (hs:swapsWith value (some (.Attribute o f pos')) pos.line X.env=pure false):PS X (.Assign [.Attribute o f pos'] value pos) (sFldA X.K ta tv f):=by
 intro pins s σ H D I h
 refine plainObj_wpAny_Assign_Attribute (thn (hv pins s σ H _ I h) fun u s1 ⟨y,H1,I1,ry,q⟩=>thn (ha pins s1 σ H1 _ I1 q) fun ov s2 ⟨x,H2,I2,rx,a,C,dx,fs,ex,ea,c,n,l,q2⟩=>?_) hs
 subst ex
 obtain rfl:ov=Value.ref a:=rx
 exact zek I2 ea c n l ry fun s3 I3=>⟨σ,_,I3,q2 _ (zbG ea (fun z=>z) rfl) zai⟩
def tTupA (t:TA):TE:=fun σ H Q=>t σ H fun xs H1=>xs.length≤sizeLine∧∀ p H',Same H1 H'→H1 p=none→H' p=some (.tup xs)→Q (.ref p) H'
def tLstA (t:TA):TE:=fun σ H Q=>t σ H fun xs H1=>xs.length≤sizeLine∧∀ p H',Same H1 H'→H1 p=none→H' p=some (.lst xs)→Q (.ref p) H'
theorem zaJ {x1} (h:PA X es t):PE X (.Tuple es x1 pos) (tTupA t):=by
 intro pins s σ H Q I hq
 refine wpAny_Tuple_spliced (thn (h pos pins s σ H _ I hq) fun us s1 ⟨xs,H1,I1,r,z,q⟩=>⟨by rw [← r.length]; exact z,?_⟩)
 have hf:H1 s1.heap.objs.size=none:=I1.hok.fresh (Nat.le_refl _)
 refine ⟨.ref s1.heap.objs.size,upd H1 s1.heap.objs.size (.tup xs),I1.laid (t':=s1.toks) (fun b u e=>Heap.get?_push_of_some _ e) (Nat.le_refl _) ?_,rfl,q _ _ (zaz hf) hf zai⟩
 exact ⟨z,us,r,⟨_,Heap.get?_push_size _ rfl,rfl,_,rfl⟩⟩
theorem zal (h:PA X es t):PE X (.List es pos) (tLstA t):=by
 intro pins s σ H Q I hq
 refine wpAny_List_spliced (thn (h pos pins s σ H _ I hq) fun us s1 ⟨xs,H1,I1,r,z,q⟩=>⟨by rw [← r.length]; exact z,?_⟩)
 have hf:H1 s1.heap.objs.size=none:=I1.hok.fresh (Nat.le_refl _)
 refine ⟨.ref s1.heap.objs.size,upd H1 s1.heap.objs.size (.lst xs),I1.laid (t':=s1.toks) (fun b u e=>Heap.get?_push_of_some _ e) (Nat.le_refl _) ?_,rfl,q _ _ (zaz hf) hf zai⟩
 exact ⟨z,us,0,r,Heap.get?_push_size _ rfl⟩
def rSlTA (K:PySem.W.Frag):V→Option Int→Option Int→Hp→VK→Prop:=fun x lo hi H Q=>∃ a xs,x = .ref a∧SqT K H a xs ∧
 ¬ (HT.sIx xs.length 0 lo=0∧HT.sIx xs.length xs.length hi=xs.length)∧∀ p H',Same H H'→H p=none→H' p=some (.tup (cutV xs lo hi))→Q (.ref p) H'
theorem zhB:SlR X (rSlTA X.K):=by
 intro pins s σ H x v vl vu lo hi sl Q I rx hs pl pu h
 obtain ⟨a,xs,e,hx,hw,q⟩:=h
 exact zkz pins s σ H x v vl vu lo hi sl Q I rx hs pl pu ⟨a,xs,e,hx,hw,fun p hp=>q p _ (zaz hp) hp zai⟩
def rSlLA (K:PySem.W.Frag):V→Option Int→Option Int→Hp→VK→Prop:=fun x lo hi H Q=>∃ a xs,x = .ref a∧SqL K H a xs∧∀ p H',Same H H'→H p=none→H' p=some (.lst (cutV xs lo hi))→Q (.ref p) H'
theorem zaV:SlR X (rSlLA X.K):=by
 intro pins s σ H x v vl vu lo hi sl Q I rx hs pl pu h
 obtain ⟨a,xs,e,hx,q⟩:=h
 exact zjZ pins s σ H x v vl vu lo hi sl Q I rx hs pl pu ⟨a,xs,e,hx,fun p hp=>q p _ (zaz hp) hp zai⟩
def rCatL:R2:=fun x y H Q=>∃ l b xs zs,x = .ref l∧y = .ref b∧H l=some (.lst xs)∧H b=some (.lst zs)∧xs.length+zs.length≤sizeLine∧∀ p H',Same H H'→H p=none→H' p=some (.lst (xs++zs))→Q (.ref p) H'
theorem zbR:OpR X (binaryOp .Add) rCatL:=by
 intro pins s σ H x y v u Q I rx ry h
 obtain ⟨l,b,xs,zs,h1,h2,h3,h4,h5,q⟩:=h
 exact zkS pins s σ H x y v u Q I rx ry ⟨l,b,xs,zs,h1,h2,h3,h4,h5,fun p hp=>q p _ (zaz hp) hp zai⟩
def rAppA:V→List V→Hp→VK→Prop:=fun x vs H Q=>∃ l xs y,x = .ref l∧vs=[y]∧H l=some (.lst xs)∧xs.length < sizeLine∧∀ H',Ext (·=l) H H'→H' l=some (.lst (xs++[y]))→Q .non H'
theorem zbd:MtM X "list.append" rAppA:=by
 intro pins s σ H x vs v us Q I rx rv h
 obtain ⟨l,xs,y,h1,h2,h3,h4,q⟩:=h
 exact zij pins s σ H x vs v us Q I rx rv ⟨l,xs,y,h1,h2,h3,h4,q _ (zbG h3 (fun z=>z) rfl) zai⟩
def rExtA (K:PySem.W.Frag):V→List V→Hp→VK→Prop:=fun x vs H Q=>∃ l b xs zs,x = .ref l∧vs=[.ref b]∧H l=some (.lst xs)∧(H b=some (.lst zs)∨H b=some (.tup zs))∧xs.length+zs.length≤sizeLine ∧
 ∀ H',Ext (·=l) H H'→H' l=some (.lst (xs++zs))→Q .non H'
theorem zbN (l:Addr) (xs:Array Value) (n:Nat) (b:Addr) (ys:Array Value) (n2:Nat) (dd:Option Addr) (sl:Array (Option Value)) (h0:¬(!xs.isEmpty && Builtin.List.listTooLong (xs.size+ys.size))=true) (h1:xs.size≤sizeLine)
  (h2:xs.size+ys.size≤sizeLine+1) :
  Meets (Builtin.«list.extend» ⟨[.ref l,.ref b],[]⟩)
   (fun _ R st=>st.heap.get? l=some { cls:=.type "list",dict:=none,data:=.seq xs n,slots:=#[] }∧st.heap.get? b=some { cls:=.type "tuple",dict:=dd,data:=.seq ys n2,slots:=sl } ∧
    R (.ok (.ret Value.none)) { st with heap:=st.heap.update l (Obj.mapSeq fun x=>x++ys),toks:=st.toks }):=by
 refine .of_wp fun prog w A R st hst=>?_
 obtain ⟨hp,gens,dd',tk,os⟩:=st
 obtain ⟨ea,eb,fin⟩:=hst
 have k1:=AutoSeq1.idx_int
 have k2:=AutoSeq1.sub_tuple_tuple
 have k3:=AutoSeq1.sub_list_list
 have k4:=AutoSeq1.sub_tuple_list
 have k5:=AutoSeq1.sub_list_tuple
 have big:(xs++ys).size≤sizeLine+1:=by
  rw [Array.size_append]
  exact h2
 wp_walk using (wpAny_updateSeq ea rfl (hz:=h1) (_hz':=big)),wpAny_loadPart' ea,wpAny_loadPart' eb
 exact ⟨_,rfl,fin⟩
theorem zbh:MtM X "list.extend" (rExtA X.K):=by
 intro pins s σ H x vs v us Q I rx rv h
 obtain ⟨l,b,xs,zs,h1,h2,h3,h4,h5,q⟩:=h
 rcases h4 with h4 | h4
 ·exact zif pins s σ H x vs v us Q I rx rv ⟨l,b,xs,zs,h1,h2,h3,h4,h5,q _ (zbG h3 (fun z=>z) rfl) zai⟩
 ·subst h1 h2
  cases rx
  obtain ⟨u,rfl,ru⟩:=rv.one
  cases ru
  obtain ⟨z,its,n,r,hl,e⟩:=I.lstM h3
  obtain ⟨z2,its2,r2,p2⟩:=I.hok b _ h4
  have hl2:=r2.length
  have hl1:=r.length
  obtain ⟨⟨cls2,dd2,data2,sl2⟩,ho2,hc2,n2,hd2⟩:=id p2
  simp only at hc2 hd2
  subst hc2 hd2
  have hsz:its.toArray.size+its2.toArray.size≤sizeLine:=by rw [List.size_toArray,List.size_toArray]; omega
  have hlong:¬ (!its.toArray.isEmpty && Builtin.List.listTooLong (its.toArray.size+its2.toArray.size))=true:=by
   rw [notLongL hsz,Bool.and_false]
   exact Bool.false_ne_true
  refine call_meets PySem.F.slot_list_extend ⟨_,e,rfl⟩ PySem.F.entry_list_extend (PySem.F.args_list_extend_2 _ _)
   (zbN l its.toArray n b its2.toArray n2 dd2 sl2 hlong (by rw [List.size_toArray]; omega) (by omega)) ⟨e,ho2,?_⟩
  refine ⟨.non,_,I.lset (its':=its++its2) h3 e (by simp) (r.append r2) ?_,rfl,q _ (zbG h3 (fun z=>z) rfl) zai⟩
  rw [List.length_append]
  omega
def rTupA (K:PySem.W.Frag):List V→Hp→VK→Prop:=fun xs H Q=>∃ p ys,xs=[.ref p]∧SqL K H p ys∧∀ l H',Same H H'→H l=none→H' l=some (.tup ys)→Q (.ref l) H'
theorem ziW:CallR X (.type "tuple") (rTupA X.K):=by
 intro pins s σ H xs us Q I r h
 obtain ⟨p,ys,h1,h2,q⟩:=h
 exact ze8 pins s σ H xs us Q I r ⟨p,ys,h1,.inl ⟨h2,fun l hl=>q l _ (zaz hl) hl zai⟩⟩
end
structure InitAt (K:PySem.W.Frag) (mg:Str→Option Value) (cname qual:Str) (C:Addr) (st:Stmt):Prop where
 ex:∃ f fd,mg cname=some (.ref C)∧Mk K C f∧Fun K "__init__" qual st f fd
structure NewDef (P:Program) (w:World) (K:PySem.W.Frag) (mg:Str→Option Value) (base:Heap) (cname:Str) (C:Addr) (k:Nat) (ps:List Str) (sp:Sp):Prop where
 ex:∃ f fd,mg cname=some (.ref C)∧Mk K C f∧Binds K fd ps []∧FnOk P w K mg base CX0 k f fd ps sp
section
variable {P:Program} {w:World} {K:PySem.W.Frag} {mg:Str→Option Value} {base:Heap} {cname qual:Str} {C:Addr} {st:Stmt} {N ps:List Str} {k:Nat} {sp:Sp}
theorem InitAt.def (F:InitAt K mg cname qual C st) (S:FnScope N ps (defScope st))
  (hb:∀ (kV doc pm:Value) (an:Option Addr) (cdv ct:Value) (us:List Value),us.length=ps.length→bindArgs (PySem.W.fnOf "__init__" qual (defArgs st) (defBody st) (defScope st) .none kV doc pm an cdv ct) ⟨us,[]⟩=pure (ps.zip us))
  (len:∀ vs H Q E,sp vs H Q E→vs.length=ps.length)
  (hbody:∀ (f:Addr) (cdv:Value) (A:Around) (outer:List Env) (s:Shared) (H:Hp) (vs:List V) (Q:VK) (E:XK),Room k (A.deeper (envOfC qual (defScope st) s.heap.objs.size f cdv))→sp vs H Q E →
   ∃ t,PSs (cxOf CX0 P w K mg base N qual (defScope st) f cdv A outer s H E).nox (defBody st) t∧t { nx:=fun _ H'=>Q .non H',rt:=Q } (start N vs) H):NewDef P w K mg base cname C (k+1) ps sp:=by
 obtain ⟨f,fd,hm,M,F⟩:=F.ex
 exact ⟨f,fd,hm,M,F.binds hb,F.ok S len fun cdv A outer s H vs Q E=>hbody f cdv A outer s H vs Q E⟩
end
def tNewA (C:Addr) (sp:Sp) (t:TA):TE:=fun σ H Q=>t σ H fun vs H1=>∀ x dx H2,Same H1 H2→H1 x=none→H2 x=some (.ins C dx [])→sp (.ref x::vs) H2 (fun v H3=>v = .non∧Q (.ref x) H3) E0
theorem zgJ {H:Hp} {x dx:Addr} {o u:HO} (h1:H x=none) (h2:H dx=none):Same H (upd (upd H dx o) x u):=fun b v e=>by
 rw [zaA (zag e h1),zaA (zag e h2)]
 exact e
theorem zgH {X:Cx} {name:Str} {C:Addr} {k:Nat} {ps:List Str} {sp:Sp} {p pos:Pos} {e:Expr} {es:List Expr} {t:TA} (D:NewDef X.prog X.w X.K X.mg X.base name C k ps sp) (hr:Room (k+1) X.A) (hg:Gl X name) (hx:Passes CX0 X E0) (ha:PA X (e::es) t)
  (hdb:(name == ("__debug__":Str))=false:=by decide) (he:starEach (e::es) X.env=(false,eval e X.env)::starEach es X.env:=by rfl) (hpl:(backTo pos (starEach es X.env)).any (·.1)=false:=by rfl) :
  PE X (.Call (.Name name p) (e::es) [] pos) (tNewA C sp t):=by
 obtain ⟨f,fd,hm,M,hb,F⟩:=D.ex
 intro pins s σ H Q I h
 refine wpAny_Call_Name_kw (zeZ I hg hm ?_ hdb)
 refine PySem.W.callWith_K (h₀:=X.base) I.ok.mod.kin M.kp (thn (ha pos pins s σ H _ I h) fun us s1 ⟨vs,H1,I1,r,q⟩=>⟨I1.kIn,?_⟩) he hpl
 refine zgw (ds:=[]) (dvs:=[]) M F hr hb .nil hx I1 r fun x dx h1 h2 h3=>?_
 rw [List.append_nil]
 exact q x dx _ (zgJ h1 h2) h1 zai
theorem zh3 {X:Cx} {name:Str} {C:Addr} {k:Nat} {ps:List Str} {sp:Sp} {p pos:Pos} (D:NewDef X.prog X.w X.K X.mg X.base name C k ps sp) (hr:Room (k+1) X.A) (hg:Gl X name) (hx:Passes CX0 X E0)
  (hdb:(name == ("__debug__":Str))=false:=by decide):PE X (.Call (.Name name p) [] [] pos) (tNewA C sp tNil):=by
 obtain ⟨f,fd,hm,M,hb,F⟩:=D.ex
 intro pins s σ H Q I h
 refine wpAny_Call_Name_kw (zeZ I hg hm ?_ hdb)
 exact PySem.W.callWith_K0 I.kIn M.kp (zgw (us:=[]) (ds:=[]) (dvs:=[]) M F hr hb .nil hx I .nil fun x dx h1 h2 h3=>h x dx _ (zgJ h1 h2) h1 zai)
theorem zay {X:Cx} {x:Str} {i:Int} {pos:Pos} (hg:Gl X x) (hm:∃ t,X.mg x=some (.int i t)) (hd:(x == ("__debug__":Str))=false:=by decide):PE X (.Name x pos) (tC (.int i)):=by
 obtain ⟨t,e⟩:=hm
 exact zeS hg e ⟨t,rfl⟩ hd
section
variable {X:Cx} {K:PySem.W.Frag} {e:Expr} {f:Str} {pos:Pos} {ta:TE}
theorem zcf (he:PE X e ta) (hb:attributeBase e f X.env (eval e X.env)=eval e X.env) (hK:X.K=K:=by rfl):PE X (.Attribute e f pos) (tFld K ta f):=by
 subst hK
 exact zae he hb
theorem ziv (hK:X.K=K:=by rfl):IxR X (rIxT K):=by
 subst hK
 exact zen
end
section
variable {X:Cx} {a b c d:Expr} {ta tb tc td:TE} {pos:Pos}
def tChain3 (r r' r'':R2) (ta tb tc td:TE):TT:=fun σ H Q=>ta σ H fun x H1=>tb σ H1 fun y H2=>r x y H2 fun z H3=>∃ k,z = .bl k ∧
 (if k=true then tc σ H3 fun y' H4=>r' y y' H4 fun z' H5=>∃ k',z' = .bl k'∧(if k'=true then td σ H5 fun w' H6=>r'' y' w' H6 fun z2 H7=>∃ k2,z2 = .bl k2∧Q k2 H7 else Q false H5) else Q false H3)
theorem zcJ {op op' op'':CmpOp} {r r' r'':R2} (ho:OpR X (compareOp op) r) (ho':OpR X (compareOp op') r') (ho'':OpR X (compareOp op'') r'') (ha:PE X a ta) (hb:PE X b tb) (hc:PE X c tc) (hd:PE X d td)
  (hm:lastMarks [op,op',op''] [b,c,d]=false:=by with_unfolding_all rfl):PT X (.Compare a [op,op',op''] [b,c,d] pos) (tChain3 r r' r'' ta tb tc td):=by
 intro pins s σ H Q I h
 refine isTrue_chain (thn (ha pins s σ H _ I h) fun v s1 ⟨x,H1,I1,r1,q1⟩=>test_link (thn (hb pins s1 σ H1 _ I1 q1) fun u s2 ⟨y,H2,I2,r2,q2⟩ =>
  thn (ho pins s2 σ H2 x y v u _ I2 r1 r2 q2) fun d s3 ⟨z,H3,I3,r3,k,e,q3⟩=>?_)) hm
 subst e
 cases r3
 refine wpAny_truthy_bool ?_
 cases k with
 | false=>exact ite_ff ⟨H3,I3,q3⟩
 | true =>
  refine ite_tt (test_link (thn (hc pins s3 σ H3 _ I3 q3) fun u' s4 ⟨y',H4,I4,r4,q4⟩=>thn (ho' pins s4 σ H4 y y' u u' _ I4 r2 r4 q4) fun d' s5 ⟨z',H5,I5,r5,k',e',q5⟩=>?_))
  subst e'
  cases r5
  refine wpAny_truthy_bool ?_
  cases k' with
  | false=>exact ite_ff ⟨H5,I5,q5⟩
  | true =>
   refine ite_tt (test_last (thn (hd pins s5 σ H5 _ I5 q5) fun w' s6 ⟨z2,H6,I6,r6,q6⟩=>thn (ho'' pins s6 σ H6 y' z2 u' w' _ I6 r4 r6 q6) fun d2 s7 ⟨z3,H7,I7,r7,k2,e2,q7⟩=>?_))
   subst e2
   cases r7
   exact wpAny_truthy_bool ⟨H7,I7,q7⟩
end
theorem zih {X:Cx}:MtM X "list.count" (fun x vs H Q=>∃ (l:Addr) (bs:List Bool) (b:Bool),x = .ref l∧vs=[.bl b]∧H l=some (.lst (bs.map V.bl))∧Q (.int ((bs.countP (fun y=>y == b):Nat):Int)) H):=by
 intro pins s σ H x vs v us Q I rx rv h
 obtain ⟨l,bs,b,rfl,rfl,hH,q⟩:=h
 cases rx
 obtain ⟨u,rfl,ru⟩:=rv.one
 cases ru
 obtain ⟨z,its,n,r,hl,e⟩:=I.lstM hH
 have hb:=Vals.bls r
 refine call_meets PySem.F.slot_list_count ⟨_,e,rfl⟩ PySem.F.entry_list_count (PySem.F.args_list_count_2 _ _)
  (SeqAt.list_countAt l its.toArray n none #[] (.bool b) (fun y=>match y with | .bool y=>y == b | _=>false)) ⟨e,fun y hy=>?_,?_⟩
 ·have hy':y∈its:=by simpa using hy
  rw [hb] at hy'
  obtain ⟨y',_,rfl⟩:=List.mem_map.mp hy'
  exact SeqAt.EqAt.bool_bool y' b
 ·refine ⟨.int _,H,I.tok _,⟨_,rfl⟩,?_⟩
  have e2:List.countP (fun y=>match y with | .bool y=>y == b | _=>false) its.toArray.toList=bs.countP (fun y=>y == b):=by
   rw [hb]
   simp only [List.countP_map]
   rfl
  rw [e2]
  exact q
end Tt
end
section
namespace Tt
open Vatrka
theorem zb7 {x:Piece} (hp:x.pend=[]) (h:x.look.length=4):shownLook x=x.look:=by
 unfold shownLook
 have e (k:Nat):shownValue x k=x.look.getD k 0:=by unfold shownValue; rw [hp]; rfl
 simp only [props,List.map_cons,List.map_nil,e]
 match x.look,h with
 | [a,b,d,e],_=>rfl
theorem set4 (f g:Nat→Nat) {k v:Nat} (hk:k < 4) (h1:g k=v) (h2:∀ j,j≠k→g j=f j):props.map g=(props.map f).set k v:=by
 simp only [props,List.map_cons,List.map_nil]
 have:k=0∨k=1∨k=2∨k=3:=by omega
 rcases this with rfl | rfl | rfl | rfl
 ·rw [h1,h2 1 (by omega),h2 2 (by omega),h2 3 (by omega)]; rfl
 ·rw [h1,h2 0 (by omega),h2 2 (by omega),h2 3 (by omega)]; rfl
 ·rw [h1,h2 0 (by omega),h2 1 (by omega),h2 3 (by omega)]; rfl
 ·rw [h1,h2 0 (by omega),h2 1 (by omega),h2 2 (by omega)]; rfl
theorem zeA (x:Piece) (m k v:Nat) (hk:k < 4):shownLook { x with pend:=x.pend++[⟨m,k,v⟩] }=(shownLook x).set k v:=by
 unfold shownLook
 refine set4 _ _ hk ?_ fun j hj=>?_
 ·unfold shownValue
  simp only [List.filter_append]
  have:(List.filter (fun y:Pending=>y.prop == k) [⟨m,k,v⟩])=[⟨m,k,v⟩]:=by simp
  rw [this,List.getLast?_concat]
 ·unfold shownValue
  simp only [List.filter_append]
  have:(List.filter (fun y:Pending=>y.prop == j) [⟨m,k,v⟩])=[]:=by simp; omega
  rw [this,List.append_nil]
theorem zd2 (x:Piece) (k v:Nat) (hk:k < 4) (h4:x.look.length=4) :
  shownLook { x with look:=x.look.set k v,pend:=x.pend.filter fun y=>!(y.prop == k) }=(shownLook x).set k v:=by
 unfold shownLook
 refine set4 _ _ hk ?_ fun j hj=>?_
 ·unfold shownValue
  simp only [List.filter_filter]
  have:(List.filter (fun y:Pending=>y.prop == k && !(y.prop == k)) x.pend)=[]:=by simp
  rw [this]
  simp only [List.getLast?_nil]
  rw [List.getD_eq_getElem?_getD,List.getElem?_set_self (by omega)]
  rfl
 ·unfold shownValue
  simp only [List.filter_filter]
  have:(fun y:Pending=>y.prop == j && !(y.prop == k))=fun y=>y.prop == j:=by
   funext y
   cases e:y.prop == j
   ·rfl
   ·have:y.prop=j:=by simpa using e
    simp [this,hj]
  rw [this]
  rw [List.getD_eq_getElem?_getD,List.getD_eq_getElem?_getD,List.getElem?_set_ne (by omega)]
end Tt
end
section
namespace Tt
open PySem PySem.Spec PyProof.Rows L2
open Vatrka (Piece Pending shownLook shownValue marked)
structure Cs where
 P:Addr
 R:Addr
 D:Addr
 S:Addr
 L:Addr
 N:Addr
structure ClsOf (K:PySem.W.Frag) (C:Addr) (fields:List Str):Prop where
 cl:Cls K C
 no:∀ f∈fields,NoAttr K C f
def fP:List Str:=["sign","look","seen","insertions","deletions","pending","tags"]
def fR:List Str:=["shown","hidden"]
def fD:List Str:=["row","author","time","tracking","changes"]
def fS:List Str:=["piece","length"]
structure Txt (K:PySem.W.Frag) (mg:Str→Option Value) (c:Cs):Prop where
 P:ClsOf K c.P fP
 R:ClsOf K c.R fR
 D:ClsOf K c.D fD
 S:ClsOf K c.S fS
 g_PARAGRAPH_END:∃ t,mg "PARAGRAPH_END"=some (.int 10 t)
 g_PLAIN_LOOK:mg "PLAIN_LOOK"=some (.ref c.L)
 plain:∃ (o:Obj) (its:Array Value) (n:Nat),K.lookup c.L=some o∧o.cls = .type "tuple"∧o.data = .seq its n∧its.size≤sizeLine∧Vals [.int 0,.int 0,.int 0,.int 0] its.toList
 b_len:mg "len"=none
 b_tuple:mg "tuple"=none
 b_range:mg "range"=none
 b_sum:mg "sum"=none
 b_all:mg "all"=none
 b_enumerate:mg "enumerate"=none
 b_zip:mg "zip"=none
 b_list:mg "list"=none
def pf (sign look seen ins del pend tags:V):List (Str×V) :=
 [("sign",sign),("look",look),("seen",seen),("insertions",ins),("deletions",del),("pending",pend),("tags",tags)]
section
variable {a b c d e f g v:V}
theorem zcX:(pf a b c d e f g).lookup ("sign":Str)=some a:=by rfl
theorem zdH:(pf a b c d e f g).lookup ("look":Str)=some b:=by rfl
theorem zce:(pf a b c d e f g).lookup ("seen":Str)=some c:=by rfl
theorem zcq:(pf a b c d e f g).lookup ("insertions":Str)=some d:=by rfl
theorem zdb:(pf a b c d e f g).lookup ("deletions":Str)=some e:=by rfl
theorem zbX:(pf a b c d e f g).lookup ("pending":Str)=some f:=by rfl
theorem zcd:(pf a b c d e f g).lookup ("tags":Str)=some g:=by rfl
theorem zaM:(pf a b c d e f g).length < 1000:=by show 7 < 1000; decide
end
abbrev nums (l:List Nat):List V:=l.map fun (n:Nat)=>V.int (n:Int)
def PendAt (H:Hp) (pt:Addr) (l:List Pending):Prop :=
 ∃ es:List Addr,H pt=some (.tup (es.map V.ref))∧Paired (fun e (y:Pending)=>H e=some (.tup [.int y.change,.int y.prop,.int y.value])) es l
def TagsAre (T:Int) (l:List Nat):Prop:=∃ n:Nat,T=(n:Int)∧∀ i,n.testBit i=l.contains i
structure PAt (K:PySem.W.Frag) (C:Addr) (H:Hp) (a:Addr) (x:Piece) (dx lk sn it dt pt:Addr) (T:Int):Prop where
 obj:H a=some (.ins C dx (pf (.int x.sign) (.ref lk) (.ref sn) (.ref it) (.ref dt) (.ref pt) (.int T)))
 look:SqT K H lk (nums x.look)
 seen:SqT K H sn (nums (shownLook x))
 ins:H it=some (.tup (nums x.ins))
 del:H dt=some (.tup (nums x.del))
 pend:PendAt H pt x.pend
 tags:TagsAre T x.tags
def PieceAt (K:PySem.W.Frag) (C:Addr) (H:Hp) (a:Addr) (x:Piece):Prop:=∃ dx lk sn it dt pt T,PAt K C H a x dx lk sn it dt pt T
theorem Paired.keepE {H H':Hp} {S:Addr→Prop} (e:Ext S H H'):∀ {es:List Addr} {l:List Pending},Paired (fun e (y:Pending)=>H e=some (.tup [.int y.change,.int y.prop,.int y.value])) es l →
  Paired (fun e (y:Pending)=>H' e=some (.tup [.int y.change,.int y.prop,.int y.value])) es l
 | _,_,.nil=>.nil
 | _,_,.cons r t=>.cons (e.tup r) (Paired.keepE e t)
theorem PendAt.keep {H H':Hp} {S:Addr→Prop} {pt:Addr} {l:List Pending} (e:Ext S H H') (h:PendAt H pt l):PendAt H' pt l:=by
 obtain ⟨es,h1,h2⟩:=h
 exact ⟨es,e.tup h1,Paired.keepE e h2⟩
theorem PAt.keep {K:PySem.W.Frag} {C:Addr} {H H':Hp} {a dx lk sn it dt pt:Addr} {x:Piece} {T:Int} {S:Addr→Prop} (e:Ext S H H') (n:¬ S a) (h:PAt K C H a x dx lk sn it dt pt T):PAt K C H' a x dx lk sn it dt pt T :=
 ⟨e.at h.obj n,e.sqT h.look,e.sqT h.seen,e.tup h.ins,e.tup h.del,h.pend.keep e,h.tags⟩
theorem PieceAt.keep {K:PySem.W.Frag} {C:Addr} {H H':Hp} {a:Addr} {x:Piece} {S:Addr→Prop} (e:Ext S H H') (n:¬ S a) (h:PieceAt K C H a x):PieceAt K C H' a x:=by
 obtain ⟨dx,lk,sn,it,dt,pt,T,h⟩:=h
 exact ⟨dx,lk,sn,it,dt,pt,T,h.keep e n⟩
def top (i:Nat):Stmt:=PySem.Challenge.pw_trackedtext_s01_answers.main.body.getD i (.Pass ⟨0,0,0,0⟩)
section
variable {P:Program} {w:World} {K:PySem.W.Frag} {mg:Str→Option Value} {base:Heap} {c:Cs}
abbrev s_Piece_init:Stmt:=inClass (top 3) 0
theorem zeK:FnScope ["self","sign","look","tags"] ["self","sign","look","tags"] (defScope s_Piece_init):=⟨rfl,rfl,rfl,by decide +kernel,rfl,by decide +kernel,by decide +kernel⟩
def spPiece (K:PySem.W.Frag) (C:Addr):Sp:=fun vs H Q _=>∃ (a dx lk:Addr) (z:Nat) (l ts:List Nat) (T:Int),vs=[.ref a,.int z,.ref lk,.int T]∧H a=some (.ins C dx [])∧SqT K H lk (nums l)∧l.length=4∧TagsAre T ts ∧
 ∀ H',Ext (·=a) H H'→PieceAt K C H' a { sign:=z,look:=l,tags:=ts }→Q .non H'
theorem shown4 {z:Nat} {l ts:List Nat} (h:l.length=4):shownLook { sign:=z,look:=l,tags:=ts }=l:=by
 match l,h with
 | [a,b,d,e],_=>rfl
theorem d_Piece (F:InitAt K mg "Piece" "Piece.__init__" c.P s_Piece_init) (T:Txt K mg c):NewDef P w K mg base "Piece" c.P 1 ["self","sign","look","tags"] (spPiece K c.P):=by
 have sc:=zeK
 refine F.def sc (fun _ _ _ _ _ _=>ar4 fun _ _ _ _=>rfl) (fun vs H Q E h=>?_) (fun f cdv A outer s H vs Q E hr h=>?_)
 ·obtain ⟨a,dx,lk,z,l,ts,T,rfl,_⟩:=h
  rfl
 ·obtain ⟨a,dx,lk,z,l,ts,Tg,rfl,ha,hl,h4,hT,k⟩:=h
  refine ⟨_,(zab (zat (pv 0) (pv 1) rfl)
   (zab (zat (pv 0) (pv 2) rfl)
   (zab (zat (pv 0) (pv 2) rfl)
   (zab (zat (pv 0) (zaJ zac) rfl)
   (zab (zat (pv 0) (zaJ zac) rfl)
   (zab (zat (pv 0) (zaJ zac) rfl)
   (zad (zat (pv 0) (pv 3) rfl)))))))),?_⟩
  refine ⟨_,rfl,_,rfl,a,_,dx,_,rfl,ha,T.P.cl,T.P.no _ (by decide +kernel),(by show 0 < 1000; decide),fun H1 e1 h1=>?_⟩
  refine ⟨_,rfl,_,rfl,a,_,dx,_,rfl,h1,T.P.cl,T.P.no _ (by decide +kernel),(by show 1 < 1000; decide),fun H2 e2 h2=>?_⟩
  refine ⟨_,rfl,_,rfl,a,_,dx,_,rfl,h2,T.P.cl,T.P.no _ (by decide +kernel),(by show 2 < 1000; decide),fun H3 e3 h3=>?_⟩
  refine ⟨Nat.zero_le _,fun t1 H4 s4 n1 g1=>?_⟩
  refine ⟨_,rfl,a,_,dx,_,rfl,s4 _ _ h3,T.P.cl,T.P.no _ (by decide +kernel),(by show 3 < 1000; decide),fun H5 e5 h5=>?_⟩
  refine ⟨Nat.zero_le _,fun t2 H6 s6 n2 g2=>?_⟩
  refine ⟨_,rfl,a,_,dx,_,rfl,s6 _ _ h5,T.P.cl,T.P.no _ (by decide +kernel),(by show 4 < 1000; decide),fun H7 e7 h7=>?_⟩
  refine ⟨Nat.zero_le _,fun t3 H8 s8 n3 g3=>?_⟩
  refine ⟨_,rfl,a,_,dx,_,rfl,s8 _ _ h7,T.P.cl,T.P.no _ (by decide +kernel),(by show 5 < 1000; decide),fun H9 e9 h9=>?_⟩
  refine ⟨_,rfl,_,rfl,a,_,dx,_,rfl,h9,T.P.cl,T.P.no _ (by decide +kernel),(by show 6 < 1000; decide),fun H10 e10 h10=>?_⟩
  have f9:=e9.trans e10
  have f7:=e7.trans (s8.ext.trans f9)
  have f5:=e5.trans (s6.ext.trans f7)
  have f0:=(e1.trans (e2.trans e3)).trans (s4.ext.trans f5)
  exact k _ f0 ⟨dx,lk,lk,t1,t2,t3,Tg,h10,f0.sqT hl,by rw [shown4 h4]; exact f0.sqT hl,f5.tup g1,f7.tup g2,⟨[],f9.tup g3,.nil⟩,hT⟩
abbrev s_is_sign:Stmt:=top 4
theorem zg4:FnScope ["number"] ["number"] (defScope s_is_sign):=⟨rfl,rfl,rfl,by decide +kernel,rfl,by decide +kernel,by decide +kernel⟩
def spIsSign:Sp:=fun vs H Q _=>∃ z:Int,vs=[.int z]∧Q (.bl (Vatrka.isSign z)) H
theorem d_is_sign (F:FunAt K mg "is_sign" s_is_sign) (T:Txt K mg c):Def P w K mg base "is_sign" 1 ["number"] spIsSign:=by
 have sc:=zg4
 refine F.def sc (fun _ _ _ _ _ _=>ar1 fun _=>rfl) (fun vs H Q E h=>?_) (fun f cdv A outer s H vs Q E hr h=>?_)
 ·obtain ⟨z,rfl,_⟩:=h
  rfl
 ·obtain ⟨z,rfl,k⟩:=h
  refine ⟨_,(zad (zah (zkK (zbY za6 (pv 0) (zay rfl T.g_PARAGRAPH_END) (nomark _)) (zh2 (zjo zbg zbg zaf (pv 0) zaf))))),?_⟩
  refine ⟨_,rfl,rfl,_,rfl,?_⟩
  have e0:decide (V.int z=V.int 10)=(z == 10):=zbH
  rw [e0]
  by_cases h1:(z == 10)=true
  ·rw [if_pos h1]
   have e:Vatrka.isSign z=true:=by unfold Vatrka.isSign; rw [h1]; rfl
   rw [e] at k
   exact k
  ·rw [if_neg h1]
   refine ⟨_,rfl,_,_,rfl,rfl,_,rfl,?_⟩
   have h1':(z == 10)=false:=by simpa using h1
   unfold Vatrka.isSign at k
   rw [h1',Bool.false_or] at k
   by_cases h2:decide (32≤z)=true
   ·rw [if_pos h2]
    rw [h2,Bool.true_and] at k
    exact ⟨_,_,rfl,rfl,k⟩
   ·rw [if_neg h2]
    have h2':decide (32≤z)=false:=by simpa using h2
    rw [h2',Bool.false_and] at k
    exact k
abbrev s_look_with:Stmt:=top 10
theorem zfq:FnScope ["look","k","v"] ["look","k","v"] (defScope s_look_with):=⟨rfl,rfl,rfl,by decide +kernel,rfl,by decide +kernel,by decide +kernel⟩
def spLookWith (K:PySem.W.Frag):Sp:=fun vs H Q _=>∃ (lk:Addr) (l:List Nat) (k v:Nat),vs=[.ref lk,.int k,.int v]∧SqT K H lk (nums l)∧l.length=4∧k < 4 ∧
 ∀ H' p,Same H H'→SqT K H' p (nums (l.set k v))→Q (.ref p) H'
theorem lw1:∀ k < 4,¬ (HT.sIx 4 0 none=0∧HT.sIx 4 4 (some ((k:Nat):Int))=4):=by decide
theorem lw2:∀ k < 4,¬ (HT.sIx 4 0 (some (((k:Nat):Int)+1))=0∧HT.sIx 4 4 none=4):=by decide
theorem d_look_with (F:FunAt K mg "look_with" s_look_with) (T:Txt K mg c):Def P w K mg base "look_with" 1 ["look","k","v"] (spLookWith K):=by
 have sc:=zfq
 refine F.def sc (fun _ _ _ _ _ _=>ar3 fun _ _ _=>rfl) (fun vs H Q E h=>?_) (fun f cdv A outer s H vs Q E hr h=>?_)
 ·obtain ⟨lk,l,k,v,rfl,_⟩:=h
  rfl
 ·obtain ⟨lk,l,k,v,rfl,hl,h4,hk,q⟩:=h
  refine ⟨_,(zad (zah (zaH zeU (zaH zeU (zaP zhB (pv 0) zbQ (zaI (pv 1))) (zaJ (zaa (pv 2) zac))) (zaP zhB (pv 0) (zaI (zaH zbu (pv 1) zaf)) zbQ)))),?_⟩
  have hs:(4:Nat)≤sizeLine:=by decide
  match l,h4 with
  | [l0,l1,l2,l3],_ =>
   have cases4:k=0∨k=1∨k=2∨k=3:=by omega
   refine ⟨_,rfl,_,rfl,_,rfl,lk,_,rfl,hl,?_,fun p1 H1 s1 n1 g1=>?_⟩
   ·exact lw1 k hk
   refine ⟨_,rfl,(by show 1≤sizeLine; decide),fun p2 H2 s2 n2 g2=>?_⟩
   refine ⟨p1,p2,_,_,rfl,rfl,SqT.of (s2 _ _ g1),SqT.of g2,?_,fun p3 H3 s3 g3 _=>?_⟩
   ·have:=zbI (nums [l0,l1,l2,l3]) none (some (k:Int))
    exact Nat.le_trans (Nat.add_le_add_right this 1) (by show 4+1≤sizeLine; decide)
   have s03:=(s1.trans s2).trans s3
   refine ⟨_,rfl,_,rfl,_,_,rfl,rfl,_,rfl,lk,_,rfl,(s03.ext (S:=fun _=>False)).sqT hl,?_,fun p4 H4 s4 n4 g4=>?_⟩
   ·exact lw2 k hk
   refine ⟨p3,p4,_,_,rfl,rfl,(s4.ext (S:=fun _=>False)).sqT g3,SqT.of g4,?_,fun p5 H5 s5 g5 _=>?_⟩
   ·have h1:=zbI (nums [l0,l1,l2,l3]) none (some (k:Int))
    have h2:=zbI (nums [l0,l1,l2,l3]) (some ((k:Int)+1)) none
    rw [List.length_append]
    exact Nat.le_trans (Nat.add_le_add (Nat.add_le_add_right h1 1) h2) (by show 4+1+4≤sizeLine; decide)
   refine q H5 p5 ((s03.trans s4).trans s5) ?_
   rcases cases4 with rfl | rfl | rfl | rfl<;>exact g5
end
section
variable {P:Program} {w:World} {K:PySem.W.Frag} {mg:Str→Option Value} {base:Heap} {c:Cs}
abbrev s_is_marked:Stmt:=top 5
theorem zfr:FnScope ["piece"] ["piece"] (defScope s_is_marked):=⟨rfl,rfl,rfl,by decide +kernel,rfl,by decide +kernel,by decide +kernel⟩
def spIsMarked (K:PySem.W.Frag) (C:Addr):Sp:=fun vs H Q _=>∃ a x,vs=[.ref a]∧PieceAt K C H a x∧Q (.bl (marked x)) H
theorem zhg (x:Piece) (n:Nat) (h:n=x.pend.length):decide ((0:Int) < ((x.ins.length:Int)+(x.del.length:Int))+(n:Int))=marked x:=by
 subst h
 unfold marked
 cases x.ins<;>cases x.del<;>cases x.pend<;>simp<;>omega
theorem d_is_marked (F:FunAt K mg "is_marked" s_is_marked) (T:Txt K mg c):Def P w K mg base "is_marked" 1 ["piece"] (spIsMarked K c.P):=by
 have sc:=zfr
 refine F.def sc (fun _ _ _ _ _ _=>ar1 fun _=>rfl) (fun vs H Q E h=>?_) (fun f cdv A outer s H vs Q E hr h=>?_)
 ·obtain ⟨a,x,rfl,_⟩:=h
  rfl
 ·obtain ⟨a,x,rfl,⟨dx,lk,sn,it,dt,pt,Tg,h⟩,k⟩:=h
  obtain ⟨es,hpt,hes⟩:=h.pend
  refine ⟨_,(zad (zah (zbY zjp (zaH zbu (zaH zbu (zax zak rfl T.b_len PySem.boot_len (zaa (zae (pv 0) rfl) zac)) (zax zak rfl T.b_len PySem.boot_len (zaa (zae (pv 0) rfl) zac))) (zax zak rfl T.b_len PySem.boot_len (zaa (zae (pv 0) rfl) zac))) zaf (nomark _)))),?_⟩
  refine ⟨_,rfl,a,_,dx,_,_,rfl,h.obj,T.P.cl,T.P.no _ (by decide +kernel),zcq,it,_,rfl,.inr (SqT.of h.ins),?_⟩
  refine ⟨_,rfl,a,_,dx,_,_,rfl,h.obj,T.P.cl,T.P.no _ (by decide +kernel),zdb,dt,_,rfl,.inr (SqT.of h.del),_,_,rfl,rfl,?_⟩
  refine ⟨_,rfl,a,_,dx,_,_,rfl,h.obj,T.P.cl,T.P.no _ (by decide +kernel),zbX,pt,_,rfl,.inr (SqT.of hpt),_,_,rfl,rfl,_,_,rfl,rfl,?_⟩
  have e:=zhg x (es.map V.ref).length (by rw [List.length_map]; exact Paired.length hes)
  rw [List.length_map (f:=fun (n:Nat)=>V.int (n:Int)),List.length_map (f:=fun (n:Nat)=>V.int (n:Int))]
  dsimp only
  rw [e]
  exact k
abbrev s_settle:Stmt:=top 13
theorem zhF:FnScope ["piece"] ["piece"] (defScope s_settle):=⟨rfl,rfl,rfl,by decide +kernel,rfl,by decide +kernel,by decide +kernel⟩
def spSettle (K:PySem.W.Frag) (C:Addr):Sp:=fun vs H Q _=>∃ a x,vs=[.ref a]∧PieceAt K C H a x∧∀ H',Ext (·=a) H H'→PieceAt K C H' a { x with look:=shownLook x,ins:=[],pend:=[] }→Q .non H'
theorem d_settle (F:FunAt K mg "settle" s_settle) (T:Txt K mg c):Def P w K mg base "settle" 1 ["piece"] (spSettle K c.P):=by
 have sc:=zhF
 refine F.def sc (fun _ _ _ _ _ _=>ar1 fun _=>rfl) (fun vs H Q E h=>?_) (fun f cdv A outer s H vs Q E hr h=>?_)
 ·obtain ⟨a,x,rfl,_⟩:=h
  rfl
 ·obtain ⟨a,x,rfl,⟨dx,lk,sn,it,dt,pt,Tg,h⟩,k⟩:=h
  refine ⟨_,(zab (zat (pv 0) (zae (pv 0) rfl) rfl)
   (zab (zat (pv 0) (zaJ zac) rfl)
   (zad (zat (pv 0) (zaJ zac) rfl)))),?_⟩
  refine ⟨_,rfl,a,_,dx,_,_,rfl,h.obj,T.P.cl,T.P.no _ (by decide +kernel),zce,_,rfl,a,_,dx,_,rfl,h.obj,T.P.cl,T.P.no _ (by decide +kernel),zaM,fun H1 e1 h1=>?_⟩
  refine ⟨Nat.zero_le _,fun t1 H2 s2 n1 g1=>?_⟩
  refine ⟨_,rfl,a,_,dx,_,rfl,s2 _ _ h1,T.P.cl,T.P.no _ (by decide +kernel),zaM,fun H3 e3 h3=>?_⟩
  refine ⟨Nat.zero_le _,fun t2 H4 s4 n2 g2=>?_⟩
  refine ⟨_,rfl,a,_,dx,_,rfl,s4 _ _ h3,T.P.cl,T.P.no _ (by decide +kernel),zaM,fun H5 e5 h5=>?_⟩
  have f3:=e3.trans (s4.ext.trans e5)
  have f0:=e1.trans (s2.ext.trans f3)
  exact k _ f0 ⟨dx,sn,sn,t1,dt,t2,Tg,h5,f0.sqT h.seen,by rw [zb7 rfl rfl]; exact f0.sqT h.seen,f3.tup g1,f0.tup h.del,⟨[],e5.tup g2,.nil⟩,h.tags⟩
abbrev s_add_pending:Stmt:=top 12
theorem zeb:FnScope ["piece","entry"] ["piece","entry"] (defScope s_add_pending):=⟨rfl,rfl,rfl,by decide +kernel,rfl,by decide +kernel,by decide +kernel⟩
def spAddPending (K:PySem.W.Frag) (C:Addr):Sp:=fun vs H Q _=>∃ (a e:Addr) (x:Piece) (m k v:Nat),vs=[.ref a,.ref e]∧PieceAt K C H a x∧H e=some (.tup [.int m,.int k,.int v])∧k < 4∧x.pend.length < sizeLine ∧
 ∀ H',Ext (·=a) H H'→PieceAt K C H' a { x with pend:=x.pend++[⟨m,k,v⟩] }→Q .non H'
theorem Paired.snoc {α β:Type} {R:α→β→Prop} {x:α} {y:β} (h:R x y):∀ {l:List α} {m:List β},Paired R l m→Paired R (l++[x]) (m++[y])
 | _,_,.nil=>.cons h .nil
 | _,_,.cons r t=>.cons r (Paired.snoc h t)
theorem d_add_pending (F:FunAt K mg "add_pending" s_add_pending) (T:Txt K mg c) (d_look_with:Def P w K mg base "look_with" 1 ["look","k","v"] (spLookWith K)):Def P w K mg base "add_pending" 2 ["piece","entry"] (spAddPending K c.P):=by
 have sc:=zeb
 refine F.def sc (fun _ _ _ _ _ _=>ar2 fun _ _=>rfl) (fun vs H Q E h=>?_) (fun f cdv A outer s H vs Q E hr h=>?_)
 ·obtain ⟨a,e,x,m,k,v,rfl,_⟩:=h
  rfl
 ·obtain ⟨a,e,x,m,k,v,rfl,⟨dx,lk,sn,it,dt,pt,Tg,h⟩,he,hk,hz,q⟩:=h
  obtain ⟨es,hpt,hes⟩:=h.pend
  refine ⟨_,(zab (zat (pv 0) (zaH zeU (zae (pv 0) rfl) (zaJ (zaa (pv 1) zac))) rfl)
   (zad (zat (pv 0) (zap d_look_with (hr.mono (by decide)) rfl pass0 (zaa (zae (pv 0) rfl) (zaa (zaE zen (pv 1) zaf (fun _ _=>rfl)) (zaa (zaE zen (pv 1) zaf (fun _ _=>rfl)) zac)))) rfl))),?_⟩
  refine ⟨_,rfl,a,_,dx,_,_,rfl,h.obj,T.P.cl,T.P.no _ (by decide +kernel),zbX,_,rfl,(by show 1≤sizeLine; decide),fun p1 H1 s1 n1 g1=>?_⟩
  refine ⟨pt,p1,_,_,rfl,rfl,SqT.of (s1 _ _ hpt),SqT.of g1,?_,fun p2 H2 s2 _ g2=>?_⟩
  ·rw [List.length_map,Paired.length hes]
   exact hz
  have g2:=g2 (s1 _ _ hpt) g1
  have s02:=s1.trans s2
  refine ⟨_,rfl,a,_,dx,_,rfl,s02 _ _ h.obj,T.P.cl,T.P.no _ (by decide +kernel),zaM,fun H3 e3 h3=>?_⟩
  have f03:Ext (·=a) H H3:=s02.ext.trans e3
  refine ⟨_,rfl,a,_,dx,_,_,rfl,h3,T.P.cl,T.P.no _ (by decide +kernel),zce,?_⟩
  refine ⟨_,rfl,e,_,_,_,rfl,rfl,SqT.of (f03.tup he),zas (j:=1) rfl,?_⟩
  refine ⟨_,rfl,e,_,_,_,rfl,rfl,SqT.of (f03.tup he),zas (j:=2) rfl,?_⟩
  refine ⟨sn,shownLook x,k,v,rfl,f03.sqT h.seen,rfl,hk,fun H4 p4 s4 g4=>?_⟩
  refine ⟨_,rfl,a,_,dx,_,rfl,s4 _ _ h3,T.P.cl,T.P.no _ (by decide +kernel),zaM,fun H5 e5 h5=>?_⟩
  have f35:Ext (·=a) H3 H5:=s4.ext.trans e5
  have f0:=f03.trans f35
  refine q _ f0 ⟨dx,lk,p4,it,dt,p2,Tg,h5,f0.sqT h.look,?_,f0.tup h.ins,f0.tup h.del,⟨es++[e],?_,?_⟩,h.tags⟩
  ·rw [zeA x m k v hk]
   exact e5.sqT g4
  ·rw [List.map_append]
   exact f35.tup (e3.tup g2)
  ·exact Paired.snoc (R:=fun e (y:Pending)=>H5 e=some (.tup [.int y.change,.int y.prop,.int y.value])) (y:=⟨m,k,v⟩) (f0.tup he) (Paired.keepE f0 hes)
end
section
variable {P:Program} {w:World} {K:PySem.W.Frag} {mg:Str→Option Value} {base:Heap} {c:Cs}
theorem Paired.get? {α β:Type} {R:α→β→Prop}:∀ {l:List α} {m:List β} {i:Nat} {x:α},Paired R l m→l[i]?=some x→∃ y,m[i]?=some y∧R x y
 | _,_,_,_,.nil,h=>by simp at h
 | _,_,0,_,.cons r _,h=>by
  have e:=Option.some.inj h
  subst e
  exact ⟨_,rfl,r⟩
 | _,_,i+1,x,.cons _ t,h=>Paired.get? (i:=i) t h
theorem Paired.zip {α β:Type} {R:α→β→Prop}:∀ {l:List α} {m:List β},Paired R l m→∀ p∈l.zip m,R p.1 p.2
 | _,_,.nil,p,h=>by simp at h
 | _,_,.cons r t,p,h=>by
  rcases List.mem_cons.mp h with e | h
  ·subst e
   exact r
  ·exact Paired.zip t p h
theorem Paired.zips {α β:Type} {R:α→β→Prop}:∀ {l:List (α×β)},(∀ p∈l,R p.1 p.2)→Paired R (l.map (·.1)) (l.map (·.2))
 | [],_=>.nil
 | p::l,h=>.cons (h p (List.mem_cons.mpr (.inl rfl))) (Paired.zips fun q hq=>h q (List.mem_cons.mpr (.inr hq)))
theorem Paired.zip_snd {α β:Type} {R:α→β→Prop}:∀ {l:List α} {m:List β},Paired R l m→(l.zip m).map (·.2)=m
 | _,_,.nil=>rfl
 | _,_,.cons r t=>congrArg (List.cons _) (Paired.zip_snd t)
theorem zam {α:Type}:∀ {l:List α} {i:Nat} {x:α},l[i]?=some x→l.take (i+1)=l.take i++[x]
 | [],i,x,h=>by simp at h
 | a::l,0,x,h=>by
  have e:a=x:=Option.some.inj h
  subst e
  rfl
 | a::l,i+1,x,h=>by
  have ih:=zam (l:=l) (i:=i) (x:=x) h
  show a::l.take (i+1)=a::l.take i++[x]
  rw [ih]
  rfl
theorem zau {α β:Type} {f:α→β} {l:List α} {i:Nat} {y:β} (h:(l.map f)[i]?=some y):∃ x,l[i]?=some x∧y=f x:=by
 rw [List.getElem?_map] at h
 cases e:l[i]? with
 | none=>rw [e] at h; cases h
 | some x=>rw [e] at h; exact ⟨x,rfl,(Option.some.inj h).symm⟩
abbrev s_paint_over:Stmt:=top 11
theorem zeE:FnScope ["piece","k","v","entry"] ["piece","k","v"] (defScope s_paint_over):=⟨rfl,rfl,rfl,by decide +kernel,rfl,by decide +kernel,by decide +kernel⟩
def spPaintOver (K:PySem.W.Frag) (C:Addr):Sp:=fun vs H Q _=>∃ (a:Addr) (x:Piece) (k v:Nat),vs=[.ref a,.int k,.int v]∧PieceAt K C H a x∧k < 4∧x.look.length=4∧x.pend.length < sizeLine ∧
 ∀ H',Ext (·=a) H H'→PieceAt K C H' a { x with look:=x.look.set k v,pend:=x.pend.filter fun y=>!(y.prop == k) }→Q .non H'
theorem d_paint_over (F:FunAt K mg "paint_over" s_paint_over) (T:Txt K mg c) (d_look_with:Def P w K mg base "look_with" 1 ["look","k","v"] (spLookWith K)):Def P w K mg base "paint_over" 2 ["piece","k","v"] (spPaintOver K c.P):=by
 have sc:=zeE
 refine F.def sc (fun _ _ _ _ _ _=>ar3 fun _ _ _=>rfl) (fun vs H Q E h=>?_) (fun f cdv A outer s H vs Q E hr h=>?_)
 ·obtain ⟨a,x,k,v,rfl,_⟩:=h
  rfl
 ·obtain ⟨a,x,k,v,rfl,⟨dx,lk,sn,it,dt,pt,Tg,h⟩,hk,h4,hz,q⟩:=h
  obtain ⟨es,hpt,hes⟩:=h.pend
  refine ⟨_,(zab (zat (pv 0) (zfA ziW rfl T.b_tuple boot_tuple (zaa (zfz rfl sc.nd (zhZ (zae (pv 0) rfl)) (own:=[("entry",3)]) (zbe rfl) (fun _ _ _ _ _=>(zav (i:=3) sc.nd rfl (by first | exact Or.inl rfl | exact Or.inr rfl))) (fun _ _ _ _ _=>(zdF (zan zhe (zaE (ziv (K:=K)) (pv 3) zaf (fun _ _=>rfl)) (pv 1) (nomark _)))) (fun _ _ _ _ _=>(pv 3))) zac)) rfl)
   (zab (zat (pv 0) (zap d_look_with (hr.mono (by decide)) rfl pass0 (zaa (zae (pv 0) rfl) (zaa (pv 1) (zaa (pv 2) zac)))) rfl)
   (zad (zat (pv 0) (zap d_look_with (hr.mono (by decide)) rfl pass0 (zaa (zae (pv 0) rfl) (zaa (pv 1) (zaa (pv 2) zac)))) rfl)))),?_⟩
  refine ⟨_,rfl,a,_,dx,_,_,rfl,h.obj,T.P.cl,T.P.no _ (by decide +kernel),zbX,pt,rfl,⟨_,SqT.of hpt⟩,fun D hD=>zjO (K:=K) (a:=pt) (xs:=es.map V.ref)
   (fun i H'=>Same H H'∧H' D=some (.lst ((((es.zip x.pend).take i).filter fun p=>!(p.2.prop == k)).map fun p=>V.ref p.1))) ⟨zaz hD,zai⟩ (fun i H' _ hp=>SqT.of (hp.1 _ _ hpt)) ?_ ?_⟩
  ·rintro i y H' hi ⟨s1,hD1⟩
   obtain ⟨e,he,rfl⟩:=zau hi
   obtain ⟨yd,hy,hte⟩:=Paired.get? hes he
   have hzip:(es.zip x.pend)[i]?=some (e,yd):=by rw [List.getElem?_zip_eq_some]; exact ⟨he,hy⟩
   refine ⟨rfl,?_⟩
   refine ⟨_,rfl,e,_,_,_,rfl,rfl,SqT.of (s1 _ _ hte),zas (j:=1) rfl,_,rfl,rfl,_,rfl,?_⟩
   have edec:(!decide (V.int (yd.prop:Int)=V.int (k:Int))) = !(yd.prop == k):=by
    rw [zbH]
    congr 1
    rw [Bool.eq_iff_iff]
    simp
    omega
   dsimp only
   rw [edec,zam hzip,List.filter_append]
   by_cases hb:(!(yd.prop == k))=true
   ·rw [if_pos hb]
    refine ⟨_,rfl,_,hD1,?_,?_⟩
    ·rw [List.length_map]
     refine Nat.lt_of_le_of_lt (List.length_filter_le _ _) (Nat.lt_of_le_of_lt (List.length_take_le _ _) (Nat.lt_of_le_of_lt ?_ hz))
     exact Nat.le_of_lt (List.getElem?_eq_some_iff.mp hy).1
    ·refine ⟨fun b o hb=>by rw [zaA (zag hb hD)]; exact s1 b o hb,?_⟩
     rw [zai,List.filter_cons,if_pos hb,List.filter_nil,List.map_append]
     rfl
   ·rw [if_neg hb]
    refine ⟨s1,?_⟩
    rw [List.filter_cons,if_neg hb,List.filter_nil,List.append_nil]
    exact hD1
  ·rintro H1 ⟨s1,hD1⟩
   have ea:((es.zip x.pend).take (es.map V.ref).length)=es.zip x.pend:=List.take_of_length_le (by rw [List.length_zip,List.length_map]; exact Nat.min_le_left _ _)
   rw [ea] at hD1
   refine ⟨D,_,rfl,SqL.of hD1,fun p2 H2 s2 n2 g2=>?_⟩
   have s02:=s1.trans s2
   refine ⟨_,rfl,a,_,dx,_,rfl,s02 _ _ h.obj,T.P.cl,T.P.no _ (by decide +kernel),zaM,fun H3 e3 h3=>?_⟩
   have f03:Ext (·=a) H H3:=s02.ext.trans e3
   refine ⟨_,rfl,a,_,dx,_,_,rfl,h3,T.P.cl,T.P.no _ (by decide +kernel),zdH,_,rfl,_,rfl,lk,x.look,k,v,rfl,f03.sqT h.look,h4,hk,fun H4 p4 s4 g4=>?_⟩
   refine ⟨_,rfl,a,_,dx,_,rfl,s4 _ _ h3,T.P.cl,T.P.no _ (by decide +kernel),zaM,fun H5 e5 h5=>?_⟩
   have f05:Ext (·=a) H H5:=f03.trans (s4.ext.trans e5)
   refine ⟨_,rfl,a,_,dx,_,_,rfl,h5,T.P.cl,T.P.no _ (by decide +kernel),zce,_,rfl,_,rfl,sn,shownLook x,k,v,rfl,f05.sqT h.seen,rfl,hk,fun H6 p6 s6 g6=>?_⟩
   refine ⟨_,rfl,a,_,dx,_,rfl,s6 _ _ h5,T.P.cl,T.P.no _ (by decide +kernel),zaM,fun H7 e7 h7=>?_⟩
   have f57:Ext (·=a) H5 H7:=s6.ext.trans e7
   have f07:=f05.trans f57
   have f27:Ext (·=a) H2 H7:=e3.trans ((s4.ext.trans e5).trans f57)
   refine q _ f07 ⟨dx,p4,p6,it,dt,p2,Tg,h7,f57.sqT (e5.sqT g4),?_,f07.tup h.ins,f07.tup h.del,⟨((es.zip x.pend).filter fun p=>!(p.2.prop == k)).map (·.1),?_,?_⟩,h.tags⟩
   ·rw [zd2 x k v hk h4]
    exact e7.sqT g6
   ·rw [List.map_map]
    exact f27.tup g2
   ·have e1:x.pend.filter (fun y=>!(y.prop == k))=((es.zip x.pend).filter fun p=>!(p.2.prop == k)).map (·.2):=by
     conv=>lhs; rw [← Paired.zip_snd hes]
     rw [List.filter_map]
     rfl
    show Paired _ _ (x.pend.filter (fun y=>!(y.prop == k)))
    rw [e1]
    exact Paired.zips fun p hp=>f07.tup (Paired.zip hes p (List.mem_filter.mp hp).1)
end
abbrev dNums (l:List Nat):List PyData:=l.map fun (n:Nat)=>PyData.int (n:Int)
abbrev dPend (l:List Pending):List PyData:=l.map fun y=>PyData.tuple [.int y.change,.int y.prop,.int y.value]
theorem zet {K:PySem.W.Frag} {H:Hp}:∀ l:List Nat,DpAll K H (nums l) (dNums l)
 | []=>.nil
 | n::l=>.cons (.int _) (zet l)
theorem zbt {K:PySem.W.Frag} {H:Hp} {a:Addr} {l:List Nat} (h:SqT K H a (nums l)):Dp K H (.ref a) (.tuple (dNums l)):=.tup h (zet l)
theorem zes {K:PySem.W.Frag} {H:Hp}:∀ {es:List Addr} {l:List Pending},Paired (fun e (y:Pending)=>H e=some (.tup [.int y.change,.int y.prop,.int y.value])) es l→DpAll K H (es.map V.ref) (dPend l)
 | _,_,.nil=>.nil
 | _,_,.cons r t=>.cons (.tup (SqT.of r) (.cons (.int _) (.cons (.int _) (.cons (.int _) .nil)))) (zes t)
theorem ziM {K:PySem.W.Frag} {H:Hp} {a:Addr} {l:List Pending} (h:PendAt H a l):Dp K H (.ref a) (.tuple (dPend l)):=by
 obtain ⟨es,h1,h2⟩:=h
 exact .tup (SqT.of h1) (zes h2)
theorem zgM:∀ l:List Nat,PyData.canLayAll0 (dNums l)=true∧PyData.depthAll (dNums l)=0
 | []=>⟨by simp [PyData.canLayAll0],by simp [PyData.depthAll]⟩
 | n::l=>by
  obtain ⟨h1,h2⟩:=zgM l
  constructor
  ·show PyData.canLayAll0 (.int n::dNums l)=true
   simp only [PyData.canLayAll0,PyData.canLay0,h1,Bool.and_self]
  ·show PyData.depthAll (.int n::dNums l)=0
   simp only [PyData.depthAll,PyData.depth,h2,Nat.max_self]
theorem zbs (l:List Nat):SeqAt.shaped (.tuple (dNums l))=true:=by
 obtain ⟨h1,h2⟩:=zgM l
 unfold SeqAt.shaped
 simp only [PyData.canLay0,PyData.depth,h1,h2]
 decide
theorem zgL:∀ l:List Pending,PyData.canLayAll0 (dPend l)=true∧PyData.depthAll (dPend l)≤1
 | []=>⟨by simp [PyData.canLayAll0],by simp [PyData.depthAll]⟩
 | y::l=>by
  obtain ⟨h1,h2⟩:=zgL l
  constructor
  ·show PyData.canLayAll0 (.tuple [.int y.change,.int y.prop,.int y.value]::dPend l)=true
   simp only [PyData.canLayAll0,PyData.canLay0,h1,Bool.and_self]
  ·show PyData.depthAll (.tuple [.int y.change,.int y.prop,.int y.value]::dPend l)≤1
   simp only [PyData.depthAll,PyData.depth]
   omega
theorem zhD (l:List Pending):SeqAt.shaped (.tuple (dPend l))=true:=by
 obtain ⟨h1,h2⟩:=zgL l
 unfold SeqAt.shaped
 rw [Bool.and_eq_true]
 constructor
 ·simp only [PyData.canLay0]
  exact h1
 ·rw [decide_eq_true_eq]
  simp only [PyData.depth]
  omega
theorem zgU:∀ l m:List Nat,PyData.eqvAll (dNums l) (dNums m)=(l == m)
 | [],[]=>by simp [PyData.eqvAll]
 | [],_::_=>by simp [PyData.eqvAll]
 | _::_,[]=>by simp [PyData.eqvAll]
 | a::l,b::m=>by
  show PyData.eqvAll (.int a::dNums l) (.int b::dNums m)=_
  simp only [PyData.eqvAll,PyData.eqv,zgU l m]
  show ((a:Int) == (b:Int) && (l == m))=(a == b && (l == m))
  congr 1
  rw [Bool.eq_iff_iff]
  simp
  omega
theorem zep (l m:List Nat):PyData.eqv (.tuple (dNums l)) (.tuple (dNums m))=(l == m):=by
 simp only [PyData.eqv,zgU l m]
theorem zjl (y z:Pending):(y == z)=(y.change == z.change && (y.prop == z.prop && y.value == z.value)):=by
 obtain ⟨a,b,d⟩:=y
 obtain ⟨a',b',d'⟩:=z
 rw [Bool.eq_iff_iff]
 simp
theorem zgT:∀ l m:List Pending,PyData.eqvAll (dPend l) (dPend m)=(l == m)
 | [],[]=>by simp [PyData.eqvAll]
 | [],_::_=>by simp [PyData.eqvAll]
 | _::_,[]=>by simp [PyData.eqvAll]
 | a::l,b::m=>by
  show PyData.eqvAll (.tuple [.int a.change,.int a.prop,.int a.value]::dPend l) (.tuple [.int b.change,.int b.prop,.int b.value]::dPend m)=_
  simp only [PyData.eqvAll,PyData.eqv,zgT l m]
  show _=(a == b && (l == m))
  congr 1
  rw [zjl,Bool.and_true,Bool.eq_iff_iff]
  simp
  omega
theorem zk3 (l m:List Pending):PyData.eqv (.tuple (dPend l)) (.tuple (dPend m))=(l == m):=by
 simp only [PyData.eqv,zgT l m]
section
variable {P:Program} {w:World} {K:PySem.W.Frag} {mg:Str→Option Value} {base:Heap} {c:Cs}
abbrev s_has_same_marks:Stmt:=top 8
theorem zcT:FnScope ["piece","other"] ["piece","other"] (defScope s_has_same_marks):=⟨rfl,rfl,rfl,by decide +kernel,rfl,by decide +kernel,by decide +kernel⟩
def spSameMarks (K:PySem.W.Frag) (C:Addr):Sp:=fun vs H Q _=>∃ a b x y,vs=[.ref a,.ref b]∧PieceAt K C H a x∧PieceAt K C H b y∧Q (.bl (Vatrka.sameMarks x y)) H
theorem d_has_same_marks (F:FunAt K mg "has_same_marks" s_has_same_marks) (T:Txt K mg c):Def P w K mg base "has_same_marks" 1 ["piece","other"] (spSameMarks K c.P):=by
 have sc:=zcT
 refine F.def sc (fun _ _ _ _ _ _=>ar2 fun _ _=>rfl) (fun vs H Q E h=>?_) (fun f cdv A outer s H vs Q E hr h=>?_)
 ·obtain ⟨a,b,x,y,rfl,_⟩:=h
  rfl
 ·obtain ⟨a,b,x,y,rfl,⟨dx,lk,sn,it,dt,pt,Tg,h⟩,⟨dx2,lk2,sn2,it2,dt2,pt2,Tg2,h2⟩,k⟩:=h
  refine ⟨_,(zad (zah (zjN (zbY (zdJ hr.units) (zae (pv 0) rfl) (zae (pv 1) rfl) (nomark _)) (zjN (zbY (zdJ hr.units) (zae (pv 0) rfl) (zae (pv 1) rfl) (nomark _)) (zh2 (zbY (zdJ hr.units) (zae (pv 0) rfl) (zae (pv 1) rfl) (nomark _))))))),?_⟩
  refine ⟨_,rfl,a,_,dx,_,_,rfl,h.obj,T.P.cl,T.P.no _ (by decide +kernel),zcq,_,rfl,b,_,dx2,_,_,rfl,h2.obj,T.P.cl,T.P.no _ (by decide +kernel),zcq,_,_,zbt (SqT.of h.ins),zbt (SqT.of h2.ins),zbs _,zbs _,_,rfl,?_⟩
  unfold Vatrka.sameMarks at k
  rw [zep]
  by_cases e1:(x.ins == y.ins)=true
  ·rw [if_pos e1]
   rw [e1,Bool.true_and] at k
   refine ⟨_,rfl,a,_,dx,_,_,rfl,h.obj,T.P.cl,T.P.no _ (by decide +kernel),zdb,_,rfl,b,_,dx2,_,_,rfl,h2.obj,T.P.cl,T.P.no _ (by decide +kernel),zdb,_,_,zbt (SqT.of h.del),zbt (SqT.of h2.del),zbs _,zbs _,_,rfl,?_⟩
   rw [zep]
   by_cases e2:(x.del == y.del)=true
   ·rw [if_pos e2]
    rw [e2,Bool.true_and] at k
    refine ⟨_,rfl,a,_,dx,_,_,rfl,h.obj,T.P.cl,T.P.no _ (by decide +kernel),zbX,_,rfl,b,_,dx2,_,_,rfl,h2.obj,T.P.cl,T.P.no _ (by decide +kernel),zbX,_,_,ziM h.pend,ziM h2.pend,zhD _,zhD _,?_⟩
    rw [zk3]
    exact k
   ·rw [if_neg e2]
    rw [Bool.not_eq_true] at e2
    rw [e2,Bool.false_and] at k
    exact k
  ·rw [if_neg e1]
   rw [Bool.not_eq_true] at e1
   rw [e1,Bool.false_and] at k
   exact k
abbrev s_copy_with:Stmt:=top 9
theorem zfu:FnScope ["piece","insertions","twin"] ["piece","insertions"] (defScope s_copy_with):=⟨rfl,rfl,rfl,by decide +kernel,rfl,by decide +kernel,by decide +kernel⟩
def spCopy (K:PySem.W.Frag) (C:Addr):Sp:=fun vs H Q _=>∃ (a it:Addr) (x:Piece) (is:List Nat),vs=[.ref a,.ref it]∧PieceAt K C H a x∧x.look.length=4∧H it=some (.tup (nums is)) ∧
 ∀ H' b,Same H H'→H b=none→PieceAt K C H' b { x with ins:=is,del:=[] }→Q (.ref b) H'
theorem d_copy_with (F:FunAt K mg "copy_with" s_copy_with) (T:Txt K mg c) (d_Piece:NewDef P w K mg base "Piece" c.P 1 ["self","sign","look","tags"] (spPiece K c.P)):Def P w K mg base "copy_with" 3 ["piece","insertions"] (spCopy K c.P):=by
 have sc:=zfu
 refine F.def sc (fun _ _ _ _ _ _=>ar2 fun _ _=>rfl) (fun vs H Q E h=>?_) (fun f cdv A outer s H vs Q E hr h=>?_)
 ·obtain ⟨a,it,x,is,rfl,_⟩:=h
  rfl
 ·obtain ⟨a,i2,x,is,rfl,⟨dx,lk,sn,it,dt,pt,Tg,h⟩,h4,hi,q⟩:=h
  refine ⟨_,(zab (zar (i:=2) sc.nd rfl (by first | exact Or.inl rfl | exact Or.inr rfl) (zgH d_Piece (hr.mono (by decide)) rfl pass0 (zaa (zae (pv 0) rfl) (zaa (zae (pv 0) rfl) (zaa (zae (pv 0) rfl) zac)))))
   (zab (zat (pv 2) (zae (pv 0) rfl) rfl)
   (zab (zat (pv 2) (pv 1) rfl)
   (zab (zat (pv 2) (zae (pv 0) rfl) rfl)
   (zad (zah (pv 2))))))),?_⟩
  refine ⟨_,rfl,a,_,dx,_,_,rfl,h.obj,T.P.cl,T.P.no _ (by decide +kernel),zcX,_,rfl,a,_,dx,_,_,rfl,h.obj,T.P.cl,T.P.no _ (by decide +kernel),zdH,_,rfl,a,_,dx,_,_,rfl,h.obj,T.P.cl,T.P.no _ (by decide +kernel),zcd,?_⟩
  intro b db H1 s1 n1 g1
  refine ⟨b,db,lk,x.sign,x.look,x.tags,Tg,rfl,g1,(s1.ext (S:=fun _=>False)).sqT h.look,h4,h.tags,fun H2 e2 ⟨db',lk2,sn2,it2,dt2,pt2,Tg2,h2⟩=>⟨rfl,?_⟩⟩
  have s2:Same H H2:=fun d o ho=>e2 d o (s1 d o ho) fun z=>(by subst z; rw [n1] at ho; cases ho)
  have hk {H' H'':Hp} (s:Same H H') (e:Ext (·=b) H' H''):Same H H'':=fun d o ho=>e d o (s d o ho) fun z=>(by subst z; rw [n1] at ho; cases ho)
  refine ⟨_,rfl,a,_,dx,_,_,rfl,s2 _ _ h.obj,T.P.cl,T.P.no _ (by decide +kernel),zce,_,rfl,b,_,db',_,rfl,h2.obj,T.P.cl,T.P.no _ (by decide +kernel),zaM,fun H3 e3 h3=>?_⟩
  have s3:=hk s2 e3
  refine ⟨_,rfl,_,rfl,b,_,db',_,rfl,h3,T.P.cl,T.P.no _ (by decide +kernel),zaM,fun H4 e4 h4'=>?_⟩
  have s4:=hk s3 e4
  refine ⟨_,rfl,a,_,dx,_,_,rfl,s4 _ _ h.obj,T.P.cl,T.P.no _ (by decide +kernel),zbX,_,rfl,b,_,db',_,rfl,h4',T.P.cl,T.P.no _ (by decide +kernel),zaM,fun H5 e5 h5=>?_⟩
  have s5:=hk s4 e5
  have f5:=e3.trans (e4.trans e5)
  have g5:Ext (fun _=>False) H H5:=s5.ext
  exact ⟨_,rfl,q H5 b s5 n1 ⟨db',lk2,sn,i2,dt2,pt,Tg2,h5,f5.sqT h2.look,g5.sqT h.seen,g5.tup hi,f5.tup h2.del,h.pend.keep g5,h2.tags⟩⟩
end
end Tt
end
section
namespace Tt
open PySem PySem.Spec PyProof.Rows L2
theorem Ext.then {S S':Addr→Prop} {H H1 H2:Hp} (e:Ext S H H1) (f:Ext S' H1 H2) (h:∀ b o,H b=some o→S' b→S b):Ext S H H2 :=
 ⟨fun b o hb k=>f.kp b o (e.kp b o hb k) fun z=>k (h b o hb z),fun b hb=>e.dom b (f.dom b hb)⟩
section
variable {X:Cx} {o value l:Expr} {f:Str} {pos tpos:Pos} {ta tv tl:TE} {tg:Expr}
def rRepA:R2:=fun x y H Q=>∃ l k xs,x = .ref l∧y = .int k∧H l=some (.lst xs)∧-(2 ^ 63)≤k∧k < 2 ^ 63∧xs.length * k.toNat≤sizeLine ∧
 ∀ p H',Same H H'→H p=none→H' p=some (.lst (List.replicate k.toNat xs).flatten)→Q (.ref p) H'
theorem zh8:OpR X (binaryOp .Mult) rRepA:=by
 intro pins s σ H x y v u Q I rx ry h
 obtain ⟨l,k,xs,h1,h2,h3,h4,h5,h6,q⟩:=h
 exact zkP pins s σ H x y v u Q I rx ry ⟨l,k,xs,h1,h2,h3,h4,h5,h6,fun p hp=>q p _ (zaz hp) hp zai⟩
def rListA (K:PySem.W.Frag):List V→Hp→VK→Prop:=fun xs H Q=>∃ p ys,xs=[.ref p]∧(SqL K H p ys∨SqT K H p ys)∧∀ l H',Same H H'→H l=none→H' l=some (.lst ys)→Q (.ref l) H'
theorem zho:CallR X (.type "list") (rListA X.K):=by
 intro pins s σ H xs us Q I r h
 obtain ⟨p,ys,h1,h2,q⟩:=h
 exact zfU pins s σ H xs us Q I r ⟨p,ys,h1,h2,fun l hl=>q l _ (zaz hl) hl zai⟩
def sFldAugA (K:PySem.W.Frag) (ta tv:TE) (f:Str):TS:=fun D σ H=>ta σ H fun x H1=>∃ a C dx fs i,x = .ref a∧H1 a=some (.ins C dx fs)∧Cls K C∧NoAttr K C f∧fs.lookup f=some (.int i) ∧
 tv σ H1 fun y H2=>∃ j,y = .int j∧H2 a=some (.ins C dx fs)∧fs.length < 1000∧∀ H3,Ext (·=a) H2 H3→H3 a=some (.ins C dx (putF f (.int (i+j)) fs))→D.nx σ H3
theorem zhb (ha:PE X o ta) (hv:PE X value tv):PS X (.AugAssign (.Attribute o f tpos) .Add value pos) (sFldAugA X.K ta tv f):=by
 intro pins s σ H D I h
 refine wpAny_AugAssign_AttributeAny (thn (ha pins s σ H _ I h) fun ov s1 ⟨x,H1,I1,rx,a,C,dx,fs,i,ex,ea,c,n,l,q⟩=>?_)
 subst ex
 obtain rfl:ov=Value.ref a:=rx
 refine zeo I1 ea c n l fun u s2 I2 ru=>thn (hv pins s2 σ H1 _ I2 q) fun w3 s3 ⟨y,H2,I3,ry,j,ey,ea',l',q3⟩=>?_
 subst ey
 refine thn (zkY pins s3 σ H2 (.int i) (.int j) u w3 (fun z H3=>z = .int (i+j)∧H3=H2) I3 ru ry ⟨i,j,rfl,rfl,rfl,rfl⟩) fun w4 s4 ⟨z,H3,I4,rz,e1,e2⟩=>?_
 subst e1 e2
 exact zek I4 ea' c n l' rz fun s5 I5=>⟨σ,_,I5,q3 _ (zbG ea' (fun z=>z) rfl) zai⟩
def iSeq (K:PySem.W.Frag) (tl:TE):TI:=fun σ H R=>tl σ H fun x H1=>∃ a,x = .ref a∧(((∃ xs,SqL K H1 a xs)∧R (Itl K a) H1)∨((∃ xs,SqT K H1 a xs)∧R (Itt K a) H1))
theorem zgG (hl:PE X l tl):PI X tg l (iSeq X.K tl):=by
 intro pins s σ H R I h
 refine thn (hl pins s σ H _ I h) fun v s1 ⟨x,H1,I1,r1,a,e,q1⟩=>?_
 subst e
 cases r1
 rcases q1 with ⟨⟨xs,hq⟩,q⟩ | ⟨⟨xs,hq⟩,q⟩
 ·obtain ⟨its,rv,p,hz⟩:=I1.list hq
  refine wpAny_pyIter_list p.isList ?_
  refine ⟨s1.heap.objs.size,[s1.heap.objs.size],_,_,H1,rfl,I1.kept (t':=s1.toks) fun b o e=>Heap.get?_push_of_some _ e,zfh a _,⟨_,Heap.get?_push_size _ rfl,rfl,rfl⟩,fun b hb=>?_,q⟩
  have e:b=s1.heap.objs.size:=by simpa using hb
  subst e
  exact I1.fpOk (Nat.le_refl _) (I1.hok.fresh (Nat.le_refl _))
 ·obtain ⟨its,rv,p,hz⟩:=I1.tuple hq
  refine wpAny_pyIter_tuple (show s1.heap.IsTuple a its.toArray from p) ?_
  refine ⟨s1.heap.objs.size,[s1.heap.objs.size],_,_,H1,rfl,I1.kept (t':=s1.toks) fun b o e=>Heap.get?_push_of_some _ e,zef a _,⟨_,Heap.get?_push_size _ rfl,rfl,rfl⟩,fun b hb=>?_,q⟩
  have e:b=s1.heap.objs.size:=by simpa using hb
  subst e
  exact I1.fpOk (Nat.le_refl _) (I1.hok.fresh (Nat.le_refl _))
end
abbrev ForR (g:TG) (tb:TS) (D:Ends) (σ:L2.St) (J:It) (H1:Hp):Prop:=∃ W:Nat→Nat→L2.St→Hp→Prop,(∃ m,W 0 m σ H1)∧∀ i m σ H,W i m σ H →
 (J.stop i H∧D.nx σ H)∨(J.go i H∧∃ N:L2.St→Hp→Prop,(∀ σ' H',N σ' H'→∃ m',m' < m∧W (i+1) m' σ' H')∧∀ x H',J.yld i H x H'→g x σ H' fun σ2 H2=>tb { D with nx:=N,ct:=N,bk:=D.nx } σ2 H2)
theorem zdl {K:PySem.W.Frag} {a:Addr} {xs:List V} {g:TG} {tb:TS} {D:Ends} {σ:L2.St} {H:Hp} (Pv:Nat→L2.St→Hp→Prop) (hG:H a=some (.lst xs)∨H a=some (.tup xs)) (h0:Pv 0 σ H) (hl:∀ i σ' H',Pv i σ' H'→∀ o,H a=some o→H' a=some o)
  (hs:∀ i x σ' H',xs[i]?=some x→Pv i σ' H'→g x σ' H' fun σ2 H2=>tb { D with nx:=Pv (i+1),ct:=Pv (i+1),bk:=D.nx } σ2 H2) (hd:∀ σ' H',Pv xs.length σ' H'→D.nx σ' H') :
  ((∃ ys,SqL K H a ys)∧ForR g tb D σ (Itl K a) H)∨((∃ ys,SqT K H a ys)∧ForR g tb D σ (Itt K a) H):=by
 rcases hG with hG | hG
 ·exact .inl ⟨⟨_,SqL.of hG⟩,za8 (K:=K) (a:=a) (xs:=xs) Pv h0 (fun i σ' H' _ p=>SqL.of (hl i σ' H' p _ hG)) hs hd⟩
 ·exact .inr ⟨⟨_,SqT.of hG⟩,ziG (K:=K) (a:=a) (xs:=xs) Pv h0 (fun i σ' H' _ p=>SqT.of (hl i σ' H' p _ hG)) hs hd⟩
end Tt
end
section
namespace Tt
open PySem PySem.Spec PyProof.Rows L2
open Vatrka (Piece Pending shownLook shownValue marked)
section
variable {P:Program} {w:World} {K:PySem.W.Frag} {mg:Str→Option Value} {base:Heap} {c:Cs}
theorem zgV (l:List Nat):(l == ([]:List Nat))=l.isEmpty:=by cases l<;>rfl
abbrev s_is_shown:Stmt:=top 6
theorem zf9:FnScope ["piece"] ["piece"] (defScope s_is_shown):=⟨rfl,rfl,rfl,by decide +kernel,rfl,by decide +kernel,by decide +kernel⟩
def spIsShown (K:PySem.W.Frag) (C:Addr):Sp:=fun vs H Q _=>∃ a x,vs=[.ref a]∧PieceAt K C H a x∧∀ H',Same H H'→Q (.bl (Vatrka.shown x)) H'
theorem d_is_shown (F:FunAt K mg "is_shown" s_is_shown) (T:Txt K mg c):Def P w K mg base "is_shown" 1 ["piece"] (spIsShown K c.P):=by
 have sc:=zf9
 refine F.def sc (fun _ _ _ _ _ _=>ar1 fun _=>rfl) (fun vs H Q E h=>?_) (fun f cdv A outer s H vs Q E hr h=>?_)
 ·obtain ⟨a,x,rfl,_⟩:=h
  rfl
 ·obtain ⟨a,x,rfl,⟨dx,lk,sn,it,dt,pt,Tg,h⟩,k⟩:=h
  refine ⟨_,(zad (zah (zbY (zdJ hr.units) (zae (pv 0) rfl) (zaJ zac) (nomark _)))),?_⟩
  refine ⟨_,rfl,a,_,dx,_,_,rfl,h.obj,T.P.cl,T.P.no _ (by decide +kernel),zdb,Nat.zero_le _,fun te H1 s1 n1 g1=>?_⟩
  refine ⟨_,_,zbt (SqT.of (s1 _ _ h.del)),zbt (l:=[]) (SqT.of g1),zbs _,zbs [],?_⟩
  rw [zep,zgV]
  exact k _ s1
abbrev s_is_original:Stmt:=top 7
theorem zd8:FnScope ["piece"] ["piece"] (defScope s_is_original):=⟨rfl,rfl,rfl,by decide +kernel,rfl,by decide +kernel,by decide +kernel⟩
def spIsOrig (K:PySem.W.Frag) (C:Addr):Sp:=fun vs H Q _=>∃ a x,vs=[.ref a]∧PieceAt K C H a x∧∀ H',Same H H'→Q (.bl (Vatrka.stood x)) H'
theorem d_is_original (F:FunAt K mg "is_original" s_is_original) (T:Txt K mg c):Def P w K mg base "is_original" 1 ["piece"] (spIsOrig K c.P):=by
 have sc:=zd8
 refine F.def sc (fun _ _ _ _ _ _=>ar1 fun _=>rfl) (fun vs H Q E h=>?_) (fun f cdv A outer s H vs Q E hr h=>?_)
 ·obtain ⟨a,x,rfl,_⟩:=h
  rfl
 ·obtain ⟨a,x,rfl,⟨dx,lk,sn,it,dt,pt,Tg,h⟩,k⟩:=h
  refine ⟨_,(zad (zah (zbY (zdJ hr.units) (zae (pv 0) rfl) (zaJ zac) (nomark _)))),?_⟩
  refine ⟨_,rfl,a,_,dx,_,_,rfl,h.obj,T.P.cl,T.P.no _ (by decide +kernel),zcq,Nat.zero_le _,fun te H1 s1 n1 g1=>?_⟩
  refine ⟨_,_,zbt (SqT.of (s1 _ _ h.ins)),zbt (l:=[]) (SqT.of g1),zbs _,zbs [],?_⟩
  rw [zep,zgV]
  exact k _ s1
abbrev s_restore:Stmt:=top 14
theorem zg3:FnScope ["piece"] ["piece"] (defScope s_restore):=⟨rfl,rfl,rfl,by decide +kernel,rfl,by decide +kernel,by decide +kernel⟩
def spRestore (K:PySem.W.Frag) (C:Addr):Sp:=fun vs H Q _=>∃ a x,vs=[.ref a]∧PieceAt K C H a x∧x.look.length=4∧∀ H',Ext (·=a) H H'→PieceAt K C H' a { x with del:=[],pend:=[] }→Q .non H'
theorem d_restore (F:FunAt K mg "restore" s_restore) (T:Txt K mg c):Def P w K mg base "restore" 1 ["piece"] (spRestore K c.P):=by
 have sc:=zg3
 refine F.def sc (fun _ _ _ _ _ _=>ar1 fun _=>rfl) (fun vs H Q E h=>?_) (fun f cdv A outer s H vs Q E hr h=>?_)
 ·obtain ⟨a,x,rfl,_⟩:=h
  rfl
 ·obtain ⟨a,x,rfl,⟨dx,lk,sn,it,dt,pt,Tg,h⟩,h4,k⟩:=h
  refine ⟨_,(zab (zat (pv 0) (zae (pv 0) rfl) rfl)
   (zab (zat (pv 0) (zaJ zac) rfl)
   (zad (zat (pv 0) (zaJ zac) rfl)))),?_⟩
  refine ⟨_,rfl,a,_,dx,_,_,rfl,h.obj,T.P.cl,T.P.no _ (by decide +kernel),zdH,_,rfl,a,_,dx,_,rfl,h.obj,T.P.cl,T.P.no _ (by decide +kernel),zaM,fun H1 e1 h1=>?_⟩
  refine ⟨Nat.zero_le _,fun t1 H2 s2 n1 g1=>?_⟩
  refine ⟨_,rfl,a,_,dx,_,rfl,s2 _ _ h1,T.P.cl,T.P.no _ (by decide +kernel),zaM,fun H3 e3 h3=>?_⟩
  refine ⟨Nat.zero_le _,fun t2 H4 s4 n2 g2=>?_⟩
  refine ⟨_,rfl,a,_,dx,_,rfl,s4 _ _ h3,T.P.cl,T.P.no _ (by decide +kernel),zaM,fun H5 e5 h5=>?_⟩
  have f3:=e3.trans (s4.ext.trans e5)
  have f0:=e1.trans (s2.ext.trans f3)
  exact k _ f0 ⟨dx,lk,lk,it,t1,t2,Tg,h5,f0.sqT h.look,by rw [zb7 (x:={ x with del:=[],pend:=[] }) rfl h4]; exact f0.sqT h.look,f0.tup h.ins,f3.tup g1,⟨[],e5.tup g2,.nil⟩,h.tags⟩
end
theorem zdn (xs:List V) (p:Nat):cutV xs none (some (p:Int))=xs.take p:=by
 unfold cutV
 have e1:HT.sIx xs.length 0 none=0:=rfl
 have e2:HT.sIx xs.length xs.length (some (p:Int))=min p xs.length:=by
  show (if (p:Int) < 0 then ((p:Int)+(xs.length:Int)).toNat else min (p:Int).toNat xs.length)=_
  rw [if_neg (by omega)]
  rfl
 rw [e1,e2,List.drop_zero,Nat.sub_zero]
 by_cases h:p≤xs.length
 ·rw [Nat.min_eq_left h]
 ·rw [Nat.min_eq_right (by omega),List.take_of_length_le (Nat.le_refl _),List.take_of_length_le (by omega)]
theorem zdo (xs:List V) (p:Nat):cutV xs (some (p:Int)) none=xs.drop p:=by
 unfold cutV
 have e1:HT.sIx xs.length xs.length none=xs.length:=rfl
 have e2:HT.sIx xs.length 0 (some (p:Int))=min p xs.length:=by
  show (if (p:Int) < 0 then ((p:Int)+(xs.length:Int)).toNat else min (p:Int).toNat xs.length)=_
  rw [if_neg (by omega)]
  rfl
 rw [e1,e2]
 by_cases h:p≤xs.length
 ·rw [Nat.min_eq_left h,List.take_of_length_le (by rw [List.length_drop]; exact Nat.le_refl _)]
 ·rw [Nat.min_eq_right (by omega),List.drop_of_length_le (Nat.le_refl _),List.drop_of_length_le (l:=xs) (by omega),List.take_nil]
theorem zcA (xs:List V) (p q:Nat):cutV xs (some (p:Int)) (some (q:Int))=(xs.take q).drop p:=by
 unfold cutV
 have e1:HT.sIx xs.length 0 (some (p:Int))=min p xs.length:=by
  show (if (p:Int) < 0 then ((p:Int)+(xs.length:Int)).toNat else min (p:Int).toNat xs.length)=_
  rw [if_neg (by omega)]
  rfl
 have e2:HT.sIx xs.length xs.length (some (q:Int))=min q xs.length:=by
  show (if (q:Int) < 0 then ((q:Int)+(xs.length:Int)).toNat else min (q:Int).toNat xs.length)=_
  rw [if_neg (by omega)]
  rfl
 rw [e1,e2,← List.drop_take,← List.take_eq_take_min]
 by_cases h:p≤xs.length
 ·rw [Nat.min_eq_left h]
 ·rw [Nat.min_eq_right (by omega),List.drop_of_length_le (by rw [List.length_take]; omega),List.drop_of_length_le (by rw [List.length_take]; omega)]
abbrev AP:=Addr×Piece
abbrev refs (l:List AP):List V:=l.map fun p=>V.ref p.1
def rf (sh hd:V):List (Str×V):=[("shown",sh),("hidden",hd)]
section
variable {a b v:V}
theorem zaF:(rf a b).lookup ("shown":Str)=some a:=by rfl
theorem za3:(rf a b).lookup ("hidden":Str)=some b:=by rfl
theorem zcj:(rf a b).length < 1000:=by show 2 < 1000; decide
end
abbrev Nb:=Addr×List AP
abbrev Gap:=Addr×List Nb
def Alike (l:List AP):Prop:=∃ x t,l=x::t∧∀ y∈t,Vatrka.sameMarks x.2 y.2=true
abbrev nrefs (ns:List Nb):List V:=ns.map fun n=>V.ref n.1
abbrev flatN (ns:List Nb):List AP:=(ns.map (·.2)).flatten
abbrev flatG (g:Gap):List AP:=flatN g.2
abbrev nbs (gs:List Gap):List Nb:=gs.flatMap (·.2)
def inner (gs:List Gap):List Addr:=(nbs gs).map (·.1)
def GapAt (H:Hp) (g:Gap):Prop:=H g.1=some (.lst (nrefs g.2))∨(g.2=[]∧H g.1=some (.tup []))
structure NbAt (H:Hp) (X:Addr→Prop) (n:Nb):Prop where
 at_:H n.1=some (.lst (refs n.2))
 ne:¬ X n.1
 al:Alike n.2
structure RAt (c:Cs) (H:Hp) (r:Addr) (X:Addr→Prop) (sh:List AP) (hd:List (List AP)) (dx sA hA:Addr) (gs:List Gap):Prop where
 obj:H r=some (.ins c.R dx (rf (.ref sA) (.ref hA)))
 sl:H sA=some (.lst (refs sh))
 hl:H hA=some (.lst (gs.map fun g=>V.ref g.1))
 he:hd=gs.map flatG
 gl:∀ g∈gs,GapAt H g∧¬ X g.1∧g.1 ∉ inner gs
 nl:∀ n∈nbs gs,NbAt H X n
 nd:(inner gs).Nodup
 sn:¬ X sA
 hn:¬ X hA
 si:sA ∉ inner gs
 hi:hA ∉ inner gs
def RowAt (c:Cs) (H:Hp) (r:Addr) (X:Addr→Prop) (sh:List AP) (hd:List (List AP)):Prop:=∃ dx sA hA gs,RAt c H r X sh hd dx sA hA gs
def Pcs (K:PySem.W.Frag) (c:Cs) (H:Hp) (l:List AP):Prop:=∀ p∈l,PieceAt K c.P H p.1 p.2
theorem Pcs.keep {K:PySem.W.Frag} {c:Cs} {H H':Hp} {S:Addr→Prop} {l:List AP} (e:Ext S H H') (n:∀ p∈l,¬ S p.1) (h:Pcs K c H l):Pcs K c H' l:=fun p hp=>(h p hp).keep e (n p hp)
theorem Pcs.same {K:PySem.W.Frag} {c:Cs} {H H':Hp} {l:List AP} (e:Same H H') (h:Pcs K c H l):Pcs K c H' l:=h.keep (S:=fun _=>False) e.ext fun _ _ z=>z
def Beside (H:Hp) (X:Addr→Prop) (S:Addr→Prop):Prop:=∀ b,S b→X b∨H b=none∨∃ C dx fs,H b=some (.ins C dx fs)
theorem Beside.lst {H:Hp} {b:Addr} {X S:Addr→Prop} {xs:List V} (h:Beside H X S) (hb:H b=some (.lst xs)) (n:¬ X b):¬ S b:=fun z=>by
 rcases h b z with e | e | ⟨C,dx,fs,e⟩
 ·exact n e
 ·rw [hb] at e; cases e
 ·rw [hb] at e; cases e
theorem zbC {H:Hp} {X:Addr→Prop} {b C dx:Addr} {fs:List (Str×V)} (h:H b=some (.ins C dx fs)):Beside H X (·=b):=fun x z=>by
 have e:x=b:=z
 subst e
 exact .inr (.inr ⟨_,_,_,h⟩)
theorem GapAt.keep {H H':Hp} {X S:Addr→Prop} {g:Gap} (e:Ext S H H') (b:Beside H X S) (n:¬ X g.1) (h:GapAt H g):GapAt H' g :=
 h.elim (fun h=>.inl (e.at h (b.lst h n))) fun h=>.inr ⟨h.1,e.tup h.2⟩
theorem GapAt.seq {H:Hp} {g:Gap} (h:GapAt H g):H g.1=some (.lst (nrefs g.2))∨H g.1=some (.tup (nrefs g.2)) :=
 h.elim .inl fun h=>.inr (by rw [h.1]; exact h.2)
theorem GapAt.keepO {H H':Hp} {g:Gap} (h:GapAt H g) (k:∀ o,H g.1=some o→H' g.1=some o):GapAt H' g:=h.elim (fun h=>.inl (k _ h)) fun h=>.inr ⟨h.1,k _ h.2⟩
theorem NbAt.keep {H H':Hp} {X S:Addr→Prop} {n:Nb} (e:Ext S H H') (b:Beside H X S) (h:NbAt H X n):NbAt H' X n:=⟨e.at h.at_ (b.lst h.at_ h.ne),h.ne,h.al⟩
theorem RAt.keep {c:Cs} {H H':Hp} {r dx sA hA:Addr} {gs:List Gap} {sh:List AP} {hd:List (List AP)} {X S:Addr→Prop} (e:Ext S H H') (n:¬ S r) (b:Beside H X S) (h:RAt c H r X sh hd dx sA hA gs):RAt c H' r X sh hd dx sA hA gs :=
 { h with obj:=e.at h.obj n,sl:=e.at h.sl (b.lst h.sl h.sn),hl:=e.at h.hl (b.lst h.hl h.hn),gl:=fun g hg=>⟨(h.gl g hg).1.keep e b (h.gl g hg).2.1,(h.gl g hg).2⟩,nl:=fun m hm=>(h.nl m hm).keep e b }
theorem RowAt.keep {c:Cs} {H H':Hp} {r:Addr} {sh:List AP} {hd:List (List AP)} {X S:Addr→Prop} (e:Ext S H H') (n:¬ S r) (b:Beside H X S) (h:RowAt c H r X sh hd):RowAt c H' r X sh hd:=by
 obtain ⟨dx,sA,hA,gs,h⟩:=h
 exact ⟨dx,sA,hA,gs,h.keep e n b⟩
theorem RAt.same {c:Cs} {H H':Hp} {r dx sA hA:Addr} {X:Addr→Prop} {gs:List Gap} {sh:List AP} {hd:List (List AP)} (e:Same H H') (h:RAt c H r X sh hd dx sA hA gs):RAt c H' r X sh hd dx sA hA gs :=
 h.keep (S:=fun _=>False) e.ext (fun z=>z) fun _ z=>z.elim
theorem RAt.len {c:Cs} {H:Hp} {r dx sA hA:Addr} {X:Addr→Prop} {gs:List Gap} {sh:List AP} {hd:List (List AP)} (h:RAt c H r X sh hd dx sA hA gs):gs.length=hd.length:=by rw [h.he,List.length_map]
theorem RAt.lstN {c:Cs} {H:Hp} {r dx sA hA b:Addr} {X:Addr→Prop} {gs:List Gap} {sh:List AP} {hd:List (List AP)} (h:RAt c H r X sh hd dx sA hA gs) (hb:b∈inner gs):∃ x t,H b=some (.lst (V.ref x::t)):=by
 obtain ⟨n,hn,rfl⟩:=List.mem_map.mp hb
 obtain ⟨x,t,e,_⟩:=(h.nl n hn).al
 have:=(h.nl n hn).at_
 rw [e] at this
 exact ⟨_,_,this⟩
theorem RAt.insN {c:Cs} {H:Hp} {r dx sA hA b C d':Addr} {X:Addr→Prop} {fs:List (Str×V)} {gs:List Gap} {sh:List AP} {hd:List (List AP)} (h:RAt c H r X sh hd dx sA hA gs) (ho:H b=some (.ins C d' fs)):b ∉ inner gs:=fun hb=>by
 obtain ⟨x,t,e⟩:=h.lstN hb
 rw [ho] at e
 cases e
theorem RAt.freeN {c:Cs} {H:Hp} {r dx sA hA b:Addr} {X:Addr→Prop} {gs:List Gap} {sh:List AP} {hd:List (List AP)} (h:RAt c H r X sh hd dx sA hA gs) (ho:H b=none):b ∉ inner gs:=fun hb=>by
 obtain ⟨x,t,e⟩:=h.lstN hb
 rw [ho] at e
 cases e
theorem zbo {α:Type} (l:List α) {p q:Nat} (hpq:p≤q):l.take p++(l.take q).drop p++l.drop q=l:=by
 have e3:l.take p++(l.take q).drop p=l.take q:=by
  have:=List.take_append_drop p (l.take q)
  rw [List.take_take,Nat.min_eq_left hpq] at this
  exact this
 rw [e3,List.take_append_drop]
theorem zbB (a b:List Gap):nbs (a++b)=nbs a++nbs b:=List.flatMap_append
theorem zeX (n:Nat) (t:Addr):nbs (List.replicate n (t,[]))=[]:=by
 induction n with
 | zero=>rfl
 | succ n ih=>rw [List.replicate_succ]; exact ih
theorem zie (gs:List Gap) (k n:Nat) (t:Addr):nbs (gs.take k++List.replicate n (t,[])++gs.drop k)=nbs gs:=by
 rw [zbB,zbB,zeX,List.append_nil,← zbB,List.take_append_drop]
section
variable {P:Program} {w:World} {K:PySem.W.Frag} {mg:Str→Option Value} {base:Heap} {c:Cs}
abbrev s_stand_before:Stmt:=top 26
theorem zdx:FnScope ["row","p","pieces"] ["row","p","pieces"] (defScope s_stand_before):=⟨rfl,rfl,rfl,by decide +kernel,rfl,by decide +kernel,by decide +kernel⟩
def spStand (c:Cs):Sp:=fun vs H Q _=>∃ (r pl:Addr) (X:Addr→Prop) (p:Nat) (new sh:List AP) (hd:List (List AP)),vs=[.ref r,.int p,.ref pl]∧RowAt c H r X sh hd∧H pl=some (.lst (refs new))∧(∀ b,X b→∃ o,H b=some o)∧sh.length+new.length≤sizeLine∧hd.length=sh.length∧p < sh.length ∧
 ∀ H',Ext (·=r) H H'→RowAt c H' r X (sh.take p++new++sh.drop p) (hd.take (p+1)++List.replicate new.length []++hd.drop (p+1))→Q .non H'
theorem zbT (l:List AP) (n:Nat):(refs l).take n=refs (l.take n):=by unfold refs; rw [List.map_take]
theorem zbU (l:List AP) (n:Nat):(refs l).drop n=refs (l.drop n):=by unfold refs; rw [List.map_drop]
theorem za4 (l m:List AP):refs l++refs m=refs (l++m):=by unfold refs; rw [List.map_append]
theorem zhO (v:V) (n:Nat):(List.replicate n [v]).flatten=List.replicate n v:=by
 induction n with
 | zero=>rfl
 | succ n ih=>rw [List.replicate_succ,List.replicate_succ,List.flatten_cons,ih]; rfl
theorem d_stand_before (F:FunAt K mg "stand_before" s_stand_before) (T:Txt K mg c):Def P w K mg base "stand_before" 1 ["row","p","pieces"] (spStand c):=by
 have sc:=zdx
 refine F.def sc (fun _ _ _ _ _ _=>ar3 fun _ _ _=>rfl) (fun vs H Q E h=>?_) (fun f cdv A outer s H vs Q E hr h=>?_)
 ·obtain ⟨r,pl,X,p,new,sh,hd,rfl,_⟩:=h
  rfl
 ·obtain ⟨r,pl,X,p,new,sh,hd,rfl,⟨dx,sA,hA,gs,h⟩,hpl,xa,hz,hlen,hp,q⟩:=h
  have xn:∀ {b:Addr},H b=none→¬ X b:=fun {b} hb z=>by
   obtain ⟨o,h'⟩:=xa b z
   rw [hb] at h'
   cases h'
  have hgl:=h.len
  have hsl:sizeLine=16777216:=sizeLine_eq
  refine ⟨_,(zab (zat (pv 0) (zaH zbR (zaH zbR (zaP zaV (zae (pv 0) rfl) zbQ (zaI (pv 1))) (pv 2)) (zaP zaV (zae (pv 0) rfl) (zaI (pv 1)) zbQ)) rfl)
   (zad (zat (pv 0) (zaH zbR (zaH zbR (zaP zaV (zae (pv 0) rfl) zbQ (zaI (zaH zbu (pv 1) zaf))) (zaH zh8 (zal (zaa (zaJ zac) zac)) (zax zak rfl T.b_len PySem.boot_len (zaa (pv 2) zac)))) (zaP zaV (zae (pv 0) rfl) (zaI (zaH zbu (pv 1) zaf)) zbQ)) rfl))),?_⟩
  refine ⟨_,rfl,r,_,dx,_,_,rfl,h.obj,T.R.cl,T.R.no _ (by decide +kernel),zaF,_,rfl,_,rfl,sA,_,rfl,SqL.of h.sl,fun p1 H2 s2 n2 g2=>?_⟩
  rw [zdn,zbT] at g2
  refine ⟨_,rfl,p1,pl,_,_,rfl,rfl,g2,s2 _ _ hpl,?_,fun p2 H3 s3 n3 g3=>?_⟩
  ·rw [List.length_map,List.length_map,List.length_take]
   omega
  have s03:=s2.trans s3
  have h3:=h.same s03
  refine ⟨_,rfl,r,_,dx,_,_,rfl,h3.obj,T.R.cl,T.R.no _ (by decide +kernel),zaF,_,rfl,_,rfl,sA,_,rfl,SqL.of h3.sl,fun p3 H4 s4 n4 g4=>?_⟩
  rw [zdo,zbU] at g4
  refine ⟨p2,p3,_,_,rfl,rfl,s4 _ _ g3,g4,?_,fun p4 H5 s5 n5 g5=>?_⟩
  ·rw [List.length_append,List.length_map,List.length_map,List.length_map,List.length_take,List.length_drop]
   omega
  have s04:=s03.trans s4
  have s05:=s04.trans s5
  have h5:=h.same s05
  rw [za4,za4] at g5
  refine ⟨_,rfl,r,_,dx,_,rfl,h5.obj,T.R.cl,T.R.no _ (by decide +kernel),zcj,fun H6 e6 h6=>?_⟩
  have bs:Beside H5 X (·=r):=zbC h5.obj
  have c4:¬ X p4:=xn (s04.free n5)
  have p4i:p4 ∉ inner gs:=(h.same s04).freeN n5
  have hl6:=e6.at h5.hl (bs.lst h5.hl h5.hn)
  have plr:pl≠r:=zbw hpl h.obj (by intro z; cases z)
  have hpl6:=e6.at (s05 _ _ hpl) plr
  refine ⟨_,rfl,r,_,dx,_,_,rfl,h6,T.R.cl,T.R.no _ (by decide +kernel),za3,_,rfl,_,_,rfl,rfl,_,rfl,hA,_,rfl,SqL.of hl6,fun q1 H7 s7 n7 g7=>?_⟩
  have g7:H7 q1=some (.lst ((gs.take (p+1)).map fun g=>V.ref g.1)):=by
   have e:((p:Int)+1)=((p+1:Nat):Int):=by omega
   rw [e,zdn,← List.map_take] at g7
   exact g7
  refine ⟨Nat.zero_le _,fun t0 H8 s8 n8 g8=>?_⟩
  refine ⟨by show 1≤sizeLine; decide,fun l0 H9 s9 n9 g9=>?_⟩
  have s69:=(s7.trans s8).trans s9
  refine ⟨_,rfl,pl,_,rfl,.inl (SqL.of (s69 _ _ hpl6)),l0,_,_,rfl,rfl,g9,by omega,?_,?_,fun l1 HA sA' nA gA=>?_⟩
  ·rw [List.length_map]
   omega
  ·rw [List.length_map,Int.toNat_natCast]
   show 1 * _≤_
   omega
  rw [List.length_map,Int.toNat_natCast,zhO] at gA
  have s7A:=(s8.trans s9).trans sA'
  refine ⟨q1,l1,_,_,rfl,rfl,s7A _ _ g7,gA,?_,fun q2 HB sB nB gB=>?_⟩
  ·rw [List.length_map,List.length_replicate,List.length_take]
   omega
  have s6B:=(s7.trans s7A).trans sB
  refine ⟨_,rfl,r,_,dx,_,_,rfl,s6B _ _ h6,T.R.cl,T.R.no _ (by decide +kernel),za3,_,rfl,_,_,rfl,rfl,_,rfl,hA,_,rfl,SqL.of (s6B _ _ hl6),fun q3 HC sC nC gC=>?_⟩
  have gC:HC q3=some (.lst ((gs.drop (p+1)).map fun g=>V.ref g.1)):=by
   have e:((p:Int)+1)=((p+1:Nat):Int):=by omega
   rw [e,zdo,← List.map_drop] at gC
   exact gC
  refine ⟨q2,q3,_,_,rfl,rfl,sC _ _ gB,gC,?_,fun q4 HD sD nD gD=>?_⟩
  ·rw [List.length_append,List.length_map,List.length_map,List.length_replicate,List.length_take,List.length_drop]
   omega
  have s6D:=(s6B.trans sC).trans sD
  refine ⟨_,rfl,r,_,dx,_,rfl,s6D _ _ h6,T.R.cl,T.R.no _ (by decide +kernel),zcj,fun HE eE hE=>?_⟩
  have bsD:Beside HD X (·=r):=zbC (s6D _ _ h6)
  have E:Ext (·=r) H HE:=(s05.ext.trans e6).trans (s6D.ext.trans eE)
  have g5':=s6D _ _ (e6.at g5 (fun z=>by rw [z,s04 _ _ h.obj] at n5; cases n5))
  have n8H:H t0=none:=by
   refine s05.free (e6.dom t0 (s7.free n8))
  have nDH:H q4=none:=s05.free (e6.dom q4 ((s6B.trans sC).free nD))
  have hin:inner (gs.take (p+1)++List.replicate new.length (t0,[])++gs.drop (p+1))=inner gs:=by unfold inner; rw [zie]
  have p4r:p4≠r:=fun z=>by rw [z,s04 _ _ h.obj] at n5; cases n5
  have q4r:q4≠r:=fun z=>by rw [z,(s6B.trans sC) _ _ h6] at nD; cases nD
  have bsH:Beside H X (·=r):=zbC h.obj
  refine q HE E ⟨dx,p4,q4,gs.take (p+1)++List.replicate new.length (t0,[])++gs.drop (p+1),hE,eE.at g5' p4r,?_,?_,?_,?_,?_,c4,xn nDH,?_,?_⟩
  ·rw [List.map_append,List.map_append,List.map_replicate]
   exact eE.at gD q4r
  ·rw [List.map_append,List.map_append,List.map_replicate,h.he,List.map_take,List.map_drop]
   rfl
  ·rw [hin]
   intro g hg
   have old:∀ g∈gs,GapAt HE g∧¬ X g.1∧g.1 ∉ inner gs:=fun g hg=>⟨(h.gl g hg).1.keep E bsH (h.gl g hg).2.1,(h.gl g hg).2⟩
   rcases List.mem_append.mp hg with hg | hg
   ·rcases List.mem_append.mp hg with hg | hg
    ·exact old g (List.mem_of_mem_take hg)
    ·rw [(List.mem_replicate.mp hg).2]
     exact ⟨.inr ⟨rfl,eE.tup (((s9.trans sA').trans ((sB.trans sC).trans sD)) _ _ g8)⟩,xn n8H,h.freeN n8H⟩
   ·exact old g (List.mem_of_mem_drop hg)
  ·rw [zie]
   exact fun n hn=>(h.nl n hn).keep E bsH
  ·rw [hin]
   exact h.nd
  ·rw [hin]
   exact p4i
  ·rw [hin]
   exact h.freeN nDH
end
def stayOf (z:List AP×AP):List AP:=z.1++if z.2.2.del.isEmpty then [] else [z.2]
def leftOf (sh:List AP) (hd:List (List AP)) (p q:Nat):List AP:=((((hd.zip sh).take q).drop p).flatMap stayOf)++hd.getD q []
theorem zgS {α β:Type} (f:α→List β):∀ l:List α,(l.flatMap f).length=(l.map fun x=>(f x).length).sum
 | []=>rfl
 | x::l=>by rw [List.flatMap_cons,List.length_append,zgS f l,List.map_cons,List.sum_cons]
theorem zjc (z:List AP×AP):(stayOf z).length≤z.1.length+1:=by
 unfold stayOf
 rw [List.length_append]
 split<;>simp
theorem zcu {α:Type} (f:α→Nat):∀ (l:List α) (i:Nat),((l.take i).map f).sum≤(l.map f).sum
 | [],_=>by simp
 | x::l,0=>by simp
 | x::l,i+1=>by
  have:=zcu f l i
  simp only [List.take_succ_cons,List.map_cons,List.sum_cons]
  omega
theorem zds {α:Type} (f:α→Nat):∀ (l:List α) (i:Nat),((l.drop i).map f).sum≤(l.map f).sum
 | [],_=>by simp
 | x::l,0=>by simp
 | x::l,i+1=>by
  have:=zds f l i
  simp only [List.drop_succ_cons,List.map_cons,List.sum_cons]
  omega
theorem zeY {α:Type} {h:List α}:∀ {hd:List (List α)},h∈hd→h.length≤hd.flatten.length
 | [],m=>by simp at m
 | a::hd,m=>by
  rw [List.flatten_cons,List.length_append]
  rcases List.mem_cons.mp m with e | m
  ·subst e
   omega
  ·have:=zeY m
   omega
theorem zc6:∀ (hd:List (List AP)) (sh:List AP),((hd.zip sh).map fun z=>(stayOf z).length).sum≤hd.flatten.length+sh.length
 | [],_=>by simp
 | _::_,[]=>by simp
 | h::hd,x::sh=>by
  have h1:=zc6 hd sh
  have h2:(stayOf (h,x)).length≤h.length+1:=zjc (h,x)
  simp only [List.zip_cons_cons,List.map_cons,List.sum_cons,List.flatten_cons,List.length_append,List.length_cons]
  omega
theorem zil (sh:List AP) (hd:List (List AP)) (p q i:Nat):((((hd.zip sh).take q).drop p).take i |>.flatMap stayOf).length≤hd.flatten.length+sh.length:=by
 rw [zgS]
 refine Nat.le_trans (zcu _ _ i) (Nat.le_trans (zds _ _ p) (Nat.le_trans (zcu _ _ q) (zc6 hd sh)))
theorem zi6 {l:List AP} (h:Alike l):1≤l.length:=by
 obtain ⟨x,t,e,_⟩:=h
 rw [e,List.length_cons]
 omega
theorem zaQ (a b:List Nb):flatN (a++b)=flatN a++flatN b:=by
 unfold flatN
 rw [List.map_append,List.flatten_append]
theorem zbV:∀ {ns:List Nb},(∀ n∈ns,Alike n.2)→ns.length≤(flatN ns).length
 | [],_=>Nat.le_refl _
 | n::ns,h=>by
  have h1:=zbV (ns:=ns) fun m hm=>h m (List.mem_cons_of_mem _ hm)
  have h2:=zi6 (h n List.mem_cons_self)
  show ns.length+1≤(n.2++flatN ns).length
  rw [List.length_append]
  omega
theorem ziH {n:Nb}:∀ {ns:List Nb},n∈ns→n.2.length≤(flatN ns).length:=fun {ns} h=>zeY (List.mem_map.mpr ⟨n,h,rfl⟩)
theorem zdR {n:Nb} {x:AP} {ns:List Nb} (h:n∈ns) (hx:x∈n.2):x∈flatN ns:=List.mem_flatten.mpr ⟨n.2,List.mem_map.mpr ⟨n,h,rfl⟩,hx⟩
theorem zbi (g:Gap) (gs:List Gap):inner (g::gs)=g.2.map (·.1)++inner gs:=by
 unfold inner nbs
 rw [List.flatMap_cons,List.map_append]
theorem za9 (a b:List Gap):inner (a++b)=inner a++inner b:=by
 unfold inner
 rw [zbB,List.map_append]
theorem zcM {gs:List Gap} {i:Nat} {g:Gap} {n:Nb} (hg:gs[i]?=some g) (hn:n∈g.2):n.1∈inner gs:=List.mem_map.mpr ⟨n,List.mem_flatMap.mpr ⟨g,List.mem_of_getElem? hg,hn⟩,rfl⟩
theorem ze0:∀ {gs:List Gap} {i j:Nat} {g g':Gap} {n n':Nb},(inner gs).Nodup→gs[i]?=some g→gs[j]?=some g'→n∈g.2→n'∈g'.2→n.1=n'.1→i=j
 | [],_,_,_,_,_,_,_,h,_,_,_,_=>by simp at h
 | _::_,0,0,_,_,_,_,_,_,_,_,_,_=>rfl
 | g0::gs,0,j+1,g,g',n,n',nd,h1,h2,hn,hn',e=>by
  rw [zbi] at nd
  have e0:g0=g:=Option.some.inj h1
  subst e0
  exact absurd e ((List.nodup_append.mp nd).2.2 n.1 (List.mem_map.mpr ⟨n,hn,rfl⟩) n'.1 (zcM (gs:=gs) (i:=j) h2 hn'))
 | g0::gs,i+1,0,g,g',n,n',nd,h1,h2,hn,hn',e=>by
  rw [zbi] at nd
  have e0:g0=g':=Option.some.inj h2
  subst e0
  exact absurd e.symm ((List.nodup_append.mp nd).2.2 n'.1 (List.mem_map.mpr ⟨n',hn',rfl⟩) n.1 (zcM (gs:=gs) (i:=i) h1 hn))
 | g0::gs,i+1,j+1,g,g',n,n',nd,h1,h2,hn,hn',e=>by
  rw [zbi] at nd
  rw [ze0 (gs:=gs) (List.nodup_append.mp nd).2.1 h1 h2 hn hn' e]
def InN (gs:List Gap) (lo hi:Nat) (b:Addr):Prop:=∃ j g n,lo≤j∧j < hi∧gs[j]?=some g∧n∈g.2∧b=n.1
theorem InN.all {gs:List Gap} {lo hi:Nat} {b:Addr} (h:InN gs lo hi b):b∈inner gs:=by
 obtain ⟨j,g,n,_,_,hg,hn,rfl⟩:=h
 exact zcM hg hn
theorem InN.mono {gs:List Gap} {lo hi hi':Nat} {b:Addr} (h:InN gs lo hi b) (hh:hi≤hi'):InN gs lo hi' b:=by
 obtain ⟨j,g,n,h1,h2,r⟩:=h
 exact ⟨j,g,n,h1,Nat.lt_of_lt_of_le h2 hh,r⟩
theorem InN.not {gs:List Gap} {lo hi i:Nat} {g:Gap} {n:Nb} (nd:(inner gs).Nodup) (hg:gs[i]?=some g) (hn:n∈g.2) (hi':i < lo∨hi≤i):¬ InN gs lo hi n.1:=by
 rintro ⟨j,g',n',h1,h2,hg',hn',e⟩
 have:=ze0 nd hg hg' hn hn' e
 omega
theorem zfI:∀ {gs:List Gap} {i:Nat} {g:Gap},(inner gs).Nodup→gs[i]?=some g→(g.2.map (·.1)).Nodup
 | [],_,_,_,h=>by simp at h
 | g0::gs,0,g,nd,h=>by
  have e0:g0=g:=Option.some.inj h
  subst e0
  rw [zbi] at nd
  exact (List.nodup_append.mp nd).1
 | g0::gs,i+1,g,nd,h=>by
  rw [zbi] at nd
  exact zfI (gs:=gs) (i:=i) (List.nodup_append.mp nd).2.1 h
section
variable {P:Program} {w:World} {K:PySem.W.Frag} {mg:Str→Option Value} {base:Heap} {c:Cs}
abbrev s_hide_behind:Stmt:=top 28
theorem zd9:FnScope ["hidden","piece"] ["hidden","piece"] (defScope s_hide_behind):=⟨rfl,rfl,rfl,by decide +kernel,rfl,by decide +kernel,by decide +kernel⟩
def spHide (K:PySem.W.Frag) (c:Cs):Sp:=fun vs H Q _=>∃ (L a:Addr) (x:Piece) (ns:List Nb),vs=[.ref L,.ref a]∧H L=some (.lst (nrefs ns))∧(∀ n∈ns,H n.1=some (.lst (refs n.2))∧Alike n.2∧Pcs K c H n.2∧n.2.length < sizeLine)∧(ns.map (·.1)).Nodup∧L ∉ ns.map (·.1) ∧
 PieceAt K c.P H a x∧ns.length < sizeLine ∧
 ∀ H' ns',Ext (fun b=>b=L∨b∈ns.map (·.1)) H H'→H' L=some (.lst (nrefs ns'))→(∀ n∈ns',H' n.1=some (.lst (refs n.2))∧Alike n.2∧(n.1∈ns.map (·.1)∨H n.1=none))→(ns'.map (·.1)).Nodup→flatN ns'=flatN ns++[(a,x)]→Q .non H'
theorem zi2 {ns:List V} {v:V} (h:ns.getLast?=some v):atI ns (-1)=some v:=by
 have hne:0 < ns.length:=by
  cases ns with
  | nil=>cases h
  | cons _ _=>exact Nat.succ_pos _
 unfold atI ixN
 rw [if_neg (by decide),if_pos (by omega)]
 have e2:((-1:Int)+(ns.length:Int)).toNat=ns.length - 1:=by omega
 show ns[((-1:Int)+(ns.length:Int)).toNat]?=_
 rw [e2,← List.getLast?_eq_getElem?]
 exact h
theorem d_hide_behind (F:FunAt K mg "hide_behind" s_hide_behind) (T:Txt K mg c) (d_has_same_marks:Def P w K mg base "has_same_marks" 1 ["piece","other"] (spSameMarks K c.P)):Def P w K mg base "hide_behind" 2 ["hidden","piece"] (spHide K c):=by
 have sc:=zd9
 refine F.def sc (fun _ _ _ _ _ _=>ar2 fun _ _=>rfl) (fun vs H Q E h=>?_) (fun f cdv A outer s H vs Q E hr h=>?_)
 ·obtain ⟨L,a,x,ns,rfl,_⟩:=h
  rfl
 ·obtain ⟨L,a,x,ns,rfl,hL,hns,hnd,hLn,hp,hz,k⟩:=h
  refine ⟨_,(zad (zaC (PW.pt (zhR (zan zjp (zax zak rfl T.b_len PySem.boot_len (zaa (pv 0) zac)) zaf (nomark _)) (zge (zbD (zap d_has_same_marks (hr.mono (by decide)) rfl pass0 (zaa (zaE zao (zaE zao (pv 0) (zbm zaZ zaf) (fun _ _=>rfl)) zaf (fun _ _=>rfl)) (zaa (pv 1) zac)))))))
    (zad (zaq (zba PySem.F.plainAttrs_list PySem.F.slot_list_append PySem.F.type_list_append zbd (zaE zao (pv 0) (zbm zaZ zaf) (fun _ _=>rfl)) (zaa (pv 1) zac))))
    (zad (zaq (zba PySem.F.plainAttrs_list PySem.F.slot_list_append PySem.F.type_list_append zbd (pv 0) (zaa (zal (zaa (pv 1) zac)) zac)))))),?_⟩
  have alone:∀ (l0:Addr) (H1:Hp),Same H H1→H l0=none→H1 l0=some (.lst [.ref a])→∀ H2,Ext (·=L) H1 H2→H2 L=some (.lst (nrefs ns++[.ref l0]))→Q .non H2:=fun l0 H1 s1 n1 g1 H2 e2 h2=>by
   have lL:l0≠L:=fun z=>by rw [z,hL] at n1; cases n1
   have nl:∀ n∈ns,n.1≠L:=fun n hn z=>hLn (List.mem_map.mpr ⟨n,hn,z⟩)
   refine k H2 (ns++[(l0,[(a,x)])]) ((s1.ext (S:=fun b=>b=L∨b∈ns.map (·.1))).trans (e2.mono fun b o _ z _=>.inl z)) ?_ (fun n hn=>?_) ?_ ?_
   ·rw [h2]
    unfold nrefs
    rw [List.map_append]
    rfl
   ·rcases List.mem_append.mp hn with hn | hn
    ·exact ⟨e2.at (s1 _ _ (hns n hn).1) (nl n hn),(hns n hn).2.1,.inl (List.mem_map.mpr ⟨n,hn,rfl⟩)⟩
    ·rw [List.mem_singleton.mp hn]
     exact ⟨e2.at g1 lL,⟨(a,x),[],rfl,fun _ h=>by cases h⟩,.inr n1⟩
   ·rw [List.map_append]
    refine List.nodup_append.mpr ⟨hnd,by simp,fun b hb b' hb'=>?_⟩
    rw [List.mem_singleton.mp hb']
    obtain ⟨n,hn,rfl⟩:=List.mem_map.mp hb
    exact zag (hns n hn).1 n1
   ·rw [zaQ]
    rfl
  refine ⟨_,rfl,L,_,rfl,.inl (SqL.of hL),_,_,rfl,rfl,_,rfl,?_⟩
  cases hlast:ns.getLast? with
  | none =>
   have e0:ns=[]:=List.getLast?_eq_none_iff.mp hlast
   subst e0
   refine iteF ?_
   refine iteF ?_
   exact ⟨_,rfl,.inl ⟨rfl,_,SqL.of hL⟩,_,rfl,by show 1≤sizeLine; decide,fun l0 H1 s1 n1 g1=>⟨L,_,_,rfl,rfl,s1 _ _ hL,by show 0 < sizeLine; decide,fun H2 e2 h2=>alone l0 H1 s1 n1 g1 H2 e2 h2⟩⟩
  | some n =>
   have hne:ns≠[]:=fun z=>by rw [z] at hlast; cases hlast
   obtain ⟨ns0,rfl⟩:∃ ns0,ns=ns0++[n]:=by
    have e1:=List.dropLast_concat_getLast hne
    have e2:ns.getLast hne=n:=by rw [List.getLast?_eq_some_getLast hne] at hlast; exact Option.some.inj hlast
    rw [e2] at e1
    exact ⟨_,e1.symm⟩
   have hnm:n∈ns0++[n]:=List.mem_append_right _ List.mem_cons_self
   obtain ⟨hn1,hn2,hn3,hn4⟩:=hns n hnm
   obtain ⟨y,t,hyt,hal⟩:=id hn2
   have hat:atI (nrefs (ns0++[n])) (-1)=some (V.ref n.1):=zi2 (by unfold nrefs; rw [List.map_append,List.map_cons,List.map_nil,List.getLast?_concat])
   rw [decide_eq_true (show (0:Int) < ((nrefs (ns0++[n])).length:Int) by rw [List.length_map,List.length_append]; show (0:Int) < ((_+1:Nat):Int); omega)]
   refine iteT ?_
   refine ⟨_,rfl,_,rfl,L,_,_,_,rfl,rfl,SqL.of hL,hat,n.1,_,_,_,rfl,rfl,SqL.of hn1,zas (j:=0) (v:=V.ref y.1) (by rw [hyt]; rfl),_,rfl,y.1,a,y.2,x,rfl,hn3 y (by rw [hyt]; exact List.mem_cons_self),hp,_,rfl,?_⟩
   cases hs:Vatrka.sameMarks y.2 x with
   | false =>
    refine iteF ?_
    exact ⟨_,rfl,.inl ⟨rfl,_,SqL.of hL⟩,_,rfl,by show 1≤sizeLine; decide,fun l0 H1 s1 n1 g1=>⟨L,_,_,rfl,rfl,s1 _ _ hL,by rw [List.length_map]; exact hz,fun H2 e2 h2=>alone l0 H1 s1 n1 g1 H2 e2 h2⟩⟩
   | true =>
    refine iteT ?_
    refine ⟨_,rfl,_,rfl,L,_,_,_,rfl,rfl,SqL.of hL,hat,.inl ⟨rfl,_,SqL.of hn1⟩,_,rfl,n.1,_,_,rfl,rfl,hn1,by rw [List.length_map]; exact hn4,fun H2 e2 h2=>?_⟩
    have hnd':=hnd
    rw [List.map_append] at hnd'
    have nL:L≠n.1:=fun z=>hLn (List.mem_map.mpr ⟨n,hnm,z.symm⟩)
    refine k H2 (ns0++[(n.1,n.2++[(a,x)])]) (e2.mono fun b o _ z _=>.inr (by rw [show b=n.1 from z]; exact List.mem_map.mpr ⟨n,hnm,rfl⟩)) ?_ (fun m hm=>?_) ?_ ?_
    ·have:nrefs (ns0++[(n.1,n.2++[(a,x)])])=nrefs (ns0++[n]):=by
      unfold nrefs
      rw [List.map_append,List.map_append]
      rfl
     rw [this]
     exact e2.at hL nL
    ·rcases List.mem_append.mp hm with hm | hm
     ·have hmm:=List.mem_append_left [n] hm
      have:m.1≠n.1:=(List.nodup_append.mp hnd').2.2 m.1 (List.mem_map.mpr ⟨m,hm,rfl⟩) n.1 (by simp)
      exact ⟨e2.at (hns m hmm).1 this,(hns m hmm).2.1,.inl (List.mem_map.mpr ⟨m,hmm,rfl⟩)⟩
     ·rw [List.mem_singleton.mp hm]
      refine ⟨?_,⟨y,t++[(a,x)],by rw [hyt]; rfl,fun v hv=>?_⟩,.inl (List.mem_map.mpr ⟨n,hnm,rfl⟩)⟩
      ·show H2 n.1=some (.lst (refs (n.2++[(a,x)])))
       rw [h2,← za4]
       rfl
      ·rcases List.mem_append.mp hv with hv | hv
       ·exact hal v hv
       ·rw [List.mem_singleton.mp hv]
        exact hs
    ·have:(ns0++[(n.1,n.2++[(a,x)])]).map (·.1)=(ns0++[n]).map (·.1):=by
      rw [List.map_append,List.map_append]
      rfl
     rw [this]
     exact hnd
    ·rw [zaQ,zaQ,List.append_assoc]
     congr 1
     show (n.2++[(a,x)])++[]=(n.2++[])++[(a,x)]
     rw [List.append_nil,List.append_nil]
theorem zjb {sh:List AP} {hd:List (List AP)} {p q i:Nat} {y:AP} (h:y∈((((hd.zip sh).take q).drop p).take i).flatMap stayOf):y∈sh++hd.flatten:=by
 obtain ⟨z,hz,hy⟩:=List.mem_flatMap.mp h
 have hz2:z∈hd.zip sh:=List.mem_of_mem_take (List.mem_of_mem_drop (List.mem_of_mem_take hz))
 obtain ⟨h1,h2⟩:=List.of_mem_zip (show (z.1,z.2)∈hd.zip sh from hz2)
 unfold stayOf at hy
 rcases List.mem_append.mp hy with hy | hy
 ·exact List.mem_append_right _ (List.mem_flatten.mpr ⟨z.1,h1,hy⟩)
 ·split at hy
  ·cases hy
  ·rw [List.mem_singleton.mp hy]
   exact List.mem_append_left _ h2
abbrev s_take_out:Stmt:=top 27
theorem zf6:FnScope ["row","p","q","left","place"] ["row","p","q"] (defScope s_take_out):=⟨rfl,rfl,rfl,by decide +kernel,rfl,by decide +kernel,by decide +kernel⟩
def spTake (K:PySem.W.Frag) (c:Cs):Sp:=fun vs H Q _=>∃ (r:Addr) (X:Addr→Prop) (p q:Nat) (sh:List AP) (hd:List (List AP)) (dx sA hA:Addr) (gs:List Gap),vs=[.ref r,.int p,.int q]∧RAt c H r X sh hd dx sA hA gs∧Pcs K c H (sh++hd.flatten)∧(∀ b,X b→∃ o,H b=some o)∧2 * hd.flatten.length+sh.length < sizeLine∧hd.length=sh.length∧p≤q∧q < sh.length ∧
 ∀ H',Ext (fun b=>b=r∨b∈inner gs) H H'→RowAt c H' r X (sh.take p++sh.drop q) (hd.take p++[leftOf sh hd p q]++hd.drop (q+1))→Q .non H'
structure LeftAt (H H':Hp) (L:Addr) (gs:List Gap) (p i:Nat) (ns:List Nb) (fl:List AP):Prop where
 ext:Ext (InN gs p (p+i)) H H'
 lst:H' L=some (.lst (nrefs ns))
 nbs:∀ n∈ns,H' n.1=some (.lst (refs n.2))∧Alike n.2∧(InN gs p (p+i) n.1∨H n.1=none)
 nd:(ns.map (·.1)).Nodup
 nL:L ∉ ns.map (·.1)
 flat:flatN ns=fl
theorem LeftAt.add {c:Cs} {H H1 H2:Hp} {r L dx sA hA:Addr} {X:Addr→Prop} {sh:List AP} {hd:List (List AP)} {gs:List Gap} {p i:Nat} {ns:List Nb} {fl:List AP} {g:Gap} (h:RAt c H r X sh hd dx sA hA gs) (hL:H L=none) (l:LeftAt H H1 L gs p i ns fl) (hg:gs[p+i]?=some g)
  (e:Ext (·=L) H1 H2) (h2:H2 L=some (.lst (nrefs ns++nrefs g.2))):LeftAt H H2 L gs p (i+1) (ns++g.2) (fl++flatG g):=by
 have gin:∀ n∈g.2,InN gs p (p+(i+1)) n.1:=fun n hn=>⟨p+i,g,n,by omega,by omega,hg,hn,rfl⟩
 have gnot:∀ n∈g.2,¬ InN gs p (p+i) n.1:=fun n hn=>InN.not h.nd hg hn (.inr (Nat.le_refl _))
 have gat:∀ n∈g.2,NbAt H X n:=fun n hn=>h.nl n (List.mem_flatMap.mpr ⟨g,List.mem_of_getElem? hg,hn⟩)
 have gL:∀ n∈g.2,n.1≠L:=fun n hn=>zag (gat n hn).at_ hL
 refine ⟨(l.ext.mono fun b o _ z _=>z.mono (by omega)).then e fun b o hb z=>?_,?_,fun n hn=>?_,?_,?_,?_⟩
 ·have z:b=L:=z
  rw [z,hL] at hb
  cases hb
 ·rw [h2]
  unfold nrefs
  rw [List.map_append]
 ·rcases List.mem_append.mp hn with hn | hn
  ·obtain ⟨a1,a2,a3⟩:=l.nbs n hn
   exact ⟨e.at a1 fun z=>l.nL (List.mem_map.mpr ⟨n,hn,z⟩),a2,a3.imp (fun z=>z.mono (by omega)) id⟩
  ·exact ⟨e.at (l.ext.at (gat n hn).at_ (gnot n hn)) (gL n hn),(gat n hn).al,.inl (gin n hn)⟩
 ·rw [List.map_append]
  refine List.nodup_append.mpr ⟨l.nd,zfI h.nd hg,fun a ha b hb z=>?_⟩
  obtain ⟨n,hn,rfl⟩:=List.mem_map.mp ha
  obtain ⟨m,hm,rfl⟩:=List.mem_map.mp hb
  rcases (l.nbs n hn).2.2 with y | y
  ·rw [z] at y
   exact gnot m hm y
  ·rw [z,(gat m hm).at_] at y
   cases y
 ·rw [List.map_append]
  intro z
  rcases List.mem_append.mp z with z | z
  ·exact l.nL z
  ·obtain ⟨n,hn,e⟩:=List.mem_map.mp z
   exact gL n hn e
 ·rw [zaQ,l.flat]
theorem d_take_out (F:FunAt K mg "take_out" s_take_out) (T:Txt K mg c) (d_hide_behind:Def P w K mg base "hide_behind" 2 ["hidden","piece"] (spHide K c)):Def P w K mg base "take_out" 3 ["row","p","q"] (spTake K c):=by
 have sc:=zf6
 refine F.def sc (fun _ _ _ _ _ _=>ar3 fun _ _ _=>rfl) (fun vs H Q E h=>?_) (fun f cdv A outer s H vs Q E hr h=>?_)
 ·obtain ⟨r,X,p,q,sh,hd,dx,sA,hA,gs,rfl,_⟩:=h
  rfl
 ·obtain ⟨r,X,p,q,sh,hd,dx,sA,hA,gs,rfl,h,hpc,xa,hz,hlen,hpq,hq,k⟩:=h
  have xn:∀ {b:Addr},H b=none→¬ X b:=fun {b} hb z=>by
   obtain ⟨o,h'⟩:=xa b z
   rw [hb] at h'
   cases h'
  have hgl:gs.length=hd.length:=h.len
  have hs:sizeLine=16777216:=sizeLine_eq
  have hhd:∀ {i:Nat} {g:Gap},gs[i]?=some g→hd[i]?=some (flatG g):=fun {i g} hg=>by rw [h.he,List.getElem?_map,hg]; rfl
  refine ⟨_,(zab (zar (i:=3) sc.nd rfl (by first | exact Or.inl rfl | exact Or.inr rfl) (zal zac))
   (zab (za7 PassesOwn.never rfl (zh0 rfl T.b_range (zaa (pv 1) (zaa (pv 2) zac))) (zav (i:=4) sc.nd rfl (by first | exact Or.inl rfl | exact Or.inr rfl))
    (zab (zaq (zba PySem.F.plainAttrs_list PySem.F.slot_list_extend PySem.F.type_list_extend zbh (pv 3) (zaa (zaE zao (zae (pv 0) rfl) (pv 4) (fun _ _=>rfl)) zac)))
    (zad (zaC (zan (zkQ hr.units) (zae (zaE zao (zae (pv 0) rfl) (pv 4) (fun _ _=>rfl)) rfl) (zaJ zac) (nomark _))
     (zad (zaq (zap d_hide_behind (hr.mono (by decide)) rfl pass0 (zaa (pv 3) (zaa (zaE zao (zae (pv 0) rfl) (pv 4) (fun _ _=>rfl)) zac)))))
     zaj))))
   (zab (zaq (zba PySem.F.plainAttrs_list PySem.F.slot_list_extend PySem.F.type_list_extend zbh (pv 3) (zaa (zaE zao (zae (pv 0) rfl) (pv 2) (fun _ _=>rfl)) zac)))
   (zab (zat (pv 0) (zaH zbR (zaP zaV (zae (pv 0) rfl) zbQ (zaI (pv 1))) (zaP zaV (zae (pv 0) rfl) (zaI (pv 2)) zbQ)) rfl)
   (zad (zat (pv 0) (zaH zbR (zaH zbR (zaP zaV (zae (pv 0) rfl) zbQ (zaI (pv 1))) (zal (zaa (pv 3) zac))) (zaP zaV (zae (pv 0) rfl) (zaI (zaH zbu (pv 2) zaf)) zbQ)) rfl)))))),?_⟩
  refine ⟨Nat.zero_le _,fun L H0 s0 nL gL=>?_⟩
  have stands:∀ {i:Nat} {H':Hp} {ns:List Nb} {fl:List AP},LeftAt H H' L gs p i ns fl→H' r=some (.ins c.R dx (rf (.ref sA) (.ref hA)))∧H' sA=some (.lst (refs sh))∧H' hA=some (.lst (gs.map fun g=>V.ref g.1))∧(∀ g∈gs,GapAt H' g)∧Pcs K c H' (sh++hd.flatten):=fun {i H' ns fl} l=>by
   refine ⟨l.ext.at h.obj fun z=>h.insN h.obj z.all,l.ext.at h.sl fun z=>h.si z.all,l.ext.at h.hl fun z=>h.hi z.all,fun g hg=>(h.gl g hg).1.keepO fun o ho=>l.ext.at ho fun z=>(h.gl g hg).2.2 z.all,hpc.keep l.ext fun x hx z=>?_⟩
   obtain ⟨dxp,lk,sn,it,dt,pt,Tg,hp⟩:=hpc x hx
   exact h.insN hp.obj z.all
  have small:∀ {H':Hp} {i j:Nat} {ns:List Nb} {fl:List AP},LeftAt H H' L gs p i ns fl→fl.length < sizeLine→ns.length < sizeLine∧∀ n∈ns,n.2.length < sizeLine:=fun {H' i j ns fl} l hf=>by
   have:=zbV (ns:=ns) fun n hn=>(l.nbs n hn).2.1
   rw [l.flat] at this
   refine ⟨by omega,fun n hn=>?_⟩
   have:=ziH hn
   rw [l.flat] at this
   omega
  have LeftS:∀ {H' H'':Hp} {i:Nat} {ns:List Nb} {fl:List AP},LeftAt H H' L gs p i ns fl→Same H' H''→LeftAt H H'' L gs p i ns fl:=fun {H' H'' i ns fl} l s=>⟨l.ext.trans s.ext,s _ _ l.lst,fun n hn=>⟨s _ _ (l.nbs n hn).1,(l.nbs n hn).2⟩,l.nd,l.nL,l.flat⟩
  refine ⟨_,rfl,_,rfl,_,_,rfl,⟨by omega,by omega,by omega,by omega⟩,zfJ (lo:=p) (n:=((q:Int) - (p:Int)).toNat)
   (fun i σ H'=>∃ (v4:Option V) (ns:List Nb),σ=[some (.ref r),some (.int p),some (.int q),some (.ref L),v4]∧LeftAt H H' L gs p i ns (((((hd.zip sh).take q).drop p).take i).flatMap stayOf)) ⟨none,[],rfl,⟨s0.ext,gL,(fun _ h=>by cases h),.nil,(fun h=>by cases h),rfl⟩⟩ ?_ ?_⟩
  ·rintro i σ H1 hi ⟨v4,ns,rfl,l1⟩
   have hi:p+i < q:=by omega
   obtain ⟨o1,o2,o3,o4,o5⟩:=stands l1
   obtain ⟨g,hg⟩:∃ g,gs[p+i]?=some g:=⟨_,List.getElem?_eq_getElem (by omega)⟩
   have hhg:=hhd hg
   obtain ⟨x,hx⟩:∃ x,sh[p+i]?=some x:=⟨_,List.getElem?_eq_getElem (by omega)⟩
   have hzip:(((hd.zip sh).take q).drop p)[i]?=some (flatG g,x):=by
    rw [List.getElem?_drop,List.getElem?_take_of_lt (by omega),List.getElem?_zip_eq_some]
    exact ⟨hhg,hx⟩
   have ez:((p:Int)+(i:Int))=((p+i:Nat):Int):=by omega
   have b2:=zil sh hd p q (i+1)
   have etake:((((hd.zip sh).take q).drop p).take (i+1)).flatMap stayOf=(((((hd.zip sh).take q).drop p).take i).flatMap stayOf++flatG g)++if x.2.del.isEmpty then [] else [x]:=by
    rw [zam hzip,List.flatMap_append,List.append_assoc]
    congr 1
    show stayOf (flatG g,x)++[]=_
    rw [List.append_nil]
    rfl
   rw [etake,List.length_append] at b2
   have hfl:(((((hd.zip sh).take q).drop p).take i).flatMap stayOf++flatG g).length < sizeLine:=by omega
   have hgn:ns.length+g.2.length≤sizeLine:=by
    have h1:=zbV (ns:=ns) fun n hn=>(l1.nbs n hn).2.1
    rw [l1.flat] at h1
    have h2:=zbV (ns:=g.2) fun n hn=>(h.nl n (List.mem_flatMap.mpr ⟨g,List.mem_of_getElem? hg,hn⟩)).al
    rw [List.length_append] at hfl
    have h3:(flatG g).length=(flatN g.2).length:=rfl
    omega
   refine ⟨_,rfl,.inl ⟨rfl,_,SqL.of l1.lst⟩,_,rfl,r,_,dx,_,_,rfl,o1,T.R.cl,T.R.no _ (by decide +kernel),za3,_,rfl,hA,_,_,_,rfl,rfl,SqL.of o3,zd0 (j:=p+i) (v:=V.ref g.1) ez (by rw [List.getElem?_map,hg]; rfl),L,g.1,_,nrefs g.2,rfl,rfl,l1.lst,(o4 g (List.mem_of_getElem? hg)).seq,?_,fun H2 e2 hL2=>?_⟩
   ·rw [List.length_map,List.length_map]
    exact hgn
   have l2:=l1.add h nL hg e2 hL2
   obtain ⟨o1,o2,o3,o4,o5⟩:=stands l2
   obtain ⟨dxp,lk,sn,it,dt,pt,Tg,hp⟩:=o5 x (List.mem_append_left _ (List.mem_of_getElem? hx))
   refine ⟨_,rfl,r,_,dx,_,_,rfl,o1,T.R.cl,T.R.no _ (by decide +kernel),zaF,_,rfl,sA,_,_,_,rfl,rfl,SqL.of o2,zd0 (j:=p+i) (v:=V.ref x.1) ez (by rw [List.getElem?_map,hx]; rfl),x.1,_,dxp,_,_,rfl,hp.obj,T.P.cl,T.P.no _ (by decide +kernel),zdb,Nat.zero_le _,fun te H3 s3 nte gte=>?_⟩
   refine ⟨_,_,zbt (SqT.of (s3 _ _ hp.del)),zbt (l:=[]) (SqT.of gte),zbs _,zbs [],_,rfl,?_⟩
   rw [zep]
   have ecase:(x.2.del == ([]:List Nat))=x.2.del.isEmpty:=by cases x.2.del<;>rfl
   rw [ecase]
   have l3:=LeftS l2 s3
   obtain ⟨o1,o2,o3,o4,o5⟩:=stands l3
   cases hdel:x.2.del.isEmpty with
   | false =>
    refine iteT ?_
    rw [hdel] at etake
    obtain ⟨z1,z2⟩:=small (j:=0) l3 hfl
    refine ⟨_,rfl,_,rfl,r,_,dx,_,_,rfl,o1,T.R.cl,T.R.no _ (by decide +kernel),zaF,_,rfl,sA,_,_,_,rfl,rfl,SqL.of o2,zd0 (j:=p+i) (v:=V.ref x.1) ez (by rw [List.getElem?_map,hx]; rfl),L,x.1,x.2,ns++g.2,rfl,l3.lst,(fun n hn=>⟨(l3.nbs n hn).1,(l3.nbs n hn).2.1,fun y hy=>?_,z2 n hn⟩),l3.nd,l3.nL,o5 x (List.mem_append_left _ (List.mem_of_getElem? hx)),z1,fun H4 ns4 e4 hL4 hn4 nd4 fl4=>?_⟩
    ·have hy1:=zdR hn hy
     rw [l3.flat] at hy1
     refine o5 y ?_
     rcases List.mem_append.mp hy1 with hy1 | hy1
     ·exact zjb hy1
     ·exact List.mem_append_right _ (List.mem_flatten.mpr ⟨flatG g,List.mem_of_getElem? hhg,hy1⟩)
    ·refine ⟨_,ns4,rfl,⟨l3.ext.then e4 fun b o hb z=>?_,hL4,fun n hn=>⟨(hn4 n hn).1,(hn4 n hn).2.1,?_⟩,nd4,fun z=>?_,?_⟩⟩
     ·rcases z with z | z
      ·rw [z,nL] at hb; cases hb
      ·obtain ⟨n,hn,rfl⟩:=List.mem_map.mp z
       rcases (l3.nbs n hn).2.2 with y | y
       ·exact y
       ·rw [hb] at y; cases y
     ·rcases (hn4 n hn).2.2 with y | y
      ·obtain ⟨m,hm,e⟩:=List.mem_map.mp y
       rw [← e]
       exact (l3.nbs m hm).2.2
      ·exact .inr (l3.ext.dom _ y)
     ·obtain ⟨n,hn,e⟩:=List.mem_map.mp z
      rcases (hn4 n hn).2.2 with y | y
      ·rw [e] at y; exact l3.nL y
      ·rw [e,l3.lst] at y; cases y
     ·rw [fl4,l3.flat,etake]
      rfl
   | true =>
    refine iteF ?_
    rw [hdel] at etake
    refine ⟨_,ns++g.2,rfl,?_⟩
    rw [etake,if_pos rfl,List.append_nil]
    exact l3
  ·rintro σ H1 ⟨v4,ns,rfl,l1⟩
   have en:((q:Int) - (p:Int)).toNat=q - p:=by omega
   have hfull:((((hd.zip sh).take q).drop p).take ((q:Int) - (p:Int)).toNat)=((hd.zip sh).take q).drop p:=List.take_of_length_le (by rw [List.length_drop,List.length_take]; omega)
   have b1:=zil sh hd p q ((q:Int) - (p:Int)).toNat
   rw [hfull] at l1 b1
   rw [en] at l1
   obtain ⟨o1,o2,o3,o4,o5⟩:=stands l1
   obtain ⟨g,hg0⟩:∃ g,gs[q]?=some g:=⟨_,List.getElem?_eq_getElem (by omega)⟩
   have hg:gs[p+(q - p)]?=some g:=by rw [show p+(q - p)=q by omega]; exact hg0
   have hhg:=hhd hg0
   have hgd:hd.getD q []=flatG g:=by rw [List.getD_eq_getElem?_getD,hhg]; rfl
   have hhl:(flatG g).length≤hd.flatten.length:=zeY (List.mem_of_getElem? hhg)
   have hgn:ns.length+g.2.length≤sizeLine:=by
    have h1:=zbV (ns:=ns) fun n hn=>(l1.nbs n hn).2.1
    rw [l1.flat] at h1
    have h2:=zbV (ns:=g.2) fun n hn=>(h.nl n (List.mem_flatMap.mpr ⟨g,List.mem_of_getElem? hg0,hn⟩)).al
    have h3:(flatG g).length=(flatN g.2).length:=rfl
    omega
   refine ⟨_,rfl,.inl ⟨rfl,_,SqL.of l1.lst⟩,_,rfl,r,_,dx,_,_,rfl,o1,T.R.cl,T.R.no _ (by decide +kernel),za3,_,rfl,hA,_,_,_,rfl,rfl,SqL.of o3,zas (j:=q) (v:=V.ref g.1) (by rw [List.getElem?_map,hg0]; rfl),L,g.1,_,nrefs g.2,rfl,rfl,l1.lst,(o4 g (List.mem_of_getElem? hg0)).seq,?_,fun H2 e2 hL2=>?_⟩
   ·rw [List.length_map,List.length_map]
    exact hgn
   have l2:=l1.add h nL hg e2 hL2
   have l2f:flatN (ns++g.2)=leftOf sh hd p q:=by
    rw [l2.flat]
    unfold leftOf
    rw [hgd]
   have ei:p+(q - p+1)=q+1:=by omega
   obtain ⟨o1,o2,o3,o4,o5⟩:=stands l2
   refine ⟨_,rfl,r,_,dx,_,_,rfl,o1,T.R.cl,T.R.no _ (by decide +kernel),zaF,_,rfl,_,rfl,sA,_,rfl,SqL.of o2,fun p1 H3 s3 n3 g3=>?_⟩
   rw [zdn,zbT] at g3
   refine ⟨_,rfl,r,_,dx,_,_,rfl,s3 _ _ o1,T.R.cl,T.R.no _ (by decide +kernel),zaF,_,rfl,_,rfl,sA,_,rfl,SqL.of (s3 _ _ o2),fun p2 H4 s4 n4 g4=>?_⟩
   rw [zdo,zbU] at g4
   refine ⟨p1,p2,_,_,rfl,rfl,s4 _ _ g3,g4,?_,fun p3 H5 s5 n5 g5=>?_⟩
   ·rw [List.length_map,List.length_map,List.length_take,List.length_drop]
    omega
   rw [za4] at g5
   have s24:=s3.trans s4
   have s25:=s24.trans s5
   refine ⟨_,rfl,r,_,dx,_,rfl,s25 _ _ o1,T.R.cl,T.R.no _ (by decide +kernel),zcj,fun H6 e6 h6=>?_⟩
   have cN:∀ {b:Addr},b∈inner gs→¬ X b:=fun {b} z=>by
    obtain ⟨n,hn,e⟩:=List.mem_map.mp z
    rw [← e]
    exact (h.nl n hn).ne
   have lr:∀ {b:Addr} {xs:List V},H2 b=some (.lst xs)→b≠r:=fun {b xs} hb=>zbw hb o1 (by intro z; cases z)
   have hl6:=e6.at (s25 _ _ o3) (lr o3)
   have hL6:=e6.at (s25 _ _ l2.lst) (lr l2.lst)
   refine ⟨_,rfl,r,_,dx,_,_,rfl,h6,T.R.cl,T.R.no _ (by decide +kernel),za3,_,rfl,_,rfl,hA,_,rfl,SqL.of hl6,fun q1 H7 s7 n7 g7=>?_⟩
   rw [zdn,← List.map_take] at g7
   refine ⟨_,rfl,(by show 1≤sizeLine; decide),fun q2 H8 s8 n8 g8=>?_⟩
   refine ⟨q1,q2,_,_,rfl,rfl,s8 _ _ g7,g8,?_,fun q3 H9 s9 n9 g9=>?_⟩
   ·rw [List.length_map,List.length_take]
    show _+1≤sizeLine
    omega
   have s69:=(s7.trans s8).trans s9
   refine ⟨_,rfl,r,_,dx,_,_,rfl,s69 _ _ h6,T.R.cl,T.R.no _ (by decide +kernel),za3,_,rfl,_,_,rfl,rfl,_,rfl,hA,_,rfl,SqL.of (s69 _ _ hl6),fun q4 H10 s10 n10 g10=>?_⟩
   have g10:H10 q4=some (.lst ((gs.drop (q+1)).map fun g=>V.ref g.1)):=by
    have e:((q:Int)+1)=((q+1:Nat):Int):=by omega
    rw [e,zdo,← List.map_drop] at g10
    exact g10
   refine ⟨q3,q4,_,_,rfl,rfl,s10 _ _ g9,g10,?_,fun q5 H11 s11 n11 g11=>?_⟩
   ·rw [List.length_append,List.length_map,List.length_map,List.length_take,List.length_drop]
    show _+1+_≤sizeLine
    omega
   have s610:=s69.trans s10
   have s611:=s610.trans s11
   refine ⟨_,rfl,r,_,dx,_,rfl,s611 _ _ h6,T.R.cl,T.R.no _ (by decide +kernel),zcj,fun H12 e12 h12=>?_⟩
   have E2:Ext (·=r) H2 H12:=(s25.ext.trans e6).trans (s611.ext.trans e12)
   have E:Ext (fun b=>b=r∨b∈inner gs) H H12:=(l2.ext.mono fun b o _ z _=>.inr z.all).trans (E2.mono fun b o _ z _=>.inl z)
   have p3r:p3≠r:=fun z=>by rw [z,s24 _ _ o1] at n5; cases n5
   have q5r:q5≠r:=fun z=>by rw [z,s610 _ _ h6] at n11; cases n11
   have n5':H2 p3=none:=s24.free n5
   have n11':H2 q5=none:=s25.free (e6.dom q5 (s610.free n11))
   have fromT:∀ {i:Nat} {g':Gap},gs[i]?=some g'→(i < p∨q+1≤i)→∀ n∈g'.2,NbAt H2 X n:=fun {i g'} hg' hi n hn=>by
    have hb:=h.nl n (List.mem_flatMap.mpr ⟨g',List.mem_of_getElem? hg',hn⟩)
    refine ⟨l2.ext.at hb.at_ (InN.not h.nd hg' hn ?_),hb.ne,hb.al⟩
    rw [ei]
    exact hi
   have ixT:∀ {n:Nb},n∈nbs (gs.take p)→∃ i g',i < p∧gs[i]?=some g'∧n∈g'.2:=fun {n} hn=>by
    obtain ⟨g',hg',hn⟩:=List.mem_flatMap.mp hn
    obtain ⟨i,hi⟩:=List.mem_iff_getElem?.mp hg'
    have hil:i < p:=by
     have:=(List.getElem?_eq_some_iff.mp hi).1
     rw [List.length_take] at this
     omega
    rw [List.getElem?_take_of_lt hil] at hi
    exact ⟨i,g',hil,hi,hn⟩
   have ixD:∀ {n:Nb},n∈nbs (gs.drop (q+1))→∃ i g',q+1≤i∧gs[i]?=some g'∧n∈g'.2:=fun {n} hn=>by
    obtain ⟨g',hg',hn⟩:=List.mem_flatMap.mp hn
    obtain ⟨i,hi⟩:=List.mem_iff_getElem?.mp hg'
    rw [List.getElem?_drop] at hi
    exact ⟨q+1+i,g',by omega,hi,hn⟩
   have enbs:nbs (gs.take p++[(L,ns++g.2)]++gs.drop (q+1))=nbs (gs.take p)++(ns++g.2)++nbs (gs.drop (q+1)):=by
    rw [zbB,zbB]
    congr 2
    show (ns++g.2)++[]=_
    rw [List.append_nil]
   have nbAll:∀ n∈nbs (gs.take p++[(L,ns++g.2)]++gs.drop (q+1)),NbAt H2 X n∧(n.1∈inner gs∨H n.1=none)∧n.1≠L:=by
    rw [enbs]
    intro n hn
    rcases List.mem_append.mp hn with hn | hn
    ·rcases List.mem_append.mp hn with hn | hn
     ·obtain ⟨i,g',hi,hg',hn'⟩:=ixT hn
      exact ⟨fromT hg' (.inl hi) n hn',.inl (zcM hg' hn'),zag (h.nl n (List.mem_flatMap.mpr ⟨g',List.mem_of_getElem? hg',hn'⟩)).at_ nL⟩
     ·obtain ⟨a1,a2,a3⟩:=l2.nbs n hn
      refine ⟨⟨a1,?_,a2⟩,a3.imp (fun z=>z.all) id,fun z=>l2.nL (List.mem_map.mpr ⟨n,hn,z⟩)⟩
      rcases a3 with y | y
      ·exact cN y.all
      ·exact xn y
    ·obtain ⟨i,g',hi,hg',hn'⟩:=ixD hn
     exact ⟨fromT hg' (.inr hi) n hn',.inl (zcM hg' hn'),zag (h.nl n (List.mem_flatMap.mpr ⟨g',List.mem_of_getElem? hg',hn'⟩)).at_ nL⟩
   have inAll:∀ b∈inner (gs.take p++[(L,ns++g.2)]++gs.drop (q+1)),(b∈inner gs∨H b=none)∧b≠L∧H2 b≠none:=fun b hb=>by
    obtain ⟨n,hn,rfl⟩:=List.mem_map.mp hb
    obtain ⟨a1,a2,a3⟩:=nbAll n hn
    exact ⟨a2,a3,by rw [a1.at_]; exact fun z=>by cases z⟩
   have ndN:(inner (gs.take p++[(L,ns++g.2)]++gs.drop (q+1))).Nodup:=by
    unfold inner
    rw [enbs,List.map_append,List.map_append]
    have nd0:=h.nd
    have ndT:((nbs (gs.take p)).map (·.1)).Nodup:=by
     have:gs=gs.take p++gs.drop p:=(List.take_append_drop p gs).symm
     rw [this,za9] at nd0
     exact (List.nodup_append.mp nd0).1
    have ndD:((nbs (gs.drop (q+1))).map (·.1)).Nodup:=by
     have nd1:=h.nd
     have:gs=gs.take (q+1)++gs.drop (q+1):=(List.take_append_drop (q+1) gs).symm
     rw [this,za9] at nd1
     exact (List.nodup_append.mp nd1).2.1
    have dis:∀ {i:Nat} {g':Gap} {n m:Nb},gs[i]?=some g'→(i < p∨q+1≤i)→n∈g'.2→m∈ns++g.2→n.1≠m.1:=fun {i g' n m} hg' hi hn hm e=>by
     rcases (l2.nbs m hm).2.2 with y | y
     ·rw [← e] at y
      exact InN.not h.nd hg' hn (by rw [ei]; exact hi) y
     ·rw [← e,(h.nl n (List.mem_flatMap.mpr ⟨g',List.mem_of_getElem? hg',hn⟩)).at_] at y
      cases y
    refine List.nodup_append.mpr ⟨List.nodup_append.mpr ⟨ndT,l2.nd,fun a ha b hb e=>?_⟩,ndD,fun a ha b hb e=>?_⟩
    ·obtain ⟨n,hn,rfl⟩:=List.mem_map.mp ha
     obtain ⟨m,hm,rfl⟩:=List.mem_map.mp hb
     obtain ⟨i,g',hi,hg',hn'⟩:=ixT hn
     exact dis hg' (.inl hi) hn' hm e
    ·obtain ⟨m,hm,rfl⟩:=List.mem_map.mp hb
     obtain ⟨i,g',hi,hg',hm'⟩:=ixD hm
     rcases List.mem_append.mp ha with ha | ha
     ·obtain ⟨n,hn,rfl⟩:=List.mem_map.mp ha
      obtain ⟨j,g2,hj,hg2,hn'⟩:=ixT hn
      have:=ze0 h.nd hg2 hg' hn' hm' e
      omega
     ·obtain ⟨n,hn,rfl⟩:=List.mem_map.mp ha
      exact dis hg' (.inr hi) hm' hn e.symm
   have bsE:Beside H2 X (·=r):=zbC o1
   refine k H12 E ⟨dx,p3,q5,gs.take p++[(L,ns++g.2)]++gs.drop (q+1),h12,e12.at (s611 _ _ (e6.at g5 p3r)) p3r,?_,?_,?_,?_,ndN,xn (l2.ext.dom _ n5'),xn (l2.ext.dom _ n11'),?_,?_⟩
   ·rw [List.map_append,List.map_append]
    exact e12.at g11 q5r
   ·rw [List.map_append,List.map_append,← l2f,h.he,List.map_take,List.map_drop]
    rfl
   ·intro g' hg'
    have old:∀ g'∈gs,GapAt H12 g'∧¬ X g'.1∧g'.1 ∉ inner (gs.take p++[(L,ns++g.2)]++gs.drop (q+1)):=fun g' hg'=>by
     refine ⟨(o4 g' hg').keep E2 bsE (h.gl g' hg').2.1,(h.gl g' hg').2.1,fun z=>?_⟩
     rcases (inAll _ z).1 with y | y
     ·exact (h.gl g' hg').2.2 y
     ·rcases (h.gl g' hg').1 with x | x
      ·rw [x] at y; cases y
      ·rw [x.2] at y; cases y
    rcases List.mem_append.mp hg' with hg' | hg'
    ·rcases List.mem_append.mp hg' with hg' | hg'
     ·exact old g' (List.mem_of_mem_take hg')
     ·rw [List.mem_singleton.mp hg']
      exact ⟨.inl (E2.at l2.lst (lr l2.lst)),xn nL,fun z=>(inAll _ z).2.1 rfl⟩
    ·exact old g' (List.mem_of_mem_drop hg')
   ·exact fun n hn=>(nbAll n hn).1.keep E2 bsE
   ·exact fun z=>(inAll _ z).2.2 n5'
   ·exact fun z=>(inAll _ z).2.2 n11'
end
end Tt
end
section
namespace Tt
open PySem PySem.Spec PyProof.Rows L2
open Vatrka (Piece Pending Change shownLook shownValue marked)
def df (row author time tracking changes:V):List (Str×V):=[("row",row),("author",author),("time",time),("tracking",tracking),("changes",changes)]
section
variable {a b d e f v:V}
theorem zaS:(df a b d e f).lookup ("row":Str)=some a:=by rfl
theorem zfQ:(df a b d e f).lookup ("author":Str)=some b:=by rfl
theorem ziN:(df a b d e f).lookup ("time":Str)=some d:=by rfl
theorem zdW:(df a b d e f).lookup ("tracking":Str)=some e:=by rfl
theorem zbj:(df a b d e f).lookup ("changes":Str)=some f:=by rfl
theorem ze5:(df a b d e f).length < 1000:=by show 5 < 1000; decide
end
structure Mo where
 author:Nat
 time:Nat
 tracking:Bool
 changes:List Change
 /-- a list that is none of the row's -/
 ex:Addr
def Mo.xs (m:Mo) (ch:Addr) (b:Addr):Prop:=b=ch∨b=m.ex
abbrev ChAt (H:Hp):List Addr→List Change→Prop:=Paired fun e y=>H e=some (.tup [.int y.author,.int y.time,.int y.kind])
structure DAt (c:Cs) (H:Hp) (d:Addr) (m:Mo) (dx r ch:Addr) (es:List Addr):Prop where
 obj:H d=some (.ins c.D dx (df (.ref r) (.int m.author) (.int m.time) (.bl m.tracking) (.ref ch)))
 chl:H ch=some (.lst (es.map V.ref))
 chs:ChAt H es m.changes
def DocAt (c:Cs) (H:Hp) (d:Addr) (m:Mo) (r ch:Addr):Prop:=∃ dx es,DAt c H d m dx r ch es
theorem ChAt.keep {H H':Hp} {S:Addr→Prop} (e:Ext S H H'):∀ {es:List Addr} {l:List Change},ChAt H es l→ChAt H' es l
 | _,_,.nil=>.nil
 | _,_,.cons r t=>.cons (e.tup r) (ChAt.keep e t)
theorem DAt.keep {c:Cs} {H H':Hp} {d dx r ch:Addr} {m:Mo} {es:List Addr} {S:Addr→Prop} (e:Ext S H H') (n1:¬ S d) (n2:¬ S ch) (h:DAt c H d m dx r ch es):DAt c H' d m dx r ch es :=
 ⟨e.at h.obj n1,e.at h.chl n2,h.chs.keep e⟩
theorem DocAt.keep {c:Cs} {H H':Hp} {d r ch:Addr} {m:Mo} {S:Addr→Prop} (e:Ext S H H') (n1:¬ S d) (n2:¬ S ch) (h:DocAt c H d m r ch):DocAt c H' d m r ch:=by
 obtain ⟨dx,es,h⟩:=h
 exact ⟨dx,es,h.keep e n1 n2⟩
theorem DocAt.same {c:Cs} {H H':Hp} {d r ch:Addr} {m:Mo} (e:Same H H') (h:DocAt c H d m r ch):DocAt c H' d m r ch:=h.keep (S:=fun _=>False) e.ext (fun z=>z) fun z=>z
def ownM (m:Mo) (x:Piece):Bool:=match x.ins.getLast? with
 | some c=>(if c=0 then none else (m.changes[c - 1]?).map fun x=>x.author) == some m.author
 | none=>false
def outM (m:Mo) (x:Piece):Bool:=!m.tracking || ownM m x
section
variable {P:Program} {w:World} {K:PySem.W.Frag} {mg:Str→Option Value} {base:Heap} {c:Cs}
abbrev s_size_of:Stmt:=top 32
theorem zg2:FnScope ["document"] ["document"] (defScope s_size_of):=⟨rfl,rfl,rfl,by decide +kernel,rfl,by decide +kernel,by decide +kernel⟩
def spSize (c:Cs):Sp:=fun vs H Q _=>∃ (d r ch:Addr) (m:Mo) (sh:List AP) (hd:List (List AP)),vs=[.ref d]∧DocAt c H d m r ch∧RowAt c H r (m.xs ch) sh hd∧Q (.int sh.length) H
theorem d_size_of (F:FunAt K mg "size_of" s_size_of) (T:Txt K mg c):Def P w K mg base "size_of" 1 ["document"] (spSize c):=by
 have sc:=zg2
 refine F.def sc (fun _ _ _ _ _ _=>ar1 fun _=>rfl) (fun vs H Q E h=>?_) (fun f cdv A outer s H vs Q E hr h=>?_)
 ·obtain ⟨d,r,ch,m,sh,hd,rfl,_⟩:=h
  rfl
 ·obtain ⟨d,r,ch,m,sh,hd,rfl,⟨dx,es,h⟩,⟨dr,sA,hA,gs,h2⟩,k⟩:=h
  refine ⟨_,(zad (zah (zax zak rfl T.b_len PySem.boot_len (zaa (zae (zae (pv 0) rfl) rfl) zac)))),?_⟩
  refine ⟨_,rfl,d,_,dx,_,_,rfl,h.obj,T.D.cl,T.D.no _ (by decide +kernel),zaS,r,_,dr,_,_,rfl,h2.obj,T.R.cl,T.R.no _ (by decide +kernel),zaF,sA,_,rfl,.inl (SqL.of h2.sl),?_⟩
  rw [List.length_map]
  exact k
abbrev s_next_change:Stmt:=top 33
theorem zd6:FnScope ["document"] ["document"] (defScope s_next_change):=⟨rfl,rfl,rfl,by decide +kernel,rfl,by decide +kernel,by decide +kernel⟩
def spNext (c:Cs):Sp:=fun vs H Q _=>∃ (d r ch:Addr) (m:Mo),vs=[.ref d]∧DocAt c H d m r ch∧Q (.int ((m.changes.length+1:Nat):Int)) H
theorem d_next_change (F:FunAt K mg "next_change" s_next_change) (T:Txt K mg c):Def P w K mg base "next_change" 1 ["document"] (spNext c):=by
 have sc:=zd6
 refine F.def sc (fun _ _ _ _ _ _=>ar1 fun _=>rfl) (fun vs H Q E h=>?_) (fun f cdv A outer s H vs Q E hr h=>?_)
 ·obtain ⟨d,r,ch,m,rfl,_⟩:=h
  rfl
 ·obtain ⟨d,r,ch,m,rfl,⟨dx,es,h⟩,k⟩:=h
  refine ⟨_,(zad (zah (zaH zbu (zax zak rfl T.b_len PySem.boot_len (zaa (zae (pv 0) rfl) zac)) zaf))),?_⟩
  refine ⟨_,rfl,d,_,dx,_,_,rfl,h.obj,T.D.cl,T.D.no _ (by decide +kernel),zbj,ch,_,rfl,.inl (SqL.of h.chl),_,_,rfl,rfl,?_⟩
  rw [List.length_map,Paired.length h.chs]
  exact k
abbrev s_enter_change:Stmt:=top 34
theorem zdB:FnScope ["document","kind","bearers"] ["document","kind","bearers"] (defScope s_enter_change):=⟨rfl,rfl,rfl,by decide +kernel,rfl,by decide +kernel,by decide +kernel⟩
def Mo.enter (m:Mo) (kind:Nat):Mo:={ m with changes:=m.changes++[⟨m.author,m.time,kind⟩] }
def spEnter (c:Cs):Sp:=fun vs H Q _=>∃ (d r ch:Addr) (m:Mo) (kind n:Nat),vs=[.ref d,.int kind,.int n]∧DocAt c H d m r ch∧m.changes.length < sizeLine ∧
  ((n=0→∀ H' l,Same H H'→H l=none→H' l=some (.lst [.int 0])→Q (.ref l) H') ∧
   (n≠0→∀ H' l,Ext (·=ch) H H'→H l=none→H' l=some (.lst [.int ((m.changes.length+1:Nat):Int)])→DocAt c H' d (m.enter kind) r ch→Q (.ref l) H'))
theorem d_enter_change (F:FunAt K mg "enter_change" s_enter_change) (T:Txt K mg c):Def P w K mg base "enter_change" 1 ["document","kind","bearers"] (spEnter c):=by
 have sc:=zdB
 refine F.def sc (fun _ _ _ _ _ _=>ar3 fun _ _ _=>rfl) (fun vs H Q E h=>?_) (fun f cdv A outer s H vs Q E hr h=>?_)
 ·obtain ⟨d,r,ch,m,kind,n,rfl,_⟩:=h
  rfl
 ·obtain ⟨d,r,ch,m,kind,n,rfl,⟨dx,es,h⟩,hz,k0,k1⟩:=h
  refine ⟨_,(zab (zaC (zan za6 (pv 2) zaf (nomark _))
    (zad (zah (zal (zaa zaf zac))))
    zaj)
   (zab (zaq (zba PySem.F.plainAttrs_list PySem.F.slot_list_append PySem.F.type_list_append zbd (zae (pv 0) rfl) (zaa (zaJ (zaa (zae (pv 0) rfl) (zaa (zae (pv 0) rfl) (zaa (pv 1) zac)))) zac)))
   (zad (zah (zal (zaa (zax zak rfl T.b_len PySem.boot_len (zaa (zae (pv 0) rfl) zac)) zac)))))),?_⟩
  refine ⟨_,rfl,rfl,_,rfl,?_⟩
  have hce:=Paired.length h.chs
  refine ite2 (fun hn=>?_) (fun hn=>?_)
  ·have hn:V.int (n:Int)=V.int 0:=of_decide_eq_true hn
   have hn:n=0:=by injection hn; omega
   exact ⟨by show 1≤sizeLine; decide,fun l H' s' n' g'=>k0 hn H' l s' n' g'⟩
  ·have hn:¬ V.int (n:Int)=V.int 0:=fun z=>hn (decide_eq_true z)
   have hn:n≠0:=fun z=>hn (by rw [z]; rfl)
   refine ⟨_,rfl,d,_,dx,_,_,rfl,h.obj,T.D.cl,T.D.no _ (by decide +kernel),zbj,.inl ⟨rfl,_,SqL.of h.chl⟩,?_⟩
   refine ⟨_,rfl,d,_,dx,_,_,rfl,h.obj,T.D.cl,T.D.no _ (by decide +kernel),zfQ,_,rfl,d,_,dx,_,_,rfl,h.obj,T.D.cl,T.D.no _ (by decide +kernel),ziN,_,rfl,(by show 3≤sizeLine; decide),fun t H1 s1 n1 g1=>?_⟩
   refine ⟨ch,_,_,rfl,rfl,s1 _ _ h.chl,(by rw [List.length_map,hce]; exact hz),fun H2 e2 h2=>?_⟩
   have E:Ext (·=ch) H H2:=s1.ext.trans e2
   have dc:d≠ch:=zbw h.obj h.chl (by intro z; cases z)
   have ho:=E.at h.obj dc
   refine ⟨_,rfl,d,_,dx,_,_,rfl,ho,T.D.cl,T.D.no _ (by decide +kernel),zbj,ch,_,rfl,.inl (SqL.of h2),(by show 1≤sizeLine; decide),fun l H3 s3 n3 g3=>?_⟩
   have E3:=E.trans (s3.ext (S:=(·=ch)))
   have e1:(es.map V.ref++[V.ref t]).length=m.changes.length+1:=by rw [List.length_append,List.length_map,hce]; rfl
   rw [e1] at g3
   refine k1 hn H3 l E3 ?_ g3 ⟨dx,es++[t],s3 _ _ ho,?_,?_⟩
   ·cases q:H l with
    | none=>rfl
    | some o =>
     by_cases z:l=ch
     ·rw [z,h2] at n3; cases n3
     ·rw [E.at q z] at n3; cases n3
   ·rw [List.map_append]
    exact s3 _ _ h2
   ·exact Paired.snoc (R:=fun e (y:Change)=>H3 e=some (.tup [.int y.author,.int y.time,.int y.kind])) (y:=⟨m.author,m.time,kind⟩) (s3 _ _ (e2.tup g1)) (h.chs.keep E3)
abbrev s_is_own:Stmt:=top 35
theorem zhH:FnScope ["document","piece","change"] ["document","piece"] (defScope s_is_own):=⟨rfl,rfl,rfl,by decide +kernel,rfl,by decide +kernel,by decide +kernel⟩
def spOwn (K:PySem.W.Frag) (c:Cs):Sp:=fun vs H Q _=>∃ (d a r ch:Addr) (m:Mo) (x:Piece),vs=[.ref d,.ref a]∧DocAt c H d m r ch∧PieceAt K c.P H a x∧(∀ i∈x.ins,1≤i∧i≤m.changes.length)∧∀ H',Same H H'→Q (.bl (ownM m x)) H'
theorem zhk {l:List Nat} {y:Nat} (h:l.getLast?=some y):l[l.length - 1]?=some y:=by rw [← List.getLast?_eq_getElem?]; exact h
theorem d_is_own (F:FunAt K mg "is_own" s_is_own) (T:Txt K mg c):Def P w K mg base "is_own" 1 ["document","piece"] (spOwn K c):=by
 have sc:=zhH
 refine F.def sc (fun _ _ _ _ _ _=>ar2 fun _ _=>rfl) (fun vs H Q E h=>?_) (fun f cdv A outer s H vs Q E hr h=>?_)
 ·obtain ⟨d,a,r,ch,m,x,rfl,_⟩:=h
  rfl
 ·obtain ⟨d,a,r,ch,m,x,rfl,⟨dx,es,h⟩,⟨dp,lk,sn,it,dt,pt,Tg,hp⟩,hb,k⟩:=h
  refine ⟨_,(zab (zaC (zan (zdJ hr.units) (zae (pv 1) rfl) (zaJ zac) (nomark _))
    (zad (zah zj9))
    zaj)
   (zab (zar (i:=2) sc.nd rfl (by first | exact Or.inl rfl | exact Or.inr rfl) (zaE zao (zae (pv 0) rfl) (zaH zb4 (zaE zen (zae (pv 1) rfl) (zbm zaZ zaf) (fun _ _=>rfl)) zaf) (fun _ _=>rfl)))
   (zad (zah (zbY za6 (zaE zen (pv 2) zaf (fun _ _=>rfl)) (zae (pv 0) rfl) (nomark _)))))),?_⟩
  refine ⟨_,rfl,a,_,dp,_,_,rfl,hp.obj,T.P.cl,T.P.no _ (by decide +kernel),zcq,Nat.zero_le _,fun te H1 s1 n1 g1=>?_⟩
  refine ⟨_,_,zbt (SqT.of (s1 _ _ hp.ins)),zbt (l:=[]) (SqT.of g1),zbs _,zbs [],_,rfl,?_⟩
  rw [zep]
  cases hl:x.ins.getLast? with
  | none =>
   have e:x.ins=[]:=List.getLast?_eq_none_iff.mp hl
   have ek:ownM m x=false:=by unfold ownM; rw [hl]
   rw [ek] at k
   rw [e]
   exact iteT (k _ s1)
  | some y =>
   have hne:x.ins≠[]:=fun z=>by rw [z] at hl; cases hl
   have e:(x.ins == ([]:List Nat))=false:=by
    cases hx:x.ins with
    | nil=>exact absurd hx hne
    | cons _ _=>rfl
   rw [e]
   refine iteF ?_
   have hy:=hb y (List.mem_of_getLast? hl)
   have hlast:=zhk hl
   have hlen:0 < x.ins.length:=List.length_pos_iff.mpr hne
   obtain ⟨z,hz⟩:∃ z,m.changes[y - 1]?=some z:=⟨_,List.getElem?_eq_getElem (by omega)⟩
   have hes:=Paired.length h.chs
   obtain ⟨ea,hea⟩:∃ ea,es[y - 1]?=some ea:=⟨_,List.getElem?_eq_getElem (by omega)⟩
   obtain ⟨z',hz',hza⟩:=Paired.get? h.chs hea
   have ez:z'=z:=Option.some.inj (hz'.symm.trans hz)
   subst ez
   refine ⟨_,rfl,d,_,dx,_,_,rfl,s1 _ _ h.obj,T.D.cl,T.D.no _ (by decide +kernel),zbj,?_⟩
   refine ⟨_,rfl,a,_,dp,_,_,rfl,s1 _ _ hp.obj,T.P.cl,T.P.no _ (by decide +kernel),zcq,_,rfl,it,_,_,_,rfl,rfl,SqT.of (s1 _ _ hp.ins),(show atI (nums x.ins) (-1)=some (V.int y) from ?_),_,_,rfl,rfl,ch,_,_,_,rfl,rfl,SqL.of (s1 _ _ h.chl),zd0 (j:=y - 1) (v:=V.ref ea) (by omega) (by rw [List.getElem?_map,hea]; rfl),?_⟩
   ·unfold atI ixN
    rw [if_neg (by decide),if_pos (by rw [List.length_map]; omega)]
    have e2:((-1:Int)+((nums x.ins).length:Int)).toNat=x.ins.length - 1:=by rw [List.length_map]; omega
    show (nums x.ins)[((-1:Int)+((nums x.ins).length:Int)).toNat]?=_
    rw [e2,List.getElem?_map,hlast]
    rfl
   ·refine ⟨_,rfl,ea,_,_,_,rfl,rfl,SqT.of (s1 _ _ hza),zas (j:=0) rfl,_,rfl,d,_,dx,_,_,rfl,s1 _ _ h.obj,T.D.cl,T.D.no _ (by decide +kernel),zfQ,rfl,?_⟩
    have ek:ownM m x=decide (V.int (z'.author:Int)=V.int (m.author:Int)):=by
     unfold ownM
     rw [hl,zbH]
     simp only
     rw [if_neg (by omega),hz,Bool.eq_iff_iff]
     simp
     omega
    rw [ek] at k
    exact k _ s1
abbrev s_is_untracked:Stmt:=top 36
theorem zdA:FnScope ["document","piece"] ["document","piece"] (defScope s_is_untracked):=⟨rfl,rfl,rfl,by decide +kernel,rfl,by decide +kernel,by decide +kernel⟩
def spUntracked (K:PySem.W.Frag) (c:Cs):Sp:=fun vs H Q _=>∃ (d a r ch:Addr) (m:Mo) (x:Piece),vs=[.ref d,.ref a]∧DocAt c H d m r ch∧PieceAt K c.P H a x∧(∀ i∈x.ins,1≤i∧i≤m.changes.length)∧∀ H',Same H H'→Q (.bl (outM m x)) H'
theorem d_is_untracked (F:FunAt K mg "is_untracked" s_is_untracked) (T:Txt K mg c) (d_is_own:Def P w K mg base "is_own" 1 ["document","piece"] (spOwn K c)):Def P w K mg base "is_untracked" 2 ["document","piece"] (spUntracked K c):=by
 have sc:=zdA
 refine F.def sc (fun _ _ _ _ _ _=>ar2 fun _ _=>rfl) (fun vs H Q E h=>?_) (fun f cdv A outer s H vs Q E hr h=>?_)
 ·obtain ⟨d,a,r,ch,m,x,rfl,_⟩:=h
  rfl
 ·obtain ⟨d,a,r,ch,m,x,rfl,⟨dx,es,h⟩,hp,hb,k⟩:=h
  refine ⟨_,(zad (zah (zkK (zkL (zae (pv 0) rfl)) (zh2 (zap d_is_own (hr.mono (by decide)) rfl pass0 (zaa (pv 0) (zaa (pv 1) zac))))))),?_⟩
  refine ⟨_,rfl,d,_,dx,_,_,rfl,h.obj,T.D.cl,T.D.no _ (by decide +kernel),zdW,_,rfl,_,rfl,?_⟩
  unfold outM at k
  cases ht:m.tracking with
  | false =>
   rw [ht] at k
   exact iteT (k _ (Same.refl H))
  | true =>
   rw [ht] at k
   exact iteF ⟨_,rfl,_,rfl,d,a,r,ch,m,x,rfl,⟨dx,es,h⟩,hp,hb,k⟩
end
end Tt
end
section
namespace Tt
open Vatrka
def flat {α:Type}:List (List α)→List α→List α
 | h::hd,x::sh=>h++x::flat hd sh
 | _,_=>[]
theorem ze4 {α β:Type} (f:α→β):∀ (hd:List (List α)) (sh:List α),(flat hd sh).map f=flat (hd.map (List.map f)) (sh.map f)
 | [],_=>rfl
 | _::_,[]=>rfl
 | h::hd,x::sh=>by
  show (h++x::flat hd sh).map f=h.map f++f x::flat (hd.map (List.map f)) (sh.map f)
  rw [List.map_append,List.map_cons,ze4 f hd sh]
theorem swap3 {α:Type} (a b r:List α):(a++(b++r)).Perm (b++(a++r)):=by
 rw [← List.append_assoc,← List.append_assoc]
 exact List.Perm.append_right _ List.perm_append_comm
theorem zaT {α:Type}:∀ {hd:List (List α)} {sh:List α},hd.length=sh.length→(flat hd sh).Perm (sh++hd.flatten)
 | [],[],_=>.refl _
 | [],_::_,h=>by simp at h
 | _::_,[],h=>by simp at h
 | h::hd,x::sh,e=>by
  have ih:=zaT (hd:=hd) (sh:=sh) (by simpa using e)
  show (h++x::flat hd sh).Perm (x::sh++(h++hd.flatten))
  refine List.perm_middle.trans (.cons x ?_)
  exact (List.Perm.append_left h ih).trans (swap3 h sh hd.flatten)
theorem zeh {α:Type} (gone:α→Bool):∀ {hd:List (List α)} {sh:List α} (q:Nat),hd.length=sh.length→q < sh.length →
  (flat hd sh).Perm ((sh.take q).filter gone++flat ([((hd.zip sh).take q).flatMap (fun z=>z.1++if gone z.2=true then [] else [z.2])++hd.getD q []]++hd.drop (q+1)) (sh.drop q))
 | [],[],q,_,hq=>by simp at hq
 | [],_::_,_,h,_=>by simp at h
 | _::_,[],_,h,_=>by simp at h
 | h::hd,x::sh,0,_,_=>by
  show (flat (h::hd) (x::sh)).Perm _
  simp
 | h::hd,x::sh,q+1,e,hq=>by
  have ih:=zeh gone (hd:=hd) (sh:=sh) q (by simpa using e) (by simpa using hq)
  obtain ⟨y,ys,ey⟩:∃ y ys,sh.drop q=y::ys:=by
   cases e:sh.drop q with
   | nil=>have h1:=congrArg List.length e; rw [List.length_drop] at h1; have h2:q < sh.length:=(by simpa using hq); have h3:([]:List α).length=0:=rfl; omega
   | cons y ys=>exact ⟨y,ys,rfl⟩
  rw [ey] at ih
  show (h++x::flat hd sh).Perm (((x::sh.take q).filter gone)++flat ([((h++if gone x=true then [] else [x])++((hd.zip sh).take q).flatMap (fun z=>z.1++if gone z.2=true then [] else [z.2]))++hd.getD q []]++hd.drop (q+1)) (sh.drop q))
  rw [ey]
  show (h++x::flat hd sh).Perm (((x::sh.take q).filter gone)++((((h++if gone x=true then [] else [x])++((hd.zip sh).take q).flatMap (fun z=>z.1++if gone z.2=true then [] else [z.2]))++hd.getD q [])++y::flat (hd.drop (q+1)) ys))
  have ih:(flat hd sh).Perm ((sh.take q).filter gone++((((hd.zip sh).take q).flatMap (fun z=>z.1++if gone z.2=true then [] else [z.2])++hd.getD q [])++y::flat (hd.drop (q+1)) ys)):=ih
  generalize ((hd.zip sh).take q).flatMap (fun z=>z.1++if gone z.2=true then [] else [z.2])=M at ih ⊢
  cases gx:gone x with
  | true =>
   rw [List.filter_cons,if_pos gx,if_pos rfl,List.append_nil]
   refine List.perm_middle.trans (.cons x ?_)
   refine (List.Perm.append_left h ih).trans ?_
   simp only [List.append_assoc]
   exact swap3 _ _ _
  | false =>
   rw [List.filter_cons,if_neg (by rw [gx]; decide),if_neg (by decide)]
   refine (List.Perm.append_left h (.cons x ih)).trans ?_
   simp only [List.append_assoc,List.singleton_append,List.cons_append,List.nil_append]
   have e1:(h++x::(List.filter gone (List.take q sh)++(M++(hd.getD q []++y::flat (hd.drop (q+1)) ys))))=(h++[x])++(List.filter gone (List.take q sh)++(M++(hd.getD q []++y::flat (hd.drop (q+1)) ys))):=by simp
   have e2:(List.filter gone (List.take q sh)++(h++x::(M++(hd.getD q []++y::flat (hd.drop (q+1)) ys))))=List.filter gone (List.take q sh)++((h++[x])++(M++(hd.getD q []++y::flat (hd.drop (q+1)) ys))):=by simp
   rw [e1,e2]
   exact swap3 _ _ _
theorem zfi {α:Type} (gone:α→Bool):∀ {hd:List (List α)} {sh:List α} (p q:Nat),hd.length=sh.length→p≤q→q < sh.length →
  (flat hd sh).Perm (((sh.take q).drop p).filter gone++flat (hd.take p++[(((hd.zip sh).take q).drop p).flatMap (fun z=>z.1++if gone z.2=true then [] else [z.2])++hd.getD q []]++hd.drop (q+1)) (sh.take p++sh.drop q))
 | hd,sh,0,q,e,_,hq=>zeh gone q e hq
 | [],[],_+1,_,_,_,hq=>by simp at hq
 | [],_::_,_+1,_,h,_,_=>by simp at h
 | _::_,[],_+1,_,h,_,_=>by simp at h
 | h::hd,x::sh,p+1,0,_,hpq,_=>by omega
 | h::hd,x::sh,p+1,q+1,e,hpq,hq=>by
  have ih:=zfi gone (hd:=hd) (sh:=sh) p q (by simpa using e) (by omega) (by simpa using hq)
  show (h++x::flat hd sh).Perm (((sh.take q).drop p).filter gone++(h++x::flat (hd.take p++[(((hd.zip sh).take q).drop p).flatMap (fun z=>z.1++if gone z.2=true then [] else [z.2])++hd.getD q []]++hd.drop (q+1)) (sh.take p++sh.drop q)))
  refine (List.Perm.append_left h (.cons x ih)).trans ?_
  generalize flat (hd.take p++[(((hd.zip sh).take q).drop p).flatMap (fun z=>z.1++if gone z.2=true then [] else [z.2])++hd.getD q []]++hd.drop (q+1)) (sh.take p++sh.drop q)=R
  have e1:h++x::(List.filter gone (List.drop p (List.take q sh))++R)=(h++[x])++(List.filter gone (List.drop p (List.take q sh))++R):=by simp
  have e2:List.filter gone (List.drop p (List.take q sh))++(h++x::R)=List.filter gone (List.drop p (List.take q sh))++((h++[x])++R):=by simp
  rw [e1,e2]
  exact swap3 _ _ _
structure Split (hd:List (List Piece)) (sh:List Piece):Prop where
 len:hd.length=sh.length
 sh:∀ x∈sh,x.del=[]
 hd:∀ h∈hd,∀ x∈h,x.del≠[]
theorem zje {x:Piece} (h:x.del=[]):shown x=true:=by unfold shown; rw [h]; rfl
theorem zhC {x:Piece} (h:x.del≠[]):shown x=false:=by
 unfold shown
 cases e:x.del with
 | nil=>exact absurd e h
 | cons _ _=>rfl
theorem Split.tail {h:List Piece} {x:Piece} {hd:List (List Piece)} {sh:List Piece} (s:Split (h::hd) (x::sh)):Split hd sh :=
 ⟨by have:=s.len; simpa using this,fun y hy=>s.sh y (List.mem_cons_of_mem _ hy),fun k hk=>s.hd k (List.mem_cons_of_mem _ hk)⟩
theorem Split.head {h:List Piece} {x:Piece} {hd:List (List Piece)} {sh:List Piece} (s:Split (h::hd) (x::sh)):shown x=true∧∀ y∈h,shown y=false :=
 ⟨zje (s.sh x List.mem_cons_self),fun y hy=>zhC (s.hd h List.mem_cons_self y hy)⟩
theorem zjU {h:List Piece} (hh:∀ y∈h,shown y=false) (r:List Piece):visible (h++r)=visible r:=by
 unfold visible
 rw [List.filter_append,List.filter_eq_nil_iff.mpr (fun y hy=>by rw [hh y hy]; decide),List.nil_append]
theorem zaO:∀ {hd:List (List Piece)} {sh:List Piece},Split hd sh→visible (flat hd sh)=sh
 | [],[],_=>rfl
 | [],_::_,s=>by have:=s.len; simp at this
 | _::_,[],s=>by have:=s.len; simp at this
 | h::hd,x::sh,s=>by
  obtain ⟨h1,h2⟩:=s.head
  show visible (h++x::flat hd sh)=x::sh
  rw [zjU h2]
  have ih:=zaO s.tail
  unfold visible at ih ⊢
  rw [List.filter_cons,if_pos h1,ih]
theorem zc8 {hd:List (List Piece)} {sh:List Piece} (s:Split hd sh) (p q:Nat):stretch p q (flat hd sh)=(sh.drop p).take (q - p):=by
 unfold stretch
 rw [zaO s]
theorem zgf (new:List Piece) (p:Nat):∀ {h:List Piece},(∀ y∈h,shown y=false)→∀ r,putBefore new p (h++r)=h++putBefore new p r
 | [],_,_=>rfl
 | y::h,hh,r=>by
  show putBefore new p (y::(h++r))=y::(h++putBefore new p r)
  rw [putBefore,if_neg (by rw [hh y List.mem_cons_self]; decide),zgf new p (fun z hz=>hh z (List.mem_cons_of_mem _ hz))]
theorem ze3 {α:Type}:∀ (new:List α) (hd:List (List α)) (sh:List α),flat (List.replicate new.length []++hd) (new++sh)=new++flat hd sh
 | [],_,_=>rfl
 | y::new,hd,sh=>by
  show []++y::flat (List.replicate new.length []++hd) (new++sh)=y::(new++flat hd sh)
  rw [ze3 new hd sh,List.nil_append]
theorem zeL:∀ {hd:List (List Piece)} {sh:List Piece} (new:List Piece) (p:Nat),Split hd sh→p < sh.length →
  putBefore new p (flat hd sh)=flat (hd.take (p+1)++List.replicate new.length []++hd.drop (p+1)) (sh.take p++new++sh.drop p)
 | [],[],_,p,_,hp=>by simp at hp
 | [],_::_,_,_,s,_=>by have:=s.len; simp at this
 | _::_,[],_,_,s,_=>by have:=s.len; simp at this
 | h::hd,x::sh,new,0,s,_=>by
  obtain ⟨h1,h2⟩:=s.head
  show putBefore new 0 (h++x::flat hd sh)=flat (h::(List.replicate new.length []++hd)) (new++x::sh)
  rw [zgf new 0 h2,putBefore,if_pos h1,if_pos rfl]
  cases new with
  | nil=>rfl
  | cons y new =>
   show h++(y::new++x::flat hd sh)=h++y::flat (List.replicate (new.length+1) []++hd) (new++x::sh)
   have e:List.replicate (new.length+1) ([]:List Piece)++hd=List.replicate new.length []++([]::hd):=by
    rw [List.replicate_succ',List.append_assoc]; rfl
   rw [e,ze3]
   rfl
 | h::hd,x::sh,new,p+1,s,hp=>by
  obtain ⟨h1,h2⟩:=s.head
  show putBefore new (p+1) (h++x::flat hd sh)=h++x::flat (hd.take (p+1)++List.replicate new.length []++hd.drop (p+1)) (sh.take p++new++sh.drop p)
  rw [zgf new (p+1) h2,putBefore,if_pos h1,if_neg (by omega)]
  rw [Nat.add_sub_cancel,zeL new p s.tail (by simpa using hp)]
theorem zfD (f:Piece→List Piece) (p q:Nat):∀ {h:List Piece},(∀ y∈h,shown y=false)→∀ r,onStretch f p q (h++r)=h++onStretch f p q r
 | [],_,_=>rfl
 | y::h,hh,r=>by
  show onStretch f p q (y::(h++r))=y::(h++onStretch f p q r)
  rw [onStretch,if_neg (by rw [hh y List.mem_cons_self]; decide),zfD f p q (fun z hz=>hh z (List.mem_cons_of_mem _ hz))]
theorem zdK (f:Piece→List Piece) (p:Nat):∀ r,onStretch f p 0 r=r
 | []=>rfl
 | x::r=>by
  rw [onStretch]
  split
  ·rw [if_neg (by omega),zdK f (p - 1) r]; rfl
  ·rw [zdK f p r]
def midOf (f:Piece→List Piece) (hd:List (List Piece)) (sh:List Piece) (q:Nat):List Piece:=((hd.zip sh).take q).flatMap fun z=>z.1++f z.2
theorem zia (f:Piece→List Piece):∀ {hd:List (List Piece)} {sh:List Piece} (q:Nat),Split hd sh→q < sh.length →
  onStretch f 0 q (flat hd sh)=flat ([midOf f hd sh q++hd.getD q []]++hd.drop (q+1)) (sh.drop q)
 | [],[],q,_,hq=>by simp at hq
 | [],_::_,_,s,_=>by have:=s.len; simp at this
 | _::_,[],_,s,_=>by have:=s.len; simp at this
 | h::hd,x::sh,0,s,_=>by
  rw [zdK]
  rfl
 | h::hd,x::sh,q+1,s,hq=>by
  obtain ⟨h1,h2⟩:=s.head
  have ih:=zia f q s.tail (by simpa using hq)
  show onStretch f 0 (q+1) (h++x::flat hd sh)=_
  rw [zfD f 0 (q+1) h2,onStretch,if_pos h1,if_pos ⟨rfl,by omega⟩]
  show h++(f x++onStretch f 0 q (flat hd sh))=_
  rw [ih]
  have hq':q < sh.length:=by simpa using hq
  obtain ⟨y,ys,ey⟩:∃ y ys,sh.drop q=y::ys:=by
   cases e:sh.drop q with
   | nil=>have:=congrArg List.length e; simp at this; omega
   | cons y ys=>exact ⟨y,ys,rfl⟩
  show h++(f x++flat ([midOf f hd sh q++hd.getD q []]++hd.drop (q+1)) (sh.drop q))=flat ([((h++f x)++midOf f hd sh q)++hd.getD q []]++hd.drop (q+1)) (sh.drop q)
  rw [ey]
  show h++(f x++((midOf f hd sh q++hd.getD q [])++y::flat (hd.drop (q+1)) ys))=(((h++f x)++midOf f hd sh q)++hd.getD q [])++y::flat (hd.drop (q+1)) ys
  simp only [List.append_assoc]
theorem zic (f:Piece→List Piece):∀ {hd:List (List Piece)} {sh:List Piece} (p q:Nat),Split hd sh→p≤q→q < sh.length →
  onStretch f p q (flat hd sh)=flat (hd.take p++[(((hd.zip sh).take q).drop p).flatMap (fun z=>z.1++f z.2)++hd.getD q []]++hd.drop (q+1)) (sh.take p++sh.drop q)
 | hd,sh,0,q,s,_,hq=>by
  rw [zia f q s hq]
  rfl
 | [],[],_+1,_,_,_,hq=>by simp at hq
 | [],_::_,_+1,_,s,_,_=>by have:=s.len; simp at this
 | _::_,[],_+1,_,s,_,_=>by have:=s.len; simp at this
 | h::hd,x::sh,p+1,0,s,hpq,_=>by omega
 | h::hd,x::sh,p+1,q+1,s,hpq,hq=>by
  obtain ⟨h1,h2⟩:=s.head
  have ih:=zic f p q s.tail (by omega) (by simpa using hq)
  show onStretch f (p+1) (q+1) (h++x::flat hd sh)=_
  rw [zfD f (p+1) (q+1) h2,onStretch,if_pos h1,if_neg (by omega)]
  show h++x::onStretch f p q (flat hd sh)=_
  rw [ih]
  rfl
theorem zib (g:Piece→Piece):∀ {hd:List (List Piece)} {sh:List Piece} (p q:Nat),Split hd sh→p≤q→q≤sh.length →
  onStretch (fun x=>[g x]) p q (flat hd sh)=flat hd (sh.take p++((sh.take q).drop p).map g++sh.drop q)
 | [],[],p,q,_,_,hq=>by
  have:q=0:=by simpa using hq
  subst this
  rw [zdK]; simp
 | [],_::_,_,_,s,_,_=>by have:=s.len; simp at this
 | _::_,[],_,_,s,_,_=>by have:=s.len; simp at this
 | h::hd,x::sh,0,0,s,_,_=>by rw [zdK]; simp
 | h::hd,x::sh,p+1,0,s,hpq,_=>by omega
 | h::hd,x::sh,0,q+1,s,hpq,hq=>by
  obtain ⟨h1,h2⟩:=s.head
  have ih:=zib g 0 q s.tail (by omega) (by simpa using hq)
  show onStretch (fun x=>[g x]) 0 (q+1) (h++x::flat hd sh)=_
  rw [zfD _ 0 (q+1) h2,onStretch,if_pos h1,if_pos ⟨rfl,by omega⟩]
  show h++g x::onStretch (fun x=>[g x]) 0 q (flat hd sh)=_
  rw [ih]
  rfl
 | h::hd,x::sh,p+1,q+1,s,hpq,hq=>by
  obtain ⟨h1,h2⟩:=s.head
  have ih:=zib g p q s.tail (by omega) (by simpa using hq)
  show onStretch (fun x=>[g x]) (p+1) (q+1) (h++x::flat hd sh)=_
  rw [zfD _ (p+1) (q+1) h2,onStretch,if_pos h1,if_neg (by omega)]
  show h++x::onStretch (fun x=>[g x]) p q (flat hd sh)=_
  rw [ih]
  rfl
end Tt
end
section
namespace Tt
open PySem PySem.Spec PyProof.Rows L2
open Vatrka (Piece Pending Change shownLook shownValue marked)
abbrev ps (sh:List AP):List Piece:=sh.map (·.2)
abbrev hs (hd:List (List AP)):List (List Piece):=hd.map ps
def st (m:Mo) (sh:List AP) (hd:List (List AP)):Vatrka.State:={ row:=flat (hs hd) (ps sh),author:=m.author,time:=m.time,tracking:=m.tracking,changes:=m.changes }
structure WfP (n k:Nat) (x:Piece):Prop where
 look:x.look.length=4
 ins:∀ i∈x.ins,1≤i∧i≤n
 del:∀ i∈x.del,i≤n
 pend:∀ y∈x.pend,y.change≤n∧y.prop < 4
 insL:x.ins.length≤k
 delL:x.del.length≤1
 pendL:x.pend.length≤k
 tagsS:x.tags.Pairwise (· < ·)
 tagsR:∀ t∈x.tags,1≤t∧t≤999
theorem WfP.mono {n k n' k':Nat} {x:Piece} (w:WfP n k x) (hn:n≤n') (hk:k≤k'):WfP n' k' x :=
 ⟨w.look,fun i hi=>⟨(w.ins i hi).1,Nat.le_trans (w.ins i hi).2 hn⟩,fun i hi=>Nat.le_trans (w.del i hi) hn,fun y hy=>⟨Nat.le_trans (w.pend y hy).1 hn,(w.pend y hy).2⟩,Nat.le_trans w.insL hk,w.delL,Nat.le_trans w.pendL hk,w.tagsS,w.tagsR⟩
abbrev all (sh:List AP) (hd:List (List AP)):List AP:=sh++hd.flatten
def std (l:List AP):Nat:=(l.filter fun x=>Vatrka.stood x.2).length
theorem zex {l m:List AP} (h:l.Perm m):std l=std m:=(h.filter _).length_eq
theorem zaw (l m:List AP):std (l++m)=std l+std m:=by unfold std; rw [List.filter_append,List.length_append]
theorem zgu (l:List AP):std l≤l.length:=List.length_filter_le _ _
theorem zey {f:AP→AP}:∀ {l:List AP},(∀ x∈l,(f x).2.ins=x.2.ins)→std (l.map f)=std l
 | [],_=>rfl
 | x::l,h=>by
  have ih:=zey (f:=f) (l:=l) fun y hy=>h y (List.mem_cons_of_mem _ hy)
  have e:Vatrka.stood (f x).2=Vatrka.stood x.2:=by unfold Vatrka.stood; rw [h x List.mem_cons_self]
  unfold std at ih ⊢
  rw [List.map_cons,List.filter_cons,List.filter_cons,e]
  split
  ·rw [List.length_cons,List.length_cons,ih]
  ·exact ih
structure Wf (k z:Nat) (m:Mo) (sh:List AP) (hd:List (List AP)):Prop where
 split:Split (hs hd) (ps sh)
 nd:((all sh hd).map (·.1)).Nodup
 pcs:∀ p∈all sh hd,WfP m.changes.length k p.2
 last:∃ x,sh.getLast?=some x∧x.2.sign=10∧x.2.ins=[]
 chs:m.changes.length≤k
 shL:sh.length≤z+1
 hdL:hd.flatten.length≤k * 17001
 stL:std (all sh hd)≤z+1
theorem Wf.len {k z:Nat} {m:Mo} {sh:List AP} {hd:List (List AP)} (w:Wf k z m sh hd):hd.length=sh.length:=by
 have:=w.split.len
 simpa using this
theorem Wf.ne {k z:Nat} {m:Mo} {sh:List AP} {hd:List (List AP)} (w:Wf k z m sh hd):0 < sh.length:=by
 obtain ⟨x,hx,_⟩:=w.last
 cases sh with
 | nil=>cases hx
 | cons _ _=>exact Nat.succ_pos _
theorem Wf.mono {k z k' z':Nat} {m:Mo} {sh:List AP} {hd:List (List AP)} (w:Wf k z m sh hd) (hk:k≤k') (hz:z≤z'):Wf k' z' m sh hd :=
 ⟨w.split,w.nd,fun p hp=>(w.pcs p hp).mono (Nat.le_refl _) hk,w.last,Nat.le_trans w.chs hk,Nat.le_trans w.shL (by omega),Nat.le_trans w.hdL (Nat.mul_le_mul_right _ hk),Nat.le_trans w.stL (by omega)⟩
theorem zaR {k z:Nat} {m:Mo} {sh:List AP} {hd:List (List AP)} (w:Wf k z m sh hd):Vatrka.count (st m sh hd)=sh.length:=by
 show (Vatrka.visible (flat (hs hd) (ps sh))).length=_
 rw [zaO w.split,List.length_map]
theorem Mo.xs_eq {m m':Mo} {ch:Addr} (h:m'.ex=m.ex):m'.xs ch=m.xs ch:=by
 unfold Mo.xs
 rw [h]
structure Full (K:PySem.W.Frag) (c:Cs) (H:Hp) (d:Addr) (m:Mo) (r ch:Addr) (sh:List AP) (hd:List (List AP)):Prop where
 doc:DocAt c H d m r ch
 row:RowAt c H r (m.xs ch) sh hd
 pcs:Pcs K c H (all sh hd)
def Foot (H:Hp) (d r ch:Addr) (sh:List AP) (hd:List (List AP)) (b:Addr):Prop:=(b=d∨∃ x t,H b=some (.lst (V.ref x::t)))∨b=r∨b=ch∨∃ p∈all sh hd,b=p.1
section
variable {K:PySem.W.Frag} {c:Cs} {H H':Hp} {d r ch:Addr} {m:Mo} {sh:List AP} {hd:List (List AP)}
theorem Full.dr (f:Full K c H d m r ch sh hd):d≠r:=by
 obtain ⟨dx,es,h⟩:=f.doc
 obtain ⟨dr,sA,hA,gs,h2⟩:=f.row
 exact zbw h.obj h2.obj (by intro z; injection z with _ _ z; exact absurd (show 5=2 from congrArg List.length z) (by decide))
theorem Full.dp (f:Full K c H d m r ch sh hd):∀ p∈all sh hd,p.1≠d:=fun p hp=>by
 obtain ⟨dx,es,h⟩:=f.doc
 obtain ⟨dxp,lk,sn,it,dt,pt,T,h2⟩:=f.pcs p hp
 exact zbw h2.obj h.obj (by intro z; injection z with _ _ z; exact absurd (show 7=5 from congrArg List.length z) (by decide))
theorem Full.rp (f:Full K c H d m r ch sh hd):∀ p∈all sh hd,p.1≠r:=fun p hp=>by
 obtain ⟨dr,sA,hA,gs,h⟩:=f.row
 obtain ⟨dxp,lk,sn,it,dt,pt,T,h2⟩:=f.pcs p hp
 exact zbw h2.obj h.obj (by intro z; injection z with _ _ z; exact absurd (show 7=2 from congrArg List.length z) (by decide))
theorem Full.chl (f:Full K c H d m r ch sh hd):∃ o,H ch=some (.lst o):=by
 obtain ⟨dx,es,h⟩:=f.doc
 exact ⟨_,h.chl⟩
theorem Full.cd (f:Full K c H d m r ch sh hd):ch≠d:=by
 obtain ⟨dx,es,h⟩:=f.doc
 exact zbw h.chl h.obj (by intro z; cases z)
theorem Full.cr (f:Full K c H d m r ch sh hd):ch≠r:=by
 obtain ⟨o,h⟩:=f.chl
 obtain ⟨dr,sA,hA,gs,h2⟩:=f.row
 exact zbw h h2.obj (by intro z; cases z)
theorem Full.cp (f:Full K c H d m r ch sh hd):∀ p∈all sh hd,p.1≠ch:=fun p hp=>by
 obtain ⟨o,h⟩:=f.chl
 obtain ⟨dxp,lk,sn,it,dt,pt,T,h2⟩:=f.pcs p hp
 exact zbw h2.obj h (by intro z; cases z)
theorem Full.same (f:Full K c H d m r ch sh hd) (e:Same H H'):Full K c H' d m r ch sh hd :=
 ⟨f.doc.same e,f.row.keep (S:=fun _=>False) e.ext (fun z=>z) (fun _ z=>z.elim),f.pcs.same e⟩
theorem Full.setDoc {m':Mo} (f:Full K c H d m r ch sh hd) (hx:m'.ex=m.ex) (e:Ext (·=d) H H') (h:DocAt c H' d m' r ch):Full K c H' d m' r ch sh hd:=by
 obtain ⟨dx,es,hd'⟩:=f.doc
 exact ⟨h,by rw [Mo.xs_eq hx]; exact f.row.keep e f.dr.symm (zbC hd'.obj),f.pcs.keep e f.dp⟩
theorem Full.setCh {m':Mo} (f:Full K c H d m r ch sh hd) (hx:m'.ex=m.ex) (e:Ext (·=ch) H H') (h:DocAt c H' d m' r ch):Full K c H' d m' r ch sh hd :=
 ⟨h,by rw [Mo.xs_eq hx]; exact f.row.keep e f.cr.symm (fun b z=>.inl (.inl z)),f.pcs.keep e f.cp⟩
theorem Full.setRow {sh':List AP} {hd':List (List AP)} (f:Full K c H d m r ch sh hd) (e:Ext (·=r) H H') (h:RowAt c H' r (m.xs ch) sh' hd') (hp:Pcs K c H' (all sh' hd')):Full K c H' d m r ch sh' hd' :=
 ⟨f.doc.keep e f.dr f.cr,h,hp⟩
end
section
variable {K:PySem.W.Frag} {c:Cs} {H H':Hp} {d r ch dx sA hA:Addr} {gs:List Gap} {m:Mo} {sh sh':List AP} {hd hd':List (List AP)}
theorem RAt.chN {X:Addr→Prop} (h:RAt c H r X sh hd dx sA hA gs) (hx:X ch):ch ∉ inner gs:=fun z=>by
 obtain ⟨n,hn,e⟩:=List.mem_map.mp z
 exact (h.nl n hn).ne (by rw [e]; exact hx)
theorem RAt.pN {X:Addr→Prop} (h:RAt c H r X sh hd dx sA hA gs) {C a:Addr} {x:Piece} (hp:PieceAt K C H a x):¬ (a=r∨a∈inner gs):=by
 obtain ⟨dxp,lk,sn,it,dt,pt,T,h2⟩:=hp
 rintro (z | z)
 ·exact zbw h2.obj h.obj (by intro z; injection z with _ _ z; exact absurd (show 7=2 from congrArg List.length z) (by decide)) z
 ·exact h.insN h2.obj z
theorem DocAt.keepN (f:Full K c H d m r ch sh hd) (hR:RAt c H r (m.xs ch) sh' hd' dx sA hA gs) (e:Ext (fun b=>b=r∨b∈inner gs) H H'):DocAt c H' d m r ch:=by
 obtain ⟨dd,es,hD⟩:=f.doc
 exact DocAt.keep e (fun z=>z.elim f.dr (hR.insN hD.obj)) (fun z=>z.elim f.cr (hR.chN (.inl rfl))) ⟨dd,es,hD⟩
theorem Full.setRowN {sh1:List AP} {hd1:List (List AP)} (f:Full K c H d m r ch sh hd) (hR:RAt c H r (m.xs ch) sh' hd' dx sA hA gs) (e:Ext (fun b=>b=r∨b∈inner gs) H H') (h:RowAt c H' r (m.xs ch) sh1 hd1) (hp:Pcs K c H' (all sh1 hd1)):Full K c H' d m r ch sh1 hd1 :=
 ⟨DocAt.keepN f hR e,h,hp⟩
end
def ansV (a:Vatrka.Answer):List V:=(VatrkaNeutral.encode a).map V.int
def Owes (K:PySem.W.Frag) (c:Cs) (H:Hp) (d r ch:Addr) (m:Mo) (sh:List AP) (hd:List (List AP)) (k z zc:Nat) (call:Vatrka.Call) (Q:VK):Prop :=
 ∀ H' l m' sh' hd',Ext (Foot H d r ch sh hd) H H'→H l=none→H' l=some (.lst (ansV (Vatrka.step (st m sh hd) call).2))→Full K c H' d m' r ch sh' hd'→m'.ex=m.ex→st m' sh' hd'=(Vatrka.step (st m sh hd) call).1→Wf (k+1) (z+zc) m' sh' hd'→Q (.ref l) H'
structure Given (K:PySem.W.Frag) (c:Cs) (H:Hp) (d r ch:Addr) (m:Mo) (sh:List AP) (hd:List (List AP)) (k z zc:Nat):Prop where
 full:Full K c H d m r ch sh hd
 wf:Wf k z m sh hd
 kL:k < 400
 exA:∃ o,H m.ex=some o
 zL:z+zc≤17000
section
variable {K:PySem.W.Frag} {c:Cs} {H H':Hp} {d r ch l:Addr} {m:Mo} {sh:List AP} {hd:List (List AP)} {k z zc:Nat} {call:Vatrka.Call} {Q:VK}
theorem zhq {S:Addr→Prop} {b:Addr} (e:Ext S H H') (h:∃ o,H b=some o):∃ o,H' b=some o:=by
 cases q:H' b with
 | some o=>exact ⟨o,rfl⟩
 | none =>
  obtain ⟨o,h⟩:=h
  rw [e.dom b q] at h
  cases h
theorem Given.xa (g:Given K c H d r ch m sh hd k z zc) {S:Addr→Prop} (e:Ext S H H'):∀ b,m.xs ch b→∃ o,H' b=some o:=fun b hb=>zhq e (by
 rcases hb with rfl | rfl
 ·obtain ⟨o,h⟩:=g.full.chl
  exact ⟨_,h⟩
 ·exact g.exA)
theorem Owes.stay (o:Owes K c H d r ch m sh hd k z zc call Q) (g:Given K c H d r ch m sh hd k z zc) {ans:List V} (es:(Vatrka.step (st m sh hd) call).1=st m sh hd) (ea:ansV (Vatrka.step (st m sh hd) call).2=ans)
  (s:Same H H') (n:H l=none) (h:H' l=some (.lst ans)):Q (.ref l) H' :=
 o H' l m sh hd s.ext n (by rw [ea]; exact h) (g.full.same s) rfl es.symm (g.wf.mono (Nat.le_succ _) (Nat.le_add_right _ _))
end
section
variable {P:Program} {w:World} {K:PySem.W.Frag} {mg:Str→Option Value} {base:Heap} {c:Cs}
theorem Owes.moment {H H1 H':Hp} {d r ch l:Addr} {m m':Mo} {sh:List AP} {hd:List (List AP)} {k z zc:Nat} {call:Vatrka.Call} {Q:VK} (o:Owes K c H d r ch m sh hd k z zc call Q) (g:Given K c H d r ch m sh hd k z zc)
  (hm:m'.changes=m.changes) (hx:m'.ex=m.ex) (es:(Vatrka.step (st m sh hd) call).1=st m' sh hd) {ans:List V} (ea:ansV (Vatrka.step (st m sh hd) call).2=ans)
  (e:Ext (·=d) H H1) (hD:DocAt c H1 d m' r ch) (s:Same H1 H') (n:H1 l=none) (h:H' l=some (.lst ans)):Q (.ref l) H':=by
 have w:=g.wf.mono (Nat.le_succ k) (Nat.le_add_right z zc)
 have nl:H l=none:=by
  cases q:H l with
  | none=>rfl
  | some u =>
   by_cases y:l=d
   ·obtain ⟨dx,es,hd'⟩:=hD
    rw [y,hd'.obj] at n; cases n
   ·rw [e.at q y] at n; cases n
 refine o H' l m' sh hd ((e.mono (fun b u _ z _=>.inl (.inl z))).trans s.ext) nl (by rw [ea]; exact h) ((g.full.setDoc hx e hD).same s) hx es.symm ⟨w.split,w.nd,?_,w.last,?_,w.shL,w.hdL,w.stL⟩
 ·rw [hm]; exact w.pcs
 ·rw [hm]; exact w.chs
abbrev s_set_author:Stmt:=top 57
theorem zeD:FnScope ["document","a"] ["document","a"] (defScope s_set_author):=⟨rfl,rfl,rfl,by decide +kernel,rfl,by decide +kernel,by decide +kernel⟩
def spAuthor (K:PySem.W.Frag) (c:Cs):Sp:=fun vs H Q _=>∃ (d r ch:Addr) (m:Mo) (sh:List AP) (hd:List (List AP)) (k z:Nat) (a:Int),vs=[.ref d,.int a]∧Given K c H d r ch m sh hd k z 0∧Owes K c H d r ch m sh hd k z 0 (.author a) Q
theorem d_set_author (F:FunAt K mg "set_author" s_set_author) (T:Txt K mg c):Def P w K mg base "set_author" 1 ["document","a"] (spAuthor K c):=by
 have sc:=zeD
 refine F.def sc (fun _ _ _ _ _ _=>ar2 fun _ _=>rfl) (fun vs H Q E h=>?_) (fun f cdv A outer s H vs Q E hr h=>?_)
 ·obtain ⟨d,r,ch,m,sh,hd,k,z,a,rfl,_⟩:=h
  rfl
 ·obtain ⟨d,r,ch,m,sh,hd,k,z,a,rfl,g,o⟩:=h
  obtain ⟨dx,es,hD⟩:=g.full.doc
  refine ⟨_,(zab (zaC (zbE (zbk zbg zbg zaf (pv 1) zaf))
    (zad (zah (zal (zaa (zbm zaZ zaf) zac))))
    zaj)
   (zab (zat (pv 0) (pv 1) rfl)
   (zad (zah (zal (zaa zaf zac)))))),?_⟩
  have no:∀ (hw:Vatrka.within a 1 99=false) (l:Addr) (H':Hp),Same H H'→H l=none→H' l=some (.lst [.int (-2)])→Q (.ref l) H':=fun hw l H' s' n' g'=>by
   have e:Vatrka.step (st m sh hd) (.author a)=(st m sh hd,.refused 2):=by
    show (if Vatrka.within a 1 99=true then _ else _)=_
    rw [hw]; rfl
   exact o.stay g (by rw [e]) (by rw [e]; rfl) s' n' g'
  have yes:∀ (hw:Vatrka.within a 1 99=true) (H1:Hp),Ext (·=d) H H1→H1 d=some (.ins c.D dx (putF "author" (.int a) (df (.ref r) (.int m.author) (.int m.time) (.bl m.tracking) (.ref ch)))) →
    ∀ (l:Addr) (H':Hp),Same H1 H'→H1 l=none→H' l=some (.lst [.int 0])→Q (.ref l) H':=fun hw H1 e1 h1 l H' s' n' g'=>by
   have e:Vatrka.step (st m sh hd) (.author a)=(st { m with author:=a.toNat } sh hd,.told [0]):=by
    show (if Vatrka.within a 1 99=true then _ else _)=_
    rw [hw]; rfl
   have ha:((a.toNat:Nat):Int)=a:=by
    unfold Vatrka.within at hw
    simp only [Bool.and_eq_true,decide_eq_true_eq] at hw
    omega
   have dc:ch≠d:=g.full.cd
   have hD1:DocAt c H1 d { m with author:=a.toNat } r ch:=⟨dx,es,(by show H1 d=some (.ins c.D dx (df (.ref r) (.int ((a.toNat:Nat):Int)) (.int m.time) (.bl m.tracking) (.ref ch))); rw [ha]; exact h1),e1.at hD.chl dc,hD.chs.keep e1⟩
   exact o.moment g (m':={ m with author:=a.toNat }) rfl rfl (by rw [e]) (by rw [e]; rfl) e1 hD1 s' n' g'
  refine ⟨_,rfl,_,_,rfl,rfl,_,rfl,?_⟩
  refine ite2 (fun h1=>?_) (fun h1=>?_)
  ·refine ⟨_,_,rfl,rfl,_,rfl,?_⟩
   have h1:=of_decide_eq_true h1
   by_cases h2:a≤99
   ·have hw:Vatrka.within a 1 99=true:=by unfold Vatrka.within; simp only [Bool.and_eq_true,decide_eq_true_eq]; omega
    rw [decide_eq_true h2]
    refine iteF ?_
    refine ⟨_,rfl,_,rfl,d,_,dx,_,rfl,hD.obj,T.D.cl,T.D.no _ (by decide +kernel),ze5,fun H1 e1 h1=>?_⟩
    exact ⟨by show 1≤sizeLine; decide,fun l H' s' n' g'=>yes hw H1 e1 h1 l H' s' n' g'⟩
   ·have hw:Vatrka.within a 1 99=false:=by unfold Vatrka.within; rw [decide_eq_false (p:=a≤((99:Nat):Int)) (by omega),Bool.and_false]
    rw [decide_eq_false h2]
    refine iteT ?_
    exact ⟨_,rfl,by show 1≤sizeLine; decide,fun l H' s' n' g'=>no hw l H' s' n' g'⟩
  ·have h1:¬ (1:Int)≤a:=fun z=>h1 (decide_eq_true z)
   have hw:Vatrka.within a 1 99=false:=by unfold Vatrka.within; rw [decide_eq_false (p:=((1:Nat):Int)≤a) (by omega),Bool.false_and]
   refine ⟨_,rfl,?_⟩
   refine iteT ?_
   exact ⟨_,rfl,by show 1≤sizeLine; decide,fun l H' s' n' g'=>no hw l H' s' n' g'⟩
abbrev s_set_time:Stmt:=top 58
theorem zf7:FnScope ["document","t"] ["document","t"] (defScope s_set_time):=⟨rfl,rfl,rfl,by decide +kernel,rfl,by decide +kernel,by decide +kernel⟩
def spTime (K:PySem.W.Frag) (c:Cs):Sp:=fun vs H Q _=>∃ (d r ch:Addr) (m:Mo) (sh:List AP) (hd:List (List AP)) (k z:Nat) (t:Int),vs=[.ref d,.int t]∧Given K c H d r ch m sh hd k z 0∧Owes K c H d r ch m sh hd k z 0 (.clock t) Q
theorem d_set_time (F:FunAt K mg "set_time" s_set_time) (T:Txt K mg c):Def P w K mg base "set_time" 1 ["document","t"] (spTime K c):=by
 have sc:=zf7
 refine F.def sc (fun _ _ _ _ _ _=>ar2 fun _ _=>rfl) (fun vs H Q E h=>?_) (fun f cdv A outer s H vs Q E hr h=>?_)
 ·obtain ⟨d,r,ch,m,sh,hd,k,z,a,rfl,_⟩:=h
  rfl
 ·obtain ⟨d,r,ch,m,sh,hd,k,z,t,rfl,g,o⟩:=h
  obtain ⟨dx,es,hD⟩:=g.full.doc
  refine ⟨_,(zab (zaC (zan zcY (pv 1) zaf (nomark _))
    (zad (zah (zal (zaa (zbm zaZ zaf) zac))))
    zaj)
   (zab (zaC (zan zcY (pv 1) (zae (pv 0) rfl) (nomark _))
    (zad (zah (zal (zaa (zbm zaZ zaf) zac))))
    zaj)
   (zab (zat (pv 0) (pv 1) rfl)
   (zad (zah (zal (zaa zaf zac))))))),?_⟩
  refine ⟨_,rfl,_,_,rfl,rfl,_,rfl,?_⟩
  refine ite2 (fun h1=>?_) (fun h1=>?_)
  ·have h1:=of_decide_eq_true h1
   have e:Vatrka.step (st m sh hd) (.clock t)=(st m sh hd,.refused 2):=by
    show (if t < 0 then _ else _)=_
    rw [if_pos h1]
   exact ⟨_,rfl,by show 1≤sizeLine; decide,fun l H' s' n' g'=>o.stay g (by rw [e]) (by rw [e]; rfl) s' n' g'⟩
  ·have h1:¬ t < 0:=fun z=>h1 (decide_eq_true z)
   refine ⟨_,rfl,_,rfl,d,_,dx,_,_,rfl,hD.obj,T.D.cl,T.D.no _ (by decide +kernel),ziN,_,_,rfl,rfl,_,rfl,?_⟩
   refine ite2 (fun h2=>?_) (fun h2=>?_)
   ·have h2:t < (m.time:Int):=of_decide_eq_true h2
    have e:Vatrka.step (st m sh hd) (.clock t)=(st m sh hd,.refused 3):=by
     show (if t < 0 then _ else if t < (m.time:Int) then _ else _)=_
     rw [if_neg h1,if_pos h2]
    exact ⟨_,rfl,by show 1≤sizeLine; decide,fun l H' s' n' g'=>o.stay g (by rw [e]) (by rw [e]; rfl) s' n' g'⟩
   ·have h2:¬ t < (m.time:Int):=fun z=>h2 (decide_eq_true z)
    have e:Vatrka.step (st m sh hd) (.clock t)=(st { m with time:=t.toNat } sh hd,.told [0]):=by
     show (if t < 0 then _ else if t < (m.time:Int) then _ else _)=_
     rw [if_neg h1,if_neg h2]; rfl
    refine ⟨_,rfl,_,rfl,d,_,dx,_,rfl,hD.obj,T.D.cl,T.D.no _ (by decide +kernel),ze5,fun H1 e1 h1'=>?_⟩
    refine ⟨by show 1≤sizeLine; decide,fun l H' s' n' g'=>?_⟩
    have ha:((t.toNat:Nat):Int)=t:=by omega
    have dc:ch≠d:=g.full.cd
    have hD1:DocAt c H1 d { m with time:=t.toNat } r ch:=⟨dx,es,(by show H1 d=some (.ins c.D dx (df (.ref r) (.int m.author) (.int ((t.toNat:Nat):Int)) (.bl m.tracking) (.ref ch))); rw [ha]; exact h1'),e1.at hD.chl dc,hD.chs.keep e1⟩
    exact o.moment g (m':={ m with time:=t.toNat }) rfl rfl (by rw [e]) (by rw [e]; rfl) e1 hD1 s' n' g'
abbrev s_set_tracking:Stmt:=top 59
theorem zdy:FnScope ["document","on"] ["document","on"] (defScope s_set_tracking):=⟨rfl,rfl,rfl,by decide +kernel,rfl,by decide +kernel,by decide +kernel⟩
def spTrack (K:PySem.W.Frag) (c:Cs):Sp:=fun vs H Q _=>∃ (d r ch:Addr) (m:Mo) (sh:List AP) (hd:List (List AP)) (k z:Nat) (on:Int),vs=[.ref d,.int on]∧Given K c H d r ch m sh hd k z 0∧Owes K c H d r ch m sh hd k z 0 (.track on) Q
theorem in01 (on:Int):inV (.int on) [.int 0,.int 1]=Vatrka.within on 0 1:=by
 unfold Vatrka.within
 rw [Bool.eq_iff_iff]
 simp [inV,eqV]
 omega
theorem d_set_tracking (F:FunAt K mg "set_tracking" s_set_tracking) (T:Txt K mg c):Def P w K mg base "set_tracking" 1 ["document","on"] (spTrack K c):=by
 have sc:=zdy
 refine F.def sc (fun _ _ _ _ _ _=>ar2 fun _ _=>rfl) (fun vs H Q E h=>?_) (fun f cdv A outer s H vs Q E hr h=>?_)
 ·obtain ⟨d,r,ch,m,sh,hd,k,z,a,rfl,_⟩:=h
  rfl
 ·obtain ⟨d,r,ch,m,sh,hd,k,z,on,rfl,g,o⟩:=h
  obtain ⟨dx,es,hD⟩:=g.full.doc
  refine ⟨_,(zab (zaC (zan zdd (pv 1) (zaJ (zaa zaf (zaa zaf zac))) (by with_unfolding_all rfl))
    (zad (zah (zal (zaa (zbm zaZ zaf) zac))))
    zaj)
   (zab (zat (pv 0) (zbY za6 (pv 1) zaf (nomark _)) rfl)
   (zad (zah (zal (zaa zaf zac)))))),?_⟩
  refine ⟨_,rfl,(by show 2≤sizeLine; decide),fun t1 H1 s1 n1 g1=>?_⟩
  refine ⟨t1,_,rfl,.inr (SqT.of g1),rfl,rfl,_,rfl,?_⟩
  have nn:∀ {l:Addr} {H':Hp},H1 l=none→H l=none:=fun {l H'} q=>s1.free q
  show if (!inV (.int on) [.int 0,.int 1])=true then _ else _
  rw [in01]
  cases hw:Vatrka.within on 0 1 with
  | false =>
   refine iteT ?_
   have e:Vatrka.step (st m sh hd) (.track on)=(st m sh hd,.refused 2):=by
    show (if Vatrka.within on 0 1=true then _ else _)=_
    rw [hw]; rfl
   exact ⟨_,rfl,by show 1≤sizeLine; decide,fun l H' s' n' g'=>o.stay g (by rw [e]) (by rw [e]; rfl) (s1.trans s') (s1.free n') g'⟩
  | true =>
   refine iteF ?_
   have e:Vatrka.step (st m sh hd) (.track on)=(st { m with tracking:=on == 1 } sh hd,.told [0]):=by
    show (if Vatrka.within on 0 1=true then _ else _)=_
    rw [hw]; rfl
   refine ⟨_,rfl,rfl,_,rfl,d,_,dx,_,rfl,s1 _ _ hD.obj,T.D.cl,T.D.no _ (by decide +kernel),ze5,fun H2 e2 h2=>?_⟩
   refine ⟨by show 1≤sizeLine; decide,fun l H' s' n' g'=>?_⟩
   have e02:Ext (·=d) H H2:=s1.ext.trans e2
   have hb:decide (V.int on=V.int 1)=(on == 1):=zbH
   have hD1:DocAt c H2 d { m with tracking:=on == 1 } r ch:=⟨dx,es,(by show H2 d=some (.ins c.D dx (df (.ref r) (.int m.author) (.int m.time) (.bl (on == 1)) (.ref ch))); rw [← hb]; exact h2),e02.at hD.chl g.full.cd,hD.chs.keep e02⟩
   exact o.moment g (m':={ m with tracking:=on == 1 }) rfl rfl (by rw [e]) (by rw [e]; rfl) e02 hD1 s' n' g'
end
theorem zbO (l:List Nat) (i:Nat):l.contains i=Vatrka.has l i:=by
 unfold Vatrka.has
 rw [Bool.eq_iff_iff]
 simp
theorem zhp (a b:Nat):Builtin.bitAnd (a:Int) (b:Int)=((a &&& b:Nat):Int):=by
 unfold Builtin.bitAnd
 rw [decide_eq_true (show (0:Int)≤(a:Int) by omega),decide_eq_true (show (0:Int)≤(b:Int) by omega)]
 rfl
theorem TagsAre.and {S T:Int} {l m:List Nat} (h1:TagsAre S l) (h2:TagsAre T m):TagsAre (Builtin.bitAnd S T) (l.filter (Vatrka.has m)):=by
 obtain ⟨a,rfl,ha⟩:=h1
 obtain ⟨b,rfl,hb⟩:=h2
 refine ⟨a &&& b,zhp a b,fun i=>?_⟩
 rw [Nat.testBit_and,ha,hb,zbO m,Bool.eq_iff_iff]
 simp
theorem TagsAre.none:TagsAre 0 []:=⟨0,rfl,fun i=>by simp⟩
theorem zeR {K:PySem.W.Frag} {mg:Str→Option Value} {c:Cs} {H:Hp} (T:Txt K mg c):SqT K H c.L (nums Vatrka.zeroLook):=.inr T.plain
section
variable {P:Program} {w:World} {K:PySem.W.Frag} {mg:Str→Option Value} {base:Heap} {c:Cs}
theorem zlh {sh:List AP} {j:Nat} {x:Piece} (h:(ps sh)[j]?=some x):∃ a,sh[j]?=some (a,x):=by
 obtain ⟨y,hy,rfl⟩:=zau h
 exact ⟨y.1,hy⟩
abbrev s_shared_tags:Stmt:=top 44
theorem zd4:FnScope ["shown","p"] ["shown","p"] (defScope s_shared_tags):=⟨rfl,rfl,rfl,by decide +kernel,rfl,by decide +kernel,by decide +kernel⟩
def spShared (K:PySem.W.Frag) (c:Cs):Sp:=fun vs H Q _=>∃ (sA:Addr) (p:Nat) (sh:List AP) (row:List Piece),vs=[.ref sA,.int p]∧H sA=some (.lst (refs sh))∧Pcs K c H sh∧p < sh.length∧Vatrka.visible row=ps sh∧∀ T,TagsAre T (Vatrka.commonTags p row)→Q (.int T) H
theorem d_shared_tags (F:FunAt K mg "shared_tags" s_shared_tags) (T:Txt K mg c):Def P w K mg base "shared_tags" 1 ["shown","p"] (spShared K c):=by
 have sc:=zd4
 refine F.def sc (fun _ _ _ _ _ _=>ar2 fun _ _=>rfl) (fun vs H Q E h=>?_) (fun f cdv A outer s H vs Q E hr h=>?_)
 ·obtain ⟨sA,p,sh,row,rfl,_⟩:=h
  rfl
 ·obtain ⟨sA,p,sh,row,rfl,hs,hp,hl,hv,k⟩:=h
  refine ⟨_,(zab (zaC (zan za6 (pv 1) zaf (nomark _))
    (zad (zah zaf))
    zaj)
   (zad (zah (zaH zh9 (zae (zaE zao (pv 0) (zaH zb4 (pv 1) zaf) (fun _ _=>rfl)) rfl) (zae (zaE zao (pv 0) (pv 1) (fun _ _=>rfl)) rfl))))),?_⟩
  refine ⟨_,rfl,rfl,_,rfl,?_⟩
  refine ite2 (fun h0=>?_) (fun h0=>?_)
  ·have h0:V.int (p:Int)=V.int 0:=of_decide_eq_true h0
   have h0:p=0:=by injection h0; omega
   subst h0
   exact k 0 TagsAre.none
  ·have h0:¬ V.int (p:Int)=V.int 0:=fun z=>h0 (decide_eq_true z)
   have h0:p≠0:=fun z=>h0 (by rw [z]; rfl)
   obtain ⟨x,hx⟩:∃ x,sh[p - 1]?=some x:=⟨_,List.getElem?_eq_getElem (by omega)⟩
   obtain ⟨y,hy⟩:∃ y,sh[p]?=some y:=⟨_,List.getElem?_eq_getElem hl⟩
   obtain ⟨dx1,lk1,sn1,it1,dt1,pt1,T1,h1⟩:=hp x (List.mem_of_getElem? hx)
   obtain ⟨dx2,lk2,sn2,it2,dt2,pt2,T2,h2⟩:=hp y (List.mem_of_getElem? hy)
   refine ⟨_,rfl,_,rfl,_,_,rfl,rfl,sA,_,_,_,rfl,rfl,SqL.of hs,zd0 (j:=p - 1) (v:=V.ref x.1) (by omega) (by rw [List.getElem?_map,hx]; rfl),x.1,_,dx1,_,_,rfl,h1.obj,T.P.cl,T.P.no _ (by decide +kernel),zcd,?_⟩
   refine ⟨_,rfl,_,rfl,sA,_,_,_,rfl,rfl,SqL.of hs,zas (j:=p) (v:=V.ref y.1) (by rw [List.getElem?_map,hy]; rfl),y.1,_,dx2,_,_,rfl,h2.obj,T.P.cl,T.P.no _ (by decide +kernel),zcd,_,_,rfl,rfl,?_⟩
   refine k _ ?_
   have e:Vatrka.commonTags p row=x.2.tags.filter (Vatrka.has y.2.tags):=by
    unfold Vatrka.commonTags
    rw [if_neg h0,hv,List.getElem?_map,List.getElem?_map,hx,hy]
    rfl
   rw [e]
   exact h1.tags.and h2.tags
abbrev s_look_for_letters:Stmt:=top 45
theorem zcx:FnScope ["shown","p"] ["shown","p"] (defScope s_look_for_letters):=⟨rfl,rfl,rfl,by decide +kernel,rfl,by decide +kernel,by decide +kernel⟩
def spLetters (K:PySem.W.Frag) (c:Cs):Sp:=fun vs H Q _=>∃ (sA:Addr) (p:Nat) (sh:List AP) (row:List Piece),vs=[.ref sA,.int p]∧H sA=some (.lst (refs sh))∧Pcs K c H sh∧p < sh.length∧Vatrka.visible row=ps sh∧∀ lk,SqT K H lk (nums (Vatrka.signLook p row))→Q (.ref lk) H
theorem d_look_for_letters (F:FunAt K mg "look_for_letters" s_look_for_letters) (T:Txt K mg c):Def P w K mg base "look_for_letters" 1 ["shown","p"] (spLetters K c):=by
 have sc:=zcx
 refine F.def sc (fun _ _ _ _ _ _=>ar2 fun _ _=>rfl) (fun vs H Q E h=>?_) (fun f cdv A outer s H vs Q E hr h=>?_)
 ·obtain ⟨sA,p,sh,row,rfl,_⟩:=h
  rfl
 ·obtain ⟨sA,p,sh,row,rfl,hs,hp,hl,hv,k⟩:=h
  refine ⟨_,(zab (zaC (PW.pt (zg9 (zan za6 (pv 1) zaf (nomark _)) (zel (zan za6 (zae (zaE zao (pv 0) (zaH zb4 (pv 1) zaf) (fun _ _=>rfl)) rfl) (zay rfl T.g_PARAGRAPH_END) (nomark _)))))
    (zad (zah (zeS (v:=.ref c.L) rfl T.g_PLAIN_LOOK rfl)))
    zaj)
   (zad (zah (zae (zaE zao (pv 0) (zaH zb4 (pv 1) zaf) (fun _ _=>rfl)) rfl)))),?_⟩
  refine ⟨_,rfl,rfl,_,rfl,?_⟩
  refine ite2 (fun h0=>?_) (fun h0=>?_)
  ·have h0:V.int (p:Int)=V.int 0:=of_decide_eq_true h0
   have h0:p=0:=by injection h0; omega
   subst h0
   exact iteT (k c.L (zeR T))
  ·have h0:¬ V.int (p:Int)=V.int 0:=fun z=>h0 (decide_eq_true z)
   have h0:p≠0:=fun z=>h0 (by rw [z]; rfl)
   obtain ⟨x,hx⟩:∃ x,sh[p - 1]?=some x:=⟨_,List.getElem?_eq_getElem (by omega)⟩
   obtain ⟨dx1,lk1,sn1,it1,dt1,pt1,T1,h1⟩:=hp x (List.mem_of_getElem? hx)
   have e:Vatrka.signLook p row=if x.2.sign=10 then Vatrka.zeroLook else shownLook x.2:=by
    unfold Vatrka.signLook
    rw [if_neg h0,hv,List.getElem?_map,hx]
    rfl
   rw [e] at k
   refine ⟨_,rfl,_,rfl,_,_,rfl,rfl,sA,_,_,_,rfl,rfl,SqL.of hs,zd0 (j:=p - 1) (v:=V.ref x.1) (by omega) (by rw [List.getElem?_map,hx]; rfl),x.1,_,dx1,_,_,rfl,h1.obj,T.P.cl,T.P.no _ (by decide +kernel),zcX,rfl,_,rfl,?_⟩
   refine ite2 (fun h2=>?_) (fun h2=>?_)
   ·have h2:V.int (x.2.sign:Int)=V.int 10:=of_decide_eq_true h2
    have h2:x.2.sign=10:=by injection h2; omega
    rw [if_pos h2] at k
    exact k c.L (zeR T)
   ·have h2:¬ V.int (x.2.sign:Int)=V.int 10:=fun z=>h2 (decide_eq_true z)
    have h2:x.2.sign≠10:=fun z=>h2 (by rw [z]; rfl)
    rw [if_neg h2] at k
    exact ⟨_,rfl,_,rfl,_,_,rfl,rfl,sA,_,_,_,rfl,rfl,SqL.of hs,zd0 (j:=p - 1) (v:=V.ref x.1) (by omega) (by rw [List.getElem?_map,hx]; rfl),x.1,_,dx1,_,_,rfl,h1.obj,T.P.cl,T.P.no _ (by decide +kernel),zce,k _ h1.seen⟩
abbrev s_look_for_ends:Stmt:=top 46
theorem zdh:FnScope ["shown","p","place"] ["shown","p"] (defScope s_look_for_ends):=⟨rfl,rfl,rfl,by decide +kernel,rfl,by decide +kernel,by decide +kernel⟩
def spEnds (K:PySem.W.Frag) (c:Cs):Sp:=fun vs H Q _=>∃ (sA:Addr) (p:Nat) (sh:List AP) (row:List Piece),vs=[.ref sA,.int p]∧H sA=some (.lst (refs sh))∧Pcs K c H sh∧p < sh.length∧Vatrka.visible row=ps sh∧(∃ x,sh.getLast?=some x∧x.2.sign=10) ∧
 ∀ lk,SqT K H lk (nums (Vatrka.endLook p row))→Q (.ref lk) H
theorem d_look_for_ends (F:FunAt K mg "look_for_ends" s_look_for_ends) (T:Txt K mg c):Def P w K mg base "look_for_ends" 1 ["shown","p"] (spEnds K c):=by
 have sc:=zdh
 refine F.def sc (fun _ _ _ _ _ _=>ar2 fun _ _=>rfl) (fun vs H Q E h=>?_) (fun f cdv A outer s H vs Q E hr h=>?_)
 ·obtain ⟨sA,p,sh,row,rfl,_⟩:=h
  rfl
 ·obtain ⟨sA,p,sh,row,rfl,hs,hp,hl,hv,⟨xl,hxl,hxs⟩,k⟩:=h
  refine ⟨_,(zab (zar (i:=2) sc.nd rfl (by first | exact Or.inl rfl | exact Or.inr rfl) (pv 1))
   (zab (zeM PassesOwn.never (zan zhe (zae (zaE zao (pv 0) (pv 2) (fun _ _=>rfl)) rfl) (zay rfl T.g_PARAGRAPH_END) (nomark _))
    (zad (zb3 (i:=2) sc.nd rfl (by first | exact Or.inl rfl | exact Or.inr rfl) zaf zcr)))
   (zad (zah (zae (zaE zao (pv 0) (pv 2) (fun _ _=>rfl)) rfl))))),?_⟩
  refine ⟨_,rfl,?_⟩
  have hlast:sh[sh.length - 1]?=some xl:=by rw [← List.getLast?_eq_getElem?]; exact hxl
  refine ⟨fun n σ H'=>∃ j:Nat,σ=[some (.ref sA),some (.int p),some (.int j)]∧H'=H∧p≤j∧j < sh.length∧n=sh.length - j∧((ps sh).drop p).find? (fun x=>x.sign == Vatrka.END)=((ps sh).drop j).find? (fun x=>x.sign == Vatrka.END),⟨_,p,rfl,rfl,Nat.le_refl _,hl,rfl,rfl⟩,?_⟩
  rintro n σ H' ⟨j,rfl,rfl,hpj,hj,rfl,hfind⟩
  obtain ⟨x,hx⟩:∃ x,sh[j]?=some x:=⟨_,List.getElem?_eq_getElem hj⟩
  obtain ⟨dx1,lk1,sn1,it1,dt1,pt1,T1,h1⟩:=hp x (List.mem_of_getElem? hx)
  have hdrop:(ps sh).drop j=x.2::(ps sh).drop (j+1):=by
   have:=List.drop_eq_getElem_cons (l:=ps sh) (i:=j) (by rw [List.length_map]; exact hj)
   rw [this]
   have e:(ps sh)[j]'(by rw [List.length_map]; exact hj)=x.2:=by
    have:=(List.getElem?_eq_some_iff.mp hx).2
    rw [List.getElem_map,this]
   rw [e]
  refine ⟨_,rfl,_,rfl,sA,_,_,_,rfl,rfl,SqL.of hs,zas (j:=j) (v:=V.ref x.1) (by rw [List.getElem?_map,hx]; rfl),x.1,_,dx1,_,_,rfl,h1.obj,T.P.cl,T.P.no _ (by decide +kernel),zcX,rfl,_,rfl,?_⟩
  refine ite2 (fun h2=>?_) (fun h2=>?_)
  ·have h2:x.2.sign≠10:=fun z=>by
    rw [z] at h2
    exact absurd h2 (by decide)
   have hne:j≠sh.length - 1:=fun z=>by
    rw [← z,hx] at hlast
    have:=Option.some.inj hlast
    subst this
    exact h2 hxs
   refine ⟨_,fun σ' H' z=>z,_,rfl,_,_,rfl,rfl,sh.length - (j+1),by omega,j+1,rfl,rfl,by omega,by omega,rfl,?_⟩
   rw [hfind,hdrop,List.find?_cons_of_neg (by simp [Vatrka.END,h2])]
  ·have h2:x.2.sign=10:=by
    apply Classical.byContradiction
    intro z
    have:decide (V.int (x.2.sign:Int)=V.int 10)=false:=decide_eq_false fun y=>z (by injection y; omega)
    rw [this] at h2
    exact h2 rfl
   refine ⟨_,rfl,_,rfl,sA,_,_,_,rfl,rfl,SqL.of hs,zas (j:=j) (v:=V.ref x.1) (by rw [List.getElem?_map,hx]; rfl),x.1,_,dx1,_,_,rfl,h1.obj,T.P.cl,T.P.no _ (by decide +kernel),zce,k _ ?_⟩
   have e:Vatrka.endLook p row=shownLook x.2:=by
    unfold Vatrka.endLook
    rw [hv,hfind,hdrop,List.find?_cons_of_pos (by simp [Vatrka.END,h2])]
   rw [e]
   exact h1.seen
end
section
variable {P:Program} {w:World} {K:PySem.W.Frag} {mg:Str→Option Value} {base:Heap} {c:Cs}
def newP (p:Nat) (row:List Piece) (z:Int):Piece:={ sign:=z.toNat,look:=if z.toNat=10 then Vatrka.endLook p row else Vatrka.signLook p row,tags:=Vatrka.commonTags p row }
theorem zdV (p:Nat) (row:List Piece):(Vatrka.endLook p row).length=4:=by unfold Vatrka.endLook; split<;>rfl
theorem zc9 (p:Nat) (row:List Piece):(Vatrka.signLook p row).length=4:=by
 unfold Vatrka.signLook
 split
 ·rfl
 ·split
  ·split<;>rfl
  ·rfl
abbrev s_new_pieces:Stmt:=top 43
theorem zeF:FnScope ["shown","p","signs","tags","letter_look","end_look","sign"] ["shown","p","signs"] (defScope s_new_pieces):=⟨rfl,rfl,rfl,by decide +kernel,rfl,by decide +kernel,by decide +kernel⟩
def spNewPieces (K:PySem.W.Frag) (c:Cs):Sp:=fun vs H Q _=>∃ (sA sg:Addr) (p:Nat) (sh:List AP) (row:List Piece) (zs:List Int),vs=[.ref sA,.int p,.ref sg]∧H sA=some (.lst (refs sh))∧Pcs K c H sh∧p < sh.length∧Vatrka.visible row=ps sh∧(∃ x,sh.getLast?=some x∧x.2.sign=10) ∧
 SqL K H sg (zs.map V.int)∧(∀ z∈zs,0≤z)∧zs.length < sizeLine ∧
 ∀ H' l new,Same H H'→H l=none→H' l=some (.lst (refs new))→ps new=zs.map (newP p row)→Pcs K c H' new→(∀ x∈new,H x.1=none)→(new.map (·.1)).Nodup→Q (.ref l) H'
theorem d_new_pieces (F:FunAt K mg "new_pieces" s_new_pieces) (T:Txt K mg c) (d_Piece:NewDef P w K mg base "Piece" c.P 1 ["self","sign","look","tags"] (spPiece K c.P)) (d_shared_tags:Def P w K mg base "shared_tags" 1 ["shown","p"] (spShared K c))
  (d_look_for_letters:Def P w K mg base "look_for_letters" 1 ["shown","p"] (spLetters K c)) (d_look_for_ends:Def P w K mg base "look_for_ends" 1 ["shown","p"] (spEnds K c)):Def P w K mg base "new_pieces" 3 ["shown","p","signs"] (spNewPieces K c):=by
 have sc:=zeF
 refine F.def sc (fun _ _ _ _ _ _=>ar3 fun _ _ _=>rfl) (fun vs H Q E h=>?_) (fun f cdv A outer s H vs Q E hr h=>?_)
 ·obtain ⟨sA,sg,p,sh,row,zs,rfl,_⟩:=h
  rfl
 ·obtain ⟨sA,sg,p,sh,row,zs,rfl,hs,hp,hl,hv,hlast,hsg,hz0,hzl,k⟩:=h
  refine ⟨_,(zab (zar (i:=3) sc.nd rfl (by first | exact Or.inl rfl | exact Or.inr rfl) (zap d_shared_tags (hr.mono (by decide)) rfl pass0 (zaa (pv 0) (zaa (pv 1) zac))))
   (zab (zar (i:=4) sc.nd rfl (by first | exact Or.inl rfl | exact Or.inr rfl) (zap d_look_for_letters (hr.mono (by decide)) rfl pass0 (zaa (pv 0) (zaa (pv 1) zac))))
   (zab (zar (i:=5) sc.nd rfl (by first | exact Or.inl rfl | exact Or.inr rfl) (zap d_look_for_ends (hr.mono (by decide)) rfl pass0 (zaa (pv 0) (zaa (pv 1) zac))))
   (zad (zah (zfz rfl sc.nd (zaW (pv 2)) (own:=[("sign",6)]) (zbe rfl) (fun _ _ _ _ _=>(zav (i:=6) sc.nd rfl (by first | exact Or.inl rfl | exact Or.inr rfl))) (fun _ _ _ _ _=>zcW) (fun _ _ _ _ _=>(zgH d_Piece (hr.mono (by decide)) rfl pass0 (zaa (pv 6) (zaa (zcl (zan za6 (pv 6) (zay rfl T.g_PARAGRAPH_END) (nomark _)) (pv 5) (pv 4)) (zaa (pv 3) zac))))))))))),?_⟩
  refine ⟨_,rfl,_,rfl,sA,p,sh,row,rfl,hs,hp,hl,hv,fun Tg hTg=>?_⟩
  refine ⟨_,rfl,_,rfl,sA,p,sh,row,rfl,hs,hp,hl,hv,fun lk hlk=>?_⟩
  refine ⟨_,rfl,_,rfl,sA,p,sh,row,rfl,hs,hp,hl,hv,hlast,fun ek hek=>?_⟩
  refine ⟨_,rfl,sg,rfl,⟨_,hsg⟩,fun D hD=>zcg (K:=K) (a:=sg) (xs:=zs.map V.int)
   (fun i H'=>Same H H'∧∃ new:List AP,H' D=some (.lst (refs new))∧ps new=(zs.take i).map (newP p row)∧Pcs K c H' new∧(∀ x∈new,H x.1=none∧x.1≠D)∧(new.map (·.1)).Nodup)
   ⟨zaz hD,[],zai,rfl,(fun _ h=>absurd h (by simp)),(fun _ h=>absurd h (by simp)),List.nodup_nil⟩ (fun i H' _ hp=>hp.1.seq hsg) ?_ ?_⟩
  ·rintro i y H1 hi ⟨s1,new,hD1,hnew,hpn,hfr,hnd⟩
   obtain ⟨z,hz,rfl⟩:=zau hi
   have hz0':=hz0 z (List.mem_of_getElem? hz)
   have hil:=(List.getElem?_eq_some_iff.mp hz).1
   refine ⟨rfl,?_⟩
   dsimp only [tYes]
   rw [if_pos rfl]
   have hnl:new.length=i:=by
    have:=congrArg List.length hnew
    rw [List.length_map,List.length_map,List.length_take] at this
    omega
   have go:∀ (lk':Addr) (l:List Nat),SqT K H lk' (nums l)→l.length=4→{ sign:=z.toNat,look:=l,tags:=Vatrka.commonTags p row:Piece }=newP p row z→∀ x dx H2,Same H1 H2→H1 x=none→H2 x=some (.ins c.P dx []) →
     spPiece K c.P [.ref x,.int z,.ref lk',.int Tg] H2 (fun v H3=>v = .non∧∃ acc,H3 D=some (.lst acc)∧acc.length < sizeLine∧Same H (upd H3 D (.lst (acc++[.ref x])))∧∃ new:List AP,upd H3 D (.lst (acc++[.ref x])) D=some (.lst (refs new))∧ps new=(zs.take (i+1)).map (newP p row)∧Pcs K c (upd H3 D (.lst (acc++[.ref x]))) new∧(∀ x∈new,H x.1=none∧x.1≠D)∧(new.map (·.1)).Nodup) E0:=by
    intro lk' l hl' h4 hmk x dx H2 s2 nx hx
    have ez:V.int z=V.int ((z.toNat:Nat):Int):=by rw [Int.toNat_of_nonneg hz0']
    refine ⟨x,dx,lk',z.toNat,l,_,Tg,by rw [ez],hx,((s1.trans s2).ext (S:=fun _=>False)).sqT hl',h4,hTg,fun H3 e3 h3=>⟨rfl,?_⟩⟩
    have xD:D≠x:=zag hD1 nx
    have hD3:=e3.at (s2 _ _ hD1) xD
    have xH:H x=none:=s1.free nx
    have s3:Same H H3:=fun b o hb=>e3.at (s2 _ _ (s1 _ _ hb)) (zag hb xH)
    refine ⟨_,hD3,by rw [List.length_map,hnl]; omega,fun b o hb=>by rw [zaA (zag hb hD)]; exact s3 b o hb,new++[(x,newP p row z)],?_,?_,?_,?_,?_⟩
    ·rw [zai]
     simp only [refs,List.map_append,List.map_cons,List.map_nil]
    ·rw [zam hz]
     simp only [ps,List.map_append,List.map_cons,List.map_nil]
     rw [← hnew]
    ·have eD:Ext (·=D) H3 (upd H3 D (.lst (refs new++[.ref x]))):=zbG hD3 (fun z=>z) rfl
     intro y hy
     rcases List.mem_append.mp hy with hy | hy
     ·have y1:y.1≠x:=fun e=>by
       obtain ⟨dxp,lk2,sn,it,dt,pt,T2,h2⟩:=hpn y hy
       have h2:=h2.obj
       rw [e,nx] at h2
       cases h2
      exact ((hpn y hy).keep (S:=(·=x)) (s2.ext.trans e3) y1).keep eD (hfr y hy).2
     ·rw [List.mem_singleton.mp hy]
      rw [← hmk]
      exact h3.keep eD xD.symm
    ·intro y hy
     rcases List.mem_append.mp hy with hy | hy
     ·exact hfr y hy
     ·rw [List.mem_singleton.mp hy]
      exact ⟨xH,xD.symm⟩
    ·rw [List.map_append]
     refine List.nodup_append.mpr ⟨hnd,by simp,fun a ha b hb=>?_⟩
     have hb':b=x:=by simpa using hb
     subst hb'
     obtain ⟨y,hy,rfl⟩:=List.mem_map.mp ha
     intro e
     obtain ⟨dxp,lk2,sn,it,dt,pt,T2,h2⟩:=hpn y hy
     have h2:=h2.obj
     rw [e,nx] at h2
     cases h2
   refine ⟨_,rfl,_,rfl,rfl,_,rfl,?_⟩
   refine ite2 (fun h0=>?_) (fun h0=>?_)
   ·have h0:V.int z=V.int 10:=of_decide_eq_true h0
    have h0:z=10:=by injection h0
    refine ⟨_,rfl,_,rfl,?_⟩
    exact go ek _ hek (zdV _ _) (by unfold newP; rw [if_pos (by omega)])
   ·have h0:¬ V.int z=V.int 10:=fun z=>h0 (decide_eq_true z)
    have h0:z≠10:=fun z=>h0 (by rw [z])
    refine ⟨_,rfl,_,rfl,?_⟩
    exact go lk _ hlk (zc9 _ _) (by unfold newP; rw [if_neg (by omega)])
  ·rintro H1 ⟨s1,new,hD1,hnew,hpn,hfr,hnd⟩
   rw [List.length_map,List.take_length] at hnew
   exact k H1 D new s1 hD hD1 hnew hpn (fun x hx=>(hfr x hx).1) hnd
abbrev s_mark_put:Stmt:=top 47
theorem zf8:FnScope ["pieces","change","insertions","piece"] ["pieces","change"] (defScope s_mark_put):=⟨rfl,rfl,rfl,by decide +kernel,rfl,by decide +kernel,by decide +kernel⟩
def insBy (n:Nat) (p:AP):AP:=(p.1,{ p.2 with ins:=[n] })
def spMarkPut (K:PySem.W.Frag) (c:Cs):Sp:=fun vs H Q _=>∃ (l:Addr) (n:Nat) (new:List AP),vs=[.ref l,.int n]∧H l=some (.lst (refs new))∧Pcs K c H new∧(new.map (·.1)).Nodup ∧
 ∀ H',Ext (fun b=>∃ p∈new,b=p.1) H H'→Pcs K c H' (new.map (insBy n))→Q .non H'
theorem d_mark_put (F:FunAt K mg "mark_put" s_mark_put) (T:Txt K mg c):Def P w K mg base "mark_put" 1 ["pieces","change"] (spMarkPut K c):=by
 have sc:=zf8
 refine F.def sc (fun _ _ _ _ _ _=>ar2 fun _ _=>rfl) (fun vs H Q E h=>?_) (fun f cdv A outer s H vs Q E hr h=>?_)
 ·obtain ⟨l,n,new,rfl,_⟩:=h
  rfl
 ·obtain ⟨l,n,new,rfl,hl,hp,hnd,k⟩:=h
  refine ⟨_,(zab (zar (i:=2) sc.nd rfl (by first | exact Or.inl rfl | exact Or.inr rfl) (zaJ (zaa (pv 1) zac)))
   (zad (za7 PassesOwn.never rfl (zaW (pv 0)) (zav (i:=3) sc.nd rfl (by first | exact Or.inl rfl | exact Or.inr rfl))
    (zad (zat (pv 3) (pv 2) rfl))))),?_⟩
  refine ⟨_,rfl,by show 1≤sizeLine; decide,fun t H1 s1 n1 g1=>?_⟩
  have lnp:∀ p∈new,p.1≠l:=fun p hp'=>by
   obtain ⟨dxp,lk2,sn,it,dt,pt,T2,h2⟩:=hp p hp'
   exact zbw h2.obj hl (by intro z; cases z)
  refine ⟨_,rfl,l,rfl,⟨_,SqL.of (s1 _ _ hl)⟩,za8 (K:=K) (a:=l) (xs:=refs new)
   (fun i σ H'=>∃ v:Option V,σ=[some (.ref l),some (.int n),some (.ref t),v]∧Ext (fun b=>∃ p∈new,b=p.1) H1 H'∧Pcs K c H' ((new.take i).map (insBy n))∧Pcs K c H' (new.drop i))
   ⟨none,rfl,Ext.refl,(fun _ h=>absurd h (by simp)),hp.same s1⟩ (fun i σ H' _ ⟨_,_,e,_⟩=>SqL.of (e.at (s1 _ _ hl) fun ⟨p,hp',z⟩=>lnp p hp' z.symm)) ?_ ?_⟩
  ·rintro i y σ H2 hi ⟨v,rfl,e,hp1,hp2⟩
   obtain ⟨x,hx,rfl⟩:=zau hi
   have hil:=(List.getElem?_eq_some_iff.mp hx).1
   have hdrop:new.drop i=x::new.drop (i+1):=by
    rw [List.drop_eq_getElem_cons hil,(List.getElem?_eq_some_iff.mp hx).2]
   obtain ⟨dxp,lk2,sn,it,dt,pt,T2,h2⟩:=hp2 x (by rw [hdrop]; exact List.mem_cons_self)
   refine ⟨_,rfl,_,rfl,x.1,_,dxp,_,rfl,h2.obj,T.P.cl,T.P.no _ (by decide +kernel),zaM,fun H3 e3 h3=>?_⟩
   have xm:x∈new:=List.mem_of_getElem? hx
   have nx:∀ j y,new[j]?=some y→j≠i→y.1≠x.1:=fun j y hy hj z=>hj (zjq hnd (i:=j) (j:=i) (x:=x.1) (by rw [List.getElem?_map,hy,← z]; rfl) (by rw [List.getElem?_map,hx]; rfl))
   refine ⟨_,rfl,e.trans (e3.mono fun b o _ z _=>⟨x,xm,z⟩),?_,?_⟩
   ·intro y hy
    rw [zam hx,List.map_append] at hy
    rcases List.mem_append.mp hy with hy | hy
    ·obtain ⟨y',hy',rfl⟩:=List.mem_map.mp hy
     obtain ⟨j,hj⟩:=List.mem_iff_getElem?.mp hy'
     have hji:j < i:=by
      have:=(List.getElem?_eq_some_iff.mp hj).1
      rw [List.length_take] at this
      omega
     rw [List.getElem?_take_of_lt hji] at hj
     exact (hp1 _ (List.mem_map.mpr ⟨y',hy',rfl⟩)).keep e3 (nx j y' hj (by omega))
    ·have:y=insBy n x:=by simpa using hy
     subst this
     exact ⟨dxp,lk2,sn,t,dt,pt,T2,h3,e3.sqT h2.look,e3.sqT h2.seen,e3.tup (e.tup g1),e3.tup h2.del,h2.pend.keep e3,h2.tags⟩
   ·intro y hy
    have hy2:y∈new.drop i:=by rw [hdrop]; exact List.mem_cons_of_mem _ hy
    obtain ⟨j,hj⟩:=List.mem_iff_getElem?.mp hy
    rw [List.getElem?_drop] at hj
    exact (hp2 y hy2).keep e3 (nx _ y hj (by omega))
  ·rintro σ H2 ⟨v,rfl,e,hp1,hp2⟩
   rw [List.length_map,List.take_length] at hp1
   exact k H2 (s1.ext.trans e) hp1
end
end Tt
end
section
namespace Tt
open Vatrka
theorem zcm (f:Piece→Bool):∀ {hd:List (List Piece)} {sh:List Piece},hd.length=sh.length→(flat hd sh).any f=(sh.any f || hd.flatten.any f)
 | [],[],_=>rfl
 | [],_::_,h=>by simp at h
 | _::_,[],h=>by simp at h
 | h::hd,x::sh,e=>by
  show (h++x::flat hd sh).any f=_
  have ih:=zcm f (hd:=hd) (sh:=sh) (by simpa using e)
  rw [List.any_append,List.any_cons,ih,List.any_cons,List.flatten_cons,List.any_append]
  cases h.any f<;>cases f x<;>cases sh.any f<;>cases hd.flatten.any f<;>rfl
theorem zfa {n k:Nat} {x:Piece} (w:WfP n k x):bears (n+1) x=false:=by
 unfold bears has
 rw [List.any_eq_false.mpr fun u hu=>?_,List.any_eq_false.mpr fun u hu=>?_,List.any_eq_false.mpr fun u hu=>?_]
 ·rfl
 ·have:=(w.pend u hu).1
  simp; omega
 ·have:=w.del u hu
  simp; omega
 ·have:=(w.ins u hu).2
  simp; omega
theorem zg0 {n k:Nat} {l:List Piece} (w:∀ x∈l,WfP n k x):l.any (bears (n+1))=false :=
 List.any_eq_false.mpr fun x hx=>by rw [zfa (w x hx)]; decide
theorem zb5 {sh:List AP} {x:Piece} (h:x∈ps sh):∃ p∈sh,p.2=x:=by
 obtain ⟨p,hp,e⟩:=List.mem_map.mp h
 exact ⟨p,hp,e⟩
theorem zdP (hd:List (List AP)):(hs hd).flatten=ps hd.flatten:=by
 unfold hs ps
 rw [List.map_flatten]
theorem zaD (a b:List AP):ps (a++b)=ps a++ps b:=by unfold ps; rw [List.map_append]
theorem zbp (a b:List (List AP)):hs (a++b)=hs a++hs b:=by unfold hs; rw [List.map_append]
theorem zcb (a:List AP) (n:Nat):ps (a.take n)=(ps a).take n:=by unfold ps; rw [List.map_take]
theorem zcc (a:List AP) (n:Nat):ps (a.drop n)=(ps a).drop n:=by unfold ps; rw [List.map_drop]
theorem zc1 (a:List (List AP)) (n:Nat):hs (a.take n)=(hs a).take n:=by unfold hs; rw [List.map_take]
theorem zc2 (a:List (List AP)) (n:Nat):hs (a.drop n)=(hs a).drop n:=by unfold hs; rw [List.map_drop]
theorem ze1 (n:Nat):hs (List.replicate n ([]:List AP))=List.replicate n []:=by unfold hs; rw [List.map_replicate]; rfl
theorem zbq {m:Mo} {sh sh':List AP} {hd hd':List (List AP)} (kind:Nat):finish (st m sh hd) kind (flat (hs hd') (ps sh')) =
  if (flat (hs hd') (ps sh')).any (bears (m.changes.length+1))=true then (st (m.enter kind) sh' hd',m.changes.length+1) else (st m sh' hd',0):=rfl
theorem zb0 {α:Type} (hd:List (List α)) (p n:Nat):(hd.take (p+1)++List.replicate n []++hd.drop (p+1)).flatten=hd.flatten:=by
 have e:(List.replicate n ([]:List α)).flatten=[]:=by
  rw [List.flatten_eq_nil_iff]
  intro l hl
  exact (List.mem_replicate.mp hl).2
 rw [List.flatten_append,List.flatten_append,e,List.append_nil,← List.flatten_append,List.take_append_drop]
theorem zck (sh new:List AP) (hd:List (List AP)) (p n:Nat):(all (sh.take p++new++sh.drop p) (hd.take (p+1)++List.replicate n []++hd.drop (p+1))).Perm (new++all sh hd):=by
 unfold all
 rw [zb0,← List.append_assoc]
 refine List.Perm.append_right _ ?_
 have h1:(sh.take p++new++sh.drop p).Perm (new++sh.take p++sh.drop p):=List.Perm.append_right _ List.perm_append_comm
 refine h1.trans ?_
 rw [List.append_assoc,List.take_append_drop]
theorem zeV {l m:List AP} (h:l.Perm m) (n:(m.map (·.1)).Nodup):(l.map (·.1)).Nodup:=(h.map (·.1)).nodup_iff.mpr n
theorem zjI {k z:Nat} {m m':Mo} {sh new:List AP} {hd:List (List AP)} {p:Nat} (w:Wf k z m sh hd) (hp:p < sh.length) (hm:m'.changes.length=m.changes.length∨m'.changes.length=m.changes.length+1)
  (hn:∀ x∈new,x.2.del=[]∧WfP m'.changes.length (k+1) x.2) (nd:((new++all sh hd).map (·.1)).Nodup) :
  Wf (k+1) (z+new.length) m' (sh.take p++new++sh.drop p) (hd.take (p+1)++List.replicate new.length []++hd.drop (p+1)):=by
 have hl:=w.len
 have pm:=zck sh new hd p new.length
 refine ⟨⟨?_,?_,?_⟩,zeV pm nd,?_,?_,?_,?_,?_,?_⟩
 ·rw [List.length_map,List.length_map]
  simp only [List.length_append,List.length_take,List.length_drop,List.length_replicate]
  omega
 ·intro x hx
  obtain ⟨y,hy,rfl⟩:=zb5 hx
  have:y∈sh∨y∈new:=by
   rcases List.mem_append.mp hy with hy | hy
   ·rcases List.mem_append.mp hy with hy | hy
    ·exact .inl (List.mem_of_mem_take hy)
    ·exact .inr hy
   ·exact .inl (List.mem_of_mem_drop hy)
  rcases this with h | h
  ·exact w.split.sh _ (List.mem_map.mpr ⟨y,h,rfl⟩)
  ·exact (hn y h).1
 ·intro h hh x hx
  obtain ⟨g,hg,rfl⟩:=List.mem_map.mp hh
  rcases List.mem_append.mp hg with hg | hg
  ·rcases List.mem_append.mp hg with hg | hg
   ·exact w.split.hd _ (List.mem_map.mpr ⟨g,List.mem_of_mem_take hg,rfl⟩) x hx
   ·rw [(List.mem_replicate.mp hg).2] at hx
    cases hx
  ·exact w.split.hd _ (List.mem_map.mpr ⟨g,List.mem_of_mem_drop hg,rfl⟩) x hx
 ·intro x hx
  rcases List.mem_append.mp (pm.mem_iff.mp hx) with h | h
  ·exact (hn x h).2
  ·exact (w.pcs x h).mono (by omega) (Nat.le_succ _)
 ·obtain ⟨x,hx,h1,h2⟩:=w.last
  refine ⟨x,?_,h1,h2⟩
  rw [List.getLast?_append,List.getLast?_drop,if_neg (by omega),hx]
  rfl
 ·have:=w.chs
  omega
 ·have:=w.shL
  simp only [List.length_append,List.length_take,List.length_drop]
  omega
 ·rw [zb0]
  have:=w.hdL
  omega
 ·rw [zex pm,zaw]
  have h1:=w.stL
  have h2:=zgu new
  omega
end Tt
end
section
namespace Tt
open PySem PySem.Spec PyProof.Rows L2
open Vatrka (Piece Pending Change shownLook shownValue marked)
abbrev dInts (l:List Int):List PyData:=l.map PyData.int
theorem zc5 {K:PySem.W.Frag} {H:Hp}:∀ l:List Int,DpAll K H (l.map V.int) (dInts l)
 | []=>.nil
 | n::l=>.cons (.int _) (zc5 l)
theorem zgN:∀ l:List Int,PyData.canLayAll0 (dInts l)=true∧PyData.depthAll (dInts l)=0
 | []=>⟨by simp [PyData.canLayAll0],by simp [PyData.depthAll]⟩
 | n::l=>by
  obtain ⟨h1,h2⟩:=zgN l
  constructor
  ·show PyData.canLayAll0 (.int n::dInts l)=true
   simp only [PyData.canLayAll0,PyData.canLay0,h1,Bool.and_self]
  ·show PyData.depthAll (.int n::dInts l)=0
   simp only [PyData.depthAll,PyData.depth,h2,Nat.max_self]
theorem zhE (l:List Int):SeqAt.shaped (.list (dInts l))=true:=by
 obtain ⟨h1,h2⟩:=zgN l
 unfold SeqAt.shaped
 simp only [PyData.canLay0,PyData.depth,h1,h2]
 decide
theorem zko (l:List Int):PyData.eqv (.list (dInts l)) (.list (dInts []))=l.isEmpty:=by
 cases l with
 | nil=>simp [PyData.eqv,PyData.eqvAll]
 | cons a l=>simp [PyData.eqv,PyData.eqvAll]
section
variable {P:Program} {w:World} {K:PySem.W.Frag} {mg:Str→Option Value} {base:Heap} {c:Cs}
theorem zbr (p:Int) (n:Nat):Vatrka.below p n=true↔0≤p∧p < (n:Int):=by
 unfold Vatrka.below
 simp
theorem zbJ {p:Int} {n:Nat} (h:¬ (0≤p∧p < (n:Int))):Vatrka.below p n=false:=by
 cases e:Vatrka.below p n with
 | false=>rfl
 | true=>exact absurd ((zbr p n).mp e) h
theorem zfE {m:Mo} {sh:List AP} {hd:List (List AP)} (p:Nat) (zs:List Int):Vatrka.newPieces (st m sh hd) p (zs.map fun z=>z.toNat)=(zs.map (newP p (st m sh hd).row)).map fun x=>{ x with ins:=if m.tracking=true then [m.changes.length+1] else [] }:=by
 unfold Vatrka.newPieces
 rw [List.map_map,List.map_map]
 rfl
theorem ze7 {k z:Nat} {m:Mo} {sh:List AP} {hd:List (List AP)} (w:Wf k z m sh hd) (p:Nat):(Vatrka.commonTags p (st m sh hd).row).Pairwise (· < ·)∧∀ t∈Vatrka.commonTags p (st m sh hd).row,1≤t∧t≤999:=by
 unfold Vatrka.commonTags
 split
 ·exact ⟨.nil,fun t h=>by cases h⟩
 ·split
  ·rename_i x y hx hy
   have hv:Vatrka.visible (st m sh hd).row=ps sh:=zaO w.split
   rw [hv] at hx
   obtain ⟨a,ha⟩:=zlh hx
   have wx:=w.pcs (a,x) (List.mem_append_left _ (List.mem_of_getElem? ha))
   exact ⟨wx.tagsS.sublist List.filter_sublist,fun t ht=>wx.tagsR t (List.mem_filter.mp ht).1⟩
  ·exact ⟨.nil,fun t h=>by cases h⟩
abbrev s_put:Stmt:=top 42
theorem zkB:FnScope ["document","p","signs","number","pieces","bearers"] ["document","p","signs"] (defScope s_put):=⟨rfl,rfl,rfl,by decide +kernel,rfl,by decide +kernel,by decide +kernel⟩
def spPut (K:PySem.W.Frag) (c:Cs):Sp:=fun vs H Q _=>∃ (d r ch sg:Addr) (m:Mo) (sh:List AP) (hd:List (List AP)) (k z:Nat) (p:Int) (zs:List Int),vs=[.ref d,.int p,.ref sg]∧SqL K H sg (zs.map V.int)∧zs.length≤2000∧Given K c H d r ch m sh hd k z zs.length∧Owes K c H d r ch m sh hd k z zs.length (.put p zs) Q
theorem Owes.put {H H1 H2 H3:Hp} {d r ch:Addr} {m:Mo} {sh new:List AP} {hd:List (List AP)} {k z:Nat} {p:Nat} {zs:List Int} {pz:Int} {Q:VK} (o:Owes K c H d r ch m sh hd k z zs.length (.put pz zs) Q) (g:Given K c H d r ch m sh hd k z zs.length)
  (hpz:pz=(p:Int)) (hp:p < sh.length) (hz:zs≠[]) (hall:zs.all Vatrka.isSign=true) (s1:Same H H1)
  (e2:Ext (fun b=>∃ x∈new,b=x.1) H1 H2) (hn:ps new=(zs.map (newP p (st m sh hd).row)).map fun x=>{ x with ins:=if m.tracking=true then [m.changes.length+1] else [] })
  (hpc:Pcs K c H2 new) (hin:∀ x∈new,∃ C dx fs,H1 x.1=some (.ins C dx fs)) (hf:∀ x∈new,H x.1=none) (hnd:(new.map (·.1)).Nodup) (e3:Ext (·=r) H2 H3)
  (hr:RowAt c H3 r (m.xs ch) (sh.take p++new++sh.drop p) (hd.take (p+1)++List.replicate new.length []++hd.drop (p+1))) :
  Full K c H3 d m r ch (sh.take p++new++sh.drop p) (hd.take (p+1)++List.replicate new.length []++hd.drop (p+1)) ∧
  (m.tracking=false→∀ H' l,Same H3 H'→H3 l=none→H' l=some (.lst [.int 0])→Q (.ref l) H') ∧
  (m.tracking=true→∀ H' l,Ext (·=ch) H3 H'→H3 l=none→H' l=some (.lst [.int ((m.changes.length+1:Nat):Int)])→DocAt c H' d (m.enter 1) r ch→Q (.ref l) H'):=by
 have hv:Vatrka.visible (st m sh hd).row=ps sh:=zaO g.wf.split
 have hlen:new.length=zs.length:=by
  have:=congrArg List.length hn
  simpa using this
 have old:∀ x∈all sh hd,∀ y∈new,x.1≠y.1:=fun x hx y hy e=>by
  obtain ⟨dxp,lk2,sn,it,dt,pt,T2,h2⟩:=g.full.pcs x hx
  have h2:=h2.obj
  rw [e,hf y hy] at h2
  cases h2
 have f2:Full K c H2 d m r ch sh hd:=by
  have f1:=g.full.same s1
  refine ⟨f1.doc.keep e2 (fun ⟨x,hx,e⟩=>?_) (fun ⟨x,hx,e⟩=>?_),f1.row.keep e2 (fun ⟨x,hx,e⟩=>?_) (fun b ⟨x,hx,e⟩=>?_),f1.pcs.keep e2 (fun y hy ⟨x,hx,e⟩=>old y hy x hx e)⟩
  ·obtain ⟨dx,es,h⟩:=g.full.doc
   have h:=h.obj
   rw [e,hf x hx] at h
   cases h
  ·obtain ⟨o',h⟩:=g.full.chl
   rw [e,hf x hx] at h
   cases h
  ·obtain ⟨dr,sA,hA,gs,h⟩:=g.full.row
   have h:=h.obj
   rw [e,hf x hx] at h
   cases h
  ·obtain ⟨C,dx,fs,h⟩:=hin x hx
   exact .inr (.inr ⟨C,dx,fs,by rw [e]; exact h⟩)
 have f3:Full K c H3 d m r ch (sh.take p++new++sh.drop p) (hd.take (p+1)++List.replicate new.length []++hd.drop (p+1)):=by
  refine f2.setRow e3 hr fun x hx=>?_
  rcases List.mem_append.mp ((zck sh new hd p new.length).mem_iff.mp hx) with h | h
  ·refine (hpc x h).keep e3 fun z=>?_
   obtain ⟨dr,sA,hA,gs,h'⟩:=g.full.row
   have h':=h'.obj
   rw [← z,hf x h] at h'
   cases h'
  ·exact (f2.pcs x h).keep e3 (f2.rp x h)
 have E:Ext (Foot H d r ch sh hd) H H3:=⟨fun b o' hb hs=>e3 b o' (e2.at (s1 b o' hb) (fun ⟨x,hx,e⟩=>(by rw [e,hf x hx] at hb; cases hb))) (fun z=>hs (.inr (.inl z))),fun b hb=>s1.free (e2.dom b (e3.dom b hb))⟩
 have nd:((new++all sh hd).map (·.1)).Nodup:=by
  rw [List.map_append]
  refine List.nodup_append.mpr ⟨hnd,g.wf.nd,fun a ha b hb=>?_⟩
  obtain ⟨x,hx,rfl⟩:=List.mem_map.mp ha
  obtain ⟨y,hy,rfl⟩:=List.mem_map.mp hb
  exact fun e=>old y hy x hx e.symm
 have w1:∀ (m':Mo),(m'.changes.length=m.changes.length∨m'.changes.length=m.changes.length+1)→(∀ x∈new,x.2.del=[]∧WfP m'.changes.length (k+1) x.2) →
   Wf (k+1) (z+zs.length) m' (sh.take p++new++sh.drop p) (hd.take (p+1)++List.replicate new.length []++hd.drop (p+1)):=fun m' hm hw=>by
  rw [← hlen]
  exact zjI g.wf hp hm hw nd
 have erow:Vatrka.putBefore (Vatrka.newPieces (st m sh hd) p (zs.map fun z=>z.toNat)) p (st m sh hd).row=flat (hs (hd.take (p+1)++List.replicate new.length []++hd.drop (p+1))) (ps (sh.take p++new++sh.drop p)):=by
  rw [zfE,← hn]
  show Vatrka.putBefore (ps new) p (flat (hs hd) (ps sh))=_
  rw [zeL (ps new) p g.wf.split (by rw [List.length_map]; exact hp),zbp,zbp,zc1,zc2,ze1,zaD,zaD,zcb,zcc,List.length_map]
 have estep:Vatrka.step (st m sh hd) (.put pz zs)=Vatrka.answered (Vatrka.finish (st m sh hd) 1 (flat (hs (hd.take (p+1)++List.replicate new.length []++hd.drop (p+1))) (ps (sh.take p++new++sh.drop p)))):=by
  show Vatrka.stepPut (st m sh hd) pz zs=_
  unfold Vatrka.stepPut
  rw [zaR g.wf,(zbr pz sh.length).mpr (by omega),if_neg (by decide),hall,if_neg (by cases zs with | nil=>exact absurd rfl hz | cons _ _=>simp)]
  unfold Vatrka.doPut
  rw [show pz.toNat=p by omega,erow]
 have hany:(flat (hs (hd.take (p+1)++List.replicate new.length []++hd.drop (p+1))) (ps (sh.take p++new++sh.drop p))).any (Vatrka.bears (m.changes.length+1))=m.tracking:=by
  rw [zcm _ (by
   have:=g.wf.len
   simp only [List.length_map,List.length_append,List.length_take,List.length_drop,List.length_replicate]
   omega),zdP,zb0,zaD,zaD,List.any_append,List.any_append]
  have a1:(ps (sh.take p)).any (Vatrka.bears (m.changes.length+1))=false:=zg0 (k:=k) fun x hx=>by
   obtain ⟨y,hy,rfl⟩:=zb5 hx
   exact g.wf.pcs y (List.mem_append_left _ (List.mem_of_mem_take hy))
  have a2:(ps (sh.drop p)).any (Vatrka.bears (m.changes.length+1))=false:=zg0 (k:=k) fun x hx=>by
   obtain ⟨y,hy,rfl⟩:=zb5 hx
   exact g.wf.pcs y (List.mem_append_left _ (List.mem_of_mem_drop hy))
  have a3:(ps hd.flatten).any (Vatrka.bears (m.changes.length+1))=false:=zg0 (k:=k) fun x hx=>by
   obtain ⟨y,hy,rfl⟩:=zb5 hx
   exact g.wf.pcs y (List.mem_append_right _ hy)
  rw [a1,a2,a3,Bool.or_false,Bool.or_false,Bool.false_or,hn]
  cases zs with
  | nil=>exact absurd rfl hz
  | cons z0 zs =>
   cases m.tracking with
   | false =>
    refine List.any_eq_false.mpr fun x hx=>?_
    obtain ⟨y,hy,rfl⟩:=List.mem_map.mp hx
    obtain ⟨z',_,rfl⟩:=List.mem_map.mp hy
    simp [Vatrka.bears,Vatrka.has,newP]
   | true=>simp [Vatrka.bears,Vatrka.has,newP]
 have cw:=ze7 g.wf p
 have hnew:∀ (n':Nat),(m.tracking=true→m.changes.length+1≤n')→∀ x∈new,x.2.del=[]∧WfP n' (k+1) x.2:=fun n' hn' x hx=>by
  have hx':x.2∈ps new:=List.mem_map.mpr ⟨x,hx,rfl⟩
  rw [hn] at hx'
  obtain ⟨y,hy,e⟩:=List.mem_map.mp hx'
  obtain ⟨z',_,rfl⟩:=List.mem_map.mp hy
  rw [← e]
  refine ⟨rfl,?_,?_,(fun i hi=>(by cases hi)),(fun y hy=>(by cases hy)),?_,Nat.zero_le _,Nat.zero_le _,cw.1,cw.2⟩
  ·show (newP p (st m sh hd).row z').look.length=4
   unfold newP
   dsimp only
   split
   ·exact zdV _ _
   ·exact zc9 _ _
  ·intro i hi
   dsimp only at hi
   split at hi
   ·rename_i ht
    have:=List.mem_singleton.mp hi
    have:=hn' ht
    omega
   ·cases hi
  ·dsimp only
   split<;>simp
 refine ⟨f3,fun ht H' l s' n' h'=>?_,fun ht H' l e' n' h' hD=>?_⟩
 ·have efin:Vatrka.step (st m sh hd) (.put pz zs)=(st m (sh.take p++new++sh.drop p) (hd.take (p+1)++List.replicate new.length []++hd.drop (p+1)),.told [0]):=by
   rw [estep,zbq,hany,ht]
   rfl
  exact o H' l m _ _ (E.trans s'.ext) (E.dom l n') (by rw [efin]; exact h') (f3.same s') rfl (by rw [efin]) (w1 m (.inl rfl) (hnew _ (by rw [ht]; intro z; cases z)))
 ·have efin:Vatrka.step (st m sh hd) (.put pz zs)=(st (m.enter 1) (sh.take p++new++sh.drop p) (hd.take (p+1)++List.replicate new.length []++hd.drop (p+1)),.told [m.changes.length+1]):=by
   rw [estep,zbq,hany,ht]
   rfl
  have hml:(m.enter 1).changes.length=m.changes.length+1:=by unfold Mo.enter; simp
  exact o H' l (m.enter 1) _ _ (E.trans (e'.mono fun b o' _ z _=>.inr (.inr (.inl z)))) (E.dom l n') (by rw [efin]; exact h') (f3.setCh rfl e' hD) rfl (by rw [efin]) (w1 (m.enter 1) (.inr hml) (hnew _ (by intro _; omega)))
structure TxtK (mg:Str→Option Value):Prop where
 g_KIND_PUT:∃ t,mg "KIND_PUT"=some (.int 1 t)
 g_KIND_CUT:∃ t,mg "KIND_CUT"=some (.int 2 t)
 g_KIND_PAINT:∃ t,mg "KIND_PAINT"=some (.int 3 t)
 g_KIND_MOVE:∃ t,mg "KIND_MOVE"=some (.int 4 t)
theorem d_put (F:FunAt K mg "put" s_put) (T:Txt K mg c) (TK:TxtK mg) (d_size_of:Def P w K mg base "size_of" 1 ["document"] (spSize c)) (d_is_sign:Def P w K mg base "is_sign" 1 ["number"] spIsSign) (d_new_pieces:Def P w K mg base "new_pieces" 3 ["shown","p","signs"] (spNewPieces K c))
  (d_mark_put:Def P w K mg base "mark_put" 1 ["pieces","change"] (spMarkPut K c)) (d_next_change:Def P w K mg base "next_change" 1 ["document"] (spNext c)) (d_stand_before:Def P w K mg base "stand_before" 1 ["row","p","pieces"] (spStand c))
  (d_enter_change:Def P w K mg base "enter_change" 1 ["document","kind","bearers"] (spEnter c)):Def P w K mg base "put" 4 ["document","p","signs"] (spPut K c):=by
 have sc:=zkB
 refine F.def sc (fun _ _ _ _ _ _=>ar3 fun _ _ _=>rfl) (fun vs H Q E h=>?_) (fun f cdv A outer s H vs Q E hr h=>?_)
 ·obtain ⟨d,r,ch,sg,m,sh,hd,k,z,p,zs,rfl,_⟩:=h
  rfl
 ·obtain ⟨d,r,ch,sg,m,sh,hd,k,z,p,zs,rfl,hsg,hzl,g,o⟩:=h
  obtain ⟨dx,es,hD⟩:=g.full.doc
  obtain ⟨dr,sA,hA,gs,hR⟩:=g.full.row
  have hsl:sizeLine=16777216:=sizeLine_eq
  have hkL:=g.kL
  have hzL:=g.zL
  have hshL:=g.wf.shL
  have hchL:=g.wf.chs
  refine ⟨_,(zab (zaC (zbE (zbk zbg zcY zaf (pv 1) (zap d_size_of (hr.mono (by decide)) rfl pass0 (zaa (pv 0) zac))))
    (zad (zah (zal (zaa (zbm zaZ zaf) zac))))
    zaj)
   (zab (zaC (PW.pt (zg9 (zan (zdJ hr.units) (pv 2) (zal zac) (nomark _)) (zel (zbE (zbD (zax (zk7 rfl) rfl T.b_all boot_all (zaa (zfz rfl sc.nd (zaW (pv 2)) (own:=[("number",3)]) (zbe rfl) (fun _ _ _ _ _=>(zav (i:=3) sc.nd rfl (by first | exact Or.inl rfl | exact Or.inr rfl))) (fun _ _ _ _ _=>zcW) (fun _ _ _ _ _=>(zap d_is_sign (hr.mono (by decide)) rfl pass0 (zaa (pv 3) zac)))) zac)))))))
    (zad (zah (zal (zaa (zbm zaZ zaf) zac))))
    zaj)
   (zab (zar (i:=4) sc.nd rfl (by first | exact Or.inl rfl | exact Or.inr rfl) (zap d_new_pieces (hr.mono (by decide)) rfl pass0 (zaa (zae (zae (pv 0) rfl) rfl) (zaa (pv 1) (zaa (pv 2) zac)))))
   (zab (zar (i:=5) sc.nd rfl (by first | exact Or.inl rfl | exact Or.inr rfl) zaf)
   (zab (zaC (zbD (zae (pv 0) rfl))
    (zab (zaq (zap d_mark_put (hr.mono (by decide)) rfl pass0 (zaa (pv 4) (zaa (zap d_next_change (hr.mono (by decide)) rfl pass0 (zaa (pv 0) zac)) zac))))
    (zad (zar (i:=5) sc.nd rfl (by first | exact Or.inl rfl | exact Or.inr rfl) (zax zak rfl T.b_len PySem.boot_len (zaa (pv 4) zac)))))
    zaj)
   (zab (zaq (zap d_stand_before (hr.mono (by decide)) rfl pass0 (zaa (zae (pv 0) rfl) (zaa (pv 1) (zaa (pv 4) zac)))))
   (zad (zah (zap d_enter_change (hr.mono (by decide)) rfl pass0 (zaa (pv 0) (zaa (zay rfl TK.g_KIND_PUT) (zaa (pv 5) zac)))))))))))),?_⟩
  have no1:¬ (0≤p∧p < (sh.length:Int))→∀ (l:Addr) (H':Hp),Same H H'→H l=none→H' l=some (.lst [.int (-1)])→Q (.ref l) H':=fun hw l H' s' n' g'=>by
   have e:Vatrka.step (st m sh hd) (.put p zs)=(st m sh hd,.refused 1):=by
    show Vatrka.stepPut _ _ _=_
    unfold Vatrka.stepPut
    rw [zaR g.wf,zbJ hw]; rfl
   exact o.stay g (by rw [e]) (by rw [e]; rfl) s' n' g'
  refine ⟨_,rfl,_,_,rfl,rfl,_,rfl,?_⟩
  refine ite2 (fun h1=>?yes) (fun h1=>?no)
  case no =>
   have h1:¬ (0:Int)≤p:=fun z=>h1 (decide_eq_true z)
   refine ⟨_,rfl,?_⟩
   refine iteT ?_
   exact ⟨_,rfl,by show 1≤sizeLine; decide,fun l H' s' n' g'=>no1 (by omega) l H' s' n' g'⟩
  have h1:=of_decide_eq_true h1
  refine ⟨_,rfl,d,r,ch,m,sh,hd,rfl,g.full.doc,g.full.row,_,_,rfl,rfl,_,rfl,?_⟩
  by_cases h2:p < (sh.length:Int)
  case neg =>
   rw [decide_eq_false h2]
   refine iteT ?_
   exact ⟨_,rfl,by show 1≤sizeLine; decide,fun l H' s' n' g'=>no1 (by omega) l H' s' n' g'⟩
  rw [decide_eq_true h2]
  refine iteF ?_
  obtain ⟨pn,rfl⟩:∃ pn:Nat,p=(pn:Int):=⟨p.toNat,by omega⟩
  have no2:(zs.isEmpty || !zs.all Vatrka.isSign)=true→∀ (l:Addr) (H':Hp),Same H H'→H l=none→H' l=some (.lst [.int (-2)])→Q (.ref l) H':=fun hw l H' s' n' g'=>by
   have e:Vatrka.step (st m sh hd) (.put (pn:Int) zs)=(st m sh hd,.refused 2):=by
    show Vatrka.stepPut _ _ _=_
    unfold Vatrka.stepPut
    rw [zaR g.wf,(zbr _ _).mpr ⟨h1,h2⟩,if_neg (by decide),if_pos hw]
   exact o.stay g (by rw [e]) (by rw [e]; rfl) s' n' g'
  refine ⟨_,rfl,Nat.zero_le _,fun te H1 s1 n1 g1=>?_⟩
  refine ⟨_,_,.lst (s1.seq hsg) (zc5 zs),.lst (SqL.of g1) (zc5 []),zhE zs,zhE [],_,rfl,?_⟩
  rw [zko]
  cases hem:zs.isEmpty with
  | true =>
   refine iteT ?_
   refine iteT ?_
   exact ⟨_,rfl,by show 1≤sizeLine; decide,fun l H' s' n' g'=>no2 (by rw [hem]; rfl) l H' (s1.trans s') (s1.free n') g'⟩
  | false =>
   refine iteF ?_
   have hne:zs≠[]:=fun z=>by rw [z] at hem; cases hem
   refine ⟨_,rfl,sg,rfl,⟨_,s1.seq hsg⟩,fun D hD'=>zcg (K:=K) (a:=sg) (xs:=zs.map V.int)
    (fun i H'=>Same H1 H'∧H' D=some (.lst (((zs.take i).map Vatrka.isSign).map V.bl))) ⟨zaz hD',zai⟩ (fun i H' _ hp=>hp.1.seq (s1.seq hsg)) ?_ ?_⟩
   ·rintro i y H2 hi ⟨s2,hD2⟩
    obtain ⟨zv,hz,rfl⟩:=zau hi
    have hil:=(List.getElem?_eq_some_iff.mp hz).1
    refine ⟨rfl,?_⟩
    dsimp only [tYes]
    rw [if_pos rfl]
    refine ⟨_,rfl,zv,rfl,_,hD2,?_,?_⟩
    ·rw [List.length_map,List.length_map,List.length_take]
     omega
    ·refine ⟨fun b o' hb=>by rw [zaA (zag hb hD')]; exact s2 b o' hb,?_⟩
     rw [zai,zam hz,List.map_append,List.map_append]
     rfl
   ·rintro H2 ⟨s2,hD2⟩
    rw [List.length_map,List.take_length] at hD2
    refine ⟨D,_,rfl,SqL.of hD2,_,rfl,?_⟩
    have eall:(zs.map Vatrka.isSign).all id=zs.all Vatrka.isSign:=by rw [List.all_map]; rfl
    rw [eall]
    have s02:=s1.trans s2
    cases hall:zs.all Vatrka.isSign with
    | false =>
     refine iteT ?_
     exact ⟨_,rfl,by show 1≤sizeLine; decide,fun l H' s' n' g'=>no2 (by rw [hall]; simp) l H' (s02.trans s') (s02.free n') g'⟩
    | true =>
     refine iteF ?_
     have hpos:∀ zv∈zs,0≤zv:=fun zv hz=>by
      have:=List.all_eq_true.mp hall zv hz
      unfold Vatrka.isSign at this
      simp at this
      omega
     have hR2:=hR.same s02
     have hD2':=(g.full.doc.same s02)
     obtain ⟨dx2,es2,hDo⟩:=hD2'
     have hv:Vatrka.visible (st m sh hd).row=ps sh:=zaO g.wf.split
     obtain ⟨xl,hxl,hxs,_⟩:=g.wf.last
     refine ⟨_,rfl,d,_,dx2,_,_,rfl,hDo.obj,T.D.cl,T.D.no _ (by decide +kernel),zaS,r,_,dr,_,_,rfl,hR2.obj,T.R.cl,T.R.no _ (by decide +kernel),zaF,_,rfl,_,rfl,sA,sg,pn,sh,(st m sh hd).row,zs,rfl,hR2.sl,?_,by omega,hv,⟨xl,hxl,hxs⟩,s02.seq hsg,hpos,by omega,fun H3 l new s3 nl hl hnew hpn hfr hnd=>?_⟩
     ·exact fun x hx=>(g.full.pcs.same s02) x (List.mem_append_left _ hx)
     have s03:=s02.trans s3
     have hf:∀ x∈new,H x.1=none:=fun x hx=>s02.free (hfr x hx)
     have hin:∀ x∈new,∃ C dx fs,H3 x.1=some (.ins C dx fs):=fun x hx=>by
      obtain ⟨dxp,lk2,sn,it,dt,pt,T2,h2⟩:=hpn x hx
      exact ⟨_,_,_,h2.obj⟩
     have hnl:new.length=zs.length:=by
      have:=congrArg List.length hnew
      rw [List.length_map,List.length_map] at this
      exact this
     obtain ⟨dx3,es3,hD3⟩:=g.full.doc.same s03
     refine ⟨_,rfl,d,_,dx3,_,_,rfl,hD3.obj,T.D.cl,T.D.no _ (by decide +kernel),zdW,_,rfl,?_⟩
     cases ht:m.tracking with
     | false =>
      refine iteF ?_
      have hn:ps new=(zs.map (newP pn (st m sh hd).row)).map fun x=>{ x with ins:=if m.tracking=true then [m.changes.length+1] else [] }:=by
       rw [hnew,ht,List.map_map]
       rfl
      refine ⟨_,rfl,d,_,dx3,_,_,rfl,hD3.obj,T.D.cl,T.D.no _ (by decide +kernel),zaS,_,rfl,_,rfl,r,l,_,pn,new,sh,hd,rfl,g.full.row.keep (S:=fun _=>False) s03.ext (fun z=>z) (fun _ z=>z.elim),hl,g.xa (S:=fun _=>False) s03.ext,?_,g.wf.len,by omega,fun H4 e4 hR4=>?_⟩
      ·omega
      obtain ⟨f4,k0,k1⟩:=o.put g rfl (by omega) hne hall s03 Ext.refl hn hpn hin hf hnd e4 hR4
      refine ⟨_,rfl,_,rfl,d,r,ch,m,1,0,rfl,f4.doc,by omega,fun _ H' l' s' n' h'=>k0 ht H' l' s' n' h',fun z=>absurd rfl z⟩
     | true =>
      refine iteT ?_
      refine ⟨_,rfl,_,rfl,d,r,ch,m,rfl,⟨dx3,es3,hD3⟩,l,m.changes.length+1,new,rfl,hl,hpn,hnd,fun H4 e4 hpn4=>?_⟩
      have hl4:H4 l=some (.lst (refs new)):=e4.at hl fun ⟨x,hx,z⟩=>(by
       obtain ⟨C,dx,fs,h⟩:=hin x hx
       rw [← z,hl] at h
       cases h)
      refine ⟨_,rfl,l,_,rfl,.inl (SqL.of hl4),?_⟩
      have fr4:∀ b,(∃ x∈new,b=x.1)→H b=none:=fun b ⟨x,hx,e⟩=>by rw [e]; exact hf x hx
      have keep4:∀ {b:Addr} {o':HO},H b=some o'→H4 b=some o':=fun {b o'} hb=>e4.at (s03 _ _ hb) fun z=>(by rw [fr4 b z] at hb; cases hb)
      have same4:Same H H4:=fun b o' hb=>keep4 hb
      obtain ⟨dx4,es4,hD4⟩:=g.full.doc.same same4
      have hn:ps (new.map (insBy (m.changes.length+1)))=(zs.map (newP pn (st m sh hd).row)).map fun x=>{ x with ins:=if m.tracking=true then [m.changes.length+1] else [] }:=by
       rw [← hnew,ht]
       unfold ps insBy
       rw [List.map_map,List.map_map]
       rfl
      have hrefs:refs (new.map (insBy (m.changes.length+1)))=refs new:=by
       unfold refs insBy
       rw [List.map_map]
       rfl
      have hfst:(new.map (insBy (m.changes.length+1))).map (·.1)=new.map (·.1):=by
       unfold insBy
       rw [List.map_map]
       rfl
      have hml:(new.map (insBy (m.changes.length+1))).length=zs.length:=by rw [List.length_map,hnl]
      have mem':∀ x∈new.map (insBy (m.changes.length+1)),∃ y∈new,x.1=y.1:=fun x hx=>by
       obtain ⟨y,hy,rfl⟩:=List.mem_map.mp hx
       exact ⟨y,hy,rfl⟩
      refine ⟨_,rfl,d,_,dx4,_,_,rfl,hD4.obj,T.D.cl,T.D.no _ (by decide +kernel),zaS,_,rfl,_,rfl,r,l,_,pn,new.map (insBy (m.changes.length+1)),sh,hd,rfl,g.full.row.keep (S:=fun _=>False) same4.ext (fun z=>z) (fun _ z=>z.elim),(by rw [hrefs]; exact hl4),g.xa (S:=fun _=>False) same4.ext,?_,g.wf.len,by omega,fun H5 e5 hR5=>?_⟩
      ·omega
      obtain ⟨f5,k0,k1⟩:=o.put g (new:=new.map (insBy (m.changes.length+1))) rfl (by omega) hne hall s03 (e4.mono fun b o' _ ⟨x,hx,e⟩ _=>⟨_,List.mem_map.mpr ⟨x,hx,rfl⟩,e⟩) hn hpn4
       (fun x hx=>by obtain ⟨y,hy,e⟩:=mem' x hx; rw [e]; exact hin y hy) (fun x hx=>by obtain ⟨y,hy,e⟩:=mem' x hx; rw [e]; exact hf y hy) (by rw [hfst]; exact hnd) e5 hR5
      refine ⟨_,rfl,_,rfl,d,r,ch,m,1,new.length,?_,f5.doc,by omega,fun z=>?_,fun _ H' l' e' n' h' hD'=>k1 ht H' l' e' n' h' hD'⟩
      ·rw [List.length_map]; rfl
      ·rw [hnl] at z
       exact absurd (List.length_eq_zero_iff.mp z) hne
end
end Tt
end
section
namespace Tt
open Vatrka
theorem zht {α β:Type} (A:List α) (B:List β) (p q:Nat):((A.zip B).take q).drop p=((A.take q).drop p).zip ((B.take q).drop p):=by
 rw [List.zip,List.take_zipWith,List.drop_zipWith]
def shMid (sh:List AP) (p q:Nat) (f:AP→AP):List AP:=sh.take p++((sh.take q).drop p).map f++sh.drop q
section
variable {sh:List AP} {p q:Nat} {f:AP→AP}
theorem za2 (hpq:p≤q) (hq:q≤sh.length):(shMid sh p q f).length=sh.length:=by
 unfold shMid
 simp only [List.length_append,List.length_map,List.length_take,List.length_drop]
 omega
theorem zby (hpq:p≤q) (hq:q≤sh.length):(shMid sh p q f).take p=sh.take p:=by
 unfold shMid
 rw [List.append_assoc,List.take_append_of_le_length (by rw [List.length_take]; omega),List.take_take,Nat.min_self]
theorem zbz (hpq:p≤q) (hq:q≤sh.length):(shMid sh p q f).drop q=sh.drop q:=by
 unfold shMid
 have e:(sh.take p++((sh.take q).drop p).map f).length=q:=by
  simp only [List.length_append,List.length_map,List.length_take,List.length_drop]
  omega
 rw [List.drop_append,e,Nat.sub_self,List.drop_zero,List.drop_of_length_le (by omega),List.nil_append]
theorem zcE (hpq:p≤q) (hq:q≤sh.length):((shMid sh p q f).take q).drop p=((sh.take q).drop p).map f:=by
 unfold shMid
 have e:(sh.take p++((sh.take q).drop p).map f).length=q:=by
  simp only [List.length_append,List.length_map,List.length_take,List.length_drop]
  omega
 have e2:(sh.take p).length=p:=by rw [List.length_take]; omega
 rw [List.take_append_of_le_length (by omega),List.take_of_length_le (by omega),List.drop_append,e2,Nat.sub_self,List.drop_zero,List.drop_of_length_le (by omega),List.nil_append]
theorem zcF (hf:∀ x,(f x).1=x.1) (hpq:p≤q):(shMid sh p q f).map (·.1)=sh.map (·.1):=by
 unfold shMid
 rw [List.map_append,List.map_append,List.map_map]
 have e:((fun x:AP=>x.1) ∘ f)=fun x=>x.1:=by funext x; exact hf x
 rw [e]
 have e3:sh.take p++(sh.take q).drop p=sh.take q:=by
  have:=List.take_append_drop p (sh.take q)
  rw [List.take_take,Nat.min_eq_left hpq] at this
  exact this
 rw [← List.map_append,e3,← List.map_append,List.take_append_drop]
theorem zb8 {y:AP} (h:y∈shMid sh p q f):y∈sh∨∃ x∈(sh.take q).drop p,y=f x:=by
 unfold shMid at h
 rcases List.mem_append.mp h with h | h
 ·rcases List.mem_append.mp h with h | h
  ·exact .inl (List.mem_of_mem_take h)
  ·obtain ⟨x,hx,rfl⟩:=List.mem_map.mp h
   exact .inr ⟨x,hx,rfl⟩
 ·exact .inl (List.mem_of_mem_drop h)
theorem zgz (hf:∀ x,(f x).1=x.1) (hpq:p≤q):refs (shMid sh p q f)=refs sh:=by
 have e:=congrArg (List.map L2.V.ref) (zcF (sh:=sh) (q:=q) hf hpq)
 rw [List.map_map,List.map_map] at e
 exact e
end
theorem zaL {sh:List AP} {p q:Nat} {x:AP} (h:x∈(sh.take q).drop p):x∈sh:=List.mem_of_mem_take (List.mem_of_mem_drop h)
theorem zkj {sh:List AP} {hd:List (List AP)} {p q:Nat} {f:AP→AP} (hpq:p≤q) (hq:q≤sh.length) :
  leftOf (shMid sh p q f) hd p q=(((hd.take q).drop p).zip (((sh.take q).drop p).map f)).flatMap stayOf++hd.getD q []:=by
 unfold leftOf
 rw [zht,zcE hpq hq]
theorem zgv {g:Piece→List Piece} {f:AP→AP}:∀ (A:List (List AP)) (M:List AP),(∀ x∈M,(if (f x).2.del.isEmpty then [] else [(f x).2])=g x.2) →
  ps ((A.zip (M.map f)).flatMap stayOf)=((A.map ps).zip (ps M)).flatMap fun z=>z.1++g z.2
 | [],_,_=>by simp
 | _::_,[],_=>by simp
 | a::A,x::M,h=>by
  have ih:=zgv (g:=g) (f:=f) A M fun y hy=>h y (List.mem_cons_of_mem _ hy)
  have h1:=h x List.mem_cons_self
  show ps (stayOf (a,f x)++(A.zip (M.map f)).flatMap stayOf)=(ps a++g x.2)++((A.map ps).zip (ps M)).flatMap fun z=>z.1++g z.2
  rw [zaD,ih,← h1]
  unfold stayOf
  rw [zaD]
  dsimp only
  cases (f x).2.del.isEmpty<;>rfl
theorem zgx {sh:List AP} {hd:List (List AP)} {p q:Nat} {f:AP→AP} {g:Piece→List Piece} (s:Split (hs hd) (ps sh)) (hpq:p≤q) (hq:q < sh.length) (hfg:∀ x∈(sh.take q).drop p,(if (f x).2.del.isEmpty then [] else [(f x).2])=g x.2) :
  onStretch g p q (flat (hs hd) (ps sh))=flat (hs (hd.take p++[leftOf (shMid sh p q f) hd p q]++hd.drop (q+1))) (ps (sh.take p++sh.drop q)):=by
 rw [zic g p q s hpq (by rw [List.length_map]; exact hq),zbp,zbp,zc1,zc2,zaD,zcb,zcc,zkj hpq (Nat.le_of_lt hq)]
 have e:hs [(((hd.take q).drop p).zip (((sh.take q).drop p).map f)).flatMap stayOf++hd.getD q []]=[((((hs hd).zip (ps sh)).take q).drop p).flatMap (fun z=>z.1++g z.2)++(hs hd).getD q []]:=by
  show [ps _]=_
  rw [zaD,zgv (g:=g) _ _ hfg,zht,← zc1,← zc2,← zcb,← zcc]
  have e2:(hs hd).getD q []=ps (hd.getD q []):=by
   rw [List.getD_eq_getElem?_getD,List.getD_eq_getElem?_getD,List.getElem?_map]
   cases hd[q]?<;>rfl
  rw [e2]
 rw [e]
theorem zbS {sh1:List AP} {hd:List (List AP)} {p q:Nat} (hl:hd.length=sh1.length) (hpq:p≤q) (hq:q < sh1.length) :
  (all sh1 hd).Perm (((sh1.take q).drop p).filter (fun x=>x.2.del.isEmpty)++all (sh1.take p++sh1.drop q) (hd.take p++[leftOf sh1 hd p q]++hd.drop (q+1))):=by
 have h1:=zaT (hd:=hd) (sh:=sh1) hl
 have h2:=zfi (fun x:AP=>x.2.del.isEmpty) (hd:=hd) (sh:=sh1) p q hl hpq hq
 have h3:(hd.take p++[leftOf sh1 hd p q]++hd.drop (q+1)).length=(sh1.take p++sh1.drop q).length:=by
  simp only [List.length_append,List.length_take,List.length_drop,List.length_cons,List.length_nil]
  omega
 have h4:=zaT h3
 exact h1.symm.trans (h2.trans (List.Perm.append_left _ h4))
theorem zjY {sh:List AP} {p q:Nat} {f:AP→AP} (hfi:∀ x,(f x).2.ins=x.2.ins) (hpq:p≤q):std (shMid sh p q f)=std sh:=by
 unfold shMid
 rw [zaw,zaw,zey fun x _=>hfi x,← zaw,← zaw,zbo sh hpq]
theorem zgr {sh:List AP} {hd:List (List AP)} {p q:Nat} {f:AP→AP} (hl:hd.length=sh.length) (hfi:∀ x,(f x).2.ins=x.2.ins) (hpq:p≤q) (hq:q < sh.length) :
  std ((((sh.take q).drop p).map f).filter fun x=>x.2.del.isEmpty)+std (all (sh.take p++sh.drop q) (hd.take p++[leftOf (shMid sh p q f) hd p q]++hd.drop (q+1)))=std (all sh hd):=by
 have hq':q≤sh.length:=Nat.le_of_lt hq
 have hl1:(shMid sh p q f).length=sh.length:=za2 hpq hq'
 have pm:=zbS (sh1:=shMid sh p q f) (hd:=hd) (p:=p) (q:=q) (by rw [hl1]; exact hl) hpq (by rw [hl1]; exact hq)
 rw [zby hpq hq',zbz hpq hq',zcE hpq hq'] at pm
 have e:=zex pm
 have e1:std (all (shMid sh p q f) hd)=std (all sh hd):=by
  show std (_++_)=std (_++_)
  rw [zaw,zaw,zjY hfi hpq]
 rw [e1] at e
 exact (e.trans (zaw _ _)).symm
theorem zeu {k z:Nat} {m m':Mo} {sh:List AP} {hd:List (List AP)} {p q:Nat} {f:AP→AP} (w:Wf k z m sh hd) (hz:z≤17000) (hpq:p≤q) (hq:q < sh.length) (hm:m'.changes.length=m.changes.length∨m'.changes.length=m.changes.length+1)
  (hf:∀ x,(f x).1=x.1) (hfi:∀ x,(f x).2.ins=x.2.ins) (hw:∀ x∈(sh.take q).drop p,(f x).2.del≠[]→WfP m'.changes.length (k+1) (f x).2) :
  Wf (k+1) z m' (sh.take p++sh.drop q) (hd.take p++[leftOf (shMid sh p q f) hd p q]++hd.drop (q+1)):=by
 have hl:=w.len
 have hq':q≤sh.length:=Nat.le_of_lt hq
 have hl1:(shMid sh p q f).length=sh.length:=za2 hpq hq'
 have pm:=zbS (sh1:=shMid sh p q f) (hd:=hd) (p:=p) (q:=q) (by rw [hl1]; exact hl) hpq (by rw [hl1]; exact hq)
 rw [zby hpq hq',zbz hpq hq'] at pm
 have hfst:(all (shMid sh p q f) hd).map (·.1)=(all sh hd).map (·.1):=by
  unfold all
  rw [List.map_append,List.map_append,zcF hf hpq]
 have nd1:((all (shMid sh p q f) hd).map (·.1)).Nodup:=by rw [hfst]; exact w.nd
 have nd2:=(pm.map (·.1)).nodup_iff.mp nd1
 rw [List.map_append] at nd2
 have hshL:=w.shL
 have hhdL:=w.hdL
 refine ⟨⟨?_,?_,?_⟩,(List.nodup_append.mp nd2).2.1,?_,?_,?_,?_,?_,?_⟩
 ·simp only [List.length_map,List.length_append,List.length_take,List.length_drop,List.length_cons,List.length_nil]
  omega
 ·intro x hx
  obtain ⟨y,hy,rfl⟩:=zb5 hx
  refine w.split.sh _ (List.mem_map.mpr ⟨y,?_,rfl⟩)
  rcases List.mem_append.mp hy with hy | hy
  ·exact List.mem_of_mem_take hy
  ·exact List.mem_of_mem_drop hy
 ·intro h hh x hx
  obtain ⟨g,hg,rfl⟩:=List.mem_map.mp hh
  have old:∀ g'∈hd,∀ x∈ps g',x.del≠[]:=fun g' hg' x hx=>w.split.hd _ (List.mem_map.mpr ⟨g',hg',rfl⟩) x hx
  rcases List.mem_append.mp hg with hg | hg
  ·rcases List.mem_append.mp hg with hg | hg
   ·exact old g (List.mem_of_mem_take hg) x hx
   ·have eg:=List.mem_singleton.mp hg
    subst eg
    obtain ⟨y,hy,rfl⟩:=zb5 hx
    unfold leftOf at hy
    rcases List.mem_append.mp hy with hy | hy
    ·obtain ⟨zz,hz1,hz2⟩:=List.mem_flatMap.mp hy
     unfold stayOf at hz2
     rcases List.mem_append.mp hz2 with hz2 | hz2
     ·have:zz.1∈hd:=(List.of_mem_zip (List.mem_of_mem_take (List.mem_of_mem_drop hz1))).1
      exact old zz.1 this _ (List.mem_map.mpr ⟨y,hz2,rfl⟩)
     ·cases e:zz.2.2.del.isEmpty with
      | true=>rw [e] at hz2; simp at hz2
      | false =>
       rw [e] at hz2
       have:y=zz.2:=by simpa using hz2
       subst this
       intro q
       rw [q] at e
       cases e
    ·rw [List.getD_eq_getElem?_getD] at hy
     cases e:hd[q]? with
     | none=>rw [e] at hy; simp at hy
     | some g' =>
      rw [e] at hy
      exact old g' (List.mem_of_getElem? e) _ (List.mem_map.mpr ⟨y,hy,rfl⟩)
  ·exact old g (List.mem_of_mem_drop hg) x hx
 ·intro x hx
  have hx1:=pm.mem_iff.mpr (List.mem_append_right _ hx)
  rcases List.mem_append.mp hx1 with h | h
  ·rcases zb8 h with h | ⟨y,hy,rfl⟩
   ·exact (w.pcs x (List.mem_append_left _ h)).mono (by omega) (Nat.le_succ _)
   ·by_cases hd':(f y).2.del=[]
    ·-- it would be gone: it can't stand in the row again
     exfalso
     have h1:f y∈(((shMid sh p q f).take q).drop p).filter (fun x=>x.2.del.isEmpty):=by
      rw [zcE hpq hq']
      exact List.mem_filter.mpr ⟨List.mem_map.mpr ⟨y,hy,rfl⟩,by rw [hd']; rfl⟩
     exact (List.nodup_append.mp nd2).2.2 (f y).1 (List.mem_map.mpr ⟨_,h1,rfl⟩) (f y).1 (List.mem_map.mpr ⟨_,hx,rfl⟩) rfl
    ·exact hw y hy hd'
  ·exact (w.pcs x (List.mem_append_right _ h)).mono (by omega) (Nat.le_succ _)
 ·obtain ⟨x,hx,h1,h2⟩:=w.last
  refine ⟨x,?_,h1,h2⟩
  rw [List.getLast?_append,List.getLast?_drop,if_neg (by omega),hx]
  rfl
 ·have:=w.chs
  omega
 ·simp only [List.length_append,List.length_take,List.length_drop]
  omega
 ·have e:=pm.length_eq
  simp only [all,List.length_append,hl1] at e
  have e2:(sh.take p).length=p:=by rw [List.length_take]; omega
  have e3:(sh.drop q).length=sh.length - q:=List.length_drop
  omega
 ·have e:=zgr (f:=f) hl hfi hpq hq
  have:=w.stL
  omega
end Tt
end
section
namespace Tt
open PySem PySem.Spec PyProof.Rows L2
open Vatrka (Piece Pending Change shownLook shownValue marked)
section
variable {P:Program} {w:World} {K:PySem.W.Frag} {mg:Str→Option Value} {base:Heap} {c:Cs}
theorem Pcs.turn {H H':Hp} {L:List AP} {f:AP→AP} {i:Nat} {x:AP} (hnd:(L.map (·.1)).Nodup) (hx:L[i]?=some x) (hf:∀ y,(f y).1=y.1) (e:Ext (·=x.1) H H') (h1:Pcs K c H ((L.take i).map f)) (h2:Pcs K c H (L.drop i)) (h:PieceAt K c.P H' x.1 (f x).2) :
  Pcs K c H' ((L.take (i+1)).map f)∧Pcs K c H' (L.drop (i+1)):=by
 have hil:=(List.getElem?_eq_some_iff.mp hx).1
 have hdrop:L.drop i=x::L.drop (i+1):=by
  rw [List.drop_eq_getElem_cons hil,(List.getElem?_eq_some_iff.mp hx).2]
 have nx:∀ j y,L[j]?=some y→j≠i→y.1≠x.1:=fun j y hy hj z=>hj (zjq hnd (i:=j) (j:=i) (x:=x.1) (by rw [List.getElem?_map,hy,← z]; rfl) (by rw [List.getElem?_map,hx]; rfl))
 constructor
 ·intro y hy
  rw [zam hx,List.map_append] at hy
  rcases List.mem_append.mp hy with hy | hy
  ·obtain ⟨y',hy',rfl⟩:=List.mem_map.mp hy
   obtain ⟨j,hj⟩:=List.mem_iff_getElem?.mp hy'
   have hji:j < i:=by
    have:=(List.getElem?_eq_some_iff.mp hj).1
    rw [List.length_take] at this
    omega
   rw [List.getElem?_take_of_lt hji] at hj
   exact (h1 _ (List.mem_map.mpr ⟨y',hy',rfl⟩)).keep e (by rw [hf]; exact nx j y' hj (by omega))
  ·have:y=f x:=by simpa using hy
   subst this
   rw [hf]
   exact h
 ·intro y hy
  have hy2:y∈L.drop i:=by rw [hdrop]; exact List.mem_cons_of_mem _ hy
  obtain ⟨j,hj⟩:=List.mem_iff_getElem?.mp hy
  rw [List.getElem?_drop] at hj
  exact (h2 y hy2).keep e (nx _ y hj (by omega))
theorem RAt.refs {H:Hp} {r dx sA hA:Addr} {X:Addr→Prop} {gs:List Gap} {sh sh':List AP} {hd:List (List AP)} (h:RAt c H r X sh hd dx sA hA gs) (e:refs sh'=refs sh):RAt c H r X sh' hd dx sA hA gs :=
 { h with sl:=by rw [e]; exact h.sl }
theorem RowAt.refs {H:Hp} {r:Addr} {X:Addr→Prop} {sh sh':List AP} {hd:List (List AP)} (h:RowAt c H r X sh hd) (e:refs sh'=refs sh):RowAt c H r X sh' hd:=by
 obtain ⟨dx,sA,hA,gs,h⟩:=h
 exact ⟨dx,sA,hA,gs,h.refs e⟩
theorem Given.small {H:Hp} {d r ch:Addr} {m:Mo} {sh:List AP} {hd:List (List AP)} {k z zc:Nat} (g:Given K c H d r ch m sh hd k z zc):2 * hd.flatten.length+sh.length < sizeLine∧sh.length≤17001∧m.changes.length < 400:=by
 have h1:=g.wf.hdL
 have h2:=g.wf.shL
 have h3:=g.kL
 have h4:=g.zL
 have h5:=g.wf.chs
 have hs:sizeLine=16777216:=sizeLine_eq
 have:k * 17001≤399 * 17001:=Nat.mul_le_mul_right _ (by omega)
 refine ⟨?_,by omega,by omega⟩
 omega
theorem zcK {sh:List AP} {hd:List (List AP)} {p q:Nat} (nd:((all sh hd).map (·.1)).Nodup):(((sh.take q).drop p).map (·.1)).Nodup:=by
 have h1:((sh.take q).drop p).Sublist (all sh hd):=((List.drop_sublist _ _).trans (List.take_sublist _ _)).trans (List.sublist_append_left _ _)
 exact nd.sublist (h1.map _)
theorem RAt.setMid {H H':Hp} {d r ch dx sA hA:Addr} {X:Addr→Prop} {gs:List Gap} {m:Mo} {sh:List AP} {hd:List (List AP)} {p q:Nat} {f:AP→AP} (F:Full K c H d m r ch sh hd) (hR:RAt c H r X sh hd dx sA hA gs) (hf:∀ x,(f x).1=x.1) (hpq:p≤q)
  (e:Ext (fun b=>∃ x∈(sh.take q).drop p,b=x.1) H H'):RAt c H' r X (shMid sh p q f) hd dx sA hA gs:=by
 have inA:∀ x∈(sh.take q).drop p,x∈all sh hd:=fun x hx=>List.mem_append_left _ (zaL hx)
 refine (hR.keep e (fun ⟨x,hx,z⟩=>F.rp x (inA x hx) z.symm) (fun b ⟨x,hx,z⟩=>?_)).refs (zgz hf hpq)
 obtain ⟨dxp,lk,sn,it,dt,pt,T,h2⟩:=F.pcs x (inA x hx)
 exact .inr (.inr ⟨_,_,_,by rw [z]; exact h2.obj⟩)
theorem Full.setMid {H H':Hp} {d r ch:Addr} {m:Mo} {sh:List AP} {hd:List (List AP)} {p q:Nat} {f:AP→AP} (F:Full K c H d m r ch sh hd) (nd:((all sh hd).map (·.1)).Nodup) (hf:∀ x,(f x).1=x.1) (hpq:p≤q)
  (e:Ext (fun b=>∃ x∈(sh.take q).drop p,b=x.1) H H') (h:Pcs K c H' (((sh.take q).drop p).map f)):Full K c H' d m r ch (shMid sh p q f) hd:=by
 have inA:∀ x∈(sh.take q).drop p,x∈all sh hd:=fun x hx=>List.mem_append_left _ (zaL hx)
 refine ⟨F.doc.keep e (fun ⟨x,hx,z⟩=>F.dp x (inA x hx) z.symm) (fun ⟨x,hx,z⟩=>F.cp x (inA x hx) z.symm),?_,?_⟩
 ·refine (F.row.keep e (fun ⟨x,hx,z⟩=>F.rp x (inA x hx) z.symm) (fun b ⟨x,hx,z⟩=>?_)).refs (zgz hf hpq)
  obtain ⟨dxp,lk,sn,it,dt,pt,T,h2⟩:=F.pcs x (inA x hx)
  exact .inr (.inr ⟨_,_,_,by rw [z]; exact h2.obj⟩)
 ·intro y hy
  have split:sh=sh.take p++(sh.take q).drop p++sh.drop q:=by
   have e3:sh.take p++(sh.take q).drop p=sh.take q:=by
    have:=List.take_append_drop p (sh.take q)
    rw [List.take_take,Nat.min_eq_left hpq] at this
    exact this
   rw [e3,List.take_append_drop]
  have nd2:(((sh.take p++(sh.take q).drop p++sh.drop q)++hd.flatten).map (·.1)).Nodup:=by rw [← split]; exact nd
  rw [List.map_append,List.map_append,List.map_append] at nd2
  obtain ⟨n1,n2,n3⟩:=List.nodup_append.mp nd2
  obtain ⟨n4,n5,n6⟩:=List.nodup_append.mp n1
  obtain ⟨n7,n8,n9⟩:=List.nodup_append.mp n4
  rcases List.mem_append.mp hy with hy | hy
  ·unfold shMid at hy
   rcases List.mem_append.mp hy with hy | hy
   ·rcases List.mem_append.mp hy with hy | hy
    ·exact (F.pcs y (List.mem_append_left _ (List.mem_of_mem_take hy))).keep e fun ⟨x,hx,z⟩=>n9 y.1 (List.mem_map.mpr ⟨y,hy,rfl⟩) x.1 (List.mem_map.mpr ⟨x,hx,rfl⟩) z
    ·exact h y hy
   ·exact (F.pcs y (List.mem_append_left _ (List.mem_of_mem_drop hy))).keep e fun ⟨x,hx,z⟩=>n6 x.1 (List.mem_append_right _ (List.mem_map.mpr ⟨x,hx,rfl⟩)) y.1 (List.mem_map.mpr ⟨y,hy,rfl⟩) z.symm
  ·exact (F.pcs y (List.mem_append_right _ hy)).keep e fun ⟨x,hx,z⟩=>n3 x.1 (List.mem_append_left _ (List.mem_append_right _ (List.mem_map.mpr ⟨x,hx,rfl⟩))) y.1 (List.mem_map.mpr ⟨y,hy,rfl⟩) z.symm
def cutA (m:Mo) (x:AP):AP:=(x.1,if outM m x.2=true then x.2 else { x.2 with del:=[m.changes.length+1] })
theorem zaU (p q:Int) (n:Nat):Vatrka.isStretch p q n=true↔0≤p∧p < q∧q≤(n:Int):=by
 unfold Vatrka.isStretch
 simp
theorem zcv {p q:Int} {n:Nat} (h:¬ (0≤p∧p < q∧q≤(n:Int))):Vatrka.isStretch p q n=false:=by
 cases e:Vatrka.isStretch p q n with
 | false=>rfl
 | true=>exact absurd ((zaU p q n).mp e) h
theorem za5 (m:Mo) (sh:List AP) (hd:List (List AP)) (x:Piece):Vatrka.outright (st m sh hd) x=outM m x:=rfl
theorem zcO (m:Mo) (x:AP):(cutA m x).2.ins=x.2.ins:=by
 unfold cutA
 dsimp only
 split<;>rfl
def bearers (m:Mo) (l:List AP):Nat:=(l.filter fun x=>!outM m x.2).length
theorem ziQ {k z:Nat} {m:Mo} {sh:List AP} {hd:List (List AP)} {p q:Nat} (w:Wf k z m sh hd) (hpq:p≤q) (hq:q < sh.length) :
  (flat (hs (hd.take p++[leftOf (shMid sh p q (cutA m)) hd p q]++hd.drop (q+1))) (ps (sh.take p++sh.drop q))).any (Vatrka.bears (m.changes.length+1))=decide (bearers m ((sh.take q).drop p)≠0):=by
 have hl:=w.len
 have hq':=Nat.le_of_lt hq
 have hl1:(shMid sh p q (cutA m)).length=sh.length:=za2 hpq hq'
 have pm:=zbS (sh1:=shMid sh p q (cutA m)) (hd:=hd) (p:=p) (q:=q) (by rw [hl1]; exact hl) hpq (by rw [hl1]; exact hq)
 rw [zby hpq hq',zbz hpq hq'] at pm
 rw [zcm _ (by
  simp only [List.length_map,List.length_append,List.length_take,List.length_drop,List.length_cons,List.length_nil]
  omega),zdP,← List.any_append,← zaD]
 rw [Bool.eq_iff_iff,List.any_eq_true,decide_eq_true_eq]
 unfold bearers
 constructor
 ·rintro ⟨x,hx,hb⟩
  obtain ⟨y,hy,rfl⟩:=zb5 hx
  have hy1:=pm.mem_iff.mpr (List.mem_append_right _ hy)
  intro h0
  have hall:∀ v∈(sh.take q).drop p,outM m v.2=true:=fun v hv=>by
   cases e:outM m v.2 with
   | true=>rfl
   | false =>
    have:v∈((sh.take q).drop p).filter fun x=>!outM m x.2:=List.mem_filter.mpr ⟨hv,by rw [e]; rfl⟩
    rw [List.length_eq_zero_iff.mp h0] at this
    cases this
  have:WfP m.changes.length k y.2:=by
   rcases List.mem_append.mp hy1 with h | h
   ·rcases zb8 h with h | ⟨v,hv,rfl⟩
    ·exact w.pcs y (List.mem_append_left _ h)
    ·have:cutA m v=v:=by unfold cutA; rw [if_pos (hall v hv)]
     rw [this]
     exact w.pcs v (List.mem_append_left _ (zaL hv))
   ·exact w.pcs y (List.mem_append_right _ h)
  rw [zfa this] at hb
  cases hb
 ·intro h0
  obtain ⟨v,hv⟩:∃ v,v∈((sh.take q).drop p).filter fun x=>!outM m x.2:=by
   cases e:((sh.take q).drop p).filter fun x=>!outM m x.2 with
   | nil=>rw [e] at h0; exact absurd rfl h0
   | cons v _=>exact ⟨v,List.mem_cons_self⟩
  obtain ⟨hv1,hv2⟩:=List.mem_filter.mp hv
  have hv2:outM m v.2=false:=by simpa using hv2
  have ev:(cutA m v).2.del=[m.changes.length+1]:=by unfold cutA; rw [hv2]; rfl
  have hin:cutA m v∈all (shMid sh p q (cutA m)) hd:=List.mem_append_left _ (by
   unfold shMid
   exact List.mem_append_left _ (List.mem_append_right _ (List.mem_map.mpr ⟨v,hv1,rfl⟩)))
  rcases List.mem_append.mp (pm.mem_iff.mp hin) with h | h
  ·have:=(List.mem_filter.mp h).2
   rw [ev] at this
   cases this
  ·refine ⟨(cutA m v).2,List.mem_map.mpr ⟨_,h,rfl⟩,?_⟩
   unfold Vatrka.bears Vatrka.has
   rw [ev]
   simp
theorem zdX {k z:Nat} {m:Mo} {sh:List AP} {hd:List (List AP)} {p q:Nat} (w:Wf k z m sh hd) {n':Nat} (hn':∀ x∈(sh.take q).drop p,outM m x.2=false→m.changes.length+1≤n') (hm:m.changes.length≤n') :
  ∀ x∈(sh.take q).drop p,(cutA m x).2.del≠[]→WfP n' (k+1) (cutA m x).2:=fun x hx hne=>by
 have wx:=(w.pcs x (List.mem_append_left _ (zaL hx))).mono hm (Nat.le_succ k)
 unfold cutA at hne ⊢
 dsimp only at hne ⊢
 cases e:outM m x.2 with
 | true =>
  rw [e] at hne
  exact absurd (w.split.sh _ (List.mem_map.mpr ⟨x,zaL hx,rfl⟩)) hne
 | false =>
  rw [if_neg (by decide)]
  exact ⟨wx.look,wx.ins,fun i hi=>(by have:=List.mem_singleton.mp hi; have:=hn' x hx e; omega),wx.pend,wx.insL,by simp,wx.pendL,wx.tagsS,wx.tagsR⟩
theorem zgX {k z:Nat} {m:Mo} {sh:List AP} {hd:List (List AP)} {p q:Nat} (w:Wf k z m sh hd):∀ x∈(sh.take q).drop p,(if (cutA m x).2.del.isEmpty then [] else [(cutA m x).2])=Vatrka.cutPiece (st m sh hd) x.2:=fun x hx=>by
 unfold Vatrka.cutPiece
 rw [za5]
 unfold cutA
 dsimp only
 cases e:outM m x.2 with
 | true =>
  rw [if_pos rfl,w.split.sh _ (List.mem_map.mpr ⟨x,zaL hx,rfl⟩)]
  rfl
 | false=>rfl
end
section
variable {P:Program} {w:World} {K:PySem.W.Frag} {mg:Str→Option Value} {base:Heap} {c:Cs}
abbrev s_cut:Stmt:=top 48
theorem zkC:FnScope ["document","p","q","deletions","bearers","piece"] ["document","p","q"] (defScope s_cut):=⟨rfl,rfl,rfl,by decide +kernel,rfl,by decide +kernel,by decide +kernel⟩
def spCut (K:PySem.W.Frag) (c:Cs):Sp:=fun vs H Q _=>∃ (d r ch:Addr) (m:Mo) (sh:List AP) (hd:List (List AP)) (k z:Nat) (p q:Int),vs=[.ref d,.int p,.int q]∧Given K c H d r ch m sh hd k z 0∧Owes K c H d r ch m sh hd k z 0 (.cut p q) Q
theorem zfZ (m:Mo) (l:List AP) (x:AP):bearers m (l++[x])=bearers m l+if outM m x.2=true then 0 else 1:=by
 unfold bearers
 rw [List.filter_append,List.length_append]
 congr 1
 cases e:outM m x.2<;>simp [e]
theorem d_cut (F:FunAt K mg "cut" s_cut) (T:Txt K mg c) (TK:TxtK mg) (d_size_of:Def P w K mg base "size_of" 1 ["document"] (spSize c)) (d_next_change:Def P w K mg base "next_change" 1 ["document"] (spNext c))
  (d_is_untracked:Def P w K mg base "is_untracked" 2 ["document","piece"] (spUntracked K c)) (d_take_out:Def P w K mg base "take_out" 3 ["row","p","q"] (spTake K c))
  (d_enter_change:Def P w K mg base "enter_change" 1 ["document","kind","bearers"] (spEnter c)):Def P w K mg base "cut" 4 ["document","p","q"] (spCut K c):=by
 have sc:=zkC
 refine F.def sc (fun _ _ _ _ _ _=>ar3 fun _ _ _=>rfl) (fun vs H Q E h=>?_) (fun f cdv A outer s H vs Q E hr h=>?_)
 ·obtain ⟨d,r,ch,m,sh,hd,k,z,p,q,rfl,_⟩:=h
  rfl
 ·obtain ⟨d,r,ch,m,sh,hd,k,z,p,q,rfl,g,o⟩:=h
  have hsl:sizeLine=16777216:=sizeLine_eq
  obtain ⟨hsm,hshL,hchL⟩:=g.small
  have hne:=g.wf.ne
  refine ⟨_,(zab (zaC (zbE (zcJ zbg zcY zbg zaf (pv 1) (pv 2) (zaH zb4 (zap d_size_of (hr.mono (by decide)) rfl pass0 (zaa (pv 0) zac)) zaf)))
    (zad (zah (zal (zaa (zbm zaZ zaf) zac))))
    zaj)
   (zab (zar (i:=3) sc.nd rfl (by first | exact Or.inl rfl | exact Or.inr rfl) (zaJ (zaa (zap d_next_change (hr.mono (by decide)) rfl pass0 (zaa (pv 0) zac)) zac)))
   (zab (zar (i:=4) sc.nd rfl (by first | exact Or.inl rfl | exact Or.inr rfl) zaf)
   (zab (za7 PassesOwn.never rfl (zaW (zaP zaV (zae (zae (pv 0) rfl) rfl) (zaI (pv 1)) (zaI (pv 2)))) (zav (i:=5) sc.nd rfl (by first | exact Or.inl rfl | exact Or.inr rfl))
    (zad (zaC (zbE (zbD (zap d_is_untracked (hr.mono (by decide)) rfl pass0 (zaa (pv 0) (zaa (pv 5) zac)))))
     (zab (zat (pv 5) (pv 3) rfl)
     (zad (zb3 (i:=4) sc.nd rfl (by first | exact Or.inl rfl | exact Or.inr rfl) zaf zcr)))
     zaj)))
   (zab (zaq (zap d_take_out (hr.mono (by decide)) rfl pass0 (zaa (zae (pv 0) rfl) (zaa (pv 1) (zaa (pv 2) zac)))))
   (zad (zah (zap d_enter_change (hr.mono (by decide)) rfl pass0 (zaa (pv 0) (zaa (zay rfl TK.g_KIND_CUT) (zaa (pv 4) zac))))))))))),?_⟩
  have no:¬ (0≤p∧p < q∧q≤((sh.length - 1:Nat):Int))→∀ (l:Addr) (H':Hp),Same H H'→H l=none→H' l=some (.lst [.int (-1)])→Q (.ref l) H':=fun hw l H' s' n' g'=>by
   have e:Vatrka.step (st m sh hd) (.cut p q)=(st m sh hd,.refused 1):=by
    show Vatrka.stepCut _ _ _=_
    unfold Vatrka.stepCut
    rw [zaR g.wf,zcv hw]; rfl
   exact o.stay g (by rw [e]) (by rw [e]; rfl) s' n' g'
  refine ⟨_,rfl,_,_,rfl,rfl,_,rfl,?_⟩
  refine ite2 (fun h1=>?yes) (fun h1=>?no)
  case no =>
   have h1:¬ (0:Int)≤p:=fun z=>h1 (decide_eq_true z)
   refine iteT ?_
   exact ⟨_,rfl,by show 1≤sizeLine; decide,fun l H' s' n' g'=>no (by omega) l H' s' n' g'⟩
  have h1:(0:Int)≤p:=of_decide_eq_true h1
  refine ⟨_,rfl,_,_,rfl,rfl,_,rfl,?_⟩
  refine ite2 (fun h2=>?yes2) (fun h2=>?no2)
  case no2 =>
   have h2:¬ p < q:=fun z=>h2 (decide_eq_true z)
   refine iteT ?_
   exact ⟨_,rfl,by show 1≤sizeLine; decide,fun l H' s' n' g'=>no (by omega) l H' s' n' g'⟩
  have h2:p < q:=of_decide_eq_true h2
  refine ⟨_,rfl,d,r,ch,m,sh,hd,rfl,g.full.doc,g.full.row,_,_,rfl,rfl,_,_,rfl,rfl,_,rfl,?_⟩
  by_cases h3:q≤(sh.length:Int) - 1
  case neg =>
   rw [decide_eq_false h3]
   refine iteT ?_
   exact ⟨_,rfl,by show 1≤sizeLine; decide,fun l H' s' n' g'=>no (by omega) l H' s' n' g'⟩
  rw [decide_eq_true h3]
  refine iteF ?_
  obtain ⟨pn,rfl⟩:∃ pn:Nat,p=(pn:Int):=⟨p.toNat,by omega⟩
  obtain ⟨qn,rfl⟩:∃ qn:Nat,q=(qn:Int):=⟨q.toNat,by omega⟩
  have hpq:pn≤qn:=by omega
  have hq:qn < sh.length:=by omega
  have hq':=Nat.le_of_lt hq
  refine ⟨_,rfl,d,r,ch,m,rfl,g.full.doc,by show 1≤sizeLine; decide,fun t H1 s1 n1 g1=>?_⟩
  obtain ⟨dx,es,hD⟩:=g.full.doc
  obtain ⟨dr,sA,hA,gs,hR⟩:=g.full.row
  have hR1:=hR.same s1
  refine ⟨_,rfl,d,_,dx,_,_,rfl,s1 _ _ hD.obj,T.D.cl,T.D.no _ (by decide +kernel),zaS,r,_,dr,_,_,rfl,hR1.obj,T.R.cl,T.R.no _ (by decide +kernel),zaF,_,rfl,_,rfl,_,rfl,_,rfl,sA,_,rfl,SqL.of hR1.sl,fun sl H2 s2 n2 g2=>?_⟩
  rw [zcA,zbT,zbU] at g2
  have f2:=(g.full.same s1).same s2
  have t2:=s2 _ _ g1
  have nd:=g.wf.nd
  have ndm:(((sh.take qn).drop pn).map (·.1)).Nodup:=zcK (hd:=hd) nd
  have inA:∀ x∈(sh.take qn).drop pn,x∈all sh hd:=fun x hx=>List.mem_append_left _ (zaL hx)
  have slp:∀ x∈(sh.take qn).drop pn,x.1≠sl:=fun x hx=>by
   obtain ⟨dxp,lk2,sn,it,dt,pt,T2,h2⟩:=f2.pcs x (inA x hx)
   exact zbw h2.obj g2 (by intro z; cases z)
  have hf:∀ x,(cutA m x).1=x.1:=fun x=>rfl
  have mlen:((sh.take qn).drop pn).length=qn - pn:=by rw [List.length_drop,List.length_take]; omega
  refine ⟨sl,rfl,⟨_,SqL.of g2⟩,za8 (K:=K) (a:=sl) (xs:=refs ((sh.take qn).drop pn))
   (fun i σ H'=>∃ v:Option V,σ=[some (.ref d),some (.int pn),some (.int qn),some (.ref t),some (.int ((bearers m (((sh.take qn).drop pn).take i):Nat):Int)),v]∧Ext (fun b=>∃ x∈(sh.take qn).drop pn,b=x.1) H2 H' ∧
    Pcs K c H' ((((sh.take qn).drop pn).take i).map (cutA m))∧Pcs K c H' (((sh.take qn).drop pn).drop i))
   ⟨none,rfl,Ext.refl,(fun _ h=>absurd h (by simp)),fun x hx=>f2.pcs x (inA x hx)⟩ (fun i σ H' _ ⟨_,_,e,_⟩=>SqL.of (e.at g2 fun ⟨x,hx,z⟩=>slp x hx z.symm)) ?_ ?_⟩
  ·rintro i y σ H3 hi ⟨v,rfl,e,hp1,hp2⟩
   obtain ⟨x,hx,rfl⟩:=zau hi
   have xm:x∈(sh.take qn).drop pn:=List.mem_of_getElem? hx
   have hil:=(List.getElem?_eq_some_iff.mp hx).1
   have hdrop:((sh.take qn).drop pn).drop i=x::((sh.take qn).drop pn).drop (i+1):=by
    rw [List.drop_eq_getElem_cons hil,(List.getElem?_eq_some_iff.mp hx).2]
   have hpx:=hp2 x (by rw [hdrop]; exact List.mem_cons_self)
   have wx:=g.wf.pcs x (inA x xm)
   have hD3:DocAt c H3 d m r ch:=f2.doc.keep e (fun ⟨x,hx,z⟩=>f2.dp x (inA x hx) z.symm) (fun ⟨x,hx,z⟩=>f2.cp x (inA x hx) z.symm)
   refine ⟨_,rfl,_,rfl,d,x.1,r,ch,m,x.2,rfl,hD3,hpx,wx.ins,fun H4 s4=>?_⟩
   have e4:Ext (fun b=>∃ x∈(sh.take qn).drop pn,b=x.1) H2 H4:=e.trans s4.ext
   refine ⟨_,rfl,?_⟩
   have hp1':=hp1.same s4
   have hp2':=hp2.same s4
   obtain ⟨dxp,lk2,sn,it,dt,pt,T2,h2⟩:=hpx.keep (S:=fun _=>False) s4.ext (fun z=>z)
   have esn:bearers m (((sh.take qn).drop pn).take (i+1))=bearers m (((sh.take qn).drop pn).take i)+if outM m x.2=true then 0 else 1:=by rw [zam hx,zfZ]
   cases ho:outM m x.2 with
   | true =>
    refine iteF ?_
    rw [ho,if_pos rfl,Nat.add_zero] at esn
    have:=Pcs.turn (f:=cutA m) ndm hx hf (Ext.refl (S:=(·=x.1))) hp1' hp2' (by unfold cutA; rw [ho]; exact ⟨dxp,lk2,sn,it,dt,pt,T2,h2⟩)
    exact ⟨_,by rw [esn]; rfl,e4,this.1,this.2⟩
   | false =>
    refine iteT ?_
    refine ⟨_,rfl,_,rfl,x.1,_,dxp,_,rfl,h2.obj,T.P.cl,T.P.no _ (by decide +kernel),zaM,fun H5 e5 h5=>?_⟩
    refine ⟨_,rfl,_,_,rfl,rfl,?_⟩
    have hnew:PieceAt K c.P H5 x.1 (cutA m x).2:=by
     unfold cutA
     rw [ho]
     exact ⟨dxp,lk2,sn,it,t,pt,T2,h5,e5.sqT h2.look,e5.sqT h2.seen,e5.tup h2.ins,e5.tup (e4.tup t2),h2.pend.keep e5,h2.tags⟩
    have:=Pcs.turn (f:=cutA m) ndm hx hf e5 hp1' hp2' hnew
    rw [ho] at esn
    exact ⟨_,by rw [esn]; rfl,e4.trans (e5.mono fun b o' _ z _=>⟨x,xm,z⟩),this.1,this.2⟩
  ·rintro σ H3 ⟨v,rfl,e,hp1,_⟩
   rw [List.length_map,List.take_length] at hp1
   have eb:((sh.take qn).drop pn).take (refs ((sh.take qn).drop pn)).length=(sh.take qn).drop pn:=by rw [List.length_map,List.take_length]
   rw [eb]
   have f3:Full K c H3 d m r ch (shMid sh pn qn (cutA m)) hd:=f2.setMid nd hf hpq e hp1
   have hR3:RAt c H3 r (m.xs ch) (shMid sh pn qn (cutA m)) hd dr sA hA gs:=RAt.setMid f2 (hR1.same s2) hf hpq e
   obtain ⟨dx3,es3,hD3⟩:=f3.doc
   have hl1:(shMid sh pn qn (cutA m)).length=sh.length:=za2 hpq hq'
   refine ⟨_,rfl,d,_,dx3,_,_,rfl,hD3.obj,T.D.cl,T.D.no _ (by decide +kernel),zaS,_,rfl,_,rfl,r,_,pn,qn,shMid sh pn qn (cutA m),hd,dr,sA,hA,gs,rfl,hR3,f3.pcs,g.xa ((s1.ext.trans s2.ext).trans e),by rw [hl1]; exact hsm,by rw [hl1]; exact g.wf.len,hpq,by rw [hl1]; exact hq,fun H4 e4 hR4=>?_⟩
   have pm:=zbS (sh1:=shMid sh pn qn (cutA m)) (hd:=hd) (p:=pn) (q:=qn) (by rw [hl1]; exact g.wf.len) hpq (by rw [hl1]; exact hq)
   rw [zby hpq hq',zbz hpq hq'] at hR4 pm
   have f4:Full K c H4 d m r ch (sh.take pn++sh.drop qn) (hd.take pn++[leftOf (shMid sh pn qn (cutA m)) hd pn qn]++hd.drop (qn+1)) :=
    f3.setRowN hR3 e4 hR4 fun x hx=>(f3.pcs x (pm.mem_iff.mpr (List.mem_append_right _ hx))).keep e4 (hR3.pN (f3.pcs x (pm.mem_iff.mpr (List.mem_append_right _ hx))))
   have E4:Ext (Foot H d r ch sh hd) H H4:=((s1.ext.trans s2.ext).trans (e.mono fun b o' _ ⟨x,hx,z⟩ _=>.inr (.inr (.inr ⟨x,inA x hx,z⟩)))).trans (e4.mono fun b o' _ z _=>z.elim (fun z=>.inr (.inl z)) fun z=>.inl (.inr (hR.lstN z)))
   have erow:Vatrka.onStretch (Vatrka.cutPiece (st m sh hd)) pn qn (st m sh hd).row=flat (hs (hd.take pn++[leftOf (shMid sh pn qn (cutA m)) hd pn qn]++hd.drop (qn+1))) (ps (sh.take pn++sh.drop qn)) :=
    zgx g.wf.split hpq hq (zgX g.wf)
   have hany:=ziQ g.wf hpq hq
   have estep:Vatrka.step (st m sh hd) (.cut (pn:Int) (qn:Int))=Vatrka.answered (Vatrka.finish (st m sh hd) 2 (flat (hs (hd.take pn++[leftOf (shMid sh pn qn (cutA m)) hd pn qn]++hd.drop (qn+1))) (ps (sh.take pn++sh.drop qn)))):=by
    show Vatrka.stepCut _ _ _=_
    unfold Vatrka.stepCut
    rw [zaR g.wf,(zaU _ _ _).mpr (by omega),if_neg (by decide)]
    unfold Vatrka.doCut
    rw [← erow]
    rfl
   have hzL:=g.zL
   refine ⟨_,rfl,_,rfl,d,r,ch,m,2,bearers m ((sh.take qn).drop pn),rfl,f4.doc,by omega,fun hb H' l' s' n' h'=>?_,fun hb H' l' e' n' h' hD'=>?_⟩
   ·have efin:Vatrka.step (st m sh hd) (.cut (pn:Int) (qn:Int))=(st m (sh.take pn++sh.drop qn) (hd.take pn++[leftOf (shMid sh pn qn (cutA m)) hd pn qn]++hd.drop (qn+1)),.told [0]):=by
     rw [estep,zbq,hany,hb]
     rfl
    have hno:∀ x∈(sh.take qn).drop pn,outM m x.2=false→m.changes.length+1≤m.changes.length:=fun x hx hx0=>by
     exfalso
     have:x∈((sh.take qn).drop pn).filter fun x=>!outM m x.2:=List.mem_filter.mpr ⟨hx,by rw [hx0]; rfl⟩
     rw [List.length_eq_zero_iff.mp hb] at this
     cases this
    exact o H' l' m _ _ (E4.trans s'.ext) (E4.dom l' n') (by rw [efin]; exact h') (f4.same s') rfl (by rw [efin]) (zeu g.wf (by omega) hpq hq (.inl rfl) hf (zcO m) (zdX g.wf hno (Nat.le_refl _)))
   ·have efin:Vatrka.step (st m sh hd) (.cut (pn:Int) (qn:Int))=(st (m.enter 2) (sh.take pn++sh.drop qn) (hd.take pn++[leftOf (shMid sh pn qn (cutA m)) hd pn qn]++hd.drop (qn+1)),.told [m.changes.length+1]):=by
     rw [estep,zbq,hany,decide_eq_true hb]
     rfl
    have hml:(m.enter 2).changes.length=m.changes.length+1:=by unfold Mo.enter; simp
    exact o H' l' (m.enter 2) _ _ (E4.trans (e'.mono fun b o' _ z _=>.inr (.inr (.inl z)))) (E4.dom l' n') (by rw [efin]; exact h') (f4.setCh rfl e' hD') rfl (by rw [efin]) (zeu g.wf (by omega) hpq hq (.inr hml) hf (zcO m) (zdX g.wf (fun _ _ _=>by omega) (by omega)))
end
theorem zfn {sh:List AP} {p q:Nat} {f:AP→AP} (hpq:p≤q) (hq:q≤sh.length) (j:Nat):(shMid sh p q f)[j]?=(sh[j]?).map fun x=>if p≤j∧j < q then f x else x:=by
 unfold shMid
 have l1:(sh.take p).length=p:=by rw [List.length_take]; omega
 have l2:(((sh.take q).drop p).map f).length=q - p:=by rw [List.length_map,List.length_drop,List.length_take]; omega
 by_cases h1:j < p
 ·rw [List.append_assoc,List.getElem?_append_left (by omega),List.getElem?_take_of_lt h1,if_neg_map (by omega)]
 ·by_cases h2:j < q
  ·rw [List.getElem?_append_left (by rw [List.length_append]; omega),List.getElem?_append_right (by omega),l1,List.getElem?_map,List.getElem?_drop,List.getElem?_take_of_lt (by omega),show p+(j - p)=j by omega]
   congr 1
   funext x
   rw [if_pos ⟨by omega,h2⟩]
  ·rw [List.getElem?_append_right (by rw [List.length_append]; omega),List.length_append,l1,l2,List.getElem?_drop,show q+(j - (p+(q - p)))=j by omega,if_neg_map (by omega)]
where
 if_neg_map {sh:List AP} {j:Nat} {c:Prop} [Decidable c] {f:AP→AP} (h:¬ c):(sh[j]?).map (fun x=>if c then f x else x)=sh[j]?:=by
  have:(fun x:AP=>if c then f x else x)=id:=by funext x; rw [if_neg h]; rfl
  rw [this]
  simp
theorem zhv {k z:Nat} {m m':Mo} {sh:List AP} {hd:List (List AP)} {p q:Nat} {f:AP→AP} (w:Wf k z m sh hd) (hpq:p≤q) (hq:q≤sh.length) (hm:m'.changes.length=m.changes.length∨m'.changes.length=m.changes.length+1)
  (hf:∀ x,(f x).1=x.1) (hw:∀ x∈(sh.take q).drop p,WfP m'.changes.length (k+1) (f x).2) (hs':∀ x∈(sh.take q).drop p,(f x).2.del=[]∧(f x).2.sign=x.2.sign∧(f x).2.ins=x.2.ins) :
  Wf (k+1) z m' (shMid sh p q f) hd:=by
 have hfst:(all (shMid sh p q f) hd).map (·.1)=(all sh hd).map (·.1):=by
  unfold all
  rw [List.map_append,List.map_append,zcF hf hpq]
 refine ⟨⟨?_,?_,w.split.hd⟩,by rw [hfst]; exact w.nd,?_,?_,?_,?_,?_,?_⟩
 ·rw [List.length_map,List.length_map,za2 hpq hq]
  exact w.len
 ·intro x hx
  obtain ⟨y,hy,rfl⟩:=zb5 hx
  rcases zb8 hy with h | ⟨v,hv,rfl⟩
  ·exact w.split.sh _ (List.mem_map.mpr ⟨y,h,rfl⟩)
  ·exact (hs' v hv).1
 ·intro x hx
  rcases List.mem_append.mp hx with h | h
  ·rcases zb8 h with h | ⟨v,hv,rfl⟩
   ·exact (w.pcs x (List.mem_append_left _ h)).mono (by omega) (Nat.le_succ _)
   ·exact hw v hv
  ·exact (w.pcs x (List.mem_append_right _ h)).mono (by omega) (Nat.le_succ _)
 ·obtain ⟨x,hx,h1,h2⟩:=w.last
  rw [List.getLast?_eq_getElem?] at hx
  by_cases hc:p≤sh.length - 1∧sh.length - 1 < q
  ·have hmem:x∈(sh.take q).drop p:=by
    refine List.mem_of_getElem? (i:=sh.length - 1 - p) ?_
    rw [List.getElem?_drop,List.getElem?_take_of_lt (by omega),show p+(sh.length - 1 - p)=sh.length - 1 by omega]
    exact hx
   refine ⟨f x,?_,by rw [(hs' x hmem).2.1]; exact h1,by rw [(hs' x hmem).2.2]; exact h2⟩
   rw [List.getLast?_eq_getElem?,za2 hpq hq,zfn hpq hq,hx,Option.map_some,if_pos hc]
  ·refine ⟨x,?_,h1,h2⟩
   rw [List.getLast?_eq_getElem?,za2 hpq hq,zfn hpq hq,hx,Option.map_some,if_neg hc]
 ·have:=w.chs
  omega
 ·rw [za2 hpq hq]
  exact w.shL
 ·have:=w.hdL
  omega
 ·have e:std (shMid sh p q f)=std sh:=by
   unfold shMid
   rw [zaw,zaw,zey fun x hx=>(hs' x hx).2.2,← zaw,← zaw,zbo sh hpq]
  unfold all
  rw [zaw,e,← zaw]
  exact w.stL
theorem zjL {sh:List AP} {p q:Nat} {f:AP→AP} {g:Piece→Piece} (h:∀ x,(f x).2=g x.2):ps (shMid sh p q f)=(ps sh).take p++(((ps sh).take q).drop p).map g++(ps sh).drop q:=by
 have e:ps (((sh.take q).drop p).map f)=(((ps sh).take q).drop p).map g:=by
  rw [← zcb,← zcc]
  generalize (sh.take q).drop p=M
  induction M with
  | nil=>rfl
  | cons x M ih =>
   show (f x).2::ps (M.map f)=g x.2::(ps M).map g
   rw [ih,h x]
 unfold shMid
 rw [zaD,zaD,zcb,zcc,e]
def paintA (m:Mo) (sh:List AP) (hd:List (List AP)) (k v:Nat) (x:AP):AP:=(x.1,Vatrka.paintPiece (st m sh hd) k v x.2)
def painted (m:Mo) (k v:Nat) (x:AP):Bool:=!outM m x.2 && !(shownValue x.2 k == v)
theorem zeT {m:Mo} {sh:List AP} {hd:List (List AP)} {k v:Nat} {x:AP} (h:painted m k v x=false) {n kk:Nat} (w:WfP n kk x.2) (hk:k < 4):WfP n kk (paintA m sh hd k v x).2:=by
 unfold paintA Vatrka.paintPiece
 dsimp only
 rw [za5]
 unfold painted at h
 cases ho:outM m x.2 with
 | true =>
  rw [if_pos rfl]
  exact ⟨by rw [List.length_set]; exact w.look,w.ins,w.del,fun y hy=>w.pend y (List.mem_filter.mp hy).1,w.insL,w.delL,Nat.le_trans (List.length_filter_le _ _) w.pendL,w.tagsS,w.tagsR⟩
 | false =>
  rw [if_neg (by decide)]
  rw [ho] at h
  have:shownValue x.2 k=v:=by simpa using h
  rw [if_pos this]
  exact w
theorem zh6 {m:Mo} {sh:List AP} {hd:List (List AP)} {k v:Nat} {x:AP} {kk:Nat} (w:WfP m.changes.length kk x.2) (hk:k < 4):WfP (m.changes.length+1) (kk+1) (paintA m sh hd k v x).2:=by
 have w':=w.mono (Nat.le_succ _) (Nat.le_succ kk)
 cases h:painted m k v x with
 | false=>exact zeT h w' hk
 | true =>
  unfold painted at h
  have h1:outM m x.2=false:=by
   cases e:outM m x.2 with
   | false=>rfl
   | true=>rw [e] at h; cases h
  have h2:shownValue x.2 k≠v:=by
   rw [h1] at h
   simpa using h
  unfold paintA Vatrka.paintPiece
  dsimp only
  rw [za5,h1,if_neg (by decide),if_neg h2]
  refine ⟨w'.look,w'.ins,w'.del,fun y hy=>?_,w'.insL,w'.delL,?_,w'.tagsS,w'.tagsR⟩
  ·rcases List.mem_append.mp hy with hy | hy
   ·exact w'.pend y hy
   ·rw [List.mem_singleton.mp hy]
    exact ⟨Nat.le_refl _,hk⟩
  ·rw [List.length_append]
   have:=w.pendL
   show _+1≤_
   omega
theorem zgh (m:Mo) (sh:List AP) (hd:List (List AP)) (k v:Nat) (x:AP):(paintA m sh hd k v x).2.del=x.2.del∧(paintA m sh hd k v x).2.sign=x.2.sign∧(paintA m sh hd k v x).2.ins=x.2.ins:=by
 unfold paintA Vatrka.paintPiece
 dsimp only
 split
 ·exact ⟨rfl,rfl,rfl⟩
 ·split<;>exact ⟨rfl,rfl,rfl⟩
theorem zh7 {kk z:Nat} {m:Mo} {sh:List AP} {hd:List (List AP)} {p q k v:Nat} (w:Wf kk z m sh hd) (hpq:p≤q) (hq:q≤sh.length) (hk:k < 4) :
  (flat (hs hd) (ps (shMid sh p q (paintA m sh hd k v)))).any (Vatrka.bears (m.changes.length+1))=decide ((((sh.take q).drop p).filter (painted m k v)).length≠0):=by
 rw [zcm _ (by rw [List.length_map,List.length_map,za2 hpq hq]; exact w.len),zdP,← List.any_append,← zaD]
 rw [Bool.eq_iff_iff,List.any_eq_true,decide_eq_true_eq]
 constructor
 ·rintro ⟨x,hx,hb⟩ h0
  obtain ⟨y,hy,rfl⟩:=zb5 hx
  have:WfP m.changes.length kk y.2:=by
   rcases List.mem_append.mp hy with h | h
   ·rcases zb8 h with h | ⟨u,hu,rfl⟩
    ·exact w.pcs y (List.mem_append_left _ h)
    ·refine zeT ?_ (w.pcs u (List.mem_append_left _ (zaL hu))) hk
     cases e:painted m k v u with
     | false=>rfl
     | true =>
      have:u∈((sh.take q).drop p).filter (painted m k v):=List.mem_filter.mpr ⟨hu,e⟩
      rw [List.length_eq_zero_iff.mp h0] at this
      cases this
   ·exact w.pcs y (List.mem_append_right _ h)
  rw [zfa this] at hb
  cases hb
 ·intro h0
  obtain ⟨u,hu⟩:∃ u,u∈((sh.take q).drop p).filter (painted m k v):=by
   cases e:((sh.take q).drop p).filter (painted m k v) with
   | nil=>rw [e] at h0; exact absurd rfl h0
   | cons u _=>exact ⟨u,List.mem_cons_self⟩
  obtain ⟨hu1,hu2⟩:=List.mem_filter.mp hu
  unfold painted at hu2
  have h1:outM m u.2=false:=by
   cases e:outM m u.2 with
   | false=>rfl
   | true=>rw [e] at hu2; cases hu2
  have h2:shownValue u.2 k≠v:=by
   rw [h1] at hu2
   simpa using hu2
  have ev:(paintA m sh hd k v u).2.pend=u.2.pend++[⟨m.changes.length+1,k,v⟩]:=by
   unfold paintA Vatrka.paintPiece
   dsimp only
   rw [za5,h1,if_neg (by decide),if_neg h2]
   rfl
  refine ⟨(paintA m sh hd k v u).2,List.mem_map.mpr ⟨paintA m sh hd k v u,?_,rfl⟩,?_⟩
  ·refine List.mem_append_left _ ?_
   unfold shMid
   exact List.mem_append_left _ (List.mem_append_right _ (List.mem_map.mpr ⟨u,hu1,rfl⟩))
  ·unfold Vatrka.bears
   rw [ev]
   simp
section
variable {P:Program} {w:World} {K:PySem.W.Frag} {mg:Str→Option Value} {base:Heap} {c:Cs}
theorem zbx (z:Int) (lo hi:Nat):Vatrka.within z lo hi=true↔(lo:Int)≤z∧z≤(hi:Int):=by
 unfold Vatrka.within
 simp
theorem zcR {z:Int} {lo hi:Nat} (h:¬ ((lo:Int)≤z∧z≤(hi:Int))):Vatrka.within z lo hi=false:=by
 cases e:Vatrka.within z lo hi with
 | false=>rfl
 | true=>exact absurd ((zbx z lo hi).mp e) h
abbrev s_paint:Stmt:=top 49
theorem zjh:FnScope ["document","p","q","k","v","entry","bearers","piece"] ["document","p","q","k","v"] (defScope s_paint):=⟨rfl,rfl,rfl,by decide +kernel,rfl,by decide +kernel,by decide +kernel⟩
def spPaint (K:PySem.W.Frag) (c:Cs):Sp:=fun vs H Q _=>∃ (d r ch:Addr) (m:Mo) (sh:List AP) (hd:List (List AP)) (kk z:Nat) (p q k v:Int),vs=[.ref d,.int p,.int q,.int k,.int v]∧Given K c H d r ch m sh hd kk z 0∧Owes K c H d r ch m sh hd kk z 0 (.paint p q k v) Q
theorem zjf (x:Piece) {k:Nat} (hk:k < 4):(nums (shownLook x))[k]?=some (V.int ((shownValue x k:Nat):Int)):=by
 have:k=0∨k=1∨k=2∨k=3:=by omega
 rcases this with rfl | rfl | rfl | rfl<;>rfl
theorem zdT {α:Type} (f:α→Bool) (l:List α) (x:α):((l++[x]).filter f).length=(l.filter f).length+if f x=true then 1 else 0:=by
 rw [List.filter_append,List.length_append]
 congr 1
 cases e:f x<;>simp [e]
theorem d_paint (F:FunAt K mg "paint" s_paint) (T:Txt K mg c) (TK:TxtK mg) (d_size_of:Def P w K mg base "size_of" 1 ["document"] (spSize c)) (d_next_change:Def P w K mg base "next_change" 1 ["document"] (spNext c))
  (d_is_untracked:Def P w K mg base "is_untracked" 2 ["document","piece"] (spUntracked K c)) (d_paint_over:Def P w K mg base "paint_over" 2 ["piece","k","v"] (spPaintOver K c.P)) (d_add_pending:Def P w K mg base "add_pending" 2 ["piece","entry"] (spAddPending K c.P))
  (d_enter_change:Def P w K mg base "enter_change" 1 ["document","kind","bearers"] (spEnter c)):Def P w K mg base "paint" 3 ["document","p","q","k","v"] (spPaint K c):=by
 have sc:=zjh
 refine F.def sc (fun _ _ _ _ _ _=>ar5 fun _ _ _ _ _=>rfl) (fun vs H Q E h=>?_) (fun f cdv A outer s H vs Q E hr h=>?_)
 ·obtain ⟨d,r,ch,m,sh,hd,kk,z,p,q,k,v,rfl,_⟩:=h
  rfl
 ·obtain ⟨d,r,ch,m,sh,hd,kk,z,p,q,k,v,rfl,g,o⟩:=h
  have hsl:sizeLine=16777216:=sizeLine_eq
  obtain ⟨hsm,hshL,hchL⟩:=g.small
  have hkkL:=g.kL
  refine ⟨_,(zab (zaC (zbE (zcJ zbg zcY zbg zaf (pv 1) (pv 2) (zap d_size_of (hr.mono (by decide)) rfl pass0 (zaa (pv 0) zac))))
    (zad (zah (zal (zaa (zbm zaZ zaf) zac))))
    zaj)
   (zab (zaC (PW.pt (zg9 (zbE (zbk zbg zbg zaf (pv 3) zaf)) (zel (zbE (zbk zbg zbg zaf (pv 4) zaf)))))
    (zad (zah (zal (zaa (zbm zaZ zaf) zac))))
    zaj)
   (zab (zar (i:=5) sc.nd rfl (by first | exact Or.inl rfl | exact Or.inr rfl) (zaJ (zaa (zap d_next_change (hr.mono (by decide)) rfl pass0 (zaa (pv 0) zac)) (zaa (pv 3) (zaa (pv 4) zac)))))
   (zab (zar (i:=6) sc.nd rfl (by first | exact Or.inl rfl | exact Or.inr rfl) zaf)
   (zab (za7 PassesOwn.never rfl (zaW (zaP zaV (zae (zae (pv 0) rfl) rfl) (zaI (pv 1)) (zaI (pv 2)))) (zav (i:=7) sc.nd rfl (by first | exact Or.inl rfl | exact Or.inr rfl))
    (zad (zaC (zbD (zap d_is_untracked (hr.mono (by decide)) rfl pass0 (zaa (pv 0) (zaa (pv 7) zac))))
     (zad (zaq (zap d_paint_over (hr.mono (by decide)) rfl pass0 (zaa (pv 7) (zaa (pv 3) (zaa (pv 4) zac))))))
     (zad (zaC (zan zhe (zaE zen (zae (pv 7) rfl) (pv 3) (fun _ _=>rfl)) (pv 4) (nomark _))
      (zab (zaq (zap d_add_pending (hr.mono (by decide)) rfl pass0 (zaa (pv 7) (zaa (pv 5) zac))))
      (zad (zb3 (i:=6) sc.nd rfl (by first | exact Or.inl rfl | exact Or.inr rfl) zaf zcr)))
      zaj)))))
   (zad (zah (zap d_enter_change (hr.mono (by decide)) rfl pass0 (zaa (pv 0) (zaa (zay rfl TK.g_KIND_PAINT) (zaa (pv 6) zac))))))))))),?_⟩
  have no:¬ (0≤p∧p < q∧q≤(sh.length:Int))→∀ (l:Addr) (H':Hp),Same H H'→H l=none→H' l=some (.lst [.int (-1)])→Q (.ref l) H':=fun hw l H' s' n' g'=>by
   have e:Vatrka.step (st m sh hd) (.paint p q k v)=(st m sh hd,.refused 1):=by
    show Vatrka.stepPaint _ _ _ _ _=_
    unfold Vatrka.stepPaint
    rw [zaR g.wf,zcv hw]; rfl
   exact o.stay g (by rw [e]) (by rw [e]; rfl) s' n' g'
  refine ⟨_,rfl,_,_,rfl,rfl,_,rfl,?_⟩
  refine ite2 (fun h1=>?yes) (fun h1=>?no)
  case no =>
   have h1:¬ (0:Int)≤p:=fun z=>h1 (decide_eq_true z)
   refine iteT ?_
   exact ⟨_,rfl,by show 1≤sizeLine; decide,fun l H' s' n' g'=>no (by omega) l H' s' n' g'⟩
  have h1:(0:Int)≤p:=of_decide_eq_true h1
  refine ⟨_,rfl,_,_,rfl,rfl,_,rfl,?_⟩
  refine ite2 (fun h2=>?yes2) (fun h2=>?no2)
  case no2 =>
   have h2:¬ p < q:=fun z=>h2 (decide_eq_true z)
   refine iteT ?_
   exact ⟨_,rfl,by show 1≤sizeLine; decide,fun l H' s' n' g'=>no (by omega) l H' s' n' g'⟩
  have h2:p < q:=of_decide_eq_true h2
  refine ⟨_,rfl,d,r,ch,m,sh,hd,rfl,g.full.doc,g.full.row,_,_,rfl,rfl,_,rfl,?_⟩
  by_cases h3:q≤(sh.length:Int)
  case neg =>
   rw [decide_eq_false h3]
   refine iteT ?_
   exact ⟨_,rfl,by show 1≤sizeLine; decide,fun l H' s' n' g'=>no (by omega) l H' s' n' g'⟩
  rw [decide_eq_true h3]
  refine iteF ?_
  obtain ⟨pn,rfl⟩:∃ pn:Nat,p=(pn:Int):=⟨p.toNat,by omega⟩
  obtain ⟨qn,rfl⟩:∃ qn:Nat,q=(qn:Int):=⟨q.toNat,by omega⟩
  have hpq:pn≤qn:=by omega
  have hq:qn≤sh.length:=by omega
  have no2:(Vatrka.within k 0 3 && Vatrka.within v 0 99)=false→∀ (l:Addr) (H':Hp),Same H H'→H l=none→H' l=some (.lst [.int (-2)])→Q (.ref l) H':=fun hw l H' s' n' g'=>by
   have e:Vatrka.step (st m sh hd) (.paint (pn:Int) (qn:Int) k v)=(st m sh hd,.refused 2):=by
    show Vatrka.stepPaint _ _ _ _ _=_
    unfold Vatrka.stepPaint
    rw [zaR g.wf,(zaU _ _ _).mpr ⟨h1,h2,h3⟩,if_neg (by decide),if_pos hw]
   exact o.stay g (by rw [e]) (by rw [e]; rfl) s' n' g'
  have kno:¬ (0≤k∧k≤3)→∀ (l:Addr) (H':Hp),Same H H'→H l=none→H' l=some (.lst [.int (-2)])→Q (.ref l) H':=fun hw=>no2 (by rw [zcR (z:=k) (lo:=0) (hi:=3) (by omega),Bool.false_and])
  have vno:¬ (0≤v∧v≤99)→∀ (l:Addr) (H':Hp),Same H H'→H l=none→H' l=some (.lst [.int (-2)])→Q (.ref l) H':=fun hw=>no2 (by rw [zcR (z:=v) (lo:=0) (hi:=99) (by omega),Bool.and_false])
  refine ⟨_,rfl,_,_,rfl,rfl,_,rfl,?_⟩
  refine ite2 (fun k1=>?ky) (fun k1=>?kn)
  case kn =>
   have k1:¬ (0:Int)≤k:=fun z=>k1 (decide_eq_true z)
   refine ⟨_,rfl,?_⟩
   refine iteT ?_
   refine iteT ?_
   exact ⟨_,rfl,by show 1≤sizeLine; decide,fun l H' s' n' g'=>kno (by omega) l H' s' n' g'⟩
  have k1:(0:Int)≤k:=of_decide_eq_true k1
  refine ⟨_,_,rfl,rfl,_,rfl,?_⟩
  by_cases k2:k≤3
  case neg =>
   rw [decide_eq_false k2]
   refine iteT ?_
   refine iteT ?_
   exact ⟨_,rfl,by show 1≤sizeLine; decide,fun l H' s' n' g'=>kno (by omega) l H' s' n' g'⟩
  rw [decide_eq_true k2]
  refine iteF ?_
  refine ⟨_,rfl,_,_,rfl,rfl,_,rfl,?_⟩
  refine ite2 (fun v1=>?vy) (fun v1=>?vn)
  case vn =>
   have v1:¬ (0:Int)≤v:=fun z=>v1 (decide_eq_true z)
   refine ⟨_,rfl,?_⟩
   refine iteT ?_
   exact ⟨_,rfl,by show 1≤sizeLine; decide,fun l H' s' n' g'=>vno (by omega) l H' s' n' g'⟩
  have v1:(0:Int)≤v:=of_decide_eq_true v1
  refine ⟨_,_,rfl,rfl,_,rfl,?_⟩
  by_cases v2:v≤99
  case neg =>
   rw [decide_eq_false v2]
   refine iteT ?_
   exact ⟨_,rfl,by show 1≤sizeLine; decide,fun l H' s' n' g'=>vno (by omega) l H' s' n' g'⟩
  rw [decide_eq_true v2]
  refine iteF ?_
  obtain ⟨kn,rfl⟩:∃ kn:Nat,k=(kn:Int):=⟨k.toNat,by omega⟩
  obtain ⟨vn,rfl⟩:∃ vn:Nat,v=(vn:Int):=⟨v.toNat,by omega⟩
  have hk4:kn < 4:=by omega
  refine ⟨_,rfl,d,r,ch,m,rfl,g.full.doc,_,rfl,_,rfl,by show 3≤sizeLine; decide,fun t H1 s1 n1 g1=>?_⟩
  obtain ⟨dx,es,hD⟩:=g.full.doc
  obtain ⟨dr,sA,hA,gs,hR⟩:=g.full.row
  have hR1:=hR.same s1
  refine ⟨_,rfl,d,_,dx,_,_,rfl,s1 _ _ hD.obj,T.D.cl,T.D.no _ (by decide +kernel),zaS,r,_,dr,_,_,rfl,hR1.obj,T.R.cl,T.R.no _ (by decide +kernel),zaF,_,rfl,_,rfl,_,rfl,_,rfl,sA,_,rfl,SqL.of hR1.sl,fun sl H2 s2 n2 g2=>?_⟩
  rw [zcA,zbT,zbU] at g2
  have f2:=(g.full.same s1).same s2
  have t2:=s2 _ _ g1
  have nd:=g.wf.nd
  have ndm:(((sh.take qn).drop pn).map (·.1)).Nodup:=zcK (hd:=hd) nd
  have inA:∀ x∈(sh.take qn).drop pn,x∈all sh hd:=fun x hx=>List.mem_append_left _ (zaL hx)
  have slp:∀ x∈(sh.take qn).drop pn,x.1≠sl:=fun x hx=>by
   obtain ⟨dxp,lk2,sn,it,dt,pt,T2,h2⟩:=f2.pcs x (inA x hx)
   exact zbw h2.obj g2 (by intro z; cases z)
  have hf:∀ x,(paintA m sh hd kn vn x).1=x.1:=fun x=>rfl
  refine ⟨sl,rfl,⟨_,SqL.of g2⟩,za8 (K:=K) (a:=sl) (xs:=refs ((sh.take qn).drop pn))
   (fun i σ H'=>∃ u:Option V,σ=[some (.ref d),some (.int pn),some (.int qn),some (.int kn),some (.int vn),some (.ref t),some (.int (((((sh.take qn).drop pn).take i).filter (painted m kn vn)).length:Int)),u]∧Ext (fun b=>∃ x∈(sh.take qn).drop pn,b=x.1) H2 H' ∧
    Pcs K c H' ((((sh.take qn).drop pn).take i).map (paintA m sh hd kn vn))∧Pcs K c H' (((sh.take qn).drop pn).drop i))
   ⟨none,rfl,Ext.refl,(fun _ h=>absurd h (by simp)),fun x hx=>f2.pcs x (inA x hx)⟩ (fun i σ H' _ ⟨_,_,e,_⟩=>SqL.of (e.at g2 fun ⟨x,hx,z⟩=>slp x hx z.symm)) ?_ ?_⟩
  ·rintro i y σ H3 hi ⟨u,rfl,e,hp1,hp2⟩
   obtain ⟨x,hx,rfl⟩:=zau hi
   have xm:x∈(sh.take qn).drop pn:=List.mem_of_getElem? hx
   have hil:=(List.getElem?_eq_some_iff.mp hx).1
   have hdrop:((sh.take qn).drop pn).drop i=x::((sh.take qn).drop pn).drop (i+1):=by
    rw [List.drop_eq_getElem_cons hil,(List.getElem?_eq_some_iff.mp hx).2]
   have hpx:=hp2 x (by rw [hdrop]; exact List.mem_cons_self)
   have wx:=g.wf.pcs x (inA x xm)
   have wpL:=wx.pendL
   have hD3:DocAt c H3 d m r ch:=f2.doc.keep e (fun ⟨x,hx,z⟩=>f2.dp x (inA x hx) z.symm) (fun ⟨x,hx,z⟩=>f2.cp x (inA x hx) z.symm)
   refine ⟨_,rfl,_,rfl,d,x.1,r,ch,m,x.2,rfl,hD3,hpx,wx.ins,fun H4 s4=>?_⟩
   have e4:Ext (fun b=>∃ x∈(sh.take qn).drop pn,b=x.1) H2 H4:=e.trans s4.ext
   refine ⟨_,rfl,?_⟩
   have hp1':=hp1.same s4
   have hp2':=hp2.same s4
   have hpx':=hpx.keep (S:=fun _=>False) s4.ext (fun z=>z)
   have esn:((((sh.take qn).drop pn).take (i+1)).filter (painted m kn vn)).length=((((sh.take qn).drop pn).take i).filter (painted m kn vn)).length+if painted m kn vn x=true then 1 else 0:=by rw [zam hx,zdT]
   cases ho:outM m x.2 with
   | true =>
    refine iteT ?_
    have hpn:painted m kn vn x=false:=by unfold painted; rw [ho]; rfl
    rw [hpn] at esn
    refine ⟨_,rfl,_,rfl,_,rfl,x.1,x.2,kn,vn,rfl,hpx',hk4,wx.look,by omega,fun H5 e5 h5=>?_⟩
    have hnew:PieceAt K c.P H5 x.1 (paintA m sh hd kn vn x).2:=by
     unfold paintA Vatrka.paintPiece
     dsimp only
     rw [za5,ho,if_pos rfl]
     exact h5
    have:=Pcs.turn (f:=paintA m sh hd kn vn) ndm hx hf e5 hp1' hp2' hnew
    exact ⟨_,by rw [esn]; rfl,e4.trans (e5.mono fun b o' _ z _=>⟨x,xm,z⟩),this.1,this.2⟩
   | false =>
    refine iteF ?_
    obtain ⟨dxp,lk2,sn,it,dt,pt,T2,h2'⟩:=hpx'
    refine ⟨_,rfl,x.1,_,dxp,_,_,rfl,h2'.obj,T.P.cl,T.P.no _ (by decide +kernel),zce,_,rfl,sn,_,_,_,rfl,rfl,h2'.seen,zas (j:=kn) (zjf x.2 hk4),_,rfl,rfl,_,rfl,?_⟩
    have edec:(!decide (V.int ((shownValue x.2 kn:Nat):Int)=V.int (vn:Int))) = !(shownValue x.2 kn == vn):=by
     rw [zbH]
     congr 1
     rw [Bool.eq_iff_iff]
     simp
     omega
    rw [edec]
    have hpn:painted m kn vn x = !(shownValue x.2 kn == vn):=by unfold painted; rw [ho]; rfl
    rw [hpn] at esn
    cases hv:(shownValue x.2 kn == vn) with
    | true =>
     refine iteF ?_
     have hve:shownValue x.2 kn=vn:=by simpa using hv
     have hnew:PieceAt K c.P H4 x.1 (paintA m sh hd kn vn x).2:=by
      unfold paintA Vatrka.paintPiece
      dsimp only
      rw [za5,ho,if_neg (by decide),if_pos hve]
      exact ⟨dxp,lk2,sn,it,dt,pt,T2,h2'⟩
     have:=Pcs.turn (f:=paintA m sh hd kn vn) ndm hx hf (Ext.refl (S:=(·=x.1))) hp1' hp2' hnew
     rw [hv] at esn
     exact ⟨_,by rw [esn]; rfl,e4,this.1,this.2⟩
    | false =>
     refine iteT ?_
     have hve:shownValue x.2 kn≠vn:=by simpa using hv
     refine ⟨_,rfl,_,rfl,x.1,t,x.2,m.changes.length+1,kn,vn,rfl,⟨dxp,lk2,sn,it,dt,pt,T2,h2'⟩,e4.tup t2,hk4,by omega,fun H5 e5 h5=>?_⟩
     refine ⟨_,rfl,_,_,rfl,rfl,?_⟩
     have hnew:PieceAt K c.P H5 x.1 (paintA m sh hd kn vn x).2:=by
      unfold paintA Vatrka.paintPiece
      dsimp only
      rw [za5,ho,if_neg (by decide),if_neg hve]
      exact h5
     have:=Pcs.turn (f:=paintA m sh hd kn vn) ndm hx hf e5 hp1' hp2' hnew
     rw [hv] at esn
     exact ⟨_,by rw [esn]; rfl,e4.trans (e5.mono fun b o' _ z _=>⟨x,xm,z⟩),this.1,this.2⟩
  ·rintro σ H3 ⟨u,rfl,e,hp1,_⟩
   rw [List.length_map,List.take_length] at hp1
   have eb:((sh.take qn).drop pn).take (refs ((sh.take qn).drop pn)).length=(sh.take qn).drop pn:=by rw [List.length_map,List.take_length]
   rw [eb]
   have f3:Full K c H3 d m r ch (shMid sh pn qn (paintA m sh hd kn vn)) hd:=f2.setMid nd hf hpq e hp1
   have E3:Ext (Foot H d r ch sh hd) H H3:=(s1.ext.trans s2.ext).trans (e.mono fun b o' _ ⟨x,hx,z⟩ _=>.inr (.inr (.inr ⟨x,inA x hx,z⟩)))
   have erow:Vatrka.onStretch (fun x=>[Vatrka.paintPiece (st m sh hd) kn vn x]) pn qn (st m sh hd).row=flat (hs hd) (ps (shMid sh pn qn (paintA m sh hd kn vn))):=by
    show Vatrka.onStretch _ pn qn (flat (hs hd) (ps sh))=_
    rw [zib (Vatrka.paintPiece (st m sh hd) kn vn) pn qn g.wf.split hpq (by rw [List.length_map]; exact hq),zjL (g:=Vatrka.paintPiece (st m sh hd) kn vn) (fun x=>rfl)]
   have hany:=zh7 (k:=kn) (v:=vn) g.wf hpq hq hk4
   have estep:Vatrka.step (st m sh hd) (.paint (pn:Int) (qn:Int) (kn:Int) (vn:Int))=Vatrka.answered (Vatrka.finish (st m sh hd) 3 (flat (hs hd) (ps (shMid sh pn qn (paintA m sh hd kn vn))))):=by
    show Vatrka.stepPaint _ _ _ _ _=_
    unfold Vatrka.stepPaint
    rw [zaR g.wf,(zaU _ _ _).mpr ⟨h1,h2,h3⟩,if_neg (by decide),(zbx _ 0 3).mpr (by omega),(zbx _ 0 99).mpr (by omega),if_neg (by decide)]
    unfold Vatrka.doPaint
    rw [← erow]
    rfl
   have hkeep:∀ x∈(sh.take qn).drop pn,(paintA m sh hd kn vn x).2.del=[]∧(paintA m sh hd kn vn x).2.sign=x.2.sign∧(paintA m sh hd kn vn x).2.ins=x.2.ins:=fun x hx=>by
    obtain ⟨a1,a2,a3⟩:=zgh m sh hd kn vn x
    exact ⟨by rw [a1]; exact g.wf.split.sh _ (List.mem_map.mpr ⟨x,zaL hx,rfl⟩),a2,a3⟩
   refine ⟨_,rfl,_,rfl,d,r,ch,m,3,(((sh.take qn).drop pn).filter (painted m kn vn)).length,rfl,f3.doc,by omega,fun hb H' l' s' n' h'=>?_,fun hb H' l' e' n' h' hD'=>?_⟩
   ·have efin:Vatrka.step (st m sh hd) (.paint (pn:Int) (qn:Int) (kn:Int) (vn:Int))=(st m (shMid sh pn qn (paintA m sh hd kn vn)) hd,.told [0]):=by
     rw [estep,zbq,hany,hb]
     rfl
    refine o H' l' m _ _ (E3.trans s'.ext) (E3.dom l' n') (by rw [efin]; exact h') (f3.same s') rfl (by rw [efin]) (zhv g.wf hpq hq (.inl rfl) hf (fun x hx=>?_) hkeep)
    refine (zeT ?_ (g.wf.pcs x (inA x hx)) hk4).mono (Nat.le_refl _) (Nat.le_succ _)
    cases e0:painted m kn vn x with
    | false=>rfl
    | true =>
     have:x∈((sh.take qn).drop pn).filter (painted m kn vn):=List.mem_filter.mpr ⟨hx,e0⟩
     rw [List.length_eq_zero_iff.mp hb] at this
     cases this
   ·have efin:Vatrka.step (st m sh hd) (.paint (pn:Int) (qn:Int) (kn:Int) (vn:Int))=(st (m.enter 3) (shMid sh pn qn (paintA m sh hd kn vn)) hd,.told [m.changes.length+1]):=by
     rw [estep,zbq,hany,decide_eq_true hb]
     rfl
    have hml:(m.enter 3).changes.length=m.changes.length+1:=by unfold Mo.enter; simp
    exact o H' l' (m.enter 3) _ _ (E3.trans (e'.mono fun b o' _ z _=>.inr (.inr (.inl z)))) (E3.dom l' n') (by rw [efin]; exact h') (f3.setCh rfl e' hD') rfl (by rw [efin]) (zhv g.wf hpq hq (.inr hml) hf (fun x hx=>by rw [hml]; exact zh6 (g.wf.pcs x (inA x hx)) hk4) hkeep)
end
end Tt
end
section
namespace Tt
open PySem PySem.Spec PyProof.Rows L2
theorem zgR {K:PySem.W.Frag} {a b:Addr} {xs ys:List V} {g:TG} {tb:TS} {D:Ends} {σ:L2.St} {H:Hp} (Pv:Nat→L2.St→Hp→Prop) (hlen:xs.length=ys.length) (h0:Pv 0 σ H) (hl:∀ i σ H,i≤xs.length→Pv i σ H→SqL K H a xs∧SqL K H b ys)
  (hs:∀ i x y σ H T H1,xs[i]?=some x→ys[i]?=some y→Pv i σ H→Same H H1→H1 T=some (.tup [x,y])→g (.ref T) σ H1 fun σ2 H2=>tb { D with nx:=Pv (i+1),ct:=Pv (i+1),bk:=D.nx } σ2 H2) (hd:∀ σ H,Pv xs.length σ H→D.nx σ H) :
  ∃ W:Nat→Nat→L2.St→Hp→Prop,(∃ m,W 0 m σ H)∧∀ i m σ H,W i m σ H →
   ((Itz K a b).stop i H∧D.nx σ H)∨((Itz K a b).go i H∧∃ N:L2.St→Hp→Prop,(∀ σ' H',N σ' H'→∃ m',m' < m∧W (i+1) m' σ' H')∧∀ x H',(Itz K a b).yld i H x H'→g x σ H' fun σ2 H2=>tb { D with nx:=N,ct:=N,bk:=D.nx } σ2 H2):=by
 refine ⟨fun i m σ H=>m=xs.length - i∧i≤xs.length∧Pv i σ H,⟨xs.length,by simp,Nat.zero_le _,h0⟩,?_⟩
 rintro i m σ H ⟨rfl,hi,p⟩
 obtain ⟨q1,q2⟩:=hl i σ H hi p
 by_cases hlt:i < xs.length
 ·have hlt2:i < ys.length:=by omega
  refine .inr ⟨⟨xs,ys,xs[i],ys[i],q1,q2,by simp [hlt],by simp [hlt2]⟩,Pv (i+1),fun σ' H' p'=>⟨xs.length - (i+1),by omega,rfl,hlt,p'⟩,fun v H' y=>?_⟩
  obtain ⟨T,x,y,e1,e2,e3,y1,y2⟩:=y
  subst e1 e3
  exact hs i x y σ H T _ (y1 xs q1) (y2 ys q2) p (zaz e2) zai
 ·have e:i=xs.length:=by omega
  subst e
  exact .inl ⟨⟨xs,ys,q1,q2,.inl (Nat.le_refl _)⟩,hd σ H p⟩
theorem zfK {K:PySem.W.Frag} {a:Addr} {xs:List V} {g:TG} {tb:TS} {D:Ends} {σ:L2.St} {H:Hp} (Pv:Nat→L2.St→Hp→Prop) (h0:Pv 0 σ H) (hl:∀ i σ H,i≤xs.length→Pv i σ H→SqL K H a xs)
  (hs:∀ i x σ H T H1,xs[i]?=some x→Pv i σ H→Same H H1→H1 T=some (.tup [.int (i:Nat),x])→g (.ref T) σ H1 fun σ2 H2=>tb { D with nx:=Pv (i+1),ct:=Pv (i+1),bk:=D.nx } σ2 H2) (hd:∀ σ H,Pv xs.length σ H→D.nx σ H) :
  ∃ W:Nat→Nat→L2.St→Hp→Prop,(∃ m,W 0 m σ H)∧∀ i m σ H,W i m σ H →
   ((Ite K a).stop i H∧D.nx σ H)∨((Ite K a).go i H∧∃ N:L2.St→Hp→Prop,(∀ σ' H',N σ' H'→∃ m',m' < m∧W (i+1) m' σ' H')∧∀ x H',(Ite K a).yld i H x H'→g x σ H' fun σ2 H2=>tb { D with nx:=N,ct:=N,bk:=D.nx } σ2 H2):=by
 refine ⟨fun i m σ H=>m=xs.length - i∧i≤xs.length∧Pv i σ H,⟨xs.length,by simp,Nat.zero_le _,h0⟩,?_⟩
 rintro i m σ H ⟨rfl,hi,p⟩
 have q1:=hl i σ H hi p
 by_cases hlt:i < xs.length
 ·refine .inr ⟨⟨xs,xs[i],q1,by simp [hlt]⟩,Pv (i+1),fun σ' H' p'=>⟨xs.length - (i+1),by omega,rfl,hlt,p'⟩,fun v H' y=>?_⟩
  obtain ⟨T,x,e1,e2,e3,y1⟩:=y
  subst e1 e3
  exact hs i x σ H T _ (y1 xs q1) p (zaz e2) zai
 ·have e:i=xs.length:=by omega
  subst e
  exact .inl ⟨⟨xs,q1,Nat.le_refl _⟩,hd σ H p⟩
end Tt
end
section
namespace Tt
open PySem PySem.Spec PyProof.Rows L2
open Vatrka (Piece Pending Change shownLook shownValue marked)
section
variable {P:Program} {w:World} {K:PySem.W.Frag} {mg:Str→Option Value} {base:Heap} {c:Cs}
def keyOf (l:List Nat):List Key:=l.map fun (n:Nat)=>Sum.inl (n:Int)
theorem zhj (l:List Nat):(keyOf l).map kV=nums l:=by
 unfold keyOf
 rw [List.map_map]
 rfl
def LongAt (H:Hp) (ld:Addr) (n b:Nat):Prop:=∃ kvs:List (List Key×V),H ld=some (.dT kvs)∧kvs.length≤b∧∀ l v,valV kvs (keyOf l)=some v→∃ t,v = .ref t∧H t=some (.tup (nums (l++[n])))
theorem LongAt.keep {H H':Hp} {ld:Addr} {n b:Nat} {S:Addr→Prop} (e:Ext S H H') (hn:¬ S ld) (h:LongAt H ld n b):LongAt H' ld n b:=by
 obtain ⟨kvs,h1,h2,h3⟩:=h
 refine ⟨kvs,e.at h1 hn,h2,fun l v hv=>?_⟩
 obtain ⟨t,rfl,ht⟩:=h3 l v hv
 exact ⟨t,rfl,e.tup ht⟩
theorem zir {l m:List Nat} (h:keyOf l=keyOf m):l=m:=by
 unfold keyOf at h
 induction l generalizing m with
 | nil =>
  cases m with
  | nil=>rfl
  | cons _ _=>cases h
 | cons a l ih =>
  cases m with
  | nil=>cases h
  | cons b m =>
   rw [List.map_cons,List.map_cons] at h
   injection h with h1 h2
   injection h1 with h1
   rw [ih h2,Int.ofNat.inj h1]
abbrev s_lengthened:Stmt:=top 52
theorem zeG:FnScope ["longer","insertions","change"] ["longer","insertions","change"] (defScope s_lengthened):=⟨rfl,rfl,rfl,by decide +kernel,rfl,by decide +kernel,by decide +kernel⟩
def spLonger:Sp:=fun vs H Q _=>∃ (ld it:Addr) (is:List Nat) (n b:Nat),vs=[.ref ld,.ref it,.int n]∧LongAt H ld n b∧b < sizeLine∧H it=some (.tup (nums is))∧is.length < sizeLine ∧
 ∀ H' t,Ext (·=ld) H H'→LongAt H' ld n (b+1)→H' t=some (.tup (nums (is++[n])))→Q (.ref t) H'
theorem d_lengthened (F:FunAt K mg "lengthened" s_lengthened):Def P w K mg base "lengthened" 1 ["longer","insertions","change"] spLonger:=by
 have sc:=zeG
 refine F.def sc (fun _ _ _ _ _ _=>ar3 fun _ _ _=>rfl) (fun vs H Q E h=>?_) (fun f cdv A outer s H vs Q E hr h=>?_)
 ·obtain ⟨ld,it,is,n,b,rfl,_⟩:=h
  rfl
 ·obtain ⟨ld,it,is,n,b,rfl,⟨kvs,hd,hb,hv⟩,hbl,hit,hil,k⟩:=h
  have hu:=zkZ hr
  refine ⟨_,(zab (zaC (zhS (zfB hu (pv 1) (pv 0)) (by with_unfolding_all rfl))
    (zad (zhT hu (pv 0) (pv 1) (zaH zeU (pv 1) (zaJ (zaa (pv 2) zac))) rfl))
    zaj)
   (zad (zah (zh4 hu (pv 0) (pv 1) (fun _ _=>rfl))))),?_⟩
  have hit':H it=some (.tup ((keyOf is).map kV)):=by rw [zhj]; exact hit
  refine ⟨_,rfl,_,rfl,ld,_,rfl,DGet.t hd hit',_,rfl,?_⟩
  cases hval:valV kvs (keyOf is) with
  | some v =>
   refine iteF ?_
   obtain ⟨t,rfl,ht⟩:=hv is v hval
   refine ⟨_,rfl,_,rfl,ld,.ref t,rfl,by have:=DGet.t hd hit'; rw [hval] at this; exact this,?_⟩
   exact k H t Ext.refl ⟨kvs,hd,by omega,hv⟩ ht
  | none =>
   refine iteT ?_
   refine ⟨_,rfl,_,rfl,by show 1≤sizeLine; decide,fun p1 H1 s1 n1 g1=>?_⟩
   refine ⟨it,p1,_,_,rfl,rfl,SqT.of (s1 _ _ hit),SqT.of g1,?_,fun p2 H2 s2 _ g2=>?_⟩
   ·rw [List.length_map]
    exact hil
   have g2:H2 p2=some (.tup (nums (is++[n]))):=by
    rw [g2 (s1 _ _ hit) g1]
    unfold nums
    rw [List.map_append]
    rfl
   have s02:=s1.trans s2
   have hd2:=s02 _ _ hd
   have hit2:=s02 _ _ hit'
   refine ⟨_,rfl,_,rfl,ld,_,rfl,DPut.t hd2 hit2 (by omega),?_⟩
   have e3:Ext (·=ld) H2 (upd H2 ld (.dT (putK kvs (keyOf is) (.ref p2)))):=zbG hd2 (fun z=>z) rfl
   have h3:upd H2 ld (.dT (putK kvs (keyOf is) (.ref p2))) ld=some (.dT (putK kvs (keyOf is) (.ref p2))):=zai
   generalize upd H2 ld (.dT (putK kvs (keyOf is) (.ref p2)))=H3 at e3 h3 ⊢
   refine ⟨_,rfl,_,rfl,ld,.ref p2,rfl,by have:=DGet.t h3 (e3.tup hit2); rw [zdj,if_pos rfl] at this; exact this,?_⟩
   refine k H3 p2 (s02.ext.trans e3) ⟨_,h3,?_,fun l v hv'=>?_⟩ (e3.tup g2)
   ·rw [zgC _ hval,List.length_append]
    show _+1≤_
    omega
   ·rw [zdj] at hv'
    by_cases e:keyOf l=keyOf is
    ·rw [if_pos e] at hv'
     have:=Option.some.inj hv'
     subst this
     rw [zir e]
     exact ⟨p2,rfl,e3.tup g2⟩
    ·rw [if_neg e] at hv'
     obtain ⟨t,rfl,ht⟩:=hv l v hv'
     exact ⟨t,rfl,e3.tup ((s02.ext (S:=fun _=>False)).tup ht)⟩
end
section
variable {P:Program} {w:World} {K:PySem.W.Frag} {mg:Str→Option Value} {base:Heap} {c:Cs}
def stayA (b:AP→Bool) (n:Nat) (x:AP):AP:=(x.1,if b x=true then x.2 else { x.2 with del:=[n] })
def goP (b:AP→Bool) (n:Nat) (x:AP):Piece:=if b x=true then x.2 else { x.2 with ins:=x.2.ins++[n],del:=[] }
abbrev s_pieces_that_come:Stmt:=top 51
theorem zcw:FnScope ["stretch","untracked","change","deletions","longer","comers","piece","alone"] ["stretch","untracked","change"] (defScope s_pieces_that_come):=⟨rfl,rfl,rfl,by decide +kernel,rfl,by decide +kernel,by decide +kernel⟩
def spCome (K:PySem.W.Frag) (c:Cs):Sp:=fun vs H Q _=>∃ (sl ul:Addr) (n:Nat) (L:List AP) (b:AP→Bool),vs=[.ref sl,.ref ul,.int n]∧H sl=some (.lst (refs L))∧H ul=some (.lst ((L.map b).map V.bl))∧Pcs K c H L∧(L.map (·.1)).Nodup∧L.length < sizeLine∧(∀ x∈L,x.2.look.length=4∧x.2.ins.length < sizeLine) ∧
 ∀ H' l come,Ext (fun a=>∃ x∈L,a=x.1) H H'→H l=none→H' l=some (.lst (refs come))→Pcs K c H' (L.map (stayA b n))→Pcs K c H' come→ps come=L.map (goP b n)→(come.map (·.1)).Nodup→(∀ y∈come,(y∈L∧b y=true)∨H y.1=none)→Q (.ref l) H'
theorem d_pieces_that_come (F:FunAt K mg "pieces_that_come" s_pieces_that_come) (T:Txt K mg c) (d_copy_with:Def P w K mg base "copy_with" 3 ["piece","insertions"] (spCopy K c.P)) (d_lengthened:Def P w K mg base "lengthened" 1 ["longer","insertions","change"] spLonger) :
  Def P w K mg base "pieces_that_come" 4 ["stretch","untracked","change"] (spCome K c):=by
 have sc:=zcw
 refine F.def sc (fun _ _ _ _ _ _=>ar3 fun _ _ _=>rfl) (fun vs H Q E h=>?_) (fun f cdv A outer s H vs Q E hr h=>?_)
 ·obtain ⟨sl,ul,n,L,b,rfl,_⟩:=h
  rfl
 ·obtain ⟨sl,ul,n,L,b,rfl,hsl,hul,hpc,hnd,hLl,hL4,k⟩:=h
  refine ⟨_,(zab (zar (i:=3) sc.nd rfl (by first | exact Or.inl rfl | exact Or.inr rfl) (zaJ (zaa (pv 2) zac)))
   (zab (zar (i:=4) sc.nd rfl (by first | exact Or.inl rfl | exact Or.inr rfl) zjn)
   (zab (zar (i:=5) sc.nd rfl (by first | exact Or.inl rfl | exact Or.inr rfl) (zal zac))
   (zab (za7 PassesOwn.never rfl (zjM rfl T.b_zip (zaa (pv 0) (zaa (pv 1) zac))) (zfy rfl (zbl (zav (i:=6) sc.nd rfl (by first | exact Or.inl rfl | exact Or.inr rfl)) (zbl (zav (i:=7) sc.nd rfl (by first | exact Or.inl rfl | exact Or.inr rfl)) zdG)))
    (zad (zaC (zbD (pv 7))
     (zad (zaq (zba PySem.F.plainAttrs_list PySem.F.slot_list_append PySem.F.type_list_append zbd (pv 5) (zaa (pv 6) zac))))
     (zab (zaq (zba PySem.F.plainAttrs_list PySem.F.slot_list_append PySem.F.type_list_append zbd (pv 5) (zaa (zap d_copy_with (hr.mono (by decide)) rfl pass0 (zaa (pv 6) (zaa (zap d_lengthened (hr.mono (by decide)) rfl pass0 (zaa (pv 4) (zaa (zae (pv 6) rfl) (zaa (pv 2) zac)))) zac))) zac)))
     (zad (zat (pv 6) (pv 3) rfl))))))
   (zad (zah (pv 5))))))),?_⟩
  refine ⟨_,rfl,by show 1≤sizeLine; decide,fun dt H1 s1 n1 g1=>?_⟩
  intro ld nld
  have s2:Same H1 (upd H1 ld (.dT [])):=zaz nld
  have hld2:upd H1 ld (.dT []) ld=some (.dT []):=zai
  generalize upd H1 ld (.dT [])=H2 at s2 hld2 ⊢
  refine ⟨Nat.zero_le _,fun cl H3 s3 ncl gcl=>?_⟩
  have s03:=(s1.trans s2).trans s3
  have hld3:=s3 _ _ hld2
  have ldcl:ld≠cl:=zag hld2 ncl
  have nldH:H ld=none:=s1.free nld
  have nclH:H cl=none:=(s1.trans s2).free ncl
  have inH:∀ x∈L,∃ o,H x.1=some o:=fun x hx=>by
   obtain ⟨dxp,lk,sn,it,dt,pt,T,h2⟩:=hpc x hx
   exact ⟨_,h2.obj⟩
  have xld:∀ x∈L,x.1≠ld:=fun x hx=>by obtain ⟨o,ho⟩:=inH x hx; exact zag ho nldH
  have xcl:∀ x∈L,x.1≠cl:=fun x hx=>by obtain ⟨o,ho⟩:=inH x hx; exact zag ho nclH
  have slL:∀ x∈L,sl≠x.1:=fun x hx=>by
   obtain ⟨dxp,lk,sn,it,dt,pt,T,h2⟩:=hpc x hx
   exact zbw hsl h2.obj (by intro z; cases z)
  have ulL:∀ x∈L,ul≠x.1:=fun x hx=>by
   obtain ⟨dxp,lk,sn,it,dt,pt,T,h2⟩:=hpc x hx
   exact zbw hul h2.obj (by intro z; cases z)
  have hf:∀ x,(stayA b n x).1=x.1:=fun x=>rfl
  refine ⟨_,rfl,_,rfl,sl,ul,_,_,rfl,SqL.of (s03 _ _ hsl),SqL.of (s03 _ _ hul),zgR (K:=K) (a:=sl) (b:=ul) (xs:=refs L) (ys:=(L.map b).map V.bl)
   (fun i σ H'=>∃ (v6 v7:Option V) (come:List AP),σ=[some (.ref sl),some (.ref ul),some (.int n),some (.ref dt),some (.ref ld),some (.ref cl),v6,v7]∧Ext (fun a=>(∃ x∈L,a=x.1)∨a=ld∨a=cl) H3 H'∧H' cl=some (.lst (refs come))∧LongAt H' ld n i ∧
    Pcs K c H' ((L.take i).map (stayA b n))∧Pcs K c H' (L.drop i)∧Pcs K c H' come∧ps come=(L.take i).map (goP b n)∧(come.map (·.1)).Nodup∧∀ y∈come,(y∈L.take i∧b y=true)∨(H3 y.1=none))
   (by rw [List.length_map,List.length_map,List.length_map]) ⟨none,none,[],rfl,Ext.refl,gcl,⟨[],hld3,Nat.le_refl _,fun l v h=>by cases h⟩,(fun _ h=>absurd h (by simp)),hpc.same s03,(fun _ h=>absurd h (by simp)),rfl,List.nodup_nil,(fun _ h=>absurd h (by simp))⟩
   (fun i σ H' _ ⟨_,_,_,_,e,_⟩=>⟨SqL.of (e.at (s03 _ _ hsl) ?_),SqL.of (e.at (s03 _ _ hul) ?_)⟩) ?_ ?_⟩
  ·rintro (⟨x,hx,z⟩ | z | z)
   ·exact slL x hx z
   ·rw [z,nldH] at hsl; cases hsl
   ·rw [z,nclH] at hsl; cases hsl
  ·rintro (⟨x,hx,z⟩ | z | z)
   ·exact ulL x hx z
   ·rw [z,nldH] at hul; cases hul
   ·rw [z,nclH] at hul; cases hul
  ·rintro i yv bv σ H4 tt H5 hi hbi ⟨v6,v7,come,rfl,e,hcl,hlong,hp1,hp2,hpcome,hpsc,hndc,hcm⟩ s5 htt
   obtain ⟨x,hx,rfl⟩:=zau hi
   obtain ⟨bb,hbb,rfl⟩:=zau hbi
   have hbb:bb=b x:=by
    rw [List.getElem?_map,hx] at hbb
    exact (Option.some.inj hbb).symm
   subst hbb
   have xm:x∈L:=List.mem_of_getElem? hx
   have hil:=(List.getElem?_eq_some_iff.mp hx).1
   have hdrop:L.drop i=x::L.drop (i+1):=by
    rw [List.drop_eq_getElem_cons hil,(List.getElem?_eq_some_iff.mp hx).2]
   have hclen:come.length=i:=by
    have:=congrArg List.length hpsc
    rw [List.length_map,List.length_map,List.length_take] at this
    omega
   have e5:Ext (fun a=>(∃ x∈L,a=x.1)∨a=ld∨a=cl) H3 H5:=e.trans s5.ext
   have hcl5:=s5 _ _ hcl
   have hp15:=hp1.same s5
   have hp25:=hp2.same s5
   have hpc5:=hpcome.same s5
   have hpx:=hp25 x (by rw [hdrop]; exact List.mem_cons_self)
   have hlong5:LongAt H5 ld n i:=hlong.keep (S:=fun _=>False) s5.ext (fun z=>z)
   obtain ⟨kvs5,hld5,_⟩:=id hlong5
   have clnp:∀ y∈come,y.1≠cl:=fun y hy=>by
    obtain ⟨dxp,lk,sn,it,dt',pt,T',h2⟩:=hpc5 y hy
    exact zbw h2.obj hcl5 (by intro z; cases z)
   have ldnp:∀ y∈come,y.1≠ld:=fun y hy=>by
    obtain ⟨dxp,lk,sn,it,dt',pt,T',h2⟩:=hpc5 y hy
    exact zbw h2.obj hld5 (by intro z; cases z)
   have xnc:b x=true→∀ y∈come,y.1≠x.1:=fun _ y hy=>by
    rcases hcm y hy with ⟨hy1,_⟩ | hy1
    ·obtain ⟨j,hj⟩:=List.mem_iff_getElem?.mp hy1
     have hji:j < i:=by
      have:=(List.getElem?_eq_some_iff.mp hj).1
      rw [List.length_take] at this
      omega
     rw [List.getElem?_take_of_lt hji] at hj
     intro z
     have:=zjq hnd (i:=j) (j:=i) (x:=x.1) (by rw [List.getElem?_map,hj,← z]; rfl) (by rw [List.getElem?_map,hx]; rfl)
     omega
    ·intro z
     obtain ⟨o,ho⟩:=inH x xm
     rw [z,s03 _ _ ho] at hy1
     cases hy1
   have grow:∀ y∈come,(y∈L.take (i+1)∧b y=true)∨(H3 y.1=none):=fun y hy=>(hcm y hy).imp (fun z=>⟨by rw [zam hx]; exact List.mem_append_left _ z.1,z.2⟩) id
   refine ⟨tt,_,rfl,SqT.of htt,rfl,_,_,rfl,_,_,rfl,rfl,?_⟩
   refine ⟨_,rfl,_,rfl,?_⟩
   cases hb:b x with
   | true =>
    refine iteT ?_
    refine ⟨_,rfl,.inl ⟨rfl,_,SqL.of hcl5⟩,_,rfl,cl,_,_,rfl,rfl,hcl5,by rw [List.length_map]; omega,fun H6 e6 h6=>?_⟩
    have hcl6n:∀ {y:AP},y∈L→y.1≠cl:=fun {y} hy=>xcl y hy
    have hst:PieceAt K c.P H6 x.1 (stayA b n x).2:=by unfold stayA; rw [hb]; exact hpx.keep e6 (xcl x xm)
    have e6x:Ext (·=x.1) H6 H6:=Ext.refl
    have hp16:Pcs K c H6 ((L.take i).map (stayA b n)):=hp15.keep e6 fun y hy=>(by obtain ⟨y',hy',rfl⟩:=List.mem_map.mp hy; exact xcl y' (List.mem_of_mem_take hy'))
    have hp26:Pcs K c H6 (L.drop i):=hp25.keep e6 fun y hy=>xcl y (List.mem_of_mem_drop hy)
    have tn:=Pcs.turn (f:=stayA b n) hnd hx hf e6x hp16 hp26 hst
    refine ⟨_,_,come++[x],rfl,e5.trans (e6.mono fun a o' _ z _=>.inr (.inr z)),?_,(hlong5.keep e6 ldcl).imp fun kvs h=>⟨h.1,by omega,h.2.2⟩,tn.1,tn.2,?_,?_,?_,?_⟩
    ·rw [h6]
     simp only [refs,List.map_append,List.map_cons,List.map_nil]
    ·intro y hy
     rcases List.mem_append.mp hy with hy | hy
     ·exact (hpc5 y hy).keep e6 (clnp y hy)
     ·rw [List.mem_singleton.mp hy]
      exact hpx.keep e6 (xcl x xm)
    ·rw [zaD,hpsc,zam hx,List.map_append]
     show _++[x.2]=_++[goP b n x]
     unfold goP
     rw [hb,if_pos rfl]
    ·rw [List.map_append]
     refine List.nodup_append.mpr ⟨hndc,by simp,fun a ha a' ha'=>?_⟩
     have:a'=x.1:=by simpa using ha'
     subst this
     obtain ⟨y,hy,rfl⟩:=List.mem_map.mp ha
     exact xnc hb y hy
    ·intro y hy
     rcases List.mem_append.mp hy with hy | hy
     ·exact grow y hy
     ·rw [List.mem_singleton.mp hy]
      exact .inl ⟨by rw [zam hx]; exact List.mem_append_right _ (by simp),hb⟩
   | false =>
    refine iteF ?_
    obtain ⟨dxp,lk,sn,it,dtx,pt,T2,h2⟩:=hpx
    obtain ⟨hl4,hinsl⟩:=hL4 x xm
    refine ⟨_,rfl,.inl ⟨rfl,_,SqL.of hcl5⟩,_,rfl,_,rfl,_,rfl,x.1,_,dxp,_,_,rfl,h2.obj,T.P.cl,T.P.no _ (by decide +kernel),zcq,_,rfl,ld,it,x.2.ins,n,i,rfl,hlong5,by omega,h2.ins,hinsl,fun H6 t6 e6 hlong6 ht6=>?_⟩
    have hpx6:PieceAt K c.P H6 x.1 x.2:=PieceAt.keep e6 (xld x xm) ⟨dxp,lk,sn,it,dtx,pt,T2,h2⟩
    refine ⟨x.1,t6,x.2,x.2.ins++[n],rfl,hpx6,hl4,ht6,fun H7 nb s7 nnb hnb=>?_⟩
    have hcl7:=s7 _ _ (e6.at hcl5 ldcl.symm)
    refine ⟨cl,_,_,rfl,rfl,hcl7,by rw [List.length_map]; omega,fun H8 e8 h8=>?_⟩
    have nbcl:nb≠cl:=fun z=>by rw [z,e6.at hcl5 ldcl.symm] at nnb; cases nnb
    obtain ⟨dxp8,lk8,sn8,it8,dtx8,pt8,T8,h28⟩:=(hpx6.keep (S:=fun _=>False) s7.ext (fun z=>z)).keep e8 (xcl x xm)
    refine ⟨_,rfl,_,rfl,x.1,_,dxp8,_,rfl,h28.obj,T.P.cl,T.P.no _ (by decide +kernel),zaM,fun H9 e9 h9=>?_⟩
    have nbx:nb≠x.1:=fun z=>by
     obtain ⟨_,_,_,_,_,_,_,h⟩:=hpx6
     have h:=h.obj
     rw [← z,nnb] at h
     cases h
    have dt9:H9 dt=some (.tup [.int n]):=e9.tup (e8.tup ((s7.ext (S:=fun _=>False)).tup (e6.tup (e5.tup (s3 _ _ (s2 _ _ g1))))))
    have hst:PieceAt K c.P H9 x.1 (stayA b n x).2:=by
     unfold stayA
     rw [hb]
     exact ⟨dxp8,lk8,sn8,it8,dt,pt8,T8,h9,e9.sqT h28.look,e9.sqT h28.seen,e9.tup h28.ins,dt9,h28.pend.keep e9,h28.tags⟩
    have lift:∀ {y:AP},y.1≠ld→y.1≠cl→PieceAt K c.P H5 y.1 y.2→PieceAt K c.P H8 y.1 y.2:=fun {y} h1 h2 h=>((h.keep e6 h1).keep (S:=fun _=>False) s7.ext (fun z=>z)).keep e8 h2
    have hp18:Pcs K c H8 ((L.take i).map (stayA b n)):=fun y hy=>lift (by obtain ⟨y',hy',rfl⟩:=List.mem_map.mp hy; exact xld y' (List.mem_of_mem_take hy')) (by obtain ⟨y',hy',rfl⟩:=List.mem_map.mp hy; exact xcl y' (List.mem_of_mem_take hy')) (hp15 y hy)
    have hp28:Pcs K c H8 (L.drop i):=fun y hy=>lift (xld y (List.mem_of_mem_drop hy)) (xcl y (List.mem_of_mem_drop hy)) (hp25 y hy)
    have tn:=Pcs.turn (f:=stayA b n) hnd hx hf e9 hp18 hp28 hst
    have ycx:∀ y∈come,y.1≠x.1:=fun y hy=>by
     rcases hcm y hy with ⟨hy1,hy2⟩ | hy1
     ·obtain ⟨j,hj⟩:=List.mem_iff_getElem?.mp hy1
      have hji:j < i:=by
       have:=(List.getElem?_eq_some_iff.mp hj).1
       rw [List.length_take] at this
       omega
      rw [List.getElem?_take_of_lt hji] at hj
      intro z
      have:=zjq hnd (i:=j) (j:=i) (x:=x.1) (by rw [List.getElem?_map,hj,← z]; rfl) (by rw [List.getElem?_map,hx]; rfl)
      omega
     ·intro z
      obtain ⟨o,ho⟩:=inH x xm
      rw [z,s03 _ _ ho] at hy1
      cases hy1
    have nb3:H3 nb=none:=e5.dom nb (e6.dom nb nnb)
    refine ⟨_,_,come++[(nb,goP b n x)],rfl,?_,?_,?_,tn.1,tn.2,?_,?_,?_,?_⟩
    ·exact (((e5.trans (e6.mono fun a o' _ z _=>.inr (.inl z))).trans s7.ext).trans (e8.mono fun a o' _ z _=>.inr (.inr z))).trans (e9.mono fun a o' _ z _=>.inl ⟨x,xm,z⟩)
    ·rw [e9.at h8 (xcl x xm).symm]
     simp only [refs,List.map_append,List.map_cons,List.map_nil]
    ·exact ((hlong6.keep (S:=fun _=>False) s7.ext (fun z=>z)).keep e8 ldcl).keep e9 (xld x xm).symm
    ·intro y hy
     rcases List.mem_append.mp hy with hy | hy
     ·exact (lift (ldnp y hy) (clnp y hy) (hpc5 y hy)).keep e9 (ycx y hy)
     ·rw [List.mem_singleton.mp hy]
      have:PieceAt K c.P H7 nb (goP b n x):=by unfold goP; rw [hb]; exact hnb
      exact (this.keep e8 nbcl).keep e9 nbx
    ·rw [zaD,hpsc,zam hx,List.map_append]
     rfl
    ·rw [List.map_append]
     refine List.nodup_append.mpr ⟨hndc,by simp,fun a ha a' ha'=>?_⟩
     have:a'=nb:=by simpa using ha'
     subst this
     obtain ⟨y,hy,rfl⟩:=List.mem_map.mp ha
     intro z
     obtain ⟨_,_,_,_,_,_,_,h⟩:=(hpc5 y hy).keep e6 (ldnp y hy)
     have h:=h.obj
     rw [z,nnb] at h
     cases h
    ·intro y hy
     rcases List.mem_append.mp hy with hy | hy
     ·exact grow y hy
     ·rw [List.mem_singleton.mp hy]
      exact .inr nb3
  ·rintro σ H4 ⟨v6,v7,come,rfl,e,hcl,hlong,hp1,hp2,hpcome,hpsc,hndc,hcm⟩
   have el:(refs L).length=L.length:=List.length_map ..
   rw [el,List.take_length] at hp1 hpsc
   refine ⟨_,rfl,k H4 cl come ?_ nclH hcl hp1 hpcome hpsc hndc fun y hy=>?_⟩
   ·refine ⟨fun a o' ha hs=>e a o' (s03 _ _ ha) fun z=>?_,fun a ha=>s03.free (e.dom a ha)⟩
    rcases z with z | z | z
    ·exact hs z
    ·rw [z,nldH] at ha; cases ha
    ·rw [z,nclH] at ha; cases ha
   ·rcases hcm y hy with ⟨h1,h2⟩ | h1
    ·exact .inl ⟨List.mem_of_mem_take h1,h2⟩
    ·exact .inr (s03.free h1)
end
abbrev shT (sh:List AP) (p q:Nat):List AP:=sh.take p++sh.drop q
abbrev hdT (m:Mo) (sh:List AP) (hd:List (List AP)) (p q:Nat):List (List AP):=hd.take p++[leftOf (shMid sh p q (cutA m)) hd p q]++hd.drop (q+1)
theorem zkw (l:List AP):std l=((ps l).filter Vatrka.stood).length:=by
 unfold std ps
 rw [List.filter_map,List.length_map]
 rfl
theorem zfS {m:Mo}:∀ {M:List AP},(∀ x∈M,x.2.del=[])→((M.map (goP (fun x=>outM m x.2) (m.changes.length+1))).filter Vatrka.stood).length≤std ((M.map (cutA m)).filter fun x=>x.2.del.isEmpty)
 | [],_=>Nat.le_refl _
 | x::M,h=>by
  have ih:=zfS (m:=m) (M:=M) fun y hy=>h y (List.mem_cons_of_mem _ hy)
  have hx:=h x List.mem_cons_self
  cases ho:outM m x.2 with
  | true =>
   have e1:goP (fun x=>outM m x.2) (m.changes.length+1) x=x.2:=if_pos ho
   have e2:cutA m x=x:=by unfold cutA; rw [ho,if_pos rfl]
   have e3:x.2.del.isEmpty=true:=by rw [hx]; rfl
   rw [List.map_cons,List.map_cons,e1,e2,List.filter_cons,List.filter_cons,if_pos e3]
   unfold std at ih ⊢
   rw [List.filter_cons]
   split
   ·rw [List.length_cons,List.length_cons]
    omega
   ·exact ih
  | false =>
   have e1:Vatrka.stood (goP (fun x=>outM m x.2) (m.changes.length+1) x)=false:=by
    have e0:goP (fun x=>outM m x.2) (m.changes.length+1) x={ x.2 with ins:=x.2.ins++[m.changes.length+1],del:=[] }:=if_neg (by show ¬ outM m x.2=true; rw [ho]; decide)
    rw [e0]
    unfold Vatrka.stood
    dsimp only
    cases x.2.ins<;>rfl
   have e2:(cutA m x).2.del.isEmpty=false:=by unfold cutA; rw [ho,if_neg (by decide)]; rfl
   rw [List.map_cons,List.map_cons,List.filter_cons,List.filter_cons,if_neg (by rw [e1]; decide),if_neg (by rw [e2]; decide)]
   exact ih
theorem zjC {m:Mo} {M come:List AP} (h:∀ x∈M,x.2.del=[]) (hcp:ps come=M.map (goP (fun x=>outM m x.2) (m.changes.length+1))):std come≤std ((M.map (cutA m)).filter fun x=>x.2.del.isEmpty):=by
 rw [zkw,hcp]
 exact zfS h
theorem zhu {k z:Nat} {m m':Mo} {sh come:List AP} {hd:List (List AP)} {p q i:Nat} (w:Wf k z m sh hd) (hz:z≤17000) (hpq:p≤q) (hq:q < sh.length) (hi:i < (shT sh p q).length) (hm:m'.changes.length=m.changes.length∨m'.changes.length=m.changes.length+1)
  (hw:∀ x∈(sh.take q).drop p,(cutA m x).2.del≠[]→WfP m'.changes.length (k+1) (cutA m x).2) (hc:∀ x∈come,x.2.del=[]∧WfP m'.changes.length (k+1) x.2) (hcl:come.length=q - p) (hcp:ps come=((sh.take q).drop p).map (goP (fun x=>outM m x.2) (m.changes.length+1)))
  (nd:((come++all (shT sh p q) (hdT m sh hd p q)).map (·.1)).Nodup) :
  Wf (k+1) z m' ((shT sh p q).take i++come++(shT sh p q).drop i) ((hdT m sh hd p q).take (i+1)++List.replicate come.length []++(hdT m sh hd p q).drop (i+1)):=by
 have wT:Wf (k+1) z m' (shT sh p q) (hdT m sh hd p q):=zeu w hz hpq hq hm (fun x=>rfl) (zcO m) hw
 have w2:=zjI (m':=m') (new:=come) (p:=i) wT hi (.inl rfl) (fun x hx=>⟨(hc x hx).1,(hc x hx).2.mono (Nat.le_refl _) (Nat.le_succ _)⟩) nd
 refine ⟨w2.split,w2.nd,fun x hx=>?_,w2.last,wT.chs,?_,?_,?_⟩
 ·rcases List.mem_append.mp ((zck (shT sh p q) come (hdT m sh hd p q) i come.length).mem_iff.mp hx) with h | h
  ·exact (hc x h).2
  ·exact wT.pcs x h
 ·have:=w.shL
  simp only [List.length_append,List.length_take,List.length_drop] at hi ⊢
  omega
 ·rw [zb0]
  exact wT.hdL
 ·have e1:=zgr (f:=cutA m) w.len (zcO m) hpq hq
  rw [zex (zck (shT sh p q) come (hdT m sh hd p q) i come.length),zaw]
  have e2:=zjC (m:=m) (come:=come) (fun x hx=>w.split.sh _ (List.mem_map.mpr ⟨x,zaL hx,rfl⟩)) hcp
  have e3:=w.stL
  have e4:std (all (shT sh p q) (hdT m sh hd p q))=std (all (sh.take p++sh.drop q) (hd.take p++[leftOf (shMid sh p q (cutA m)) hd p q]++hd.drop (q+1))):=rfl
  omega
theorem zjr {k z:Nat} {m:Mo} {sh come:List AP} {hd:List (List AP)} {p q i:Nat} (w:Wf k z m sh hd) (hpq:p≤q) (hq:q < sh.length) (hi:i < (shT sh p q).length) (hcp:ps come=((sh.take q).drop p).map (goP (fun x=>outM m x.2) (m.changes.length+1))) :
  (flat (hs ((hdT m sh hd p q).take (i+1)++List.replicate come.length []++(hdT m sh hd p q).drop (i+1))) (ps ((shT sh p q).take i++come++(shT sh p q).drop i))).any (Vatrka.bears (m.changes.length+1))=decide (bearers m ((sh.take q).drop p)≠0):=by
 have hl:=w.len
 have hlT:(hdT m sh hd p q).length=(shT sh p q).length:=by
  simp only [List.length_append,List.length_take,List.length_drop,List.length_cons,List.length_nil]
  omega
 have hT:=ziQ w hpq hq
 rw [zcm _ (by rw [List.length_map,List.length_map]; exact hlT),zdP,← List.any_append,← zaD] at hT
 rw [zcm _ (by
  simp only [List.length_map,List.length_append,List.length_take,List.length_drop,List.length_replicate,List.length_cons,List.length_nil] at hi ⊢
  omega),zdP,← List.any_append,← zaD]
 have pm:=zck (shT sh p q) come (hdT m sh hd p q) i come.length
 have e1:(ps ((shT sh p q).take i++come++(shT sh p q).drop i++((hdT m sh hd p q).take (i+1)++List.replicate come.length []++(hdT m sh hd p q).drop (i+1)).flatten)).any (Vatrka.bears (m.changes.length+1)) =
   ((ps come).any (Vatrka.bears (m.changes.length+1)) || (ps (all (shT sh p q) (hdT m sh hd p q))).any (Vatrka.bears (m.changes.length+1))):=by
  have e:=(pm.map (·.2)).any_eq (f:=Vatrka.bears (m.changes.length+1))
  refine Eq.trans e ?_
  show (ps (come++all (shT sh p q) (hdT m sh hd p q))).any _=_
  rw [zaD come,List.any_append]
 rw [e1,hT]
 by_cases hb:bearers m ((sh.take q).drop p)=0
 ·rw [hb]
  have:(ps come).any (Vatrka.bears (m.changes.length+1))=false:=by
   rw [hcp]
   refine zg0 (k:=k) fun x hx=>?_
   obtain ⟨y,hy,rfl⟩:=List.mem_map.mp hx
   have hy0:outM m y.2=true:=by
    cases e:outM m y.2 with
    | true=>rfl
    | false =>
     have:y∈((sh.take q).drop p).filter fun x=>!outM m x.2:=List.mem_filter.mpr ⟨hy,by rw [e]; rfl⟩
     rw [List.length_eq_zero_iff.mp hb] at this
     cases this
   unfold goP
   rw [if_pos hy0]
   exact w.pcs y (List.mem_append_left _ (zaL hy))
  rw [this]
  rfl
 ·rw [decide_eq_true hb,Bool.or_true]
theorem ziT {k z:Nat} {m:Mo} {sh come:List AP} {hd:List (List AP)} {p q:Nat} (w:Wf k z m sh hd) {n':Nat} (hn':∀ x∈(sh.take q).drop p,outM m x.2=false→m.changes.length+1≤n') (hm:m.changes.length≤n')
  (hcp:ps come=((sh.take q).drop p).map (goP (fun x=>outM m x.2) (m.changes.length+1))):∀ x∈come,x.2.del=[]∧WfP n' (k+1) x.2:=fun x hx=>by
 have hx':x.2∈ps come:=List.mem_map.mpr ⟨x,hx,rfl⟩
 rw [hcp] at hx'
 obtain ⟨y,hy,e⟩:=List.mem_map.mp hx'
 rw [← e]
 have wy:=w.pcs y (List.mem_append_left _ (zaL hy))
 have wy':=wy.mono hm (Nat.le_succ k)
 have dy:=w.split.sh _ (List.mem_map.mpr ⟨y,zaL hy,rfl⟩)
 unfold goP
 dsimp only
 by_cases ho:outM m y.2=true
 ·rw [if_pos ho]
  exact ⟨dy,wy'⟩
 ·rw [if_neg ho]
  have ho:outM m y.2=false:=by simpa using ho
  refine ⟨rfl,wy'.look,fun i hi=>?_,fun i hi=>(by cases hi),wy'.pend,?_,Nat.zero_le _,wy'.pendL,wy'.tagsS,wy'.tagsR⟩
  ·rcases List.mem_append.mp hi with hi | hi
   ·exact wy'.ins i hi
   ·have:=List.mem_singleton.mp hi
    have:=hn' y hy ho
    omega
  ·rw [List.length_append]
   have:=wy.insL
   show _+1≤_
   omega
theorem zhm {k z:Nat} {m:Mo} {sh:List AP} {hd:List (List AP)} {p q:Nat} (w:Wf k z m sh hd):(Vatrka.stretch p q (st m sh hd).row).map (Vatrka.carried (st m sh hd))=((sh.take q).drop p).map (goP (fun x=>outM m x.2) (m.changes.length+1)):=by
 show (Vatrka.stretch p q (flat (hs hd) (ps sh))).map _=_
 rw [zc8 w.split,← List.drop_take,← zcb,← zcc]
 unfold ps
 rw [List.map_map]
 refine List.map_congr_left fun x hx=>?_
 show Vatrka.carried (st m sh hd) x.2=_
 unfold Vatrka.carried goP
 rw [za5]
 have dx:=w.split.sh _ (List.mem_map.mpr ⟨x,zaL hx,rfl⟩)
 split
 ·rfl
 ·rw [← dx]
  rfl
section
variable {P:Program} {w:World} {K:PySem.W.Frag} {mg:Str→Option Value} {base:Heap} {c:Cs}
abbrev s_move:Stmt:=top 50
theorem zj3:FnScope ["document","p","q","r","last","stretch","untracked","piece","comers"] ["document","p","q","r"] (defScope s_move):=⟨rfl,rfl,rfl,by decide +kernel,rfl,by decide +kernel,by decide +kernel⟩
def spMove (K:PySem.W.Frag) (c:Cs):Sp:=fun vs H Q _=>∃ (d r ch:Addr) (m:Mo) (sh:List AP) (hd:List (List AP)) (k z:Nat) (p q rr:Int),vs=[.ref d,.int p,.int q,.int rr]∧Given K c H d r ch m sh hd k z 0∧Owes K c H d r ch m sh hd k z 0 (.move p q rr) Q
theorem ze6 (m:Mo) (L:List AP):((L.map fun x=>outM m x.2).countP fun y=>y == false)=bearers m L:=by
 unfold bearers
 rw [List.countP_map,List.countP_eq_length_filter]
 congr 2
 funext x
 cases e:outM m x.2<;>simp [e]
theorem zj6 {sh new:List AP} {hd:List (List AP)} {i:Nat} (s:Split (hs hd) (ps sh)) (hi:i < sh.length) :
  Vatrka.putBefore (ps new) i (flat (hs hd) (ps sh))=flat (hs (hd.take (i+1)++List.replicate new.length []++hd.drop (i+1))) (ps (sh.take i++new++sh.drop i)):=by
 rw [zeL (ps new) i s (by rw [List.length_map]; exact hi),zbp,zbp,zc1,zc2,ze1,zaD,zaD,zcb,zcc,List.length_map]
theorem Owes.move {H H1 H2 H3:Hp} {d r ch dr sA hA:Addr} {gs:List Gap} {m:Mo} {sh come:List AP} {hd:List (List AP)} {k z p q rn:Nat} {pz qz rz:Int} {Q:VK} (o:Owes K c H d r ch m sh hd k z 0 (.move pz qz rz) Q) (g:Given K c H d r ch m sh hd k z 0)
  (hp:pz=(p:Int)) (hqz:qz=(q:Int)) (hrz:rz=(rn:Int)) (hpq:p < q) (hq:q < sh.length) (hr:rn < sh.length) (hr2:rn < p∨q < rn)
  (e1:Ext (fun a=>∃ x∈(sh.take q).drop p,a=x.1) H H1) (hst:Pcs K c H1 (((sh.take q).drop p).map (cutA m))) (hcm:Pcs K c H1 come) (hcp:ps come=((sh.take q).drop p).map (goP (fun x=>outM m x.2) (m.changes.length+1)))
  (hnd:(come.map (·.1)).Nodup) (hcf:∀ y∈come,(y∈(sh.take q).drop p∧outM m y.2=true)∨H y.1=none) (hR:RAt c H r (m.xs ch) sh hd dr sA hA gs) (e2:Ext (fun b=>b=r∨b∈inner gs) H1 H2) (hR2:RowAt c H2 r (m.xs ch) (shT sh p q) (hdT m sh hd p q))
  (e3:Ext (·=r) H2 H3) (hR3:RowAt c H3 r (m.xs ch) ((shT sh p q).take (Vatrka.landing p q rn)++come++(shT sh p q).drop (Vatrka.landing p q rn)) ((hdT m sh hd p q).take (Vatrka.landing p q rn+1)++List.replicate come.length []++(hdT m sh hd p q).drop (Vatrka.landing p q rn+1))) :
  Full K c H3 d m r ch ((shT sh p q).take (Vatrka.landing p q rn)++come++(shT sh p q).drop (Vatrka.landing p q rn)) ((hdT m sh hd p q).take (Vatrka.landing p q rn+1)++List.replicate come.length []++(hdT m sh hd p q).drop (Vatrka.landing p q rn+1)) ∧
  (bearers m ((sh.take q).drop p)=0→∀ H' l,Same H3 H'→H3 l=none→H' l=some (.lst [.int 0])→Q (.ref l) H') ∧
  (bearers m ((sh.take q).drop p)≠0→∀ H' l,Ext (·=ch) H3 H'→H3 l=none→H' l=some (.lst [.int ((m.changes.length+1:Nat):Int)])→DocAt c H' d (m.enter 4) r ch→Q (.ref l) H'):=by
 have hpq':=Nat.le_of_lt hpq
 have hq':=Nat.le_of_lt hq
 have hland:Vatrka.landing p q rn < (shT sh p q).length:=by
  unfold Vatrka.landing
  rw [List.length_append,List.length_take,List.length_drop]
  split<;>omega
 have nd:=g.wf.nd
 have inA:∀ x∈(sh.take q).drop p,x∈all sh hd:=fun x hx=>List.mem_append_left _ (zaL hx)
 have f1:Full K c H1 d m r ch (shMid sh p q (cutA m)) hd:=g.full.setMid nd (fun x=>rfl) hpq' e1 hst
 have hR1:RAt c H1 r (m.xs ch) (shMid sh p q (cutA m)) hd dr sA hA gs:=RAt.setMid g.full hR (fun x=>rfl) hpq' e1
 have hl1:(shMid sh p q (cutA m)).length=sh.length:=za2 hpq' hq'
 have pm:=zbS (sh1:=shMid sh p q (cutA m)) (hd:=hd) (p:=p) (q:=q) (by rw [hl1]; exact g.wf.len) hpq' (by rw [hl1]; exact hq)
 rw [zby hpq' hq',zbz hpq' hq',zcE hpq' hq'] at pm
 have hfst:(all (shMid sh p q (cutA m)) hd).map (·.1)=(all sh hd).map (·.1):=by
  unfold all
  rw [List.map_append,List.map_append,zcF (f:=cutA m) (fun x=>rfl) hpq']
 have nd1:((all (shMid sh p q (cutA m)) hd).map (·.1)).Nodup:=by rw [hfst]; exact nd
 have nd2:=(pm.map (·.1)).nodup_iff.mp nd1
 rw [List.map_append] at nd2
 obtain ⟨nd3,nd4,nd5⟩:=List.nodup_append.mp nd2
 have inT:∀ x∈all (shT sh p q) (hdT m sh hd p q),x∈all (shMid sh p q (cutA m)) hd:=fun x hx=>pm.mem_iff.mpr (List.mem_append_right _ hx)
 have f2:Full K c H2 d m r ch (shT sh p q) (hdT m sh hd p q):=f1.setRowN hR1 e2 hR2 fun x hx=>(f1.pcs x (inT x hx)).keep e2 (hR1.pN (f1.pcs x (inT x hx)))
 have come_r:∀ y∈come,y.1≠r:=fun y hy=>by
  obtain ⟨dr,sA,hA,gs,h⟩:=f1.row
  obtain ⟨dxp,lk,sn,it,dt,pt,T,h2⟩:=hcm y hy
  exact zbw h2.obj h.obj (by intro z; injection z with _ _ z; exact absurd (show 7=2 from congrArg List.length z) (by decide))
 have pmP:=zck (shT sh p q) come (hdT m sh hd p q) (Vatrka.landing p q rn) come.length
 have f3:=f2.setRow e3 hR3 fun x hx=>by
  rcases List.mem_append.mp (pmP.mem_iff.mp hx) with h | h
  ·exact ((hcm x h).keep e2 (hR1.pN (hcm x h))).keep e3 (come_r x h)
  ·exact (f2.pcs x h).keep e3 (f2.rp x h)
 have ndc:((come++all (shT sh p q) (hdT m sh hd p q)).map (·.1)).Nodup:=by
  rw [List.map_append]
  refine List.nodup_append.mpr ⟨hnd,nd4,fun a ha a' ha'=>?_⟩
  obtain ⟨y,hy,rfl⟩:=List.mem_map.mp ha
  obtain ⟨x,hx,rfl⟩:=List.mem_map.mp ha'
  rcases hcf y hy with ⟨h1,h2⟩ | h1
  ·have dy:=g.wf.split.sh _ (List.mem_map.mpr ⟨y,zaL h1,rfl⟩)
   have ey:cutA m y=y:=by unfold cutA; rw [h2]; rfl
   have:y∈(((sh.take q).drop p).map (cutA m)).filter fun x=>x.2.del.isEmpty:=List.mem_filter.mpr ⟨List.mem_map.mpr ⟨y,h1,ey⟩,by rw [dy]; rfl⟩
   exact nd5 y.1 (List.mem_map.mpr ⟨y,this,rfl⟩) x.1 (List.mem_map.mpr ⟨x,hx,rfl⟩)
  ·intro e
   have hx1:x.1∈(all (shMid sh p q (cutA m)) hd).map (·.1):=List.mem_map.mpr ⟨x,inT x hx,rfl⟩
   rw [hfst] at hx1
   obtain ⟨v,hv,ev⟩:=List.mem_map.mp hx1
   obtain ⟨dxp,lk,sn,it,dt,pt,T,h2⟩:=g.full.pcs v hv
   have h2:=h2.obj
   rw [ev,← e,h1] at h2
   cases h2
 have hcl:come.length=q - p:=by
  have:=congrArg List.length hcp
  rw [List.length_map,List.length_map,List.length_drop,List.length_take] at this
  omega
 have E3:Ext (Foot H d r ch sh hd) H H3:=((e1.mono fun b o' _ ⟨x,hx,z⟩ _=>.inr (.inr (.inr ⟨x,inA x hx,z⟩))).trans (e2.mono fun b o' _ z _=>z.elim (fun z=>.inr (.inl z)) fun z=>.inl (.inr (hR.lstN z)))).trans (e3.mono fun b o' _ z _=>.inr (.inl z))
 have spT:Split (hs (hdT m sh hd p q)) (ps (shT sh p q)):=(zeu (m':=m.enter 4) (f:=cutA m) g.wf (by have:=g.zL; omega) hpq' hq (.inr (by unfold Mo.enter; simp)) (fun x=>rfl) (zcO m) (zdX g.wf (n':=(m.enter 4).changes.length) (fun _ _ _=>by unfold Mo.enter; simp) (by unfold Mo.enter; simp))).split
 have erow:Vatrka.putBefore ((Vatrka.stretch p q (st m sh hd).row).map (Vatrka.carried (st m sh hd))) (Vatrka.landing p q rn) (Vatrka.onStretch (Vatrka.cutPiece (st m sh hd)) p q (st m sh hd).row) =
   flat (hs ((hdT m sh hd p q).take (Vatrka.landing p q rn+1)++List.replicate come.length []++(hdT m sh hd p q).drop (Vatrka.landing p q rn+1))) (ps ((shT sh p q).take (Vatrka.landing p q rn)++come++(shT sh p q).drop (Vatrka.landing p q rn))):=by
  rw [zhm g.wf,← hcp]
  have:Vatrka.onStretch (Vatrka.cutPiece (st m sh hd)) p q (st m sh hd).row=flat (hs (hdT m sh hd p q)) (ps (shT sh p q)):=zgx g.wf.split hpq' hq (zgX g.wf)
  rw [this]
  exact zj6 spT hland
 have hany:=zjr (come:=come) g.wf hpq' hq hland hcp
 have estep:Vatrka.step (st m sh hd) (.move pz qz rz)=Vatrka.answered (Vatrka.finish (st m sh hd) 4 (flat (hs ((hdT m sh hd p q).take (Vatrka.landing p q rn+1)++List.replicate come.length []++(hdT m sh hd p q).drop (Vatrka.landing p q rn+1))) (ps ((shT sh p q).take (Vatrka.landing p q rn)++come++(shT sh p q).drop (Vatrka.landing p q rn))))):=by
  show Vatrka.stepMove _ _ _ _=_
  unfold Vatrka.stepMove
  rw [zaR g.wf,(zaU _ _ _).mpr (by omega),(zbr _ _).mpr (by omega),if_neg (by decide),if_neg (by omega)]
  unfold Vatrka.doMove
  rw [show pz.toNat=p by omega,show qz.toNat=q by omega,show rz.toNat=rn by omega,erow]
 have hzL:=g.zL
 refine ⟨f3,fun hb H' l s' n' h'=>?_,fun hb H' l e' n' h' hD=>?_⟩
 ·have efin:Vatrka.step (st m sh hd) (.move pz qz rz)=(st m ((shT sh p q).take (Vatrka.landing p q rn)++come++(shT sh p q).drop (Vatrka.landing p q rn)) ((hdT m sh hd p q).take (Vatrka.landing p q rn+1)++List.replicate come.length []++(hdT m sh hd p q).drop (Vatrka.landing p q rn+1)),.told [0]):=by
   rw [estep,zbq,hany,hb]
   rfl
  have hno:∀ x∈(sh.take q).drop p,outM m x.2=false→m.changes.length+1≤m.changes.length:=fun x hx hx0=>by
   exfalso
   have:x∈((sh.take q).drop p).filter fun x=>!outM m x.2:=List.mem_filter.mpr ⟨hx,by rw [hx0]; rfl⟩
   rw [List.length_eq_zero_iff.mp hb] at this
   cases this
  exact o H' l m _ _ (E3.trans s'.ext) (E3.dom l n') (by rw [efin]; exact h') (f3.same s') rfl (by rw [efin]) (zhu g.wf (by omega) hpq' hq hland (.inl rfl) (zdX g.wf hno (Nat.le_refl _)) (ziT g.wf hno (Nat.le_refl _) hcp) hcl hcp ndc)
 ·have efin:Vatrka.step (st m sh hd) (.move pz qz rz)=(st (m.enter 4) ((shT sh p q).take (Vatrka.landing p q rn)++come++(shT sh p q).drop (Vatrka.landing p q rn)) ((hdT m sh hd p q).take (Vatrka.landing p q rn+1)++List.replicate come.length []++(hdT m sh hd p q).drop (Vatrka.landing p q rn+1)),.told [m.changes.length+1]):=by
   rw [estep,zbq,hany,decide_eq_true hb]
   rfl
  have hml:(m.enter 4).changes.length=m.changes.length+1:=by unfold Mo.enter; simp
  exact o H' l (m.enter 4) _ _ (E3.trans (e'.mono fun b o' _ z _=>.inr (.inr (.inl z)))) (E3.dom l n') (by rw [efin]; exact h') (f3.setCh rfl e' hD) rfl (by rw [efin]) (zhu g.wf (by omega) hpq' hq hland (.inr hml) (zdX g.wf (fun _ _ _=>by omega) (by omega)) (ziT g.wf (fun _ _ _=>by omega) (by omega) hcp) hcl hcp ndc)
end
section
variable {P:Program} {w:World} {K:PySem.W.Frag} {mg:Str→Option Value} {base:Heap} {c:Cs}
theorem zgA {f g:Int→Int→Bool} {ta tb tc:TE} {σ:L2.St} {H:Hp} {G:Bool→Hp→Prop} {x y z:Int} (ha:∀ Q:VK,Q (.int x) H→ta σ H Q) (hb:∀ Q:VK,Q (.int y) H→tb σ H Q) (hc:∀ Q:VK,Q (.int z) H→tc σ H Q)
  (h:G (f x y && g y z) H):tTest (tChain (rI0 fun i j=>.bl (f i j)) (rI0 fun i j=>.bl (g i j)) ta tb tc) σ H G:=by
 refine ha _ (hb _ ⟨x,y,rfl,rfl,_,rfl,?_⟩)
 cases e:f x y with
 | true =>
  refine iteT (hc _ ⟨y,z,rfl,rfl,_,rfl,?_⟩)
  rw [e,Bool.true_and] at h
  exact h
 | false =>
  refine iteF ⟨_,rfl,?_⟩
  rw [e,Bool.false_and] at h
  exact h
theorem zcI {t:TT} {ta tb:TE} {σ:L2.St} {H:Hp} {v:V} {b:Bool} {Q:VK} (ht:∀ G:Bool→Hp→Prop,G b H→t σ H G) (ha:b=true→∀ Q:VK,Q v H→ta σ H Q) (hb:b=false→∀ Q:VK,Q v H→tb σ H Q) (q:Q v H):tIf t ta tb σ H Q:=by
 refine ht _ ?_
 cases b with
 | true=>exact iteT (ha rfl _ q)
 | false=>exact iteF (hb rfl _ q)
theorem d_move (F:FunAt K mg "move" s_move) (T:Txt K mg c) (TK:TxtK mg) (d_size_of:Def P w K mg base "size_of" 1 ["document"] (spSize c)) (d_next_change:Def P w K mg base "next_change" 1 ["document"] (spNext c))
  (d_is_untracked:Def P w K mg base "is_untracked" 2 ["document","piece"] (spUntracked K c)) (d_pieces_that_come:Def P w K mg base "pieces_that_come" 4 ["stretch","untracked","change"] (spCome K c)) (d_take_out:Def P w K mg base "take_out" 3 ["row","p","q"] (spTake K c))
  (d_stand_before:Def P w K mg base "stand_before" 1 ["row","p","pieces"] (spStand c)) (d_enter_change:Def P w K mg base "enter_change" 1 ["document","kind","bearers"] (spEnter c)):Def P w K mg base "move" 5 ["document","p","q","r"] (spMove K c):=by
 have sc:=zj3
 refine F.def sc (fun _ _ _ _ _ _=>ar4 fun _ _ _ _=>rfl) (fun vs H Q E h=>?_) (fun f cdv A outer s H vs Q E hr h=>?_)
 ·obtain ⟨d,r,ch,m,sh,hd,k,z,p,q,rr,rfl,_⟩:=h
  rfl
 ·obtain ⟨d,r,ch,m,sh,hd,k,z,p,q,rr,rfl,g,o⟩:=h
  have hsl:sizeLine=16777216:=sizeLine_eq
  obtain ⟨hsm,hshL,hchL⟩:=g.small
  have hne:=g.wf.ne
  have hkL:=g.kL
  refine ⟨_,(zab (zar (i:=4) sc.nd rfl (by first | exact Or.inl rfl | exact Or.inr rfl) (zaH zb4 (zap d_size_of (hr.mono (by decide)) rfl pass0 (zaa (pv 0) zac)) zaf))
   (zab (zaC (PW.pt (zg9 (zbE (zcJ zbg zcY zbg zaf (pv 1) (pv 2) (pv 4))) (zel (zbE (zbk zbg zbg zaf (pv 3) (pv 4))))))
    (zad (zah (zal (zaa (zbm zaZ zaf) zac))))
    zaj)
   (zab (zaC (zbk zbg zbg (pv 1) (pv 3) (pv 2))
    (zad (zah (zal (zaa (zbm zaZ zaf) zac))))
    zaj)
   (zab (zar (i:=5) sc.nd rfl (by first | exact Or.inl rfl | exact Or.inr rfl) (zaP zaV (zae (zae (pv 0) rfl) rfl) (zaI (pv 1)) (zaI (pv 2))))
   (zab (zeN (i:=6) rfl sc.nd rfl rfl (zf3 rfl rfl rfl (by decide +kernel)) (zaW (pv 5)) (own:=[("piece",7)]) (zbe rfl) (fun _ _ _ _ _=>(zav (i:=7) sc.nd rfl (by first | exact Or.inl rfl | exact Or.inr rfl))) (fun _ _ _ _ _=>zcW) (fun _ _ _ _ _=>(zap d_is_untracked (hr.mono (by decide)) rfl pass0 (zaa (pv 0) (zaa (pv 7) zac)))))
   (zab (zar (i:=8) sc.nd rfl (by first | exact Or.inl rfl | exact Or.inr rfl) (zap d_pieces_that_come (hr.mono (by decide)) rfl pass0 (zaa (pv 5) (zaa (pv 6) (zaa (zap d_next_change (hr.mono (by decide)) rfl pass0 (zaa (pv 0) zac)) zac)))))
   (zab (zaq (zap d_take_out (hr.mono (by decide)) rfl pass0 (zaa (zae (pv 0) rfl) (zaa (pv 1) (zaa (pv 2) zac)))))
   (zab (zaq (zap d_stand_before (hr.mono (by decide)) rfl pass0 (zaa (zae (pv 0) rfl) (zaa (zcl (zan zcY (pv 3) (pv 1) (nomark _)) (pv 3) (zaH zb4 (pv 3) (zaH zb4 (pv 2) (pv 1)))) (zaa (pv 8) zac)))))
   (zad (zah (zap d_enter_change (hr.mono (by decide)) rfl pass0 (zaa (pv 0) (zaa (zay rfl TK.g_KIND_MOVE) (zaa (zba PySem.F.plainAttrs_list PySem.F.slot_list_count PySem.F.type_list_count zih (pv 6) (zaa zj9 zac)) zac)))))))))))))),?_⟩
  refine ⟨_,rfl,d,r,ch,m,sh,hd,rfl,g.full.doc,g.full.row,_,_,rfl,rfl,?_⟩
  have no:¬ ((0≤p∧p < q∧q≤(sh.length:Int) - 1)∧(0≤rr∧rr≤(sh.length:Int) - 1))→∀ (l:Addr) (H':Hp),Same H H'→H l=none→H' l=some (.lst [.int (-1)])→Q (.ref l) H':=fun hw l H' s' n' g'=>by
   have e0:(Vatrka.isStretch p q (sh.length - 1) && Vatrka.below rr sh.length)=false:=by
    cases e1:Vatrka.isStretch p q (sh.length - 1) with
    | false=>rfl
    | true =>
     have h1:=(zaU _ _ _).mp e1
     rw [zbJ (by omega)]
     rfl
   have e:Vatrka.step (st m sh hd) (.move p q rr)=(st m sh hd,.refused 1):=by
    show Vatrka.stepMove _ _ _ _=_
    unfold Vatrka.stepMove
    rw [zaR g.wf,e0]; rfl
   exact o.stay g (by rw [e]) (by rw [e]; rfl) s' n' g'
  refine ⟨_,rfl,_,_,rfl,rfl,_,rfl,?_⟩
  refine ite2 (fun h1=>?yes) (fun h1=>?no)
  case no =>
   have h1:¬ (0:Int)≤p:=fun z=>h1 (decide_eq_true z)
   refine iteT ?_
   refine iteT ?_
   exact ⟨_,rfl,by show 1≤sizeLine; decide,fun l H' s' n' g'=>no (by omega) l H' s' n' g'⟩
  have h1:(0:Int)≤p:=of_decide_eq_true h1
  refine ⟨_,rfl,_,_,rfl,rfl,_,rfl,?_⟩
  refine ite2 (fun h2=>?yes2) (fun h2=>?no2)
  case no2 =>
   have h2:¬ p < q:=fun z=>h2 (decide_eq_true z)
   refine iteT ?_
   refine iteT ?_
   exact ⟨_,rfl,by show 1≤sizeLine; decide,fun l H' s' n' g'=>no (by omega) l H' s' n' g'⟩
  have h2:p < q:=of_decide_eq_true h2
  refine ⟨_,rfl,_,_,rfl,rfl,_,rfl,?_⟩
  by_cases h3:q≤(sh.length:Int) - 1
  case neg =>
   rw [decide_eq_false h3]
   refine iteT ?_
   refine iteT ?_
   exact ⟨_,rfl,by show 1≤sizeLine; decide,fun l H' s' n' g'=>no (by omega) l H' s' n' g'⟩
  rw [decide_eq_true h3]
  refine iteF ?_
  refine ⟨_,rfl,_,_,rfl,rfl,_,rfl,?_⟩
  refine ite2 (fun h4=>?yes4) (fun h4=>?no4)
  case no4 =>
   have h4:¬ (0:Int)≤rr:=fun z=>h4 (decide_eq_true z)
   refine ⟨_,rfl,?_⟩
   refine iteT ?_
   exact ⟨_,rfl,by show 1≤sizeLine; decide,fun l H' s' n' g'=>no (by omega) l H' s' n' g'⟩
  have h4:(0:Int)≤rr:=of_decide_eq_true h4
  refine ⟨_,rfl,_,_,rfl,rfl,_,rfl,?_⟩
  by_cases h5:rr≤(sh.length:Int) - 1
  case neg =>
   rw [decide_eq_false h5]
   refine iteT ?_
   exact ⟨_,rfl,by show 1≤sizeLine; decide,fun l H' s' n' g'=>no (by omega) l H' s' n' g'⟩
  rw [decide_eq_true h5]
  refine iteF ?_
  have no3:(p≤rr∧rr≤q)→∀ (l:Addr) (H':Hp),Same H H'→H l=none→H' l=some (.lst [.int (-3)])→Q (.ref l) H':=fun hw l H' s' n' g'=>by
   have e:Vatrka.step (st m sh hd) (.move p q rr)=(st m sh hd,.refused 3):=by
    show Vatrka.stepMove _ _ _ _=_
    unfold Vatrka.stepMove
    rw [zaR g.wf,(zaU _ _ _).mpr (by omega),(zbr _ _).mpr (by omega),if_neg (by decide),if_pos hw]
   exact o.stay g (by rw [e]) (by rw [e]; rfl) s' n' g'
  show tTest (tChain (rI0 fun i j=>V.bl (decide (i≤j))) (rI0 fun i j=>V.bl (decide (i≤j))) (tVar 1) (tVar 3) (tVar 2)) _ _ _
  refine zgA (x:=p) (y:=rr) (z:=q) (fun Q q=>⟨_,rfl,q⟩) (fun Q q=>⟨_,rfl,q⟩) (fun Q q=>⟨_,rfl,q⟩) ?_
  by_cases h6:p≤rr∧rr≤q
  case pos =>
   rw [decide_eq_true h6.1,decide_eq_true h6.2]
   refine iteT ?_
   exact ⟨_,rfl,by show 1≤sizeLine; decide,fun l H' s' n' g'=>no3 h6 l H' s' n' g'⟩
  have e6:(decide (p≤rr) && decide (rr≤q))=false:=by
   cases e:(decide (p≤rr) && decide (rr≤q)) with
   | false=>rfl
   | true =>
    rw [Bool.and_eq_true,decide_eq_true_eq,decide_eq_true_eq] at e
    exact absurd e h6
  rw [e6]
  refine iteF ?_
  obtain ⟨pn,rfl⟩:∃ pn:Nat,p=(pn:Int):=⟨p.toNat,by omega⟩
  obtain ⟨qn,rfl⟩:∃ qn:Nat,q=(qn:Int):=⟨q.toNat,by omega⟩
  obtain ⟨rn,rfl⟩:∃ rn:Nat,rr=(rn:Int):=⟨rr.toNat,by omega⟩
  have hpq:pn < qn:=by omega
  have hpq':=Nat.le_of_lt hpq
  have hq:qn < sh.length:=by omega
  have hq':=Nat.le_of_lt hq
  have hr1:rn < sh.length:=by omega
  have hr2:rn < pn∨qn < rn:=by omega
  obtain ⟨dx,es,hD⟩:=g.full.doc
  obtain ⟨dr,sA,hA,gs,hR⟩:=g.full.row
  refine ⟨_,rfl,d,_,dx,_,_,rfl,hD.obj,T.D.cl,T.D.no _ (by decide +kernel),zaS,r,_,dr,_,_,rfl,hR.obj,T.R.cl,T.R.no _ (by decide +kernel),zaF,_,rfl,_,rfl,_,rfl,_,rfl,sA,_,rfl,SqL.of hR.sl,fun sl H1 s1 n1 g1=>?_⟩
  rw [zcA,zbT,zbU] at g1
  have f1:=g.full.same s1
  have inA:∀ x∈(sh.take qn).drop pn,x∈all sh hd:=fun x hx=>List.mem_append_left _ (zaL hx)
  have mlen:((sh.take qn).drop pn).length=qn - pn:=by rw [List.length_drop,List.length_take]; omega
  refine ⟨_,rfl,sl,rfl,⟨_,SqL.of g1⟩,fun D hD'=>zcg (K:=K) (a:=sl) (xs:=refs ((sh.take qn).drop pn))
   (fun i H'=>Same H1 H'∧H' D=some (.lst (((((sh.take qn).drop pn).take i).map fun x=>outM m x.2).map V.bl))) ⟨zaz hD',zai⟩ (fun i H' _ hp=>SqL.of (hp.1 _ _ g1)) ?_ ?_⟩
  ·rintro i y H2 hi ⟨s2,hD2⟩
   obtain ⟨x,hx,rfl⟩:=zau hi
   have xm:x∈(sh.take qn).drop pn:=List.mem_of_getElem? hx
   have hil:=(List.getElem?_eq_some_iff.mp hx).1
   refine ⟨rfl,?_⟩
   dsimp only [tYes]
   rw [if_pos rfl]
   refine ⟨_,rfl,_,rfl,d,x.1,r,ch,m,x.2,rfl,(f1.same s2).doc,(f1.same s2).pcs x (inA x xm),(g.wf.pcs x (inA x xm)).ins,fun H3 s3=>⟨_,s3 _ _ hD2,?_,?_⟩⟩
   ·rw [List.length_map,List.length_map,List.length_take]
    omega
   ·refine ⟨fun b o' hb=>by rw [zaA (zag hb hD')]; exact s3 _ _ (s2 b o' hb),?_⟩
    rw [zai,zam hx,List.map_append,List.map_append]
    rfl
  ·rintro H2 ⟨s2,hD2⟩
   have el:(refs ((sh.take qn).drop pn)).length=((sh.take qn).drop pn).length:=List.length_map ..
   rw [el,List.take_length] at hD2
   have f2:=f1.same s2
   have s02:=s1.trans s2
   refine ⟨_,rfl,_,rfl,_,rfl,d,r,ch,m,rfl,f2.doc,sl,D,m.changes.length+1,(sh.take qn).drop pn,(fun x=>outM m x.2),rfl,s2 _ _ g1,hD2,(fun x hx=>f2.pcs x (inA x hx)),zcK (hd:=hd) g.wf.nd,by omega,(fun x hx=>⟨(g.wf.pcs x (inA x hx)).look,by have:=(g.wf.pcs x (inA x hx)).insL; omega⟩),fun H3 cl come e3 ncl hcl hst hcm hcp hnd hcf=>?_⟩
   have e03:Ext (fun a=>∃ x∈(sh.take qn).drop pn,a=x.1) H H3:=s02.ext.trans e3
   have f3:Full K c H3 d m r ch (shMid sh pn qn (cutA m)) hd:=g.full.setMid g.wf.nd (fun x=>rfl) hpq' e03 hst
   have hR3:RAt c H3 r (m.xs ch) (shMid sh pn qn (cutA m)) hd dr sA hA gs:=RAt.setMid g.full hR (fun x=>rfl) hpq' e03
   obtain ⟨dx3,es3,hD3⟩:=f3.doc
   have hl1:(shMid sh pn qn (cutA m)).length=sh.length:=za2 hpq' hq'
   refine ⟨_,rfl,d,_,dx3,_,_,rfl,hD3.obj,T.D.cl,T.D.no _ (by decide +kernel),zaS,_,rfl,_,rfl,r,_,pn,qn,shMid sh pn qn (cutA m),hd,dr,sA,hA,gs,rfl,hR3,f3.pcs,g.xa e03,by rw [hl1]; exact hsm,by rw [hl1]; exact g.wf.len,hpq',by rw [hl1]; exact hq,fun H4 e4 hR4=>?_⟩
   rw [zby hpq' hq',zbz hpq' hq'] at hR4
   have clr:cl≠r:=fun z=>by
    obtain ⟨dr3,sA3,hA3,gs3,h⟩:=f3.row
    have h:=h.obj
    rw [← z,hcl] at h
    cases h
   have hcl4:H4 cl=some (.lst (refs come)):=e4.at hcl (fun z=>z.elim clr ((hR.same s02).freeN ncl))
   have hDr:D≠r:=fun z=>by
    obtain ⟨dr3,sA3,hA3,gs3,h⟩:=f2.row
    have h:=h.obj
    rw [← z,hD2] at h
    cases h
   have hD4:H4 D=some (.lst ((((sh.take qn).drop pn).map fun x=>outM m x.2).map V.bl)):=e4.at (e3.at hD2 fun ⟨x,hx,z⟩=>(by
    obtain ⟨dxp,lk,sn,it,dt,pt,T',h⟩:=f2.pcs x (inA x hx)
    have h:=h.obj
    rw [← z,hD2] at h
    cases h)) (fun z=>z.elim hDr ((hR.same s1).freeN hD'))
   have hD4d:DocAt c H4 d m r ch:=DocAt.keepN f3 hR3 e4
   have E04:Ext (fun _=>True) H H4:=(e03.mono fun _ _ _ _ _=>trivial).trans (e4.mono fun _ _ _ _ _=>trivial)
   obtain ⟨dx4,es4,hDo4⟩:=id hD4d
   have hcl':come.length=qn - pn:=by
    have:=congrArg List.length hcp
    rw [List.length_map,List.length_map,mlen] at this
    exact this
   have hlT:(shT sh pn qn).length=sh.length - (qn - pn):=by
    rw [List.length_append,List.length_take,List.length_drop]
    omega
   have hhT:(hdT m sh hd pn qn).length=(shT sh pn qn).length:=by
    have:=g.wf.len
    simp only [List.length_append,List.length_take,List.length_drop,List.length_cons,List.length_nil]
    omega
   refine ⟨_,rfl,d,_,dx4,_,_,rfl,hDo4.obj,T.D.cl,T.D.no _ (by decide +kernel),zaS,?_⟩
   show tIf _ _ _ _ _ _
   refine zcI (v:=.int ((Vatrka.landing pn qn rn:Nat):Int)) (b:=decide ((rn:Int) < (pn:Int))) (fun G q=>⟨_,rfl,_,rfl,_,_,rfl,rfl,_,rfl,q⟩) (fun hb Q q=>?_) (fun hb Q q=>?_) ?_
   ·have hb:=of_decide_eq_true hb
    refine ⟨_,rfl,?_⟩
    have:Vatrka.landing pn qn rn=rn:=by unfold Vatrka.landing; rw [if_pos (by omega)]
    rw [this] at q
    exact q
   ·have hb:¬ (rn:Int) < (pn:Int):=of_decide_eq_false hb
    refine ⟨_,rfl,_,rfl,_,rfl,_,_,rfl,rfl,_,_,rfl,rfl,?_⟩
    have:((Vatrka.landing pn qn rn:Nat):Int)=(rn:Int) - ((qn:Int) - (pn:Int)):=by unfold Vatrka.landing; rw [if_neg (by omega)]; omega
    rw [this] at q
    exact q
   have hland:Vatrka.landing pn qn rn < (shT sh pn qn).length:=by
    unfold Vatrka.landing
    rw [hlT]
    split<;>omega
   refine ⟨_,rfl,r,cl,_,Vatrka.landing pn qn rn,come,shT sh pn qn,hdT m sh hd pn qn,rfl,hR4,hcl4,g.xa (E04),by omega,hhT,hland,fun H5 e5 hR5=>?_⟩
   obtain ⟨f5,k0,k1⟩:=o.move g rfl rfl rfl hpq hq hr1 hr2 e03 hst hcm hcp hnd (fun y hy=>(hcf y hy).imp id fun z=>s02.free z) hR e4 hR4 e5 hR5
   have hD5:=e5.at hD4 hDr
   refine ⟨_,rfl,_,rfl,.inl ⟨rfl,_,SqL.of hD5⟩,D,_,false,rfl,rfl,hD5,d,r,ch,m,4,bearers m ((sh.take qn).drop pn),?_,f5.doc,by omega,fun hb H' l' s' n' h'=>k0 hb H' l' s' n' h',fun hb H' l' e' n' h' hD'=>k1 hb H' l' e' n' h' hD'⟩
   rw [ze6]
   rfl
end
end Tt
end
section
namespace Tt
open Vatrka
theorem same_iff {x y:Piece}:sameMarks x y=true↔x.ins=y.ins∧x.del=y.del∧x.pend=y.pend:=by
 unfold sameMarks
 simp only [Bool.and_eq_true,beq_iff_eq]
theorem zdD (x:Piece):sameMarks x x=true:=same_iff.mpr ⟨rfl,rfl,rfl⟩
theorem zfw {x y:Piece} (h:sameMarks x y=true):sameMarks y x=true:=by
 obtain ⟨a,b,d⟩:=same_iff.mp h
 exact same_iff.mpr ⟨a.symm,b.symm,d.symm⟩
theorem zbA {x y z:Piece} (h:sameMarks x y=true) (g:sameMarks y z=true):sameMarks x z=true:=by
 obtain ⟨a,b,d⟩:=same_iff.mp h
 obtain ⟨a',b',d'⟩:=same_iff.mp g
 exact same_iff.mpr ⟨a.trans a',b.trans b',d.trans d'⟩
theorem zhK {x y:Piece} (h:sameMarks x y=true) (z:Piece):sameMarks x z=sameMarks y z:=by
 rw [Bool.eq_iff_iff]
 exact ⟨zbA (zfw h),zbA h⟩
theorem zdE {x y:Piece} (h:sameMarks x y=true):marked x=marked y:=by
 obtain ⟨a,b,d⟩:=same_iff.mp h
 unfold marked
 rw [a,b,d]
abbrev PN:=Piece×Nat
def consR (x:Piece):List PN→List PN
 | (y,n)::g=>if sameMarks x y=true then (x,n+1)::g else (x,1)::(y,n)::g
 | []=>[(x,1)]
def runsB:List Piece→List PN
 | []=>[]
 | x::r=>consR x (runsB r)
def addRun (l:List PN) (x:Piece) (n:Nat):List PN:=match l.getLast? with
 | some (y,k)=>if sameMarks y x=true then l.dropLast++[(y,k+n)] else l++[(x,n)]
 | none=>[(x,n)]
theorem zco (y:Piece) (k:Nat) (x:Piece) (n:Nat):addRun [(y,k)] x n=if sameMarks y x=true then [(y,k+n)] else [(y,k),(x,n)]:=rfl
theorem zbK (a b:PN) (l:List PN) (x:Piece) (n:Nat):addRun (a::b::l) x n=a::addRun (b::l) x n:=by
 unfold addRun
 rw [List.getLast?_cons_cons]
 cases h:(b::l).getLast? with
 | none=>simp at h
 | some z =>
  obtain ⟨y,k⟩:=z
  dsimp only
  split<;>simp
theorem zhs (l:List PN) (x y:Piece) (n k:Nat) (h:sameMarks x y=true):addRun (addRun l x n) y k=addRun l x (n+k):=by
 unfold addRun
 cases e:l.getLast? with
 | none=>simp [h]
 | some z =>
  obtain ⟨v,j⟩:=z
  dsimp only
  by_cases hv:sameMarks v x=true
  ·rw [if_pos hv,if_pos hv]
   simp [zbA hv h,Nat.add_assoc]
  ·rw [if_neg hv,if_neg hv]
   simp [h]
theorem ziS (x y:Piece):∀ l:List PN,consR x (addRun l y 1)=addRun (consR x l) y 1
 | []=>by
  show consR x [(y,1)]=addRun [(x,1)] y 1
  rw [zco]
  rfl
 | [(z,n)]=>by
  rw [zco]
  show consR x _=addRun (if sameMarks x z=true then [(x,n+1)] else [(x,1),(z,n)]) y 1
  by_cases h:sameMarks x z=true
  ·rw [if_pos h,zco,zhK h y]
   by_cases g:sameMarks z y=true
   ·rw [if_pos g,if_pos g]
    show (if sameMarks x z=true then _ else _)=_
    rw [if_pos h,Nat.add_right_comm]
   ·rw [if_neg g,if_neg g]
    show (if sameMarks x z=true then _ else _)=_
    rw [if_pos h]
  ·rw [if_neg h,zbK,zco]
   by_cases g:sameMarks z y=true
   ·rw [if_pos g]
    show (if sameMarks x z=true then _ else _)=_
    rw [if_neg h]
   ·rw [if_neg g]
    show (if sameMarks x z=true then _ else _)=_
    rw [if_neg h]
 | (z,n)::b::l=>by
  rw [zbK]
  show (if sameMarks x z=true then (x,n+1)::addRun (b::l) y 1 else (x,1)::(z,n)::addRun (b::l) y 1)=addRun (if sameMarks x z=true then (x,n+1)::b::l else (x,1)::(z,n)::b::l) y 1
  by_cases h:sameMarks x z=true
  ·rw [if_pos h,if_pos h,zbK]
  ·rw [if_neg h,if_neg h,zbK,zbK]
theorem zcV (y:Piece):∀ r:List Piece,runsB (r++[y])=addRun (runsB r) y 1
 | []=>rfl
 | x::r=>by
  show consR x (runsB (r++[y]))=addRun (consR x (runsB r)) y 1
  rw [zcV y r,ziS]
theorem zgd (r:List Piece) (x:Piece):∀ t:List Piece,(∀ y∈t,sameMarks x y=true)→runsB (r++x::t)=addRun (runsB r) x (t.length+1):=by
 suffices ∀ (t:List Piece) (n:Nat),t.length=n→(∀ y∈t,sameMarks x y=true)→runsB (r++x::t)=addRun (runsB r) x (n+1) from fun t h=>this t _ rfl h
 intro t n
 induction n generalizing t with
 | zero =>
  intro ht _
  have:t=[]:=List.length_eq_zero_iff.mp ht
  subst this
  exact zcV x r
 | succ n ih =>
  intro ht h
  have hne:t≠[]:=fun z=>by rw [z] at ht; cases ht
  have e:=List.dropLast_concat_getLast hne
  have h1:=ih t.dropLast (by rw [List.length_dropLast,ht]; rfl) (fun y hy=>h y ((List.dropLast_sublist t).mem hy))
  rw [← e]
  have e2:r++x::(t.dropLast++[t.getLast hne])=(r++x::t.dropLast)++[t.getLast hne]:=by simp
  rw [e2,zcV,h1,zhs _ _ _ _ _ (h _ (List.getLast_mem hne))]
inductive Exp:List PN→List Piece→Prop
 | nil:Exp [] []
 | cons {x:Piece} {n:Nat} {l:List PN} {part rest:List Piece} (h:part.length=n) (h1:1≤n) (hs:∀ y∈part,sameMarks x y=true) (t:Exp l rest):Exp ((x,n)::l) (part++rest)
theorem zcN:∀ r:List Piece,Exp (runsB r) r
 | []=>.nil
 | x::r=>by
  show Exp (consR x (runsB r)) (x::r)
  have ih:=zcN r
  generalize runsB r=q at ih ⊢
  cases ih with
  | nil=>exact .cons (part:=[x]) rfl (Nat.le_refl _) (fun y hy=>by rw [List.mem_singleton.mp hy]; exact zdD x) .nil
  | @cons y n l part rest h h1 hs t =>
   show Exp (if sameMarks x y=true then _ else _) _
   by_cases g:sameMarks x y=true
   ·rw [if_pos g]
    exact .cons (part:=x::part) (by rw [List.length_cons,h]) (Nat.succ_le_succ (Nat.zero_le _)) (fun z hz=>by
     rcases List.mem_cons.mp hz with e | hz
     ·rw [e]; exact zdD x
     ·exact zbA g (hs z hz)) t
   ·rw [if_neg g]
    exact .cons (part:=[x]) rfl (Nat.le_refl _) (fun z hz=>by rw [List.mem_singleton.mp hz]; exact zdD x) (.cons h h1 hs t)
def ByMarks (P:Piece→Bool):Prop:=∀ x y,sameMarks x y=true→P x=P y
theorem ziY:ByMarks marked:=fun _ _ h=>zdE h
theorem ze9:ByMarks stood:=fun x y h=>by unfold stood; rw [(same_iff.mp h).1]
theorem zgZ:ByMarks shown:=fun x y h=>by unfold shown; rw [(same_iff.mp h).2.1]
theorem zkp:ByMarks (fun _=>true):=fun _ _ _=>rfl
theorem zbZ {P:Piece→Bool} (hP:ByMarks P) {x:Piece} {part:List Piece} (hs:∀ y∈part,sameMarks x y=true):(part.filter P)=if P x=true then part else []:=by
 cases h:P x with
 | true=>exact List.filter_eq_self.mpr fun y hy=>by rw [← hP x y (hs y hy)]; exact h
 | false=>exact List.filter_eq_nil_iff.mpr fun y hy=>by rw [← hP x y (hs y hy),h]; decide
def sumR (P:Piece→Bool) (l:List PN):Nat:=((l.filter fun z=>P z.1).map (·.2)).sum
theorem zhz (P:Piece→Bool) (x:Piece) (n:Nat) (l:List PN):sumR P ((x,n)::l)=(if P x=true then n else 0)+sumR P l:=by
 unfold sumR
 rw [List.filter_cons]
 cases h:P x<;>simp [h]
theorem Exp.sum {P:Piece→Bool} (hP:ByMarks P) {l:List PN} {r:List Piece} (e:Exp l r):sumR P l=(r.filter P).length:=by
 induction e with
 | nil=>rfl
 | @cons x n l part rest h h1 hs t ih =>
  rw [zhz,List.filter_append,List.length_append,zbZ hP hs,ih]
  cases P x<;>simp [h]
theorem Exp.runs_le {l:List PN} {r:List Piece} (e:Exp l r):l.length≤r.length:=by
 induction e with
 | nil=>exact Nat.le_refl _
 | @cons x n l part rest h h1 hs t ih =>
  rw [List.length_append,List.length_cons,h]
  omega
theorem Exp.mem {l:List PN} {r:List Piece} (e:Exp l r) {z:PN} (hz:z∈l):1≤z.2∧z.2≤r.length:=by
 induction e with
 | nil=>cases hz
 | @cons x n l part rest h h1 hs t ih =>
  rw [List.length_append]
  rcases List.mem_cons.mp hz with e | hz
  ·subst e
   exact ⟨h1,by dsimp only; omega⟩
  ·have:=ih hz
   exact ⟨this.1,by omega⟩
def mkR:Nat→List PN→List (Nat×Nat×Piece)
 | _,[]=>[]
 | i,(x,n)::l=>if marked x=true then (i,n,x)::mkR (i+n) l else mkR (i+n) l
theorem zik:∀ (l:List PN) (i:Nat) (z:Nat×Nat×Piece),z∈mkR i l→i≤z.1
 | [],_,_,h=>by cases h
 | (x,n)::l,i,z,h=>by
  unfold mkR at h
  split at h
  ·rcases List.mem_cons.mp h with e | h
   ·subst e; exact Nat.le_refl _
   ·have:=zik l (i+n) z h; omega
  ·have:=zik l (i+n) z h; omega
theorem zhL:∀ (r:List Piece) (z:PN),z∈runsB r→1≤z.2:=fun r z h=>((zcN r).mem h).1
theorem zde:∀ (r:List Piece) (i:Nat),grouped i r=mkR i (runsB r)
 | [],_=>rfl
 | x::r,i=>by
  have ih:=zde r (i+1)
  have hpos:=zhL r
  show (if marked x=false then grouped (i+1) r else match grouped (i+1) r with
   | (j,n,y)::g=>if (j == i+1 && sameMarks x y)=true then (i,n+1,x)::g else (i,1,x)::(j,n,y)::g
   | []=>[(i,1,x)])=mkR i (consR x (runsB r))
  rw [ih]
  cases hr:runsB r with
  | nil =>
   cases hm:marked x<;>simp [mkR,consR,hm]
  | cons z l =>
   obtain ⟨y,n⟩:=z
   have hn:1≤n:=hpos (y,n) (by rw [hr]; exact List.mem_cons_self)
   by_cases g:sameMarks x y=true
   ·have e:=zdE g
    cases hm:marked x with
    | false =>
     rw [hm] at e
     simp only [consR,g,if_true,mkR,hm,← e,Bool.false_eq_true,if_false]
     rw [Nat.add_assoc,Nat.add_comm 1 n]
    | true =>
     rw [hm] at e
     simp only [consR,g,if_true,mkR,hm,← e,beq_self_eq_true,Bool.and_self,Bool.true_eq_false,if_false]
     rw [Nat.add_assoc,Nat.add_comm 1 n]
   ·have g':sameMarks x y=false:=by simpa using g
    cases hm:marked x with
    | false=>simp only [consR,g',mkR,hm,Bool.false_eq_true,if_false,if_true]
    | true =>
     have ec:consR x ((y,n)::l)=(x,1)::(y,n)::l:=by simp [consR,g']
     rw [ec]
     have em:mkR i ((x,1)::(y,n)::l)=(i,1,x)::mkR (i+1) ((y,n)::l):=by
      conv=>lhs; unfold mkR
      rw [if_pos hm]
     rw [em,if_neg (by decide)]
     cases hy:marked y with
     | true =>
      have e2:mkR (i+1) ((y,n)::l)=(i+1,n,y)::mkR (i+1+n) l:=by
       conv=>lhs; unfold mkR
       rw [if_pos hy]
      rw [e2]
      simp [g']
     | false =>
      have e2:mkR (i+1) ((y,n)::l)=mkR (i+1+n) l:=by
       conv=>lhs; unfold mkR
       rw [hy]
       simp
      rw [e2]
      cases h3:mkR (i+1+n) l with
      | nil=>rfl
      | cons w g2 =>
       obtain ⟨j,n',y'⟩:=w
       have:=zik l (i+1+n) (j,n',y') (by rw [h3]; exact List.mem_cons_self)
       have hj:(j == i+1)=false:=by simp; dsimp only at this; omega
       simp [hj]
theorem zhM (p:Nat):∀ {h:List Piece},(∀ y∈h,shown y=false)→∀ r,rowPlace p (h++r)=h.length+rowPlace p r
 | [],_,r=>by simp
 | y::h,hh,r=>by
  show rowPlace p (y::(h++r))=_
  rw [rowPlace,if_neg (by rw [hh y List.mem_cons_self]; decide),zhM p (fun z hz=>hh z (List.mem_cons_of_mem _ hz)),List.length_cons]
  omega
theorem zdk {h:List Piece} {x:Piece} {hd:List (List Piece)} {sh:List Piece} (s:Split (h::hd) (x::sh)):rowPlace 0 (flat (h::hd) (x::sh))=h.length:=by
 obtain ⟨h1,h2⟩:=s.head
 show rowPlace 0 (h++x::flat hd sh)=_
 rw [zhM 0 h2,rowPlace,if_pos h1,if_pos rfl,Nat.add_zero]
theorem zcH {h:List Piece} {x:Piece} {hd:List (List Piece)} {sh:List Piece} (s:Split (h::hd) (x::sh)) (p:Nat):rowPlace (p+1) (flat (h::hd) (x::sh))=h.length+1+rowPlace p (flat hd sh):=by
 obtain ⟨h1,h2⟩:=s.head
 show rowPlace (p+1) (h++x::flat hd sh)=_
 rw [zhM (p+1) h2,rowPlace,if_pos h1,if_neg (by omega),Nat.add_sub_cancel]
 omega
theorem zct {α:Type} (h:List α) (x:α) (r:List α) (n:Nat):(h++x::r).take (h.length+1+n)=h++x::r.take n:=by
 have e:h++x::r=(h++[x])++r:=by simp
 rw [e,show h.length+1+n=(h++[x]).length+n by simp,List.take_append,List.take_of_length_le (by simp)]
 simp
theorem zc4 {α:Type} (h:List α) (x:α) (r:List α) (n:Nat):(h++x::r).drop (h.length+1+n)=r.drop n:=by
 have e:h++x::r=(h++[x])++r:=by simp
 rw [e,show h.length+1+n=(h++[x]).length+n by simp,List.drop_append,List.drop_of_length_le (by simp)]
 simp
theorem zfj (f:Piece→Piece):∀ {hd:List (List Piece)} {sh:List Piece} (q:Nat),Split hd sh→q < sh.length →
  ((flat hd sh).take (rowPlace q (flat hd sh)+1)).map f++(flat hd sh).drop (rowPlace q (flat hd sh)+1)=flat ((hd.take (q+1)).map (List.map f)++hd.drop (q+1)) ((sh.take (q+1)).map f++sh.drop (q+1))
 | [],[],q,_,hq=>by simp at hq
 | [],_::_,_,s,_=>by have:=s.len; simp at this
 | _::_,[],_,s,_=>by have:=s.len; simp at this
 | h::hd,x::sh,0,s,_=>by
  rw [zdk s]
  show ((h++x::flat hd sh).take (h.length+1+0)).map f++(h++x::flat hd sh).drop (h.length+1+0)=h.map f++f x::flat hd sh
  rw [zct,zc4]
  simp
 | h::hd,x::sh,q+1,s,hq=>by
  have ih:=zfj f q s.tail (by simpa using hq)
  rw [zcH s]
  show ((h++x::flat hd sh).take (h.length+1+(rowPlace q (flat hd sh)+1))).map f++(h++x::flat hd sh).drop (h.length+1+(rowPlace q (flat hd sh)+1))=h.map f++f x::flat ((hd.take (q+1)).map (List.map f)++hd.drop (q+1)) ((sh.take (q+1)).map f++sh.drop (q+1))
  rw [zct,zc4,← ih]
  simp
theorem zgs (f:Piece→Piece):∀ {hd:List (List Piece)} {sh:List Piece} (p q:Nat),Split hd sh→p < q→q≤sh.length →
  (flat hd sh).take (rowPlace p (flat hd sh))++((((flat hd sh).take (rowPlace (q - 1) (flat hd sh)+1)).drop (rowPlace p (flat hd sh))).map f++(flat hd sh).drop (rowPlace (q - 1) (flat hd sh)+1)) =
   flat (hd.take (p+1)++((hd.take q).drop (p+1)).map (List.map f)++hd.drop q) (sh.take p++((sh.take q).drop p).map f++sh.drop q)
 | [],[],p,q,_,hpq,hq=>by have h0:q≤0:=(by simpa using hq); exact absurd hpq (by omega)
 | [],_::_,_,_,s,_,_=>by have:=s.len; simp at this
 | _::_,[],_,_,s,_,_=>by have:=s.len; simp at this
 | h::hd,x::sh,p,0,s,hpq,_=>by omega
 | h::hd,x::sh,0,1,s,_,_=>by
  show (flat (h::hd) (x::sh)).take (rowPlace 0 (flat (h::hd) (x::sh)))++_=_
  rw [zdk s]
  show (h++x::flat hd sh).take h.length++((((h++x::flat hd sh).take (h.length+1+0)).drop h.length).map f++(h++x::flat hd sh).drop (h.length+1+0))=h++f x::flat hd sh
  rw [zct,zc4]
  simp
 | h::hd,x::sh,0,q+2,s,_,hq=>by
  have tf:=zfj f q s.tail (by have:q+2≤sh.length+1:=hq; omega)
  show (flat (h::hd) (x::sh)).take (rowPlace 0 (flat (h::hd) (x::sh)))++_=_
  rw [zdk s,show q+2 - 1=q+1 from rfl,zcH s]
  show (h++x::flat hd sh).take h.length++((((h++x::flat hd sh).take (h.length+1+(rowPlace q (flat hd sh)+1))).drop h.length).map f++(h++x::flat hd sh).drop (h.length+1+(rowPlace q (flat hd sh)+1))) =
   h++f x::flat ((hd.take (q+1)).map (List.map f)++hd.drop (q+1)) ((sh.take (q+1)).map f++sh.drop (q+1))
  rw [zct,zc4,← tf]
  simp
 | h::hd,x::sh,p+1,q+1,s,hpq,hq=>by
  have ih:=zgs f p q s.tail (by omega) (by simpa using hq)
  have hq1:q+1 - 1=(q - 1)+1:=by omega
  rw [hq1,zcH s,zcH s]
  show (h++x::flat hd sh).take (h.length+1+rowPlace p (flat hd sh))++((((h++x::flat hd sh).take (h.length+1+(rowPlace (q - 1) (flat hd sh)+1))).drop (h.length+1+rowPlace p (flat hd sh))).map f++(h++x::flat hd sh).drop (h.length+1+(rowPlace (q - 1) (flat hd sh)+1))) =
   h++x::flat (hd.take (p+1)++((hd.take q).drop (p+1)).map (List.map f)++hd.drop q) (sh.take p++((sh.take q).drop p).map f++sh.drop q)
  rw [zct,zct,zc4,zc4,← ih]
  simp
def pp (P:Piece→Bool):Nat→List Piece→Nat
 | _,[]=>0
 | i,x::r=>if P x=true then (if i=0 then 0 else pp P (i - 1) r+1) else pp P i r+1
theorem zeQ (P:Piece→Bool) (i:Nat) (x:Piece) (r:List Piece):pp P i (x::r)=if P x=true then (if i=0 then 0 else pp P (i - 1) r+1) else pp P i r+1:=by rw [pp]
theorem zeP:∀ (r:List Piece) (i:Nat),stoodPlace i r=pp stood i r
 | [],_=>rfl
 | x::r,i=>by
  unfold stoodPlace pp
  rw [zeP r,zeP r]
theorem zhW:∀ (r:List Piece) (i:Nat),i < r.length→pp (fun _=>true) i r=i
 | [],_,h=>by simp at h
 | x::r,0,_=>rfl
 | x::r,i+1,h=>by
  unfold pp
  rw [if_pos rfl,if_neg (by omega),Nat.add_sub_cancel,zhW r i (by simpa using h)]
theorem zkI {P:Piece→Bool}:∀ {part:List Piece} (rest:List Piece) {i:Nat},(∀ y∈part,P y=true)→i < part.length→pp P i (part++rest)=i
 | [],_,_,_,h=>by simp at h
 | x::part,rest,0,hP,_=>by
  show pp P 0 (x::(part++rest))=0
  rw [zeQ]
  rw [if_pos (hP x List.mem_cons_self),if_pos rfl]
 | x::part,rest,i+1,hP,h=>by
  show pp P (i+1) (x::(part++rest))=i+1
  rw [zeQ]
  rw [if_pos (hP x List.mem_cons_self),if_neg (by omega),Nat.add_sub_cancel,zkI rest (fun y hy=>hP y (List.mem_cons_of_mem _ hy)) (by simpa using h)]
theorem zhY {P:Piece→Bool}:∀ {part:List Piece} (rest:List Piece) {i:Nat},(∀ y∈part,P y=true)→part.length≤i→pp P i (part++rest)=part.length+pp P (i - part.length) rest
 | [],rest,i,_,_=>by simp
 | x::part,rest,0,_,h=>by simp at h
 | x::part,rest,i+1,hP,h=>by
  show pp P (i+1) (x::(part++rest))=_
  rw [zeQ]
  rw [if_pos (hP x List.mem_cons_self),if_neg (by omega),Nat.add_sub_cancel,zhY rest (fun y hy=>hP y (List.mem_cons_of_mem _ hy)) (by simpa using h),List.length_cons,Nat.add_sub_add_right]
  omega
theorem zhX {P:Piece→Bool}:∀ {part:List Piece} (rest:List Piece) {i:Nat},(∀ y∈part,P y=false)→pp P i (part++rest)=part.length+pp P i rest
 | [],rest,i,_=>by simp
 | x::part,rest,i,hP=>by
  show pp P i (x::(part++rest))=_
  rw [zeQ]
  rw [if_neg (by rw [hP x List.mem_cons_self]; decide),zhX rest (fun y hy=>hP y (List.mem_cons_of_mem _ hy)),List.length_cons]
  omega
def goF (P:Piece→Bool):List PN→Nat→Nat→Option Nat
 | [],_,_=>none
 | (x,n)::l,s,i =>
  if P x=true then (if i < n then some (if shown x=true then s+i else s) else goF P l (if shown x=true then s+n else s) (i - n))
  else goF P l (if shown x=true then s+n else s) i
theorem zi8 {x:Piece} {part:List Piece} (hs:∀ y∈part,sameMarks x y=true):visible part=if shown x=true then part else []:=zbZ zgZ hs
theorem zk1 {P:Piece→Bool} (hP:ByMarks P) {l:List PN} {r:List Piece} (e:Exp l r):∀ s i,goF P l s i=if i < (r.filter P).length then some (s+(visible (r.take (pp P i r))).length) else none:=by
 induction e with
 | nil=>intro s i; simp [goF]
 | @cons x n l part rest h h1 hs t ih =>
  intro s i
  have hv:=zi8 hs
  have hlen:(if shown x=true then s+n else s)=s+(visible part).length:=by
   rw [hv]
   cases shown x<;>simp [h]
  have hvis:∀ m,(visible ((part++rest).take (part.length+m))).length=(visible part).length+(visible (rest.take m)).length:=fun m=>by
   rw [List.take_append,List.take_of_length_le (by omega),Nat.add_sub_cancel_left]
   unfold visible
   rw [List.filter_append,List.length_append]
  have e0:goF P ((x,n)::l) s i=if P x=true then (if i < n then some (if shown x=true then s+i else s) else goF P l (if shown x=true then s+n else s) (i - n)) else goF P l (if shown x=true then s+n else s) i:=rfl
  have hf:=zbZ hP hs
  rw [e0,List.filter_append,List.length_append,hf]
  by_cases hx:P x=true
  ·have hall:∀ y∈part,P y=true:=fun y hy=>by rw [← hP x y (hs y hy)]; exact hx
   simp only [if_pos hx]
   by_cases hi:i < n
   ·rw [if_pos hi,zkI rest hall (by omega)]
    have e1:(part++rest).take i=part.take i:=List.take_append_of_le_length (by omega)
    have e2:visible (part.take i)=if shown x=true then part.take i else []:=zbZ zgZ fun y hy=>hs y (List.mem_of_mem_take hy)
    rw [e1,e2,if_pos (show i < part.length+(rest.filter P).length by omega)]
    congr 1
    by_cases hsx:shown x=true
    ·rw [if_pos hsx,if_pos hsx,List.length_take]; omega
    ·rw [if_neg hsx,if_neg hsx]; rfl
   ·rw [if_neg hi,ih,hlen,zhY rest hall (by omega),hvis]
    by_cases hj:i - n < (rest.filter P).length
    ·rw [if_pos hj,if_pos (by omega),h]
     congr 1
     omega
    ·rw [if_neg hj,if_neg (by omega)]
  ·have hall:∀ y∈part,P y=false:=fun y hy=>by rw [← hP x y (hs y hy)]; simpa using hx
   simp only [if_neg hx]
   rw [List.length_nil,Nat.zero_add,ih,hlen,zhX rest hall,hvis]
   split
   ·congr 1
    omega
   ·rfl
theorem zk8 (c:Nat):ByMarks fun x=>has x.ins c:=fun x y h=>by dsimp only; rw [(same_iff.mp h).1]
theorem zk9 (c:Nat):ByMarks fun x=>has x.del c:=fun x y h=>by dsimp only; rw [(same_iff.mp h).2.1]
def pendC (c:Nat) (x:Piece):Nat:=(x.pend.filter fun z=>z.change == c).length
theorem zfN (c:Nat) {x:Piece}:∀ {part:List Piece},(∀ y∈part,sameMarks x y=true)→(part.flatMap fun y=>y.pend.filter fun z=>z.change == c).length=part.length * pendC c x
 | [],_=>by simp
 | y::part,hs=>by
  rw [List.flatMap_cons,List.length_append,zfN c (fun z hz=>hs z (List.mem_cons_of_mem _ hz)),List.length_cons,Nat.succ_mul]
  have e:=(same_iff.mp (hs y List.mem_cons_self)).2.2
  have:(y.pend.filter fun z=>z.change == c).length=pendC c x:=by unfold pendC; rw [e]
  rw [this]
  omega
theorem Exp.pend (c:Nat) {l:List PN} {r:List Piece} (e:Exp l r):(l.map fun z=>z.2 * pendC c z.1).sum=(r.flatMap fun y=>y.pend.filter fun z=>z.change == c).length:=by
 induction e with
 | nil=>rfl
 | @cons x n l part rest h h1 hs t ih =>
  rw [List.map_cons,List.sum_cons,ih,List.flatMap_append,List.length_append,zfN c hs,h]
def pre {α:Type}:List (List α)→List α→Nat→List α
 | h::_,_,0=>h
 | h::hd,x::sh,p+1=>h++x::pre hd sh p
 | _,_,_=>[]
theorem zgE:∀ {hd:List (List Piece)} {sh:List Piece} (p:Nat),Split hd sh→p < sh.length→rowPlace p (flat hd sh)=(pre hd sh p).length∧(flat hd sh).take (rowPlace p (flat hd sh))=pre hd sh p
 | [],[],p,_,hp=>by simp at hp
 | [],_::_,_,s,_=>by have:=s.len; simp at this
 | _::_,[],_,s,_=>by have:=s.len; simp at this
 | h::hd,x::sh,0,s,_=>by
  rw [zdk s]
  refine ⟨rfl,?_⟩
  show (h++x::flat hd sh).take h.length=h
  simp
 | h::hd,x::sh,p+1,s,hp=>by
  obtain ⟨h1,h2⟩:=zgE p s.tail (by simpa using hp)
  rw [zcH s]
  constructor
  ·show _=(h++x::pre hd sh p).length
   rw [h1,List.length_append,List.length_cons]
   omega
  ·show (h++x::flat hd sh).take (h.length+1+rowPlace p (flat hd sh))=h++x::pre hd sh p
   rw [zct,h2]
theorem zeO {α:Type}:∀ {hd:List (List α)} {sh:List α} {x:α},hd.length=sh.length→sh[sh.length - 1]?=some x→flat hd sh=pre hd sh (sh.length - 1)++[x]
 | [],[],x,_,h=>by simp at h
 | [],_::_,_,e,_=>by simp at e
 | _::_,[],_,e,_=>by simp at e
 | [h],[y],x,_,hx=>by
  have:y=x:=Option.some.inj hx
  subst this
  rfl
 | [h],y::z::sh,_,e,_=>by simp at e
 | h::k::hd,[y],_,e,_=>by simp at e
 | h::k::hd,y::z::sh,x,e,hx=>by
  have ih:=zeO (hd:=k::hd) (sh:=z::sh) (x:=x) (by simpa using e) (by simpa using hx)
  show h++y::flat (k::hd) (z::sh)=(h++y::pre (k::hd) (z::sh) ((z::sh).length - 1))++[x]
  rw [ih]
  simp
theorem zhV {α:Type}:∀ {hd:List (List α)} {sh:List α} (p:Nat),hd.length=sh.length→p < sh.length→pre hd sh p=((hd.zip sh).take p).flatMap (fun z=>z.1++[z.2])++hd.getD p []
 | [],[],p,_,hp=>by simp at hp
 | [],_::_,_,e,_=>by simp at e
 | _::_,[],_,e,_=>by simp at e
 | h::hd,x::sh,0,_,_=>by simp [pre]
 | h::hd,x::sh,p+1,e,hp=>by
  have ih:=zhV (hd:=hd) (sh:=sh) p (by simpa using e) (by simpa using hp)
  show h++x::pre hd sh p=_
  rw [ih]
  simp
theorem zdm {α:Type}:∀ {hd:List (List α)} {sh:List α},flat hd sh=(hd.zip sh).flatMap fun z=>z.1++[z.2]
 | [],_=>by simp [flat]
 | _::_,[]=>by simp [flat]
 | h::hd,x::sh=>by
  show h++x::flat hd sh=_
  rw [zdm (hd:=hd) (sh:=sh)]
  simp
theorem zhU {α β:Type} (f:α→β):∀ (hd:List (List α)) (sh:List α) (p:Nat),(pre hd sh p).map f=pre (hd.map (List.map f)) (sh.map f) p
 | [],_,p=>by cases p<;>rfl
 | h::hd,sh,0=>by cases sh<;>rfl
 | h::hd,[],p+1=>rfl
 | h::hd,x::sh,p+1=>by
  show (h++x::pre hd sh p).map f=h.map f++f x::pre (hd.map (List.map f)) (sh.map f) p
  rw [List.map_append,List.map_cons,zhU f hd sh p]
def endsAt:Nat→List Piece→List Nat
 | _,[]=>[]
 | i,x::r=>if x.sign=END then i::endsAt (i+1) r else endsAt (i+1) r
theorem zgl:∀ (r:List Piece) (i:Nat),endsFrom i r=(endsAt i r).map (·+1)
 | [],_=>rfl
 | x::r,i=>by
  unfold endsFrom endsAt
  split
  ·rw [zgl r,List.map_cons]
  ·rw [zgl r]
theorem zdU (x:Piece):∀ (r:List Piece) (i:Nat),endsAt i (r++[x])=endsAt i r++if x.sign=END then [i+r.length] else []
 | [],i=>by
  show endsAt i [x]=[]++if x.sign=END then [i+0] else []
  unfold endsAt
  split<;>rfl
 | y::r,i=>by
  show endsAt i (y::(r++[x]))=_
  unfold endsAt
  rw [zdU x r (i+1),List.length_cons]
  have e:i+1+r.length=i+(r.length+1):=by omega
  rw [e]
  by_cases hy:y.sign=END
  ·rw [if_pos hy,if_pos hy,List.cons_append]
  ·rw [if_neg hy,if_neg hy]
end Tt
end
section
namespace Tt
open PySem PySem.Spec PyProof.Rows L2
open Vatrka (Piece Pending Change shownLook shownValue marked)
def rnf (p l:V):List (Str×V):=[("piece",p),("length",l)]
section
variable {a b v:V}
theorem za0:(rnf a b).lookup ("piece":Str)=some a:=by rfl
theorem zaG:(rnf a b).lookup ("length":Str)=some b:=by rfl
theorem zhN:(rnf a b).length < 1000:=by show 2 < 1000; decide
end
structure Rn where
 at_:Addr
 pc:AP
 n:Nat
def RunAt (c:Cs) (H:Hp) (r:Rn):Prop:=∃ dx,H r.at_=some (.ins c.S dx (rnf (.ref r.pc.1) (.int r.n)))
abbrev rrefs (rs:List Rn):List V:=rs.map fun r=>V.ref r.at_
abbrev tell (rs:List Rn):List PN:=rs.map fun r=>(r.pc.2,r.n)
structure Runs (c:Cs) (H0 H:Hp) (L:Addr) (rs:List Rn) (row:List AP):Prop where
 same:Same H0 H
 fresh:H0 L=none
 lst:H L=some (.lst (rrefs rs))
 at_:∀ r∈rs,RunAt c H r∧H0 r.at_=none∧r.pc∈row
 nd:(rs.map (·.at_)).Nodup
 told:tell rs=runsB (ps row)
theorem Runs.exp {c:Cs} {H0 H:Hp} {L:Addr} {rs:List Rn} {row:List AP} (h:Runs c H0 H L rs row):Exp (tell rs) (ps row):=by
 rw [h.told]
 exact zcN _
theorem Runs.len {c:Cs} {H0 H:Hp} {L:Addr} {rs:List Rn} {row:List AP} (h:Runs c H0 H L rs row):rs.length≤row.length:=by
 have:=h.exp.runs_le
 rw [List.length_map,List.length_map] at this
 exact this
theorem Runs.keep {c:Cs} {H0 H H':Hp} {L:Addr} {rs:List Rn} {row:List AP} (h:Runs c H0 H L rs row) (s:Same H H'):Runs c H0 H' L rs row :=
 ⟨h.same.trans s,h.fresh,s _ _ h.lst,fun r hr=>⟨by obtain ⟨dx,e⟩:=(h.at_ r hr).1; exact ⟨dx,s _ _ e⟩,(h.at_ r hr).2⟩,h.nd,h.told⟩
section
variable {P:Program} {w:World} {K:PySem.W.Frag} {mg:Str→Option Value} {base:Heap} {c:Cs}
abbrev s_Run_init:Stmt:=inClass (top 18) 0
theorem zgb:FnScope ["self","piece","length"] ["self","piece","length"] (defScope s_Run_init):=⟨rfl,rfl,rfl,by decide +kernel,rfl,by decide +kernel,by decide +kernel⟩
def spRun (c:Cs):Sp:=fun vs H Q _=>∃ (a dx p:Addr) (n:Int),vs=[.ref a,.ref p,.int n]∧H a=some (.ins c.S dx [])∧∀ H',Ext (·=a) H H'→H' a=some (.ins c.S dx (rnf (.ref p) (.int n)))→Q .non H'
theorem d_Run (F:InitAt K mg "Run" "Run.__init__" c.S s_Run_init) (T:Txt K mg c):NewDef P w K mg base "Run" c.S 1 ["self","piece","length"] (spRun c):=by
 have sc:=zgb
 refine F.def sc (fun _ _ _ _ _ _=>ar3 fun _ _ _=>rfl) (fun vs H Q E h=>?_) (fun f cdv A outer s H vs Q E hr h=>?_)
 ·obtain ⟨a,dx,p,n,rfl,_⟩:=h
  rfl
 ·obtain ⟨a,dx,p,n,rfl,ha,k⟩:=h
  refine ⟨_,(zab (zat (pv 0) (pv 1) rfl) (zad (zat (pv 0) (pv 2) rfl))),?_⟩
  refine ⟨_,rfl,_,rfl,a,_,dx,_,rfl,ha,T.S.cl,T.S.no _ (by decide +kernel),(by show 0 < 1000; decide),fun H1 e1 h1=>?_⟩
  refine ⟨_,rfl,_,rfl,a,_,dx,_,rfl,h1,T.S.cl,T.S.no _ (by decide +kernel),(by show 1 < 1000; decide),fun H2 e2 h2=>?_⟩
  exact k H2 (e1.trans e2) h2
abbrev s_add_to_runs:Stmt:=top 24
theorem zea:FnScope ["runs","piece","length","last"] ["runs","piece","length"] (defScope s_add_to_runs):=⟨rfl,rfl,rfl,by decide +kernel,rfl,by decide +kernel,by decide +kernel⟩
def spAddTo (K:PySem.W.Frag) (c:Cs):Sp:=fun vs H Q _=>∃ (H0:Hp) (L:Addr) (rs:List Rn) (row t:List AP) (x:AP),vs=[.ref L,.ref x.1,.int ((t.length+1:Nat):Int)]∧Runs c H0 H L rs row∧Pcs K c H0 (row++x::t)∧(∀ y∈t,Vatrka.sameMarks x.2 y.2=true)∧row.length < sizeLine ∧
 ∀ H' rs',Runs c H0 H' L rs' (row++x::t)→Q .non H'
theorem zeg {row t:List AP} {x:AP} (h:∀ y∈t,Vatrka.sameMarks x.2 y.2=true):runsB (ps (row++x::t))=addRun (runsB (ps row)) x.2 (t.length+1):=by
 unfold ps
 rw [List.map_append,List.map_cons,zgd _ _ _ (fun y hy=>by
  obtain ⟨z,hz,rfl⟩:=List.mem_map.mp hy
  exact h z hz),List.length_map]
theorem d_add_to_runs (F:FunAt K mg "add_to_runs" s_add_to_runs) (T:Txt K mg c) (d_has_same_marks:Def P w K mg base "has_same_marks" 1 ["piece","other"] (spSameMarks K c.P)) (d_Run:NewDef P w K mg base "Run" c.S 1 ["self","piece","length"] (spRun c)):Def P w K mg base "add_to_runs" 3 ["runs","piece","length"] (spAddTo K c):=by
 have sc:=zea
 refine F.def sc (fun _ _ _ _ _ _=>ar3 fun _ _ _=>rfl) (fun vs H Q E h=>?_) (fun f cdv A outer s H vs Q E hr h=>?_)
 ·obtain ⟨H0,L,rs,row,t,x,rfl,_⟩:=h
  rfl
 ·obtain ⟨H0,L,rs,row,t,x,rfl,hR,hpc,hal,hz,k⟩:=h
  have hrl:=hR.len
  refine ⟨_,(zab (zar (i:=3) sc.nd rfl (by first | exact Or.inl rfl | exact Or.inr rfl) (zcl (zan zjp (zax zak rfl T.b_len PySem.boot_len (zaa (pv 0) zac)) zaf (nomark _)) (zaE zao (pv 0) (zbm zaZ zaf) (fun _ _=>rfl)) zkM))
   (zad (zaC (PW.pt (zhR (zhS (zka (pv 3))) (zge (zbD (zap d_has_same_marks (hr.mono (by decide)) rfl pass0 (zaa (zae (pv 3) rfl) (zaa (pv 1) zac)))))))
    (zad (zhb (pv 3) (pv 2)))
    (zad (zaq (zba PySem.F.plainAttrs_list PySem.F.slot_list_append PySem.F.type_list_append zbd (pv 0) (zaa (zgH d_Run (hr.mono (by decide)) rfl pass0 (zaa (pv 1) (zaa (pv 2) zac))) zac))))))),?_⟩
  have alone:addRun (tell rs) x.2 (t.length+1)=tell rs++[(x.2,t.length+1)]→∀ (ra dxr:Addr) (H2:Hp),Same H H2→H ra=none→H2 ra=some (.ins c.S dxr (rnf (.ref x.1) (.int ((t.length+1:Nat):Int))))→∀ H3,Ext (·=L) H2 H3→H3 L=some (.lst (rrefs rs++[.ref ra]))→Q .non H3:=fun ea ra dxr H2 s2 n2 h2 H3 e3 h3=>by
   have raL:ra≠L:=fun z=>by rw [z,hR.lst] at n2; cases n2
   have n0:H0 ra=none:=hR.same.free n2
   refine k H3 (rs++[⟨ra,x,t.length+1⟩]) ⟨fun b o hb=>e3.at (s2 _ _ (hR.same _ _ hb)) (zag hb hR.fresh),hR.fresh,?_,fun r hr=>?_,?_,?_⟩
   ·rw [h3]
    unfold rrefs
    rw [List.map_append]
    rfl
   ·rcases List.mem_append.mp hr with hr | hr
    ·obtain ⟨⟨dx,h⟩,f,m⟩:=hR.at_ r hr
     refine ⟨⟨dx,e3.at (s2 _ _ h) fun z=>?_⟩,f,List.mem_append_left _ m⟩
     have z:r.at_=L:=z
     rw [z,hR.lst] at h
     cases h
    ·rw [List.mem_singleton.mp hr]
     exact ⟨⟨dxr,e3.at h2 raL⟩,n0,List.mem_append_right _ List.mem_cons_self⟩
   ·rw [List.map_append]
    refine List.nodup_append.mpr ⟨hR.nd,by simp,fun b hb b' hb'=>?_⟩
    rw [List.mem_singleton.mp hb']
    obtain ⟨r,hr,rfl⟩:=List.mem_map.mp hb
    obtain ⟨⟨dx,h⟩,_⟩:=hR.at_ r hr
    exact zag h n2
   ·rw [zeg hal,← hR.told,ea]
    unfold tell
    rw [List.map_append]
    rfl
  cases hlast:rs.getLast? with
  | none =>
   have e0:rs=[]:=List.getLast?_eq_none_iff.mp hlast
   subst e0
   show tIf _ _ _ _ _ _
   refine zcI (v:=.non) (b:=false) (fun G q=>⟨_,rfl,L,_,rfl,.inl (SqL.of hR.lst),_,_,rfl,rfl,_,rfl,q⟩) (fun hb=>by cases hb) (fun _ Q q=>q) ?_
   refine ⟨_,rfl,_,rfl,?_⟩
   rw [decide_eq_true (rfl:V.non=V.non)]
   refine iteF ?_
   refine iteF ?_
   refine ⟨_,rfl,.inl ⟨rfl,_,SqL.of hR.lst⟩,_,rfl,_,rfl,fun ra dxr H1 s1 n1 h1=>⟨ra,dxr,x.1,_,rfl,h1,fun H2 e2 h2=>⟨rfl,?_⟩⟩⟩
   have s2:Same H H2:=fun b o hb=>e2.at (s1 _ _ hb) (zag hb n1)
   exact ⟨L,_,_,rfl,rfl,s2 _ _ hR.lst,by show 0 < sizeLine; decide,fun H3 e3 h3=>alone rfl ra dxr H2 s2 n1 h2 H3 e3 h3⟩
  | some rl =>
   have hne:rs≠[]:=fun z=>by rw [z] at hlast; cases hlast
   obtain ⟨rs0,rfl⟩:∃ rs0,rs=rs0++[rl]:=by
    have e1:=List.dropLast_concat_getLast hne
    have e2:rs.getLast hne=rl:=by rw [List.getLast?_eq_some_getLast hne] at hlast; exact Option.some.inj hlast
    rw [e2] at e1
    exact ⟨_,e1.symm⟩
   have hrm:rl∈rs0++[rl]:=List.mem_append_right _ List.mem_cons_self
   obtain ⟨⟨dxl,hrl2⟩,hfl,hml⟩:=hR.at_ rl hrm
   have hat:atI (rrefs (rs0++[rl])) (-1)=some (V.ref rl.at_):=zi2 (by unfold rrefs; rw [List.map_append,List.map_cons,List.map_nil,List.getLast?_concat])
   have hlen:(0:Int) < ((rrefs (rs0++[rl])).length:Int):=by rw [List.length_map,List.length_append]; show (0:Int) < ((_+1:Nat):Int); omega
   show tIf _ _ _ _ _ _
   refine zcI (v:=.ref rl.at_) (b:=true) (fun G q=>⟨_,rfl,L,_,rfl,.inl (SqL.of hR.lst),_,_,rfl,rfl,_,rfl,by rw [decide_eq_true hlen]; exact q⟩) (fun _ Q q=>⟨_,rfl,_,rfl,L,_,_,_,rfl,rfl,SqL.of hR.lst,hat,q⟩) (fun hb=>by cases hb) ?_
   refine ⟨_,rfl,_,rfl,?_⟩
   rw [decide_eq_false (show ¬ V.ref rl.at_=V.non from fun z=>by cases z)]
   refine iteT ?_
   have hpH:Pcs K c H (row++x::t):=hpc.same hR.same
   refine ⟨_,rfl,rl.at_,_,dxl,_,_,rfl,hrl2,T.S.cl,T.S.no _ (by decide +kernel),za0,_,rfl,rl.pc.1,x.1,rl.pc.2,x.2,rfl,hpH rl.pc (List.mem_append_left _ hml),hpH x (List.mem_append_right _ List.mem_cons_self),_,rfl,?_⟩
   have etl:tell (rs0++[rl])=tell rs0++[(rl.pc.2,rl.n)]:=by
    unfold tell
    rw [List.map_append]
    rfl
   cases hs:Vatrka.sameMarks rl.pc.2 x.2 with
   | false =>
    refine iteF ?_
    refine ⟨_,rfl,.inl ⟨rfl,_,SqL.of hR.lst⟩,_,rfl,_,rfl,fun ra dxr H1 s1 n1 h1=>⟨ra,dxr,x.1,_,rfl,h1,fun H2 e2 h2=>⟨rfl,?_⟩⟩⟩
    have s2:Same H H2:=fun b o hb=>e2.at (s1 _ _ hb) (zag hb n1)
    refine ⟨L,_,_,rfl,rfl,s2 _ _ hR.lst,by rw [List.length_map]; omega,fun H3 e3 h3=>alone ?_ ra dxr H2 s2 n1 h2 H3 e3 h3⟩
    rw [etl]
    unfold addRun
    rw [List.getLast?_concat]
    dsimp only
    rw [hs]
    simp
   | true =>
    refine iteT ?_
    refine ⟨_,rfl,rl.at_,_,dxl,_,_,rfl,hrl2,T.S.cl,T.S.no _ (by decide +kernel),zaG,_,rfl,_,rfl,hrl2,zhN,fun H2 e2 h2=>?_⟩
    have nd':=hR.nd
    rw [List.map_append] at nd'
    have aL:∀ r∈rs0++[rl],L≠r.at_:=fun r hr z=>by
     obtain ⟨⟨dx,h⟩,_⟩:=hR.at_ r hr
     rw [← z,hR.lst] at h
     cases h
    refine k H2 (rs0++[⟨rl.at_,rl.pc,rl.n+(t.length+1)⟩]) ⟨fun b o hb=>e2.at (hR.same _ _ hb) (zag hb hfl),hR.fresh,?_,fun r hr=>?_,?_,?_⟩
    ·have:rrefs (rs0++[⟨rl.at_,rl.pc,rl.n+(t.length+1)⟩])=rrefs (rs0++[rl]):=by
      unfold rrefs
      rw [List.map_append,List.map_append]
      rfl
     rw [this]
     exact e2.at hR.lst (aL rl hrm)
    ·rcases List.mem_append.mp hr with hr | hr
     ·obtain ⟨⟨dx,h⟩,f,m⟩:=hR.at_ r (List.mem_append_left _ hr)
      have:r.at_≠rl.at_:=(List.nodup_append.mp nd').2.2 r.at_ (List.mem_map.mpr ⟨r,hr,rfl⟩) rl.at_ (by simp)
      exact ⟨⟨dx,e2.at h this⟩,f,List.mem_append_left _ m⟩
     ·rw [List.mem_singleton.mp hr]
      refine ⟨⟨dxl,?_⟩,hfl,List.mem_append_left _ hml⟩
      rw [h2]
      have:((rl.n:Int)+((t.length+1:Nat):Int))=((rl.n+(t.length+1):Nat):Int):=by omega
      rw [this]
      rfl
    ·have:(rs0++[(⟨rl.at_,rl.pc,rl.n+(t.length+1)⟩:Rn)]).map (·.at_)=(rs0++[rl]).map (·.at_):=by
      rw [List.map_append,List.map_append]
      rfl
     rw [this]
     exact hR.nd
    ·rw [zeg hal,← hR.told,etl]
     unfold addRun
     rw [List.getLast?_concat]
     dsimp only
     rw [hs,if_pos rfl,List.dropLast_concat]
     unfold tell
     rw [List.map_append]
     rfl
abbrev s_add_hidden_to_runs:Stmt:=top 23
theorem zca:FnScope ["runs","hidden","neighbours"] ["runs","hidden"] (defScope s_add_hidden_to_runs):=⟨rfl,rfl,rfl,by decide +kernel,rfl,by decide +kernel,by decide +kernel⟩
def spAddHid (K:PySem.W.Frag) (c:Cs):Sp:=fun vs H Q _=>∃ (H0:Hp) (L:Addr) (g:Gap) (rs:List Rn) (row:List AP),vs=[.ref L,.ref g.1]∧Runs c H0 H L rs row∧GapAt H0 g∧(∀ n∈g.2,H0 n.1=some (.lst (refs n.2))∧Alike n.2)∧Pcs K c H0 (row++flatG g)∧row.length+(flatG g).length < sizeLine ∧
 ∀ H' rs',Runs c H0 H' L rs' (row++flatG g)→Q .non H'
theorem zc3 {ns:List Nb} {i:Nat} {n:Nb} (h:ns[i]?=some n):flatN (ns.take (i+1))=flatN (ns.take i)++n.2:=by
 rw [zam h,zaQ]
 show _++(n.2++[])=_
 rw [List.append_nil]
theorem zb1 (ns:List Nb) (i:Nat):(flatN (ns.take i)).length≤(flatN ns).length:=by
 conv=>rhs; rw [← List.take_append_drop i ns,zaQ,List.length_append]
 omega
theorem zed {ns:List Nb} {i:Nat} {x:AP} (h:x∈flatN (ns.take i)):x∈flatN ns:=by
 rw [← List.take_append_drop i ns,zaQ]
 exact List.mem_append_left _ h
theorem d_add_hidden_to_runs (F:FunAt K mg "add_hidden_to_runs" s_add_hidden_to_runs) (T:Txt K mg c) (d_add_to_runs:Def P w K mg base "add_to_runs" 3 ["runs","piece","length"] (spAddTo K c)):Def P w K mg base "add_hidden_to_runs" 4 ["runs","hidden"] (spAddHid K c):=by
 have sc:=zca
 refine F.def sc (fun _ _ _ _ _ _=>ar2 fun _ _=>rfl) (fun vs H Q E h=>?_) (fun f cdv A outer s H vs Q E hr h=>?_)
 ·obtain ⟨H0,L,g,rs,row,rfl,_⟩:=h
  rfl
 ·obtain ⟨H0,L,g,rs,row,rfl,hR,hG,hN,hpc,hz,k⟩:=h
  refine ⟨_,(zad (za7 PassesOwn.never rfl (zgG (pv 1)) (zav (i:=2) sc.nd rfl (by first | exact Or.inl rfl | exact Or.inr rfl))
    (zad (zaq (zap d_add_to_runs (hr.mono (by decide)) rfl pass0 (zaa (pv 0) (zaa (zaE zao (pv 2) zaf (fun _ _=>rfl)) (zaa (zax zak rfl T.b_len PySem.boot_len (zaa (pv 2) zac)) zac)))))))),?_⟩
  have hGH:∀ {H'},Same H0 H'→GapAt H' g:=fun {H'} s=>hG.keepO fun o ho=>s _ _ ho
  refine ⟨_,rfl,g.1,rfl,zdl (K:=K) (a:=g.1) (xs:=nrefs g.2)
   (fun i σ H'=>∃ (v:Option V) (rs':List Rn),σ=[some (.ref L),some (.ref g.1),v]∧Runs c H0 H' L rs' (row++flatN (g.2.take i))) (hGH hR.same).seq ⟨none,rs,rfl,by rw [List.take_zero]; show Runs c H0 H L rs (row++[]); rw [List.append_nil]; exact hR⟩ (fun i σ' H' ⟨_,_,_,h'⟩ o ho=>?_) ?_ ?_⟩
  ·rcases hG with h | h
   ·have h2:=hR.same _ _ h
    rw [ho] at h2
    rw [h2]
    exact h'.same _ _ h
   ·have h2:=hR.same _ _ h.2
    rw [ho] at h2
    rw [h2]
    exact h'.same _ _ h.2
  ·rintro i y σ H1 hi ⟨v,rs1,rfl,h1⟩
   obtain ⟨n,hn,rfl⟩:=zau hi
   obtain ⟨hn1,hn2⟩:=hN n (List.mem_of_getElem? hn)
   obtain ⟨x,t,hxt,hal⟩:=id hn2
   have hn1':=h1.same _ _ hn1
   have hsub:∀ z∈(row++flatN (g.2.take i))++x::t,z∈row++flatG g:=fun z hz=>by
    rcases List.mem_append.mp hz with hz | hz
    ·rcases List.mem_append.mp hz with hz | hz
     ·exact List.mem_append_left _ hz
     ·exact List.mem_append_right _ (zed hz)
    ·rw [← hxt] at hz
     exact List.mem_append_right _ (zdR (List.mem_of_getElem? hn) hz)
   have hl:=zb1 g.2 i
   have hlen:((refs n.2).length:Int)=((t.length+1:Nat):Int):=by rw [List.length_map,hxt]; rfl
   refine ⟨_,rfl,_,rfl,n.1,_,_,_,rfl,rfl,SqL.of hn1',zas (j:=0) (v:=V.ref x.1) (by rw [hxt]; rfl),_,rfl,n.1,_,rfl,.inl (SqL.of hn1'),H0,L,rs1,row++flatN (g.2.take i),t,x,by rw [hlen]; rfl,h1,(fun z hz=>hpc z (hsub z hz)),hal,?_,fun H2 rs2 h2=>?_⟩
   ·rw [List.length_append]
    have:(flatG g).length=(flatN g.2).length:=rfl
    omega
   ·refine ⟨_,rs2,rfl,?_⟩
    rw [zc3 hn,hxt,← List.append_assoc]
    exact h2
  ·rintro σ H1 ⟨v,rs1,rfl,h1⟩
   have e:g.2.take (nrefs g.2).length=g.2:=List.take_of_length_le (by rw [List.length_map]; exact Nat.le_refl _)
   rw [e] at h1
   exact k H1 rs1 h1
abbrev s_runs_before:Stmt:=top 22
theorem zd5:FnScope ["row","p","runs","place"] ["row","p"] (defScope s_runs_before):=⟨rfl,rfl,rfl,by decide +kernel,rfl,by decide +kernel,by decide +kernel⟩
def spBefore (K:PySem.W.Frag) (c:Cs):Sp:=fun vs H Q _=>∃ (r:Addr) (X:Addr→Prop) (p:Nat) (sh:List AP) (hd:List (List AP)),vs=[.ref r,.int p]∧RowAt c H r X sh hd∧Pcs K c H (all sh hd)∧hd.length=sh.length∧p < sh.length∧hd.flatten.length+sh.length < sizeLine ∧
 ∀ H' L rs,Runs c H H' L rs (pre hd sh p)→Q (.ref L) H'
theorem zbL {sh:List AP} {hd:List (List AP)} {i:Nat} {y:AP} (h:y∈((hd.zip sh).take i).flatMap fun z=>z.1++[z.2]):y∈all sh hd:=by
 obtain ⟨z,hz,hy⟩:=List.mem_flatMap.mp h
 have hz2:z∈hd.zip sh:=List.mem_of_mem_take hz
 obtain ⟨h1,h2⟩:=List.of_mem_zip (show (z.1,z.2)∈hd.zip sh from hz2)
 rcases List.mem_append.mp hy with hy | hy
 ·exact List.mem_append_right _ (List.mem_flatten.mpr ⟨z.1,h1,hy⟩)
 ·rw [List.mem_singleton.mp hy]
  exact List.mem_append_left _ h2
theorem zbM {sh:List AP} {hd:List (List AP)} (e:hd.length=sh.length) (i:Nat):(((hd.zip sh).take i).flatMap fun z=>z.1++[z.2]).length≤hd.flatten.length+sh.length:=by
 have h1:(((hd.zip sh).take i).flatMap fun z=>z.1++[z.2]).length≤((hd.zip sh).flatMap fun z=>z.1++[z.2]).length:=by
  conv=>rhs; rw [← List.take_append_drop i (hd.zip sh),List.flatMap_append,List.length_append]
  omega
 rw [← zdm,(zaT e).length_eq,List.length_append] at h1
 omega
theorem d_runs_before (F:FunAt K mg "runs_before" s_runs_before) (T:Txt K mg c) (d_add_hidden_to_runs:Def P w K mg base "add_hidden_to_runs" 4 ["runs","hidden"] (spAddHid K c)) (d_add_to_runs:Def P w K mg base "add_to_runs" 3 ["runs","piece","length"] (spAddTo K c)) :
  Def P w K mg base "runs_before" 5 ["row","p"] (spBefore K c):=by
 have sc:=zd5
 refine F.def sc (fun _ _ _ _ _ _=>ar2 fun _ _=>rfl) (fun vs H Q E h=>?_) (fun f cdv A outer s H vs Q E hr h=>?_)
 ·obtain ⟨r,X,p,sh,hd,rfl,_⟩:=h
  rfl
 ·obtain ⟨r,X,p,sh,hd,rfl,⟨dx,sA,hA,gs,h⟩,hpc,hlen,hp,hz,k⟩:=h
  have hgl:gs.length=hd.length:=h.len
  have hs:sizeLine=16777216:=sizeLine_eq
  have hhd:∀ {i:Nat} {g:Gap},gs[i]?=some g→hd[i]?=some (flatG g):=fun {i g} hg=>by rw [h.he,List.getElem?_map,hg]; rfl
  have hN:∀ {i:Nat} {g:Gap},gs[i]?=some g→∀ n∈g.2,H n.1=some (.lst (refs n.2))∧Alike n.2:=fun {i g} hg n hn=>⟨(h.nl n (List.mem_flatMap.mpr ⟨g,List.mem_of_getElem? hg,hn⟩)).at_,(h.nl n (List.mem_flatMap.mpr ⟨g,List.mem_of_getElem? hg,hn⟩)).al⟩
  have hgm:∀ {i:Nat} {g:Gap},gs[i]?=some g→∀ y∈flatG g,y∈all sh hd:=fun {i g} hg y hy=>List.mem_append_right _ (List.mem_flatten.mpr ⟨flatG g,List.mem_of_getElem? (hhd hg),hy⟩)
  refine ⟨_,(zab (zar (i:=2) sc.nd rfl (by first | exact Or.inl rfl | exact Or.inr rfl) (zal zac))
   (zab (za7 PassesOwn.never rfl (zh1 rfl T.b_range (zaa (pv 1) zac)) (zav (i:=3) sc.nd rfl (by first | exact Or.inl rfl | exact Or.inr rfl))
    (zab (zaq (zap d_add_hidden_to_runs (hr.mono (by decide)) rfl pass0 (zaa (pv 2) (zaa (zaE zao (zae (pv 0) rfl) (pv 3) (fun _ _=>rfl)) zac))))
    (zad (zaq (zap d_add_to_runs (hr.mono (by decide)) rfl pass0 (zaa (pv 2) (zaa (zaE zao (zae (pv 0) rfl) (pv 3) (fun _ _=>rfl)) (zaa zaf zac))))))))
   (zab (zaq (zap d_add_hidden_to_runs (hr.mono (by decide)) rfl pass0 (zaa (pv 2) (zaa (zaE zao (zae (pv 0) rfl) (pv 1) (fun _ _=>rfl)) zac))))
   (zad (zah (pv 2)))))),?_⟩
  refine ⟨Nat.zero_le _,fun L H1 s1 nL gL=>?_⟩
  refine ⟨_,rfl,(p:Int),rfl,by omega,by omega,zfJ (lo:=0) (n:=((p:Int)).toNat)
   (fun i σ H'=>∃ (v:Option V) (rs:List Rn),σ=[some (.ref r),some (.int p),some (.ref L),v]∧Runs c H H' L rs (((hd.zip sh).take i).flatMap fun z=>z.1++[z.2])) ⟨none,[],rfl,⟨s1,nL,gL,(fun _ h=>by cases h),.nil,rfl⟩⟩ ?_ ?_⟩
  ·rintro i σ H2 hi ⟨v,rs,rfl,h2⟩
   have hi:i < p:=by omega
   obtain ⟨g,hg⟩:∃ g,gs[i]?=some g:=⟨_,List.getElem?_eq_getElem (by omega)⟩
   obtain ⟨x,hx⟩:∃ x,sh[i]?=some x:=⟨_,List.getElem?_eq_getElem (by omega)⟩
   have hzip:(hd.zip sh)[i]?=some (flatG g,x):=by
    rw [List.getElem?_zip_eq_some]
    exact ⟨hhd hg,hx⟩
   have ez:((0:Int)+(i:Int))=((i:Nat):Int):=by omega
   have etake:((hd.zip sh).take (i+1)).flatMap (fun z=>z.1++[z.2])=(((hd.zip sh).take i).flatMap fun z=>z.1++[z.2])++flatG g++x::[]:=by
    rw [zam hzip,List.flatMap_append,List.append_assoc]
    congr 1
    show (flatG g++[x])++[]=_
    rw [List.append_nil]
   have bl:=zbM hlen (i+1)
   rw [etake,List.length_append,List.length_append] at bl
   have hx1:(x::([]:List AP)).length=1:=rfl
   have hR2:=h.same h2.same
   refine ⟨_,rfl,_,rfl,r,_,dx,_,_,rfl,hR2.obj,T.R.cl,T.R.no _ (by decide +kernel),za3,_,rfl,hA,_,_,_,rfl,rfl,SqL.of hR2.hl,zd0 (j:=i) (v:=V.ref g.1) ez (by rw [List.getElem?_map,hg]; rfl),H,L,g,rs,_,rfl,h2,(h.gl g (List.mem_of_getElem? hg)).1,hN hg,(fun y hy=>?_),by omega,fun H3 rs3 h3=>?_⟩
   ·rcases List.mem_append.mp hy with hy | hy
    ·exact hpc y (zbL hy)
    ·exact hpc y (hgm hg y hy)
   have hR3:=h.same h3.same
   refine ⟨_,rfl,_,rfl,r,_,dx,_,_,rfl,hR3.obj,T.R.cl,T.R.no _ (by decide +kernel),zaF,_,rfl,sA,_,_,_,rfl,rfl,SqL.of hR3.sl,zd0 (j:=i) (v:=V.ref x.1) ez (by rw [List.getElem?_map,hx]; rfl),H,L,rs3,_,[],x,rfl,h3,(fun y hy=>?_),(fun _ h=>by cases h),by rw [List.length_append]; omega,fun H4 rs4 h4=>?_⟩
   ·rcases List.mem_append.mp hy with hy | hy
    ·rcases List.mem_append.mp hy with hy | hy
     ·exact hpc y (zbL hy)
     ·exact hpc y (hgm hg y hy)
    ·rw [List.mem_singleton.mp hy]
     exact hpc x (List.mem_append_left _ (List.mem_of_getElem? hx))
   refine ⟨_,rs4,rfl,?_⟩
   rw [etake]
   exact h4
  ·rintro σ H2 ⟨v,rs,rfl,h2⟩
   rw [Int.toNat_natCast] at h2
   obtain ⟨g,hg⟩:∃ g,gs[p]?=some g:=⟨_,List.getElem?_eq_getElem (by omega)⟩
   have hgd:hd.getD p []=flatG g:=by rw [List.getD_eq_getElem?_getD,hhd hg]; rfl
   have epre:pre hd sh p=(((hd.zip sh).take p).flatMap fun z=>z.1++[z.2])++flatG g:=by rw [zhV p hlen hp,hgd]
   obtain ⟨x,hx⟩:∃ x,sh[p]?=some x:=⟨_,List.getElem?_eq_getElem (by omega)⟩
   have hzip:(hd.zip sh)[p]?=some (flatG g,x):=by
    rw [List.getElem?_zip_eq_some]
    exact ⟨hhd hg,hx⟩
   have bl:=zbM hlen (p+1)
   rw [zam hzip,List.flatMap_append,List.length_append] at bl
   have e1:([(flatG g,x)].flatMap fun z=>z.1++[z.2]).length=(flatG g).length+1:=by simp
   have hR2:=h.same h2.same
   refine ⟨_,rfl,_,rfl,r,_,dx,_,_,rfl,hR2.obj,T.R.cl,T.R.no _ (by decide +kernel),za3,_,rfl,hA,_,_,_,rfl,rfl,SqL.of hR2.hl,zas (j:=p) (v:=V.ref g.1) (by rw [List.getElem?_map,hg]; rfl),H,L,g,rs,_,rfl,h2,(h.gl g (List.mem_of_getElem? hg)).1,hN hg,(fun y hy=>?_),by omega,fun H3 rs3 h3=>?_⟩
   ·rcases List.mem_append.mp hy with hy | hy
    ·exact hpc y (zbL hy)
    ·exact hpc y (hgm hg y hy)
   rw [← epre] at h3
   exact ⟨_,rfl,k H3 L rs3 h3⟩
abbrev s_all_runs:Stmt:=top 21
theorem zga:FnScope ["row","last","runs"] ["row"] (defScope s_all_runs):=⟨rfl,rfl,rfl,by decide +kernel,rfl,by decide +kernel,by decide +kernel⟩
def spAllRuns (K:PySem.W.Frag) (c:Cs):Sp:=fun vs H Q _=>∃ (r:Addr) (X:Addr→Prop) (sh:List AP) (hd:List (List AP)),vs=[.ref r]∧RowAt c H r X sh hd∧Pcs K c H (all sh hd)∧hd.length=sh.length∧0 < sh.length∧hd.flatten.length+sh.length < sizeLine ∧
 ∀ H' L rs,Runs c H H' L rs (flat hd sh)→Q (.ref L) H'
theorem d_all_runs (F:FunAt K mg "all_runs" s_all_runs) (T:Txt K mg c) (d_runs_before:Def P w K mg base "runs_before" 5 ["row","p"] (spBefore K c)) (d_add_to_runs:Def P w K mg base "add_to_runs" 3 ["runs","piece","length"] (spAddTo K c)) :
  Def P w K mg base "all_runs" 6 ["row"] (spAllRuns K c):=by
 have sc:=zga
 refine F.def sc (fun _ _ _ _ _ _=>ar1 fun _=>rfl) (fun vs H Q E h=>?_) (fun f cdv A outer s H vs Q E hr h=>?_)
 ·obtain ⟨r,X,sh,hd,rfl,_⟩:=h
  rfl
 ·obtain ⟨r,X,sh,hd,rfl,⟨dx,sA,hA,gs,h⟩,hpc,hlen,hne,hz,k⟩:=h
  refine ⟨_,(zab (zar (i:=1) sc.nd rfl (by first | exact Or.inl rfl | exact Or.inr rfl) (zaH zb4 (zax zak rfl T.b_len PySem.boot_len (zaa (zae (pv 0) rfl) zac)) zaf))
   (zab (zar (i:=2) sc.nd rfl (by first | exact Or.inl rfl | exact Or.inr rfl) (zap d_runs_before (hr.mono (by decide)) rfl pass0 (zaa (pv 0) (zaa (pv 1) zac))))
   (zab (zaq (zap d_add_to_runs (hr.mono (by decide)) rfl pass0 (zaa (pv 2) (zaa (zaE zao (zae (pv 0) rfl) (pv 1) (fun _ _=>rfl)) (zaa zaf zac)))))
   (zad (zah (pv 2)))))),?_⟩
  obtain ⟨x,hx⟩:∃ x,sh[sh.length - 1]?=some x:=⟨_,List.getElem?_eq_getElem (by omega)⟩
  have eflat:=zeO hlen hx
  have hfl:(flat hd sh).length=hd.flatten.length+sh.length:=by rw [(zaT hlen).length_eq,List.length_append]; omega
  have hmem:∀ y∈flat hd sh,y∈all sh hd:=fun y hy=>(zaT hlen).mem_iff.mp hy
  rw [eflat] at hfl hmem
  rw [List.length_append] at hfl
  have elast:(((refs sh).length:Int) - 1)=((sh.length - 1:Nat):Int):=by rw [List.length_map]; omega
  refine ⟨_,rfl,r,_,dx,_,_,rfl,h.obj,T.R.cl,T.R.no _ (by decide +kernel),zaF,sA,_,rfl,.inl (SqL.of h.sl),_,_,rfl,rfl,?_⟩
  dsimp only
  rw [elast]
  refine ⟨_,rfl,_,rfl,r,X,sh.length - 1,sh,hd,rfl,⟨dx,sA,hA,gs,h⟩,hpc,hlen,by omega,hz,fun H1 L rs h1=>?_⟩
  have hR1:=h.same h1.same
  refine ⟨_,rfl,_,rfl,r,_,dx,_,_,rfl,hR1.obj,T.R.cl,T.R.no _ (by decide +kernel),zaF,_,rfl,sA,_,_,_,rfl,rfl,SqL.of hR1.sl,zas (j:=sh.length - 1) (v:=V.ref x.1) (by rw [List.getElem?_map,hx]; rfl),H,L,rs,_,[],x,rfl,h1,(fun y hy=>hpc y (hmem y hy)),(fun _ h=>by cases h),by omega,fun H2 rs2 h2=>?_⟩
  rw [← eflat] at h2
  exact ⟨_,rfl,k H2 L rs2 h2⟩
theorem zgt:∀ l:List Nat,(l.map fun (n:Nat)=>(n:Int)).sum=((l.sum:Nat):Int)
 | []=>rfl
 | n::l=>by
  rw [List.map_cons,List.sum_cons,zgt l,List.sum_cons]
  omega
def sumN (P:Piece→Bool) (rs:List Rn):List Int:=(rs.filter fun r=>P r.pc.2).map fun r=>((r.n:Nat):Int)
theorem zf4 (P:Piece→Bool) (rs:List Rn):(sumN P rs).sum=((sumR P (tell rs):Nat):Int):=by
 unfold sumN sumR tell
 rw [List.filter_map,List.map_map,← zgt,List.map_map]
 rfl
theorem zdt (P:Piece→Bool) (rs:List Rn) (r:Rn):sumN P (rs++[r])=sumN P rs++if P r.pc.2=true then [((r.n:Nat):Int)] else []:=by
 unfold sumN
 rw [List.filter_append,List.map_append]
 congr 1
 cases h:P r.pc.2<;>simp [h]
theorem zev (P:Piece→Bool) (rs:List Rn) (i:Nat):(sumN P (rs.take i)).length≤i:=by
 unfold sumN
 rw [List.length_map]
 exact Nat.le_trans (List.length_filter_le _ _) (List.length_take_le _ _)
abbrev s_count_marked:Stmt:=top 25
theorem zdC:FnScope ["row","run"] ["row"] (defScope s_count_marked):=⟨rfl,rfl,rfl,by decide +kernel,rfl,by decide +kernel,by decide +kernel⟩
def spCount (K:PySem.W.Frag) (c:Cs):Sp:=fun vs H Q _=>∃ (r:Addr) (X:Addr→Prop) (sh:List AP) (hd:List (List AP)),vs=[.ref r]∧RowAt c H r X sh hd∧Pcs K c H (all sh hd)∧hd.length=sh.length∧0 < sh.length∧hd.flatten.length+sh.length < sizeLine ∧
 ∀ H',Same H H'→Q (.int (((ps (flat hd sh)).filter marked).length:Int)) H'
theorem d_count_marked (F:FunAt K mg "count_marked" s_count_marked) (T:Txt K mg c) (d_all_runs:Def P w K mg base "all_runs" 6 ["row"] (spAllRuns K c)) (d_is_marked:Def P w K mg base "is_marked" 1 ["piece"] (spIsMarked K c.P)):Def P w K mg base "count_marked" 7 ["row"] (spCount K c):=by
 have sc:=zdC
 refine F.def sc (fun _ _ _ _ _ _=>ar1 fun _=>rfl) (fun vs H Q E h=>?_) (fun f cdv A outer s H vs Q E hr h=>?_)
 ·obtain ⟨r,X,sh,hd,rfl,_⟩:=h
  rfl
 ·obtain ⟨r,X,sh,hd,rfl,hrow,hpc,hlen,hne,hz,k⟩:=h
  refine ⟨_,(zad (zah (zax (ziR rfl) rfl T.b_sum boot_sum (zaa (zfz rfl sc.nd (zaW (zap d_all_runs (hr.mono (by decide)) rfl pass0 (zaa (pv 0) zac))) (own:=[("run",1)]) (zbe rfl) (fun _ _ _ _ _=>(zav (i:=1) sc.nd rfl (by first | exact Or.inl rfl | exact Or.inr rfl))) (fun _ _ _ _ _=>(zdF (zbD (zap d_is_marked (hr.mono (by decide)) rfl pass0 (zaa (zcf (K:=K) (pv 1) rfl) zac))))) (fun _ _ _ _ _=>(zcf (K:=K) (pv 1) rfl))) zac)))),?_⟩
  refine ⟨_,rfl,r,X,sh,hd,rfl,hrow,hpc,hlen,hne,hz,fun H1 L rs h1=>?_⟩
  have hfl:(flat hd sh).length=hd.flatten.length+sh.length:=by rw [(zaT hlen).length_eq,List.length_append]; omega
  have hmem:∀ y∈flat hd sh,y∈all sh hd:=fun y hy=>(zaT hlen).mem_iff.mp hy
  have hrl:=h1.len
  refine ⟨L,rfl,⟨_,SqL.of h1.lst⟩,fun D hD=>zcg (K:=K) (a:=L) (xs:=rrefs rs)
   (fun i H'=>Same H1 H'∧H' D=some (.lst ((sumN marked (rs.take i)).map V.int))) ⟨zaz hD,zai⟩ (fun i H' _ hp=>SqL.of (hp.1 _ _ h1.lst)) ?_ ?_⟩
  ·rintro i y H2 hi ⟨s2,hD2⟩
   obtain ⟨rn,hrn,rfl⟩:=zau hi
   have hil:=(List.getElem?_eq_some_iff.mp hrn).1
   obtain ⟨⟨dx,hro⟩,_,hrm⟩:=h1.at_ rn (List.mem_of_getElem? hrn)
   have hro2:=s2 _ _ hro
   have hpx:=((hpc.same h1.same).same s2) rn.pc (hmem _ hrm)
   refine ⟨rfl,?_⟩
   refine ⟨_,rfl,rn.at_,_,dx,_,_,rfl,hro2,T.S.cl,T.S.no _ (by decide +kernel),za0,rn.pc.1,rn.pc.2,rfl,hpx,_,rfl,?_⟩
   rw [zam hrn,zdt]
   cases hm:marked rn.pc.2 with
   | true =>
    refine iteT ?_
    refine ⟨_,rfl,rn.at_,_,dx,_,_,rfl,hro2,T.S.cl,T.S.no _ (by decide +kernel),zaG,_,hD2,?_,?_⟩
    ·rw [List.length_map]
     have:=zev marked rs i
     omega
    ·refine ⟨fun b o' hb=>by rw [zaA (zag hb hD)]; exact s2 b o' hb,?_⟩
     rw [zai,if_pos rfl,List.map_append]
     rfl
   | false =>
    refine iteF ?_
    refine ⟨s2,?_⟩
    rw [if_neg (by decide),List.append_nil]
    exact hD2
  ·rintro H2 ⟨s2,hD2⟩
   have el:rs.take (rrefs rs).length=rs:=List.take_of_length_le (by rw [List.length_map]; exact Nat.le_refl _)
   rw [el] at hD2
   refine ⟨D,_,rfl,SqL.of hD2,?_⟩
   rw [zf4,h1.exp.sum ziY]
   exact k H2 (h1.same.trans s2)
end
section
variable {P:Program} {w:World} {K:PySem.W.Frag} {mg:Str→Option Value} {base:Heap} {c:Cs}
abbrev s_all_pieces:Stmt:=top 19
theorem zeJ:FnScope ["row","pieces","place","piece","neighbours"] ["row"] (defScope s_all_pieces):=⟨rfl,rfl,rfl,by decide +kernel,rfl,by decide +kernel,by decide +kernel⟩
def spAll (c:Cs):Sp:=fun vs H Q _=>∃ (r:Addr) (X:Addr→Prop) (sh:List AP) (hd:List (List AP)),vs=[.ref r]∧RowAt c H r X sh hd∧hd.length=sh.length∧hd.flatten.length+sh.length < sizeLine ∧
 ∀ H' l,Same H H'→H l=none→H' l=some (.lst (refs (flat hd sh)))→Q (.ref l) H'
theorem d_all_pieces (F:FunAt K mg "all_pieces" s_all_pieces) (T:Txt K mg c):Def P w K mg base "all_pieces" 1 ["row"] (spAll c):=by
 have sc:=zeJ
 refine F.def sc (fun _ _ _ _ _ _=>ar1 fun _=>rfl) (fun vs H Q E h=>?_) (fun f cdv A outer s H vs Q E hr h=>?_)
 ·obtain ⟨r,X,sh,hd,rfl,_⟩:=h
  rfl
 ·obtain ⟨r,X,sh,hd,rfl,⟨dr,sA,hA,gs,hR⟩,hlen,hz,k⟩:=h
  have hgl:gs.length=hd.length:=hR.len
  have hhd:∀ {i:Nat} {g:Gap},gs[i]?=some g→hd[i]?=some (flatG g):=fun {i g} hg=>by rw [hR.he,List.getElem?_map,hg]; rfl
  refine ⟨_,(zab (zar (i:=1) sc.nd rfl (by first | exact Or.inl rfl | exact Or.inr rfl) (zal zac))
   (zab (za7 PassesOwn.never rfl (zgg rfl T.b_enumerate (zaa (zae (pv 0) rfl) zac)) (zfy rfl (zbl (zav (i:=2) sc.nd rfl (by first | exact Or.inl rfl | exact Or.inr rfl)) (zbl (zav (i:=3) sc.nd rfl (by first | exact Or.inl rfl | exact Or.inr rfl)) zdG)))
    (zab (za7 PassesOwn.never rfl (zgG (zaE zao (zae (pv 0) rfl) (pv 2) (fun _ _=>rfl))) (zav (i:=4) sc.nd rfl (by first | exact Or.inl rfl | exact Or.inr rfl))
     (zad (zaq (zba PySem.F.plainAttrs_list PySem.F.slot_list_extend PySem.F.type_list_extend zbh (pv 1) (zaa (pv 4) zac)))))
    (zad (zaq (zba PySem.F.plainAttrs_list PySem.F.slot_list_append PySem.F.type_list_append zbd (pv 1) (zaa (pv 3) zac))))))
   (zad (zah (pv 1))))),?_⟩
  refine ⟨Nat.zero_le _,fun L H1 s1 nL gL=>?_⟩
  have hR1:=hR.same s1
  have kp {H' H'':Hp} (s:Same H H') (e:Ext (·=L) H' H''):Same H H'':=fun b o hb=>e.at (s b o hb) (zag hb nL)
  refine ⟨_,rfl,r,_,dr,_,_,rfl,hR1.obj,T.R.cl,T.R.no _ (by decide +kernel),zaF,sA,_,rfl,SqL.of hR1.sl,zfK (K:=K) (a:=sA) (xs:=refs sh)
   (fun i σ H'=>∃ v2 v3 v4:Option V,σ=[some (.ref r),some (.ref L),v2,v3,v4]∧Same H H'∧H' L=some (.lst (refs (((hd.zip sh).take i).flatMap fun z=>z.1++[z.2])))) ⟨none,none,none,rfl,s1,gL⟩ (fun i σ H' _ ⟨_,_,_,_,s',_⟩=>SqL.of (s' _ _ hR.sl)) ?_ ?_⟩
  ·rintro i y σ H2 tt H3 hi ⟨v2,v3,v4,rfl,s2,hL⟩ s3 htt
   obtain ⟨x,hx,rfl⟩:=zau hi
   have hil:=(List.getElem?_eq_some_iff.mp hx).1
   obtain ⟨g,hg⟩:∃ g,gs[i]?=some g:=⟨_,List.getElem?_eq_getElem (by omega)⟩
   have hzip:(hd.zip sh)[i]?=some (flatG g,x):=by
    rw [List.getElem?_zip_eq_some]
    exact ⟨hhd hg,hx⟩
   have etake:((hd.zip sh).take (i+1)).flatMap (fun z=>z.1++[z.2])=(((hd.zip sh).take i).flatMap fun z=>z.1++[z.2])++flatG g++[x]:=by
    rw [zam hzip,List.flatMap_append,List.append_assoc]
    congr 1
    show (flatG g++[x])++[]=_
    rw [List.append_nil]
   have bl:=zbM hlen (i+1)
   rw [etake,List.length_append,List.length_append] at bl
   have hx1:([x]:List AP).length=1:=rfl
   have s03:=s2.trans s3
   have hR3:=hR.same s03
   have hL3:=s3 _ _ hL
   have hgap:=(hR3.gl g (List.mem_of_getElem? hg)).1
   refine ⟨tt,_,rfl,SqT.of htt,rfl,_,_,rfl,_,_,rfl,rfl,?_⟩
   refine ⟨_,rfl,r,_,dr,_,_,rfl,hR3.obj,T.R.cl,T.R.no _ (by decide +kernel),za3,_,rfl,hA,_,_,_,rfl,rfl,SqL.of hR3.hl,zas (j:=i) (v:=V.ref g.1) (by rw [List.getElem?_map,hg]; rfl),g.1,rfl,zdl (K:=K) (a:=g.1) (xs:=nrefs g.2)
    (fun j σ H'=>∃ v4:Option V,σ=[some (.ref r),some (.ref L),some (.int (i:Nat)),some (.ref x.1),v4]∧Ext (·=L) H3 H'∧H' L=some (.lst (refs ((((hd.zip sh).take i).flatMap fun z=>z.1++[z.2])++flatN (g.2.take j))))) hgap.seq ⟨v4,rfl,Ext.refl,by rw [hL3,List.take_zero]; show _=some (HO.lst (refs (_++[]))); rw [List.append_nil]⟩ (fun j σ' H' ⟨_,_,e',_⟩ o ho=>e'.at ho fun z=>?_) ?_ ?_⟩
   ·have z:g.1=L:=z
    rcases (hR.gl g (List.mem_of_getElem? hg)).1 with h | h
    ·rw [z,nL] at h; cases h
    ·rw [z,nL] at h; cases h.2
   ·rintro j y σ H4 hj ⟨v4,rfl,e4,hL4⟩
    obtain ⟨n,hn,rfl⟩:=zau hj
    have hnb:=hR3.nl n (List.mem_flatMap.mpr ⟨g,List.mem_of_getElem? hg,List.mem_of_getElem? hn⟩)
    have hnL:n.1≠L:=zag (hR.nl n (List.mem_flatMap.mpr ⟨g,List.mem_of_getElem? hg,List.mem_of_getElem? hn⟩)).at_ nL
    have eNT:=zc3 hn
    have bN:=zb1 g.2 (j+1)
    rw [eNT,List.length_append] at bN
    have e0:(flatG g).length=(flatN g.2).length:=rfl
    refine ⟨_,rfl,.inl ⟨rfl,_,SqL.of hL4⟩,_,rfl,L,n.1,_,_,rfl,rfl,hL4,.inl (e4.at hnb.at_ hnL),?_,fun H5 e5 h5=>?_⟩
    ·rw [List.length_map,List.length_map,List.length_append]
     omega
    ·refine ⟨_,rfl,e4.trans e5,?_⟩
     rw [h5,eNT,za4,List.append_assoc]
   ·rintro σ H4 ⟨v4,rfl,e4,hL4⟩
    have et:g.2.take (nrefs g.2).length=g.2:=List.take_of_length_le (by rw [List.length_map]; exact Nat.le_refl _)
    rw [et] at hL4
    refine ⟨_,rfl,.inl ⟨rfl,_,SqL.of hL4⟩,_,rfl,L,_,_,rfl,rfl,hL4,?_,fun H5 e5 h5=>?_⟩
    ·rw [List.length_map,List.length_append]
     have e0:(flatG g).length=(flatN g.2).length:=rfl
     omega
    ·refine ⟨_,_,_,rfl,kp (kp s03 e4) e5,?_⟩
     rw [h5,etake,← za4 (_++_) [x]]
     rfl
  ·rintro σ H2 ⟨v2,v3,v4,rfl,s2,hL⟩
   have el:(hd.zip sh).take (refs sh).length=hd.zip sh:=List.take_of_length_le (by rw [List.length_map,List.length_zip]; omega)
   rw [el,← zdm] at hL
   exact ⟨_,rfl,k H2 L s2 nL hL⟩
abbrev s_original_pieces:Stmt:=top 20
theorem zcG:FnScope ["row","pieces","place","piece","neighbours"] ["row"] (defScope s_original_pieces):=⟨rfl,rfl,rfl,by decide +kernel,rfl,by decide +kernel,by decide +kernel⟩
abbrev origs (l:List AP):List AP:=l.filter fun x=>Vatrka.stood x.2
def spOrigs (K:PySem.W.Frag) (c:Cs):Sp:=fun vs H Q _=>∃ (r:Addr) (X:Addr→Prop) (sh:List AP) (hd:List (List AP)),vs=[.ref r]∧RowAt c H r X sh hd∧Pcs K c H (all sh hd)∧hd.length=sh.length∧hd.flatten.length+sh.length < sizeLine ∧
 ∀ H' l,Same H H'→H l=none→H' l=some (.lst (refs (origs (flat hd sh))))→Q (.ref l) H'
theorem zbn (a b:List AP):origs (a++b)=origs a++origs b:=List.filter_append ..
theorem zdI {l:List AP} {x:AP} {t:List AP} (e:l=x::t) (h:∀ y∈t,Vatrka.sameMarks x.2 y.2=true):origs l=if Vatrka.stood x.2=true then l else []:=by
 have hall:∀ y∈l,Vatrka.stood y.2=Vatrka.stood x.2:=fun y hy=>by
  rw [e] at hy
  rcases List.mem_cons.mp hy with z | z
  ·rw [z]
  ·exact (ze9 _ _ (h y z)).symm
 cases hs:Vatrka.stood x.2 with
 | true=>exact List.filter_eq_self.mpr fun y hy=>by rw [hall y hy]; exact hs
 | false=>exact List.filter_eq_nil_iff.mpr fun y hy=>by rw [hall y hy,hs]; decide
theorem d_original_pieces (F:FunAt K mg "original_pieces" s_original_pieces) (T:Txt K mg c) (d_is_original:Def P w K mg base "is_original" 1 ["piece"] (spIsOrig K c.P)):Def P w K mg base "original_pieces" 2 ["row"] (spOrigs K c):=by
 have sc:=zcG
 refine F.def sc (fun _ _ _ _ _ _=>ar1 fun _=>rfl) (fun vs H Q E h=>?_) (fun f cdv A outer s H vs Q E hr h=>?_)
 ·obtain ⟨r,X,sh,hd,rfl,_⟩:=h
  rfl
 ·obtain ⟨r,X,sh,hd,rfl,⟨dr,sA,hA,gs,hR⟩,hpc,hlen,hz,k⟩:=h
  have hgl:gs.length=hd.length:=hR.len
  have hhd:∀ {i:Nat} {g:Gap},gs[i]?=some g→hd[i]?=some (flatG g):=fun {i g} hg=>by rw [hR.he,List.getElem?_map,hg]; rfl
  refine ⟨_,(zab (zar (i:=1) sc.nd rfl (by first | exact Or.inl rfl | exact Or.inr rfl) (zal zac))
   (zab (za7 PassesOwn.never rfl (zgg rfl T.b_enumerate (zaa (zae (pv 0) rfl) zac)) (zfy rfl (zbl (zav (i:=2) sc.nd rfl (by first | exact Or.inl rfl | exact Or.inr rfl)) (zbl (zav (i:=3) sc.nd rfl (by first | exact Or.inl rfl | exact Or.inr rfl)) zdG)))
    (zab (za7 PassesOwn.never rfl (zgG (zaE zao (zae (pv 0) rfl) (pv 2) (fun _ _=>rfl))) (zav (i:=4) sc.nd rfl (by first | exact Or.inl rfl | exact Or.inr rfl))
     (zad (zaC (zbD (zap d_is_original (hr.mono (by decide)) rfl pass0 (zaa (zaE zao (pv 4) zaf (fun _ _=>rfl)) zac)))
      (zad (zaq (zba PySem.F.plainAttrs_list PySem.F.slot_list_extend PySem.F.type_list_extend zbh (pv 1) (zaa (pv 4) zac))))
      zaj)))
    (zad (zaC (zbD (zap d_is_original (hr.mono (by decide)) rfl pass0 (zaa (pv 3) zac)))
     (zad (zaq (zba PySem.F.plainAttrs_list PySem.F.slot_list_append PySem.F.type_list_append zbd (pv 1) (zaa (pv 3) zac))))
     zaj))))
   (zad (zah (pv 1))))),?_⟩
  refine ⟨Nat.zero_le _,fun L H1 s1 nL gL=>?_⟩
  have hR1:=hR.same s1
  have kp {H' H'':Hp} (s:Same H H') (e:Ext (·=L) H' H''):Same H H'':=fun b o hb=>e.at (s b o hb) (zag hb nL)
  refine ⟨_,rfl,r,_,dr,_,_,rfl,hR1.obj,T.R.cl,T.R.no _ (by decide +kernel),zaF,sA,_,rfl,SqL.of hR1.sl,zfK (K:=K) (a:=sA) (xs:=refs sh)
   (fun i σ H'=>∃ v2 v3 v4:Option V,σ=[some (.ref r),some (.ref L),v2,v3,v4]∧Same H H'∧H' L=some (.lst (refs (origs (((hd.zip sh).take i).flatMap fun z=>z.1++[z.2]))))) ⟨none,none,none,rfl,s1,gL⟩ (fun i σ H' _ ⟨_,_,_,_,s',_⟩=>SqL.of (s' _ _ hR.sl)) ?_ ?_⟩
  ·rintro i y σ H2 tt H3 hi ⟨v2,v3,v4,rfl,s2,hL⟩ s3 htt
   obtain ⟨x,hx,rfl⟩:=zau hi
   have hil:=(List.getElem?_eq_some_iff.mp hx).1
   obtain ⟨g,hg⟩:∃ g,gs[i]?=some g:=⟨_,List.getElem?_eq_getElem (by omega)⟩
   have hzip:(hd.zip sh)[i]?=some (flatG g,x):=by
    rw [List.getElem?_zip_eq_some]
    exact ⟨hhd hg,hx⟩
   have etake:((hd.zip sh).take (i+1)).flatMap (fun z=>z.1++[z.2])=(((hd.zip sh).take i).flatMap fun z=>z.1++[z.2])++flatG g++[x]:=by
    rw [zam hzip,List.flatMap_append,List.append_assoc]
    congr 1
    show (flatG g++[x])++[]=_
    rw [List.append_nil]
   have bl:=zbM hlen (i+1)
   rw [etake,List.length_append,List.length_append] at bl
   have hx1:([x]:List AP).length=1:=rfl
   have bO:∀ l:List AP,(origs l).length≤l.length:=fun l=>List.length_filter_le _ _
   have s03:=s2.trans s3
   have hR3:=hR.same s03
   have hL3:=s3 _ _ hL
   have hgap:=(hR3.gl g (List.mem_of_getElem? hg)).1
   have hgm:∀ y∈flatG g,y∈all sh hd:=fun y hy=>List.mem_append_right _ (List.mem_flatten.mpr ⟨flatG g,List.mem_of_getElem? (hhd hg),hy⟩)
   refine ⟨tt,_,rfl,SqT.of htt,rfl,_,_,rfl,_,_,rfl,rfl,?_⟩
   refine ⟨_,rfl,r,_,dr,_,_,rfl,hR3.obj,T.R.cl,T.R.no _ (by decide +kernel),za3,_,rfl,hA,_,_,_,rfl,rfl,SqL.of hR3.hl,zas (j:=i) (v:=V.ref g.1) (by rw [List.getElem?_map,hg]; rfl),g.1,rfl,zdl (K:=K) (a:=g.1) (xs:=nrefs g.2)
    (fun j σ H'=>∃ v4:Option V,σ=[some (.ref r),some (.ref L),some (.int (i:Nat)),some (.ref x.1),v4]∧Ext (·=L) H3 H'∧H' L=some (.lst (refs (origs ((((hd.zip sh).take i).flatMap fun z=>z.1++[z.2])++flatN (g.2.take j)))))) hgap.seq ⟨v4,rfl,Ext.refl,by rw [hL3,List.take_zero]; show _=some (HO.lst (refs (origs (_++[])))); rw [List.append_nil]⟩ (fun j σ' H' ⟨_,_,e',_⟩ o ho=>e'.at ho fun z=>?_) ?_ ?_⟩
   ·have z:g.1=L:=z
    rcases (hR.gl g (List.mem_of_getElem? hg)).1 with h | h
    ·rw [z,nL] at h; cases h
    ·rw [z,nL] at h; cases h.2
   ·rintro j y σ H4 hj ⟨v4,rfl,e4,hL4⟩
    obtain ⟨n,hn,rfl⟩:=zau hj
    have hnb:=hR3.nl n (List.mem_flatMap.mpr ⟨g,List.mem_of_getElem? hg,List.mem_of_getElem? hn⟩)
    have hnL:n.1≠L:=zag (hR.nl n (List.mem_flatMap.mpr ⟨g,List.mem_of_getElem? hg,List.mem_of_getElem? hn⟩)).at_ nL
    obtain ⟨x0,t0,hxt,hal⟩:=hnb.al
    have hn4:=e4.at hnb.at_ hnL
    have eNT:=zc3 hn
    have bN:=zb1 g.2 (j+1)
    rw [eNT,List.length_append] at bN
    have e0:(flatG g).length=(flatN g.2).length:=rfl
    have bo:=bO ((((hd.zip sh).take i).flatMap fun z=>z.1++[z.2])++flatN (g.2.take j))
    rw [List.length_append] at bo
    have hp4:PieceAt K c.P H4 x0.1 x0.2:=(hpc.same (kp s03 e4)) x0 (hgm x0 (zdR (List.mem_of_getElem? hn) (by rw [hxt]; exact List.mem_cons_self)))
    refine ⟨_,rfl,n.1,_,_,_,rfl,rfl,SqL.of hn4,zas (j:=0) (v:=V.ref x0.1) (by rw [hxt]; rfl),x0.1,x0.2,rfl,hp4,fun H5 s5=>?_⟩
    refine ⟨_,rfl,?_⟩
    have eo:=zdI hxt hal
    cases hst:Vatrka.stood x0.2 with
    | true =>
     rw [hst,if_pos rfl] at eo
     refine iteT ?_
     refine ⟨_,rfl,.inl ⟨rfl,_,SqL.of (s5 _ _ hL4)⟩,_,rfl,L,n.1,_,_,rfl,rfl,s5 _ _ hL4,.inl (s5 _ _ hn4),?_,fun H6 e6 h6=>?_⟩
     ·rw [List.length_map,List.length_map]
      omega
     ·refine ⟨_,rfl,(e4.trans s5.ext).trans e6,?_⟩
      rw [h6,eNT,za4,← List.append_assoc,zbn _ n.2,eo]
    | false =>
     rw [hst,if_neg (by decide)] at eo
     refine iteF ?_
     refine ⟨_,rfl,e4.trans s5.ext,?_⟩
     rw [s5 _ _ hL4,eNT,← List.append_assoc,zbn _ n.2,eo,List.append_nil]
   ·rintro σ H4 ⟨v4,rfl,e4,hL4⟩
    have et:g.2.take (nrefs g.2).length=g.2:=List.take_of_length_le (by rw [List.length_map]; exact Nat.le_refl _)
    rw [et] at hL4
    have hp4:PieceAt K c.P H4 x.1 x.2:=(hpc.same (kp s03 e4)) x (List.mem_append_left _ (List.mem_of_getElem? hx))
    have bo:=bO ((((hd.zip sh).take i).flatMap fun z=>z.1++[z.2])++flatN g.2)
    rw [List.length_append] at bo
    have e0:(flatG g).length=(flatN g.2).length:=rfl
    refine ⟨_,rfl,x.1,x.2,rfl,hp4,fun H5 s5=>?_⟩
    refine ⟨_,rfl,?_⟩
    have eo:origs [x]=if Vatrka.stood x.2=true then [x] else []:=zdI rfl (fun _ h=>by cases h)
    cases hst:Vatrka.stood x.2 with
    | true =>
     rw [hst,if_pos rfl] at eo
     refine iteT ?_
     refine ⟨_,rfl,.inl ⟨rfl,_,SqL.of (s5 _ _ hL4)⟩,_,rfl,L,_,_,rfl,rfl,s5 _ _ hL4,?_,fun H6 e6 h6=>?_⟩
     ·rw [List.length_map]
      omega
     ·refine ⟨_,_,_,rfl,kp ((kp s03 e4).trans s5) e6,?_⟩
      rw [h6,etake,zbn _ [x],eo,← za4 _ [x]]
      rfl
    | false =>
     rw [hst,if_neg (by decide)] at eo
     refine iteF ?_
     refine ⟨_,_,_,rfl,(kp s03 e4).trans s5,?_⟩
     rw [s5 _ _ hL4,etake,zbn _ [x],eo,List.append_nil]
  ·rintro σ H2 ⟨v2,v3,v4,rfl,s2,hL⟩
   have el:(hd.zip sh).take (refs sh).length=hd.zip sh:=List.take_of_length_le (by rw [List.length_map,List.length_zip]; omega)
   rw [el,← zdm] at hL
   exact ⟨_,rfl,k H2 L s2 nL hL⟩
abbrev s_listed_marks:Stmt:=top 15
theorem zdz:FnScope ["piece","numbers","entry"] ["piece"] (defScope s_listed_marks):=⟨rfl,rfl,rfl,by decide +kernel,rfl,by decide +kernel,by decide +kernel⟩
def spListed (K:PySem.W.Frag) (C:Addr):Sp:=fun vs H Q _=>∃ (a:Addr) (x:Piece),vs=[.ref a]∧PieceAt K C H a x∧(Vatrka.toldMarks x).length < sizeLine∧∀ H' l,Same H H'→H l=none→H' l=some (.lst (nums (Vatrka.toldMarks x)))→Q (.ref l) H'
def pendNums (l:List Pending):List Nat:=l.flatMap fun y=>[y.change,y.prop,y.value]
theorem zdc (l:List Pending):(pendNums l).length=3 * l.length:=by
 unfold pendNums
 induction l with
 | nil=>rfl
 | cons y l ih =>
  rw [List.flatMap_cons,List.length_append,ih,List.length_cons (a:=y)]
  have:[y.change,y.prop,y.value].length=3:=rfl
  omega
theorem zjV (x:Piece):Vatrka.toldMarks x=((((([x.ins.length]++x.ins)++[x.del.length])++x.del)++[x.pend.length])++pendNums x.pend):=by
 unfold Vatrka.toldMarks Vatrka.counted Vatrka.toldPend pendNums
 simp
theorem zaB (a b:List Nat):nums a++nums b=nums (a++b):=by unfold nums; rw [List.map_append]
theorem d_listed_marks (F:FunAt K mg "listed_marks" s_listed_marks) (T:Txt K mg c):Def P w K mg base "listed_marks" 1 ["piece"] (spListed K c.P):=by
 have sc:=zdz
 refine F.def sc (fun _ _ _ _ _ _=>ar1 fun _=>rfl) (fun vs H Q E h=>?_) (fun f cdv A outer s H vs Q E hr h=>?_)
 ·obtain ⟨a,x,rfl,_⟩:=h
  rfl
 ·obtain ⟨a,x,rfl,⟨dx,lk,sn,it,dt,pt,Tg,h⟩,hz,k⟩:=h
  obtain ⟨es,hpt,hes⟩:=h.pend
  have hel:es.length=x.pend.length:=Paired.length hes
  rw [zjV] at hz k
  simp only [List.length_append,List.length_cons,List.length_nil,zdc] at hz
  refine ⟨_,(zab (zar (i:=1) sc.nd rfl (by first | exact Or.inl rfl | exact Or.inr rfl) (zal (zaa (zax zak rfl T.b_len PySem.boot_len (zaa (zae (pv 0) rfl) zac)) zac)))
   (zab (zaq (zba PySem.F.plainAttrs_list PySem.F.slot_list_extend PySem.F.type_list_extend zbh (pv 1) (zaa (zae (pv 0) rfl) zac)))
   (zab (zaq (zba PySem.F.plainAttrs_list PySem.F.slot_list_append PySem.F.type_list_append zbd (pv 1) (zaa (zax zak rfl T.b_len PySem.boot_len (zaa (zae (pv 0) rfl) zac)) zac)))
   (zab (zaq (zba PySem.F.plainAttrs_list PySem.F.slot_list_extend PySem.F.type_list_extend zbh (pv 1) (zaa (zae (pv 0) rfl) zac)))
   (zab (zaq (zba PySem.F.plainAttrs_list PySem.F.slot_list_append PySem.F.type_list_append zbd (pv 1) (zaa (zax zak rfl T.b_len PySem.boot_len (zaa (zae (pv 0) rfl) zac)) zac)))
   (zab (za7 PassesOwn.never rfl (zhZ (zae (pv 0) rfl)) (zav (i:=2) sc.nd rfl (by first | exact Or.inl rfl | exact Or.inr rfl))
    (zad (zaq (zba PySem.F.plainAttrs_list PySem.F.slot_list_extend PySem.F.type_list_extend zbh (pv 1) (zaa (pv 2) zac)))))
   (zad (zah (pv 1))))))))),?_⟩
  refine ⟨_,rfl,a,_,dx,_,_,rfl,h.obj,T.P.cl,T.P.no _ (by decide +kernel),zcq,it,_,rfl,.inr (SqT.of h.ins),by show 1≤sizeLine; decide,fun L H1 s1 nL g1=>?_⟩
  have g1:H1 L=some (.lst (nums [x.ins.length])):=by rw [g1,List.length_map]; rfl
  have kp {H' H'':Hp} (s:Same H H') (e:Ext (·=L) H' H''):Same H H'':=fun b o ho=>e b o (s b o ho) fun z=>(by have z:b=L:=z; subst z; rw [nL] at ho; cases ho)
  refine ⟨_,rfl,.inl ⟨rfl,_,SqL.of g1⟩,_,rfl,a,_,dx,_,_,rfl,s1 _ _ h.obj,T.P.cl,T.P.no _ (by decide +kernel),zcq,L,it,_,_,rfl,rfl,g1,.inr (s1 _ _ h.ins),?_,fun H2 e2 g2=>?_⟩
  ·rw [List.length_map,List.length_map]
   show 1+_≤_
   omega
  rw [zaB] at g2
  have s2:=kp s1 e2
  refine ⟨_,rfl,.inl ⟨rfl,_,SqL.of g2⟩,_,rfl,a,_,dx,_,_,rfl,s2 _ _ h.obj,T.P.cl,T.P.no _ (by decide +kernel),zdb,dt,_,rfl,.inr (SqT.of (s2 _ _ h.del)),L,_,_,rfl,rfl,g2,?_,fun H3 e3 g3=>?_⟩
  ·rw [List.length_map,List.length_append]
   show 1+_ < _
   omega
  have g3:H3 L=some (.lst (nums (([x.ins.length]++x.ins)++[x.del.length]))):=by rw [g3,List.length_map,← zaB ([x.ins.length]++x.ins) [x.del.length]]; rfl
  have s3:=kp s2 e3
  refine ⟨_,rfl,.inl ⟨rfl,_,SqL.of g3⟩,_,rfl,a,_,dx,_,_,rfl,s3 _ _ h.obj,T.P.cl,T.P.no _ (by decide +kernel),zdb,L,dt,_,_,rfl,rfl,g3,.inr (s3 _ _ h.del),?_,fun H4 e4 g4=>?_⟩
  ·simp only [List.length_map,List.length_append,List.length_cons,List.length_nil]
   omega
  rw [zaB] at g4
  have s4:=kp s3 e4
  refine ⟨_,rfl,.inl ⟨rfl,_,SqL.of g4⟩,_,rfl,a,_,dx,_,_,rfl,s4 _ _ h.obj,T.P.cl,T.P.no _ (by decide +kernel),zbX,pt,_,rfl,.inr (SqT.of (s4 _ _ hpt)),L,_,_,rfl,rfl,g4,?_,fun H5 e5 g5=>?_⟩
  ·simp only [List.length_map,List.length_append,List.length_cons,List.length_nil]
   omega
  have g5:H5 L=some (.lst (nums (((([x.ins.length]++x.ins)++[x.del.length])++x.del)++[x.pend.length]))):=by rw [g5,List.length_map,hel,← zaB ((([x.ins.length]++x.ins)++[x.del.length])++x.del) [x.pend.length]]; rfl
  have s5:=kp s4 e5
  refine ⟨_,rfl,a,_,dx,_,_,rfl,s5 _ _ h.obj,T.P.cl,T.P.no _ (by decide +kernel),zbX,pt,rfl,⟨_,SqT.of (s5 _ _ hpt)⟩,ziG (K:=K) (a:=pt) (xs:=es.map V.ref)
   (fun i σ H'=>∃ v:Option V,σ=[some (.ref a),some (.ref L),v]∧Same H H'∧H' L=some (.lst (nums ((((([x.ins.length]++x.ins)++[x.del.length])++x.del)++[x.pend.length])++pendNums (x.pend.take i))))) ⟨none,rfl,s5,?_⟩ (fun i σ H' _ ⟨_,_,s',_⟩=>SqT.of (s' _ _ hpt)) ?_ ?_⟩
  ·rw [g5]
   show _=some (HO.lst (nums (_++[])))
   rw [List.append_nil]
  ·rintro i y σ H6 hi ⟨v,rfl,s6,g6⟩
   obtain ⟨e,he,rfl⟩:=zau hi
   obtain ⟨yd,hy,hte⟩:=Paired.get? hes he
   have hyl:=(List.getElem?_eq_some_iff.mp hy).1
   refine ⟨_,rfl,.inl ⟨rfl,_,SqL.of g6⟩,_,rfl,L,e,_,_,rfl,rfl,g6,.inr (s6 _ _ hte),?_,fun H7 e7 g7=>?_⟩
   ·simp only [List.length_map,List.length_append,List.length_cons,List.length_nil,zdc,List.length_take]
    omega
   ·refine ⟨_,rfl,kp s6 e7,?_⟩
    rw [g7,zam hy]
    have e1:pendNums (x.pend.take i++[yd])=pendNums (x.pend.take i)++[yd.change,yd.prop,yd.value]:=by
     unfold pendNums
     rw [List.flatMap_append]
     simp
    rw [e1,← List.append_assoc,← zaB _ [yd.change,yd.prop,yd.value]]
    rfl
  ·rintro σ H6 ⟨v,rfl,s6,g6⟩
   have e1:x.pend.take (es.map V.ref).length=x.pend:=List.take_of_length_le (by rw [List.length_map,hel]; exact Nat.le_refl _)
   rw [e1] at g6
   exact ⟨_,rfl,k H6 L s6 nL g6⟩
end
section
variable {P:Program} {w:World} {K:PySem.W.Frag} {mg:Str→Option Value} {base:Heap} {c:Cs}
abbrev s_fill_with:Stmt:=top 29
theorem zfs:FnScope ["row","pieces"] ["row","pieces"] (defScope s_fill_with):=⟨rfl,rfl,rfl,by decide +kernel,rfl,by decide +kernel,by decide +kernel⟩
def spFill (c:Cs):Sp:=fun vs H Q _=>∃ (r pl dx:Addr) (X:Addr→Prop) (u v:V) (new:List AP),vs=[.ref r,.ref pl]∧H r=some (.ins c.R dx (rf u v))∧H pl=some (.lst (refs new))∧¬ X pl∧(∀ b,X b→∃ o,H b=some o)∧new.length < sizeLine ∧
 ∀ H',Ext (·=r) H H'→RowAt c H' r X new (List.replicate new.length [])→Q .non H'
theorem d_fill_with (F:FunAt K mg "fill_with" s_fill_with) (T:Txt K mg c):Def P w K mg base "fill_with" 1 ["row","pieces"] (spFill c):=by
 have sc:=zfs
 refine F.def sc (fun _ _ _ _ _ _=>ar2 fun _ _=>rfl) (fun vs H Q E h=>?_) (fun f cdv A outer s H vs Q E hr h=>?_)
 ·obtain ⟨r,pl,dx,X,u,v,new,rfl,_⟩:=h
  rfl
 ·obtain ⟨r,pl,dx,X,u,v,new,rfl,hr0,hpl,hpc,xa,hz,k⟩:=h
  have xn:∀ {b:Addr},H b=none→¬ X b:=fun {b} hb z=>by
   obtain ⟨o,h'⟩:=xa b z
   rw [hb] at h'
   cases h'
  have hsl:sizeLine=16777216:=sizeLine_eq
  refine ⟨_,(zab (zat (pv 0) (pv 1) rfl)
   (zad (zat (pv 0) (zaH zh8 (zal (zaa (zaJ zac) zac)) (zax zak rfl T.b_len PySem.boot_len (zaa (pv 1) zac))) rfl))),?_⟩
  refine ⟨_,rfl,_,rfl,r,_,dx,_,rfl,hr0,T.R.cl,T.R.no _ (by decide +kernel),zcj,fun H1 e1 h1=>?_⟩
  have plr:pl≠r:=zbw hpl hr0 (by intro z; cases z)
  have hpl1:=e1.at hpl plr
  refine ⟨Nat.zero_le _,fun t0 H2 s2 n2 g2=>?_⟩
  refine ⟨by show 1≤sizeLine; decide,fun l0 H3 s3 n3 g3=>?_⟩
  have s13:=s2.trans s3
  refine ⟨_,rfl,pl,_,rfl,.inl (SqL.of (s13 _ _ hpl1)),l0,_,_,rfl,rfl,g3,by omega,?_,?_,fun l1 H4 s4 n4 g4=>?_⟩
  ·rw [List.length_map]
   omega
  ·rw [List.length_map,Int.toNat_natCast]
   show 1 * _≤_
   omega
  rw [List.length_map,Int.toNat_natCast,zhO] at g4
  have s14:=s13.trans s4
  refine ⟨_,rfl,r,_,dx,_,rfl,s14 _ _ h1,T.R.cl,T.R.no _ (by decide +kernel),zcj,fun H5 e5 h5=>?_⟩
  have l1r:l1≠r:=fun z=>by rw [z,s13 _ _ h1] at n4; cases n4
  have c1:¬ X l1:=xn (e1.dom _ (s13.free n4))
  have ct:¬ X t0:=xn (e1.dom _ n2)
  have hin:inner (List.replicate new.length ((t0,[]):Gap))=[]:=by unfold inner; rw [zeX]; rfl
  refine k H5 ((e1.trans s14.ext).trans e5) ⟨dx,pl,l1,List.replicate new.length (t0,[]),h5,e5.at (s14 _ _ hpl1) plr,?_,?_,fun g hg=>?_,?_,?_,hpc,c1,?_,?_⟩
  ·rw [List.map_replicate]
   exact e5.at g4 l1r
  ·rw [List.map_replicate]
   rfl
  ·rw [(List.mem_replicate.mp hg).2,hin]
   exact ⟨.inr ⟨rfl,e5.tup ((s3.trans s4) _ _ g2)⟩,ct,fun h=>by cases h⟩
  ·rw [zeX]
   exact fun n hn=>by cases hn
  ·rw [hin]
   exact .nil
  ·rw [hin]
   exact fun h=>by cases h
  ·rw [hin]
   exact fun h=>by cases h
theorem ziJ (n:Nat):(List.replicate n ([]:List AP)).flatten=[]:=by
 rw [List.flatten_eq_nil_iff]
 intro l hl
 exact (List.mem_replicate.mp hl).2
theorem zcn (sh:List AP) (n:Nat):all sh (List.replicate n [])=sh:=by
 unfold all
 rw [ziJ,List.append_nil]
theorem zbv (m:Mo) (sh:List AP) (hd:List (List AP)):ps (flat hd sh)=(st m sh hd).row:=ze4 (fun x:AP=>x.2) hd sh
abbrev s_accept:Stmt:=top 70
theorem zhJ:FnScope ["document","marked","piece"] ["document"] (defScope s_accept):=⟨rfl,rfl,rfl,by decide +kernel,rfl,by decide +kernel,by decide +kernel⟩
def spAccept (K:PySem.W.Frag) (c:Cs):Sp:=fun vs H Q _=>∃ (d r ch:Addr) (m:Mo) (sh:List AP) (hd:List (List AP)) (k z:Nat),vs=[.ref d]∧Given K c H d r ch m sh hd k z 0∧Owes K c H d r ch m sh hd k z 0 .accept Q
def accA (x:AP):AP:=(x.1,{ x.2 with look:=shownLook x.2,ins:=[],pend:=[] })
theorem zfM {α:Type} (xs:List α):flat (List.replicate xs.length []) xs=xs:=by
 have:=ze3 xs [] []
 rw [List.append_nil,List.append_nil] at this
 rw [this]
 show xs++[]=xs
 rw [List.append_nil]
theorem zkt {k z:Nat} {m:Mo} {sh:List AP} {hd:List (List AP)} (w:Wf k z m sh hd):Vatrka.acceptRow (st m sh hd).row=flat (hs (List.replicate (sh.map accA).length [])) (ps (sh.map accA)):=by
 unfold Vatrka.acceptRow
 have hv:(st m sh hd).row.filter Vatrka.shown=ps sh:=zaO w.split
 rw [hv,ze1]
 have e:(sh.map accA).length=(ps (sh.map accA)).length:=by rw [List.length_map (f:=fun x:AP=>x.2)]
 rw [e,zfM]
 unfold ps
 rw [List.map_map,List.map_map]
 refine List.map_congr_left fun x hx=>?_
 have dx:=w.split.sh _ (List.mem_map.mpr ⟨x,hx,rfl⟩)
 show Vatrka.acceptPiece x.2={ x.2 with look:=shownLook x.2,ins:=[],pend:=[] }
 unfold Vatrka.acceptPiece
 rw [← dx]
theorem zlb {k z:Nat} {m:Mo} {sh:List AP} {hd:List (List AP)} (w:Wf k z m sh hd):Wf (k+1) z m (sh.map accA) (List.replicate (sh.map accA).length []):=by
 have fl:(List.replicate (sh.map accA).length ([]:List AP)).flatten=[]:=by
  rw [List.flatten_eq_nil_iff]
  intro l hl
  exact (List.mem_replicate.mp hl).2
 refine ⟨⟨?_,?_,?_⟩,?_,?_,?_,?_,?_,?_,?_⟩
 ·simp only [List.length_map,List.length_replicate]
 ·intro x hx
  obtain ⟨y,hy,rfl⟩:=zb5 hx
  obtain ⟨v,hv,rfl⟩:=List.mem_map.mp hy
  exact w.split.sh v.2 (List.mem_map.mpr ⟨v,hv,rfl⟩)
 ·intro h hh x hx
  obtain ⟨g,hg,rfl⟩:=List.mem_map.mp hh
  rw [(List.mem_replicate.mp hg).2] at hx
  cases hx
 ·unfold all
  rw [fl,List.append_nil,List.map_map]
  have:((fun x:AP=>x.1) ∘ accA)=fun x=>x.1:=rfl
  rw [this]
  have nd:=w.nd
  unfold all at nd
  rw [List.map_append] at nd
  exact (List.nodup_append.mp nd).1
 ·unfold all
  rw [fl,List.append_nil]
  intro x hx
  obtain ⟨v,hv,rfl⟩:=List.mem_map.mp hx
  have wv:=(w.pcs v (List.mem_append_left _ hv)).mono (Nat.le_refl _) (Nat.le_succ k)
  exact ⟨rfl,(fun i hi=>by cases hi),wv.del,(fun i hi=>by cases hi),Nat.zero_le _,wv.delL,Nat.zero_le _,wv.tagsS,wv.tagsR⟩
 ·obtain ⟨x,hx,h1,h2⟩:=w.last
  exact ⟨accA x,by rw [List.getLast?_map,hx]; rfl,h1,rfl⟩
 ·exact Nat.le_succ_of_le w.chs
 ·rw [List.length_map]
  exact w.shL
 ·rw [fl]
  exact Nat.zero_le _
 ·rw [zcn]
  have:=zgu (sh.map accA)
  rw [List.length_map] at this
  exact Nat.le_trans this w.shL
theorem d_accept (F:FunAt K mg "accept" s_accept) (T:Txt K mg c) (d_count_marked:Def P w K mg base "count_marked" 7 ["row"] (spCount K c)) (d_fill_with:Def P w K mg base "fill_with" 1 ["row","pieces"] (spFill c)) (d_settle:Def P w K mg base "settle" 1 ["piece"] (spSettle K c.P)) :
  Def P w K mg base "accept" 8 ["document"] (spAccept K c):=by
 have sc:=zhJ
 refine F.def sc (fun _ _ _ _ _ _=>ar1 fun _=>rfl) (fun vs H Q E h=>?_) (fun f cdv A outer s H vs Q E hr h=>?_)
 ·obtain ⟨d,r,ch,m,sh,hd,k,z,rfl,_⟩:=h
  rfl
 ·obtain ⟨d,r,ch,m,sh,hd,k,z,rfl,g,o⟩:=h
  have hsl:sizeLine=16777216:=sizeLine_eq
  obtain ⟨hsm,hshL,hchL⟩:=g.small
  obtain ⟨dx,es,hD⟩:=g.full.doc
  refine ⟨_,(zab (zar (i:=1) sc.nd rfl (by first | exact Or.inl rfl | exact Or.inr rfl) (zap d_count_marked (hr.mono (by decide)) rfl pass0 (zaa (zae (pv 0) rfl) zac)))
   (zab (za7 PassesOwn.never rfl (zaW (zae (zae (pv 0) rfl) rfl)) (zav (i:=2) sc.nd rfl (by first | exact Or.inl rfl | exact Or.inr rfl))
    (zad (zaq (zap d_settle (hr.mono (by decide)) rfl pass0 (zaa (pv 2) zac)))))
   (zab (zaq (zap d_fill_with (hr.mono (by decide)) rfl pass0 (zaa (zae (pv 0) rfl) (zaa (zae (zae (pv 0) rfl) rfl) zac))))
   (zad (zah (zal (zaa (pv 1) zac))))))),?_⟩
  refine ⟨_,rfl,d,_,dx,_,_,rfl,hD.obj,T.D.cl,T.D.no _ (by decide +kernel),zaS,r,_,sh,hd,rfl,g.full.row,g.full.pcs,g.wf.len,g.wf.ne,by omega,fun H1 s1=>?_⟩
  have f1:=g.full.same s1
  obtain ⟨dr,sA,hA,gs,hR⟩:=g.full.row
  have hR1:=hR.same s1
  have nds:(sh.map (·.1)).Nodup:=by
   have nd:=g.wf.nd
   unfold all at nd
   rw [List.map_append] at nd
   exact (List.nodup_append.mp nd).1
  have inA:∀ x∈sh,x∈all sh hd:=fun x hx=>List.mem_append_left _ hx
  have sAp:∀ x∈sh,sA≠x.1:=fun x hx=>by
   obtain ⟨dxp,lk2,sn,it,dt,pt,T2,h2⟩:=f1.pcs x (inA x hx)
   exact zbw hR1.sl h2.obj (by intro z; cases z)
  have hf:∀ x,(accA x).1=x.1:=fun x=>rfl
  refine ⟨_,rfl,d,_,dx,_,_,rfl,s1 _ _ hD.obj,T.D.cl,T.D.no _ (by decide +kernel),zaS,r,_,dr,_,_,rfl,hR1.obj,T.R.cl,T.R.no _ (by decide +kernel),zaF,sA,rfl,⟨_,SqL.of hR1.sl⟩,za8 (K:=K) (a:=sA) (xs:=refs sh)
   (fun i σ H'=>∃ v:Option V,σ=[some (.ref d),some (.int (((ps (flat hd sh)).filter marked).length:Int)),v]∧Ext (fun b=>∃ x∈sh,b=x.1) H1 H'∧Pcs K c H' ((sh.take i).map accA)∧Pcs K c H' (sh.drop i))
   ⟨none,rfl,Ext.refl,(fun _ h=>absurd h (by simp)),fun x hx=>f1.pcs x (inA x hx)⟩ (fun i σ H' _ ⟨_,_,e,_⟩=>SqL.of (e.at hR1.sl fun ⟨x,hx,z⟩=>sAp x hx z)) ?_ ?_⟩
  ·rintro i y σ H3 hi ⟨v,rfl,e,hp1,hp2⟩
   obtain ⟨x,hx,rfl⟩:=zau hi
   have hil:=(List.getElem?_eq_some_iff.mp hx).1
   have hdrop:sh.drop i=x::sh.drop (i+1):=by
    rw [List.drop_eq_getElem_cons hil,(List.getElem?_eq_some_iff.mp hx).2]
   refine ⟨_,rfl,x.1,x.2,rfl,hp2 x (by rw [hdrop]; exact List.mem_cons_self),fun H4 e4 h4=>?_⟩
   have tn:=Pcs.turn (f:=accA) nds hx hf e4 hp1 hp2 h4
   exact ⟨_,rfl,e.trans (e4.mono fun b o' _ z _=>⟨x,List.mem_of_getElem? hx,z⟩),tn.1,tn.2⟩
  ·rintro σ H3 ⟨v,rfl,e,hp1,_⟩
   have el:(refs sh).length=sh.length:=List.length_map ..
   rw [el,List.take_length] at hp1
   have erefs:refs (sh.map accA)=refs sh:=by
    unfold refs
    rw [List.map_map]
    rfl
   have E03:Ext (fun _=>True) H H3:=s1.ext.trans (e.mono fun _ _ _ _ _=>trivial)
   have hR3:RAt c H3 r (m.xs ch) sh hd dr sA hA gs:=hR1.keep e (fun ⟨x,hx,z⟩=>f1.rp x (inA x hx) z.symm) (fun b ⟨x,hx,z⟩=>by
    obtain ⟨dxp,lk,sn,it,dt,pt,T',h2⟩:=f1.pcs x (inA x hx)
    exact .inr (.inr ⟨_,_,_,by rw [z]; exact h2.obj⟩))
   have hD3:DocAt c H3 d m r ch:=f1.doc.keep e (fun ⟨x,hx,z⟩=>f1.dp x (inA x hx) z.symm) (fun ⟨x,hx,z⟩=>f1.cp x (inA x hx) z.symm)
   obtain ⟨dx3,es3,hDo3⟩:=id hD3
   refine ⟨_,rfl,d,_,dx3,_,_,rfl,hDo3.obj,T.D.cl,T.D.no _ (by decide +kernel),zaS,_,rfl,d,_,dx3,_,_,rfl,hDo3.obj,T.D.cl,T.D.no _ (by decide +kernel),zaS,r,_,dr,_,_,rfl,hR3.obj,T.R.cl,T.R.no _ (by decide +kernel),zaF,
    r,sA,dr,m.xs ch,_,_,sh.map accA,rfl,hR3.obj,by rw [erefs]; exact hR3.sl,hR3.sn,g.xa (E03),by rw [List.length_map]; omega,fun H4 e4 hR4=>?_⟩
   have f4:Full K c H4 d m r ch (sh.map accA) (List.replicate (sh.map accA).length []):=by
    refine ⟨hD3.keep e4 f1.dr f1.cr,hR4,?_⟩
    rw [zcn]
    refine hp1.keep e4 fun x hx=>?_
    obtain ⟨y,hy,rfl⟩:=List.mem_map.mp hx
    exact f1.rp y (inA y hy)
   refine ⟨_,rfl,by show 1≤sizeLine; decide,fun l H' s' n' h'=>?_⟩
   have E4:Ext (Foot H d r ch sh hd) H H4:=(s1.ext.trans (e.mono fun b o' _ ⟨x,hx,z⟩ _=>.inr (.inr (.inr ⟨x,List.mem_append_left _ hx,z⟩)))).trans (e4.mono fun b o' _ z _=>.inr (.inl z))
   have estep:Vatrka.step (st m sh hd) .accept=(st m (sh.map accA) (List.replicate (sh.map accA).length []),.told [((ps (flat hd sh)).filter marked).length]):=by
    show (({ st m sh hd with row:=Vatrka.acceptRow (st m sh hd).row }:Vatrka.State),Vatrka.Answer.told [((st m sh hd).row.filter marked).length])=_
    rw [zkt g.wf,← zbv m]
    rfl
   exact o H' l m _ _ (E4.trans s'.ext) (E4.dom l n') (by rw [estep]; exact h') (f4.same s') rfl (by rw [estep]) (zlb g.wf)
abbrev s_reject:Stmt:=top 71
theorem zhG:FnScope ["document","marked","kept","piece"] ["document"] (defScope s_reject):=⟨rfl,rfl,rfl,by decide +kernel,rfl,by decide +kernel,by decide +kernel⟩
def spReject (K:PySem.W.Frag) (c:Cs):Sp:=fun vs H Q _=>∃ (d r ch:Addr) (m:Mo) (sh:List AP) (hd:List (List AP)) (k z:Nat),vs=[.ref d]∧Given K c H d r ch m sh hd k z 0∧Owes K c H d r ch m sh hd k z 0 .reject Q
def rejA (x:AP):AP:=(x.1,{ x.2 with del:=[],pend:=[] })
theorem zgD (l:List AP):ps (origs l)=(ps l).filter Vatrka.stood:=by
 unfold ps origs
 rw [List.filter_map]
 rfl
theorem zj4 (m:Mo) (sh:List AP) (hd:List (List AP)):Vatrka.rejectRow (st m sh hd).row=flat (hs (List.replicate ((origs (flat hd sh)).map rejA).length [])) (ps ((origs (flat hd sh)).map rejA)):=by
 unfold Vatrka.rejectRow
 rw [← zbv m,← zgD,ze1]
 have e:((origs (flat hd sh)).map rejA).length=(ps ((origs (flat hd sh)).map rejA)).length:=by rw [List.length_map (f:=fun x:AP=>x.2)]
 rw [e,zfM]
 unfold ps
 rw [List.map_map,List.map_map]
 refine List.map_congr_left fun x hx=>?_
 have hs:Vatrka.stood x.2=true:=(List.mem_filter.mp hx).2
 have hi:x.2.ins=[]:=by
  unfold Vatrka.stood at hs
  exact List.isEmpty_iff.mp hs
 show Vatrka.rejectPiece x.2={ x.2 with del:=[],pend:=[] }
 unfold Vatrka.rejectPiece
 rw [← hi]
theorem zkF {k z:Nat} {m:Mo} {sh:List AP} {hd:List (List AP)} (w:Wf k z m sh hd):Wf (k+1) z m ((origs (flat hd sh)).map rejA) (List.replicate ((origs (flat hd sh)).map rejA).length []):=by
 have pm:=zaT (hd:=hd) (sh:=sh) w.len
 have hsub:∀ x∈origs (flat hd sh),x∈all sh hd:=fun x hx=>pm.mem_iff.mp (List.mem_filter.mp hx).1
 have hlen:(origs (flat hd sh)).length=std (all sh hd):=(pm.filter _).length_eq
 refine ⟨⟨?_,?_,?_⟩,?_,?_,?_,?_,?_,?_,?_⟩
 ·simp only [List.length_map,List.length_replicate]
 ·intro x hx
  obtain ⟨y,hy,rfl⟩:=zb5 hx
  obtain ⟨v,hv,rfl⟩:=List.mem_map.mp hy
  rfl
 ·intro h hh x hx
  obtain ⟨g,hg,rfl⟩:=List.mem_map.mp hh
  rw [(List.mem_replicate.mp hg).2] at hx
  cases hx
 ·rw [zcn,List.map_map]
  have e:((fun x:AP=>x.1) ∘ rejA)=fun x=>x.1:=rfl
  rw [e]
  have nd:((flat hd sh).map (·.1)).Nodup:=(pm.map (·.1)).nodup_iff.mpr w.nd
  exact nd.sublist (List.filter_sublist.map _)
 ·rw [zcn]
  intro x hx
  obtain ⟨v,hv,rfl⟩:=List.mem_map.mp hx
  have wv:=(w.pcs v (hsub v hv)).mono (Nat.le_refl _) (Nat.le_succ k)
  exact ⟨wv.look,wv.ins,(fun i hi=>by cases hi),(fun i hi=>by cases hi),wv.insL,Nat.zero_le _,Nat.zero_le _,wv.tagsS,wv.tagsR⟩
 ·obtain ⟨x,hx,h1,h2⟩:=w.last
  have hx':sh[sh.length - 1]?=some x:=by rw [← List.getLast?_eq_getElem?]; exact hx
  have e:=zeO w.len hx'
  have hs:Vatrka.stood x.2=true:=by unfold Vatrka.stood; rw [h2]; rfl
  refine ⟨rejA x,?_,h1,h2⟩
  have eo:origs (flat hd sh)=origs (pre hd sh (sh.length - 1))++[x]:=by
   rw [e,zbn]
   congr 1
   show List.filter _ [x]=[x]
   rw [List.filter_cons,if_pos hs,List.filter_nil]
  rw [List.getLast?_map,eo,List.getLast?_concat]
  rfl
 ·exact Nat.le_succ_of_le w.chs
 ·rw [List.length_map,hlen]
  exact w.stL
 ·rw [ziJ]
  exact Nat.zero_le _
 ·rw [zcn]
  have:=zgu ((origs (flat hd sh)).map rejA)
  rw [List.length_map,hlen] at this
  exact Nat.le_trans this w.stL
theorem d_reject (F:FunAt K mg "reject" s_reject) (T:Txt K mg c) (d_count_marked:Def P w K mg base "count_marked" 7 ["row"] (spCount K c)) (d_original_pieces:Def P w K mg base "original_pieces" 2 ["row"] (spOrigs K c)) (d_fill_with:Def P w K mg base "fill_with" 1 ["row","pieces"] (spFill c)) (d_restore:Def P w K mg base "restore" 1 ["piece"] (spRestore K c.P)) :
  Def P w K mg base "reject" 8 ["document"] (spReject K c):=by
 have sc:=zhG
 refine F.def sc (fun _ _ _ _ _ _=>ar1 fun _=>rfl) (fun vs H Q E h=>?_) (fun f cdv A outer s H vs Q E hr h=>?_)
 ·obtain ⟨d,r,ch,m,sh,hd,k,z,rfl,_⟩:=h
  rfl
 ·obtain ⟨d,r,ch,m,sh,hd,k,z,rfl,g,o⟩:=h
  have hsl:sizeLine=16777216:=sizeLine_eq
  obtain ⟨hsm,hshL,hchL⟩:=g.small
  obtain ⟨dx,es,hD⟩:=g.full.doc
  refine ⟨_,(zab (zar (i:=1) sc.nd rfl (by first | exact Or.inl rfl | exact Or.inr rfl) (zap d_count_marked (hr.mono (by decide)) rfl pass0 (zaa (zae (pv 0) rfl) zac)))
   (zab (zar (i:=2) sc.nd rfl (by first | exact Or.inl rfl | exact Or.inr rfl) (zap d_original_pieces (hr.mono (by decide)) rfl pass0 (zaa (zae (pv 0) rfl) zac)))
   (zab (za7 PassesOwn.never rfl (zaW (pv 2)) (zav (i:=3) sc.nd rfl (by first | exact Or.inl rfl | exact Or.inr rfl))
    (zad (zaq (zap d_restore (hr.mono (by decide)) rfl pass0 (zaa (pv 3) zac)))))
   (zab (zaq (zap d_fill_with (hr.mono (by decide)) rfl pass0 (zaa (zae (pv 0) rfl) (zaa (pv 2) zac))))
   (zad (zah (zal (zaa (pv 1) zac)))))))),?_⟩
  refine ⟨_,rfl,d,_,dx,_,_,rfl,hD.obj,T.D.cl,T.D.no _ (by decide +kernel),zaS,r,_,sh,hd,rfl,g.full.row,g.full.pcs,g.wf.len,g.wf.ne,by omega,fun H1 s1=>?_⟩
  have f1:=g.full.same s1
  refine ⟨_,rfl,d,_,dx,_,_,rfl,s1 _ _ hD.obj,T.D.cl,T.D.no _ (by decide +kernel),zaS,r,_,sh,hd,rfl,f1.row,f1.pcs,g.wf.len,by omega,fun H2 kl s2 nkl hkl=>?_⟩
  have f2:=f1.same s2
  have pm:=zaT (hd:=hd) (sh:=sh) g.wf.len
  have inA:∀ x∈origs (flat hd sh),x∈all sh hd:=fun x hx=>pm.mem_iff.mp (List.mem_filter.mp hx).1
  have nds:((origs (flat hd sh)).map (·.1)).Nodup:=by
   have nd:((flat hd sh).map (·.1)).Nodup:=(pm.map (·.1)).nodup_iff.mpr g.wf.nd
   exact nd.sublist (List.filter_sublist.map _)
  have hlen:(origs (flat hd sh)).length≤17001:=by
   have e:(origs (flat hd sh)).length=std (all sh hd):=(pm.filter _).length_eq
   have:=g.wf.stL
   have:=g.zL
   omega
  have klp:∀ x∈origs (flat hd sh),kl≠x.1:=fun x hx=>by
   obtain ⟨dxp,lk2,sn,it,dt,pt,T2,h2⟩:=f2.pcs x (inA x hx)
   exact zbw hkl h2.obj (by intro z; cases z)
  have hf:∀ x,(rejA x).1=x.1:=fun x=>rfl
  generalize hLL:origs (flat hd sh)=LL at inA nds hlen klp hkl ⊢
  refine ⟨_,rfl,kl,rfl,⟨_,SqL.of hkl⟩,za8 (K:=K) (a:=kl) (xs:=refs LL)
   (fun i σ H'=>∃ v:Option V,σ=[some (.ref d),some (.int (((ps (flat hd sh)).filter marked).length:Int)),some (.ref kl),v]∧Ext (fun b=>∃ x∈LL,b=x.1) H2 H'∧Pcs K c H' ((LL.take i).map rejA)∧Pcs K c H' (LL.drop i))
   ⟨none,rfl,Ext.refl,(fun _ h=>absurd h (by simp)),fun x hx=>f2.pcs x (inA x hx)⟩ (fun i σ H' _ ⟨_,_,e,_⟩=>SqL.of (e.at hkl fun ⟨x,hx,z⟩=>klp x hx z)) ?_ ?_⟩
  ·rintro i y σ H3 hi ⟨v,rfl,e,hp1,hp2⟩
   obtain ⟨x,hx,rfl⟩:=zau hi
   have hil:=(List.getElem?_eq_some_iff.mp hx).1
   have hdrop:LL.drop i=x::LL.drop (i+1):=by
    rw [List.drop_eq_getElem_cons hil,(List.getElem?_eq_some_iff.mp hx).2]
   refine ⟨_,rfl,x.1,x.2,rfl,hp2 x (by rw [hdrop]; exact List.mem_cons_self),(g.wf.pcs x (inA x (List.mem_of_getElem? hx))).look,fun H4 e4 h4=>?_⟩
   have tn:=Pcs.turn (f:=rejA) nds hx hf e4 hp1 hp2 h4
   exact ⟨_,rfl,e.trans (e4.mono fun b o' _ z _=>⟨x,List.mem_of_getElem? hx,z⟩),tn.1,tn.2⟩
  ·rintro σ H3 ⟨v,rfl,e,hp1,_⟩
   have el:(refs LL).length=LL.length:=List.length_map ..
   rw [el,List.take_length] at hp1
   have erefs:refs (LL.map rejA)=refs LL:=by
    unfold refs
    rw [List.map_map]
    rfl
   have hD3:DocAt c H3 d m r ch:=f2.doc.keep e (fun ⟨x,hx,z⟩=>f2.dp x (inA x hx) z.symm) (fun ⟨x,hx,z⟩=>f2.cp x (inA x hx) z.symm)
   obtain ⟨dx3,es3,hDo3⟩:=id hD3
   obtain ⟨dr,sA,hA,gs,hR⟩:=f2.row
   have hro:=e.at hR.obj (fun ⟨x,hx,z⟩=>f2.rp x (inA x hx) z.symm)
   have hkl3:=e.at hkl fun ⟨x,hx,z⟩=>klp x hx z
   have E03:Ext (fun _=>True) H H3:=(s1.ext.trans s2.ext).trans (e.mono fun _ _ _ _ _=>trivial)
   have klc:¬ m.xs ch kl:=fun z=>by
    obtain ⟨o',h⟩:=g.xa (S:=fun _=>False) s1.ext kl z
    rw [h] at nkl
    cases nkl
   refine ⟨_,rfl,d,_,dx3,_,_,rfl,hDo3.obj,T.D.cl,T.D.no _ (by decide +kernel),zaS,_,rfl,r,kl,dr,m.xs ch,_,_,LL.map rejA,rfl,hro,by rw [erefs]; exact hkl3,klc,g.xa (E03),by rw [List.length_map]; omega,fun H4 e4 hR4=>?_⟩
   have f4:Full K c H4 d m r ch (LL.map rejA) (List.replicate (LL.map rejA).length []):=by
    refine ⟨hD3.keep e4 f2.dr f2.cr,hR4,?_⟩
    rw [zcn]
    refine hp1.keep e4 fun x hx=>?_
    obtain ⟨y,hy,rfl⟩:=List.mem_map.mp hx
    exact f2.rp y (inA y hy)
   refine ⟨_,rfl,by show 1≤sizeLine; decide,fun l H' s' n' h'=>?_⟩
   have E4:Ext (Foot H d r ch sh hd) H H4:=((s1.ext.trans s2.ext).trans (e.mono fun b o' _ ⟨x,hx,z⟩ _=>.inr (.inr (.inr ⟨x,inA x hx,z⟩)))).trans (e4.mono fun b o' _ z _=>.inr (.inl z))
   have estep:Vatrka.step (st m sh hd) .reject=(st m (LL.map rejA) (List.replicate (LL.map rejA).length []),.told [((ps (flat hd sh)).filter marked).length]):=by
    show (({ st m sh hd with row:=Vatrka.rejectRow (st m sh hd).row }:Vatrka.State),Vatrka.Answer.told [((st m sh hd).row.filter marked).length])=_
    rw [zj4,← zbv m,← hLL]
    rfl
   refine o H' l m _ _ (E4.trans s'.ext) (E4.dom l n') (by rw [estep]; exact h') (f4.same s') rfl (by rw [estep]) ?_
   rw [← hLL]
   exact zkF g.wf
end
section
variable {P:Program} {w:World} {K:PySem.W.Frag} {mg:Str→Option Value} {base:Heap} {c:Cs}
def lastEnd:Piece:={ sign:=10,look:=Vatrka.zeroLook }
abbrev s_Row_init:Stmt:=inClass (top 17) 0
theorem zgc:FnScope ["self"] ["self"] (defScope s_Row_init):=⟨rfl,rfl,rfl,by decide +kernel,rfl,by decide +kernel,by decide +kernel⟩
def spRowNew (K:PySem.W.Frag) (c:Cs):Sp:=fun vs H Q _=>∃ (r dx:Addr),vs=[.ref r]∧H r=some (.ins c.R dx []) ∧
 ∀ H' a,Ext (·=r) H H'→H a=none→(∀ X:Addr→Prop,(∀ b,X b→H b≠none∨H' b=none)→RowAt c H' r X [(a,lastEnd)] [[]])→Pcs K c H' [(a,lastEnd)]→Q .non H'
theorem d_Row (F:InitAt K mg "Row" "Row.__init__" c.R s_Row_init) (T:Txt K mg c) (d_Piece:NewDef P w K mg base "Piece" c.P 1 ["self","sign","look","tags"] (spPiece K c.P)):NewDef P w K mg base "Row" c.R 3 ["self"] (spRowNew K c):=by
 have sc:=zgc
 refine F.def sc (fun _ _ _ _ _ _=>ar1 fun _=>rfl) (fun vs H Q E h=>?_) (fun f cdv A outer s H vs Q E hr h=>?_)
 ·obtain ⟨r,dx,rfl,_⟩:=h
  rfl
 ·obtain ⟨r,dx,rfl,hr0,k⟩:=h
  refine ⟨_,(zab (zat (pv 0) (zal (zaa (zgH d_Piece (hr.mono (by decide)) rfl pass0 (zaa (zay rfl T.g_PARAGRAPH_END) (zaa (zeS (v:=.ref c.L) rfl T.g_PLAIN_LOOK rfl) (zaa zaf zac)))) zac)) rfl)
   (zad (zat (pv 0) (zal (zaa (zaJ zac) zac)) rfl))),?_⟩
  intro a da H1 s1 na h1
  refine ⟨a,da,c.L,10,Vatrka.zeroLook,[],0,rfl,h1,zeR T,rfl,TagsAre.none,fun H2 e2 hp2=>⟨rfl,?_⟩⟩
  have s2:Same H H2:=fun b o hb=>e2.at (s1 _ _ hb) (zag hb na)
  refine ⟨by show 1≤sizeLine; decide,fun sA H3 s3 n3 g3=>?_⟩
  have s03:=s2.trans s3
  refine ⟨_,rfl,r,_,dx,_,rfl,s03 _ _ hr0,T.R.cl,T.R.no _ (by decide +kernel),by show 0 < 1000; decide,fun H4 e4 h4=>?_⟩
  refine ⟨Nat.zero_le _,fun g0 H5 s5 n5 g5=>?_⟩
  refine ⟨by show 1≤sizeLine; decide,fun hA H6 s6 n6 g6=>?_⟩
  have s46:=s5.trans s6
  refine ⟨_,rfl,r,_,dx,_,rfl,s46 _ _ h4,T.R.cl,T.R.no _ (by decide +kernel),by show 1 < 1000; decide,fun H7 e7 h7=>?_⟩
  have f47:Ext (·=r) H4 H7:=s46.ext.trans e7
  have f07:Ext (·=r) H H7:=(s03.ext.trans e4).trans f47
  have sAr:sA≠r:=fun z=>by rw [z,s2 _ _ hr0] at n3; cases n3
  have g0r:g0≠r:=fun z=>by rw [z,h4] at n5; cases n5
  have hAr:hA≠r:=fun z=>by rw [z,s5 _ _ h4] at n6; cases n6
  have ar:a≠r:=fun z=>by rw [z,hr0] at na; cases na
  have hsA:H7 sA=some (.lst [.ref a]):=f47.at (e4.at g3 sAr) sAr
  have hhA:H7 hA=some (.lst [.ref g0]):=e7.at g6 hAr
  have hg0:H7 g0=some (.tup []):=e7.tup (s6 _ _ g5)
  refine k H7 a f07 na (fun X hX=>?_) (fun p hp=>?_)
  ·have x1:¬ X g0:=fun z=>by
    rcases hX g0 z with hch | hch
    ·exact hch (s03.free (e4.dom g0 n5))
    ·rw [hg0] at hch; cases hch
   have x2:¬ X sA:=fun z=>by
    rcases hX sA z with hch | hch
    ·exact hch (s2.free n3)
    ·rw [hsA] at hch; cases hch
   have x3:¬ X hA:=fun z=>by
    rcases hX hA z with hch | hch
    ·exact hch (s03.free (e4.dom hA (s5.free n6)))
    ·rw [hhA] at hch; cases hch
   refine ⟨dx,sA,hA,[(g0,[])],h7,hsA,hhA,rfl,(fun g hg=>?_),(fun n hn=>by cases hn),.nil,x2,x3,(fun h=>by cases h),(fun h=>by cases h)⟩
   rw [List.mem_singleton.mp hg]
   exact ⟨.inr ⟨rfl,hg0⟩,x1,fun h=>by cases h⟩
  ·rw [List.mem_singleton.mp hp]
   exact ((hp2.keep (S:=fun _=>False) s3.ext (fun z=>z)).keep e4 ar).keep f47 ar
abbrev s_Document_init:Stmt:=inClass (top 31) 0
theorem zdi:FnScope ["self"] ["self"] (defScope s_Document_init):=⟨rfl,rfl,rfl,by decide +kernel,rfl,by decide +kernel,by decide +kernel⟩
def mo0 (e:Addr):Mo:=⟨1,0,false,[],e⟩
def spDocNew (K:PySem.W.Frag) (c:Cs):Sp:=fun vs H Q _=>∃ (d dx:Addr),vs=[.ref d]∧H d=some (.ins c.D dx []) ∧
 ∀ H' r ch a,Ext (·=d) H H'→(∀ e,H' e=none→Full K c H' d (mo0 e) r ch [(a,lastEnd)] [[]])→H r=none→H ch=none→H a=none→Q .non H'
theorem d_Document (F:InitAt K mg "Document" "Document.__init__" c.D s_Document_init) (T:Txt K mg c) (d_Row:NewDef P w K mg base "Row" c.R 3 ["self"] (spRowNew K c)):NewDef P w K mg base "Document" c.D 5 ["self"] (spDocNew K c):=by
 have sc:=zdi
 refine F.def sc (fun _ _ _ _ _ _=>ar1 fun _=>rfl) (fun vs H Q E h=>?_) (fun f cdv A outer s H vs Q E hr h=>?_)
 ·obtain ⟨d,dx,rfl,_⟩:=h
  rfl
 ·obtain ⟨d,dx,rfl,hd0,k⟩:=h
  refine ⟨_,(zab (zat (pv 0) (zh3 d_Row (hr.mono (by decide)) rfl pass0) rfl)
   (zab (zat (pv 0) zaf rfl)
   (zab (zat (pv 0) zaf rfl)
   (zab (zat (pv 0) zj9 rfl)
   (zad (zat (pv 0) (zal zac) rfl)))))),?_⟩
  intro r dr H1 s1 nr h1
  refine ⟨r,dr,rfl,h1,fun H2 a e2 na1 hrow hpc=>⟨rfl,?_⟩⟩
  have rd:r≠d:=fun z=>by rw [z,hd0] at nr; cases nr
  have s2:Same H H2:=fun b o hb=>e2.at (s1 _ _ hb) (zag hb nr)
  have na:H a=none:=s1.free na1
  have ad:a≠d:=fun z=>by rw [z,hd0] at na; cases na
  refine ⟨_,rfl,d,_,dx,_,rfl,s2 _ _ hd0,T.D.cl,T.D.no _ (by decide +kernel),by show 0 < 1000; decide,fun H3 e3 h3=>?_⟩
  refine ⟨_,rfl,d,_,dx,_,rfl,h3,T.D.cl,T.D.no _ (by decide +kernel),by show 1 < 1000; decide,fun H4 e4 h4=>?_⟩
  refine ⟨_,rfl,d,_,dx,_,rfl,h4,T.D.cl,T.D.no _ (by decide +kernel),by show 2 < 1000; decide,fun H5 e5 h5=>?_⟩
  refine ⟨_,rfl,d,_,dx,_,rfl,h5,T.D.cl,T.D.no _ (by decide +kernel),by show 3 < 1000; decide,fun H6 e6 h6=>?_⟩
  refine ⟨Nat.zero_le _,fun ch H7 s7 n7 g7=>?_⟩
  refine ⟨_,rfl,d,_,dx,_,rfl,s7 _ _ h6,T.D.cl,T.D.no _ (by decide +kernel),by show 4 < 1000; decide,fun H8 e8 h8=>?_⟩
  have f26:Ext (·=d) H2 H6:=((e3.trans e4).trans e5).trans e6
  have f28:Ext (·=d) H2 H8:=f26.trans (s7.ext.trans e8)
  have nch2:H2 ch=none:=f26.dom ch n7
  have chd:ch≠d:=fun z=>by rw [z,h6] at n7; cases n7
  refine k H8 r ch a (s2.ext.trans f28) (fun e he=>⟨⟨dx,[],h8,e8.at g7 chd,.nil⟩,(hrow ((mo0 e).xs ch) (fun b hb=>?_)).keep f28 rd (zbC (s2 _ _ hd0)),?_⟩) nr (s2.free nch2) na
  ·rcases hb with rfl | rfl
   ·exact .inr nch2
   ·exact .inr (f28.dom _ he)
  intro p hp
  have hp':p=(a,lastEnd):=by simpa [all] using hp
  subst hp'
  exact (hpc _ (by simp)).keep f28 ad
end
end Tt
end
section
namespace Tt
open PySem
theorem zi1 (a b:Nat):Builtin.bitOr (a:Int) (b:Int)=((a ||| b:Nat):Int):=by
 unfold Builtin.bitOr Builtin.bitAnd Builtin.bitNot
 rw [decide_eq_false (show ¬ (0:Int)≤-(a:Int) - 1 by omega),decide_eq_false (show ¬ (0:Int)≤-(b:Int) - 1 by omega)]
 have e1:(-(-(a:Int) - 1) - 1).toNat=a:=by omega
 have e2:(-(-(b:Int) - 1) - 1).toNat=b:=by omega
 dsimp only
 rw [e1,e2]
 omega
theorem zcQ (a b:Nat):Builtin.bitAnd (a:Int) (Builtin.bitNot (b:Int))=((a - (a &&& b):Nat):Int):=by
 unfold Builtin.bitAnd Builtin.bitNot
 rw [decide_eq_true (show (0:Int)≤(a:Int) by omega),decide_eq_false (show ¬ (0:Int)≤-(b:Int) - 1 by omega)]
 have e2:(-(-(b:Int) - 1) - 1).toNat=b:=by omega
 have e1:((a:Int)).toNat=a:=by omega
 dsimp only
 rw [e1,e2]
 have:a &&& b≤a:=Nat.and_le_left
 omega
theorem zbf (n i:Nat):n.testBit i=decide (n / 2 ^ i % 2=1):=by
 rw [Nat.testBit_eq_decide_div_mod_eq]
theorem zi5 (n t:Nat):n &&& 2 ^ t=if n.testBit t=true then 2 ^ t else 0:=by
 apply Nat.eq_of_testBit_eq
 intro i
 rw [Nat.testBit_and,Nat.testBit_two_pow]
 by_cases e:t=i
 ·subst e
  cases h:n.testBit t with
  | true=>rw [if_pos rfl,Nat.testBit_two_pow]; simp
  | false=>rw [if_neg (by decide)]; simp
 ·rw [decide_eq_false e,Bool.and_false]
  split
  ·rw [Nat.testBit_two_pow,decide_eq_false e]
  ·simp
theorem zfT (n t i:Nat):(n - (n &&& 2 ^ t)).testBit i=(n.testBit i && !(i == t)):=by
 rw [zi5]
 cases hb:n.testBit t with
 | false =>
  rw [if_neg (by decide),Nat.sub_zero]
  by_cases e:i=t
  ·subst e
   rw [hb]; rfl
  ·simp [e]
 | true =>
  rw [if_pos rfl]
  have hge:2 ^ t≤n:=Nat.ge_two_pow_of_testBit hb
  have hbit:n / 2 ^ t % 2=1:=by
   rw [zbf] at hb
   exact of_decide_eq_true hb
  by_cases e:i=t
  ·subst e
   have h1:(n - 2 ^ i) / 2 ^ i=n / 2 ^ i - 1:=by
    have:=Nat.sub_mul_div n (2 ^ i) 1
    rw [Nat.mul_one] at this
    exact this
   rw [zbf,h1]
   have:¬ (n / 2 ^ i - 1) % 2=1:=by omega
   rw [decide_eq_false this]
   simp
  ·have e':(i == t)=false:=by simpa using e
   rw [e',Bool.not_false,Bool.and_true]
   by_cases hlt:i < t
   ·have h2:2 ^ t=2 ^ i * 2 ^ (t - i):=by rw [← Nat.pow_add]; congr 1; omega
    have h3:2 ^ (t - i)=2 * 2 ^ (t - i - 1):=by rw [← Nat.pow_succ']; congr 1; omega
    have h1:(n - 2 ^ t) / 2 ^ i=n / 2 ^ i - 2 ^ (t - i):=by
     rw [h2]
     exact Nat.sub_mul_div n (2 ^ i) (2 ^ (t - i))
    rw [zbf,zbf,h1]
    have h4:2 ^ (t - i)≤n / 2 ^ i:=by
     rw [Nat.le_div_iff_mul_le (Nat.two_pow_pos i),Nat.mul_comm,← h2]
     exact hge
    rw [h3] at h4 ⊢
    congr 1
    exact propext (by constructor<;>intro<;>omega)
   ·have hti:t < i:=by omega
    have hlow:2 ^ t≤n % 2 ^ i:=by
     refine Nat.ge_two_pow_of_testBit ?_
     rw [Nat.testBit_mod_two_pow,hb,decide_eq_true hti]
     rfl
    have h1:(n - 2 ^ t) / 2 ^ i=n / 2 ^ i:=by
     have hdm:=Nat.div_add_mod n (2 ^ i)
     have hr:n % 2 ^ i < 2 ^ i:=Nat.mod_lt _ (Nat.two_pow_pos i)
     have e3:n - 2 ^ t=(n % 2 ^ i - 2 ^ t)+2 ^ i * (n / 2 ^ i):=by omega
     rw [e3,Nat.add_mul_div_left _ _ (Nat.two_pow_pos i),Nat.div_eq_of_lt (Nat.lt_of_le_of_lt (Nat.sub_le _ _) hr),Nat.zero_add]
    rw [zbf,zbf,h1]
theorem zaY (t i:Nat):∀ l:List Nat,(Vatrka.withTag t l).contains i=(l.contains i || i == t)
 | []=>by
  simp [Vatrka.withTag]
  rw [Bool.eq_iff_iff]
  simp
 | u::r=>by
  have ih:=zaY t i r
  unfold Vatrka.withTag
  split
  ·simp only [List.contains_cons]
   cases (i == t)<;>cases (i == u)<;>cases r.contains i<;>rfl
  ·split
   ·rename_i h
    subst h
    simp only [List.contains_cons]
    cases (i == t)<;>cases r.contains i<;>rfl
   ·simp only [List.contains_cons,ih]
    cases (i == t)<;>cases (i == u)<;>cases r.contains i<;>rfl
theorem zbF (t i:Nat) (l:List Nat):(l.filter fun u=>!(u == t)).contains i=(l.contains i && !(i == t)):=by
 rw [Bool.eq_iff_iff]
 simp
theorem zdq {t u:Nat} {l:List Nat}:u∈Vatrka.withTag t l→u=t∨u∈l:=fun h=>by
 have h1:(Vatrka.withTag t l).contains u=true:=by simpa using h
 rw [zaY] at h1
 rcases Bool.or_eq_true_iff.mp h1 with h1 | h1
 ·exact .inr (by simpa using h1)
 ·exact .inl (by simpa using h1)
theorem zcp (t:Nat):∀ {l:List Nat},l.Pairwise (· < ·)→(Vatrka.withTag t l).Pairwise (· < ·)
 | [],_=>by unfold Vatrka.withTag; simp
 | u::r,h=>by
  obtain ⟨h1,h2⟩:=List.pairwise_cons.mp h
  unfold Vatrka.withTag
  split
  ·rename_i hlt
   refine List.pairwise_cons.mpr ⟨fun v hv=>?_,h⟩
   rcases List.mem_cons.mp hv with e | hv
   ·omega
   ·have:=h1 v hv; omega
  ·split
   ·exact h
   ·rename_i hlt hne
    refine List.pairwise_cons.mpr ⟨fun v hv=>?_,zcp t h2⟩
    rcases zdq hv with e | hv
    ·omega
    ·exact h1 v hv
theorem zc7 (t:Nat):∀ {l:List Nat},l.Pairwise (· < ·)→l.contains t=true→Vatrka.withTag t l=l
 | [],_,h=>by simp at h
 | u::r,hp,h=>by
  obtain ⟨h1,h2⟩:=List.pairwise_cons.mp hp
  unfold Vatrka.withTag
  split
  ·rename_i hlt
   exfalso
   have ht:t∈u::r:=by simpa using h
   rcases List.mem_cons.mp ht with e | ht
   ·omega
   ·have:=h1 t ht; omega
  ·split
   ·rfl
   ·rename_i hlt hne
    rw [zc7 t h2 ?_]
    rw [List.contains_cons] at h
    have:(t == u)=false:=by simpa using hne
    rw [this,Bool.false_or] at h
    exact h
theorem zgk {t:Nat} {l:List Nat} (h:l.contains t=false):(l.filter fun u=>!(u == t))=l:=by
 rw [List.filter_eq_self]
 intro u hu
 cases e:u == t with
 | false=>rfl
 | true =>
  have:u=t:=by simpa using e
  subst this
  have:l.contains u=true:=by simpa using hu
  rw [this] at h
  cases h
theorem TagsAre.put {T:Int} {l:List Nat} (h:TagsAre T l) (t:Nat):TagsAre (Builtin.bitOr T ((2 ^ t:Nat):Int)) (Vatrka.withTag t l):=by
 obtain ⟨n,rfl,hn⟩:=h
 refine ⟨n ||| 2 ^ t,zi1 n (2 ^ t),fun i=>?_⟩
 rw [Nat.testBit_or,hn,zaY,Nat.testBit_two_pow]
 congr 1
 rw [Bool.eq_iff_iff]
 simp
 exact eq_comm
theorem TagsAre.drop {T:Int} {l:List Nat} (h:TagsAre T l) (t:Nat):TagsAre (Builtin.bitAnd T (Builtin.bitNot ((2 ^ t:Nat):Int))) (l.filter fun u=>!(u == t)):=by
 obtain ⟨n,rfl,hn⟩:=h
 refine ⟨n - (n &&& 2 ^ t),zcQ n (2 ^ t),fun i=>?_⟩
 rw [zfT,hn,zbF]
theorem TagsAre.same {S T:Int} {l m:List Nat} (h1:TagsAre S l) (h2:TagsAre T m):S=T↔∀ i,l.contains i=m.contains i:=by
 obtain ⟨a,rfl,ha⟩:=h1
 obtain ⟨b,rfl,hb⟩:=h2
 constructor
 ·intro e i
  have:a=b:=by omega
  subst this
  rw [← ha,← hb]
 ·intro h
  have:a=b:=Nat.eq_of_testBit_eq fun i=>by rw [ha,hb,h]
  rw [this]
theorem zha {T:Int} {l:List Nat} (h:TagsAre T l) (t:Nat):Builtin.bitOr T ((2 ^ t:Nat):Int)=T↔l.contains t=true:=by
 rw [(h.put t).same h]
 constructor
 ·intro e
  rw [← e t,zaY]
  simp
 ·intro e i
  rw [zaY]
  by_cases q:i=t
  ·subst q
   rw [e]; rfl
  ·have:(i == t)=false:=by simpa using q
   rw [this,Bool.or_false]
theorem zgm {T:Int} {l:List Nat} (h:TagsAre T l) (t:Nat):Builtin.bitAnd T (Builtin.bitNot ((2 ^ t:Nat):Int))=T↔l.contains t=false:=by
 rw [(h.drop t).same h]
 constructor
 ·intro e
  rw [← e t,zbF]
  simp
 ·intro e i
  rw [zbF]
  by_cases q:i=t
  ·subst q
   rw [e]; rfl
  ·have:(i == t)=false:=by simpa using q
   rw [this,Bool.not_false,Bool.and_true]
end Tt
end
section
namespace Tt
open PySem PySem.Spec PyProof.Rows L2
open Vatrka (Piece Pending Change shownLook shownValue marked)
section
variable {P:Program} {w:World} {K:PySem.W.Frag} {mg:Str→Option Value} {base:Heap} {c:Cs}
def tagA (t:Nat) (b:Bool) (x:AP):AP:=(x.1,Vatrka.retag t b x.2)
def tagged (t:Nat) (b:Bool) (x:AP):Bool:=!(Vatrka.has x.2.tags t == b)
abbrev s_tag_pieces:Stmt:=top 74
theorem zeC:FnScope ["pieces","t","on","bit","changed","piece","tags"] ["pieces","t","on"] (defScope s_tag_pieces):=⟨rfl,rfl,rfl,by decide +kernel,rfl,by decide +kernel,by decide +kernel⟩
def spTagP (K:PySem.W.Frag) (c:Cs):Sp:=fun vs H Q _=>∃ (l:Addr) (t:Nat) (b:Bool) (L:List AP),vs=[.ref l,.int t,.int (if b=true then 1 else 0)]∧t≤999∧H l=some (.lst (refs L))∧Pcs K c H L∧(L.map (·.1)).Nodup∧(∀ x∈L,x.2.tags.Pairwise (· < ·)) ∧
 ∀ H',Ext (fun a=>∃ x∈L,a=x.1) H H'→Pcs K c H' (L.map (tagA t b))→Q (.int ((L.filter (tagged t b)).length:Int)) H'
theorem zg8 {t:Nat} {b:Bool} {x:Piece} (hs:x.tags.Pairwise (· < ·)) (h:Vatrka.has x.tags t=b):Vatrka.retag t b x=x:=by
 unfold Vatrka.retag
 rw [← zbO] at h
 cases b with
 | true=>rw [if_pos rfl,zc7 t hs h]
 | false=>rw [if_neg (by decide),zgk h]
theorem d_tag_pieces (F:FunAt K mg "tag_pieces" s_tag_pieces) (T:Txt K mg c):Def P w K mg base "tag_pieces" 1 ["pieces","t","on"] (spTagP K c):=by
 have sc:=zeC
 refine F.def sc (fun _ _ _ _ _ _=>ar3 fun _ _ _=>rfl) (fun vs H Q E h=>?_) (fun f cdv A outer s H vs Q E hr h=>?_)
 ·obtain ⟨l,t,b,L,rfl,_⟩:=h
  rfl
 ·obtain ⟨l,t,b,L,rfl,ht,hl,hpc,hnd,hso,k⟩:=h
  refine ⟨_,(zab (zar (i:=3) sc.nd rfl (by first | exact Or.inl rfl | exact Or.inr rfl) (zaH zkO zaf (pv 1)))
   (zab (zar (i:=4) sc.nd rfl (by first | exact Or.inl rfl | exact Or.inr rfl) zaf)
   (zab (za7 PassesOwn.never rfl (zaW (pv 0)) (zav (i:=5) sc.nd rfl (by first | exact Or.inl rfl | exact Or.inr rfl))
    (zab (zar (i:=6) sc.nd rfl (by first | exact Or.inl rfl | exact Or.inr rfl) (zcl (zan za6 (pv 2) zaf (nomark _)) (zaH zld (zae (pv 5) rfl) (pv 3)) (zaH zh9 (zae (pv 5) rfl) (zbm zkv (pv 3)))))
    (zad (zaC (zan zhe (pv 6) (zae (pv 5) rfl) (nomark _))
     (zab (zat (pv 5) (pv 6) rfl)
     (zad (zb3 (i:=4) sc.nd rfl (by first | exact Or.inl rfl | exact Or.inr rfl) zaf zcr)))
     zaj))))
   (zad (zah (pv 4)))))),?_⟩
  refine ⟨_,rfl,_,_,rfl,rfl,⟨by omega,by omega,by decide⟩,?_⟩
  have e1:(1:Int) * 2 ^ ((t:Int)).toNat=((2 ^ t:Nat):Int):=by
   rw [Int.one_mul,Int.toNat_natCast,Int.natCast_pow]
   rfl
  dsimp only
  rw [e1]
  have lnp:∀ p∈L,l≠p.1:=fun p hp'=>by
   obtain ⟨dxp,lk2,sn,it,dt,pt,T2,h2⟩:=hpc p hp'
   exact zbw hl h2.obj (by intro z; cases z)
  have hf:∀ x,(tagA t b x).1=x.1:=fun x=>rfl
  refine ⟨_,rfl,l,rfl,⟨_,SqL.of hl⟩,za8 (K:=K) (a:=l) (xs:=refs L)
   (fun i σ H'=>∃ v5 v6:Option V,σ=[some (.ref l),some (.int t),some (.int (if b=true then 1 else 0)),some (.int ((2 ^ t:Nat):Int)),some (.int (((L.take i).filter (tagged t b)).length:Int)),v5,v6]∧Ext (fun a=>∃ x∈L,a=x.1) H H'∧Pcs K c H' ((L.take i).map (tagA t b))∧Pcs K c H' (L.drop i))
   ⟨none,none,rfl,Ext.refl,(fun _ h=>absurd h (by simp)),hpc⟩ (fun i σ H' _ ⟨_,_,_,e,_⟩=>SqL.of (e.at hl fun ⟨p,hp',z⟩=>lnp p hp' z)) ?_ ?_⟩
  ·rintro i y σ H1 hi ⟨v5,v6,rfl,e,hp1,hp2⟩
   obtain ⟨x,hx,rfl⟩:=zau hi
   have xm:x∈L:=List.mem_of_getElem? hx
   have hil:=(List.getElem?_eq_some_iff.mp hx).1
   have hdrop:L.drop i=x::L.drop (i+1):=by
    rw [List.drop_eq_getElem_cons hil,(List.getElem?_eq_some_iff.mp hx).2]
   obtain ⟨dxp,lk2,sn,it,dt,pt,T2,h2⟩:=hp2 x (by rw [hdrop]; exact List.mem_cons_self)
   have esn:((L.take (i+1)).filter (tagged t b)).length=((L.take i).filter (tagged t b)).length+if tagged t b x=true then 1 else 0:=by rw [zam hx,zdT]
   obtain ⟨T3,hT3,hch,hval⟩:∃ T3:Int,TagsAre T3 (Vatrka.retag t b x.2).tags∧(T3=T2↔Vatrka.has x.2.tags t=b)∧T3=if b=true then Builtin.bitOr T2 ((2 ^ t:Nat):Int) else Builtin.bitAnd T2 (Builtin.bitNot ((2 ^ t:Nat):Int)):=by
    cases b with
    | true=>exact ⟨_,h2.tags.put t,by rw [← zbO]; exact zha h2.tags t,by rw [if_pos rfl]⟩
    | false=>exact ⟨_,h2.tags.drop t,by rw [← zbO]; exact zgm h2.tags t,by rw [if_neg (by decide)]⟩
   show tIf _ _ _ _ _ _
   refine zcI (v:=.int T3) (b:=b) (fun G q=>⟨_,rfl,rfl,_,rfl,?_⟩) (fun hb Q q=>?_) (fun hb Q q=>?_) ?_
   ·cases b<;>exact q
   ·subst hb
    rw [if_pos rfl] at hval
    refine ⟨_,rfl,x.1,_,dxp,_,_,rfl,h2.obj,T.P.cl,T.P.no _ (by decide +kernel),zcd,_,rfl,_,_,rfl,rfl,?_⟩
    rw [hval] at q
    exact q
   ·subst hb
    rw [if_neg (by decide)] at hval
    refine ⟨_,rfl,x.1,_,dxp,_,_,rfl,h2.obj,T.P.cl,T.P.no _ (by decide +kernel),zcd,_,rfl,_,rfl,_,_,rfl,rfl,?_⟩
    rw [hval] at q
    exact q
   refine ⟨_,rfl,_,rfl,x.1,_,dxp,_,_,rfl,h2.obj,T.P.cl,T.P.no _ (by decide +kernel),zcd,rfl,_,rfl,?_⟩
   by_cases hsame:T3=T2
   ·have hb:Vatrka.has x.2.tags t=b:=hch.mp hsame
    rw [decide_eq_true (show V.int T3=V.int T2 by rw [hsame])]
    refine iteF ?_
    have hnew:PieceAt K c.P H1 x.1 (tagA t b x).2:=by
     show PieceAt K c.P H1 x.1 (Vatrka.retag t b x.2)
     rw [zg8 (hso x xm) hb]
     exact ⟨dxp,lk2,sn,it,dt,pt,T2,h2⟩
    have tn:=Pcs.turn (f:=tagA t b) hnd hx hf (Ext.refl (S:=(·=x.1))) hp1 hp2 hnew
    have:tagged t b x=false:=by unfold tagged; rw [hb]; simp
    rw [this] at esn
    exact ⟨_,_,by rw [esn]; rfl,e,tn.1,tn.2⟩
   ·have hb:Vatrka.has x.2.tags t≠b:=fun z=>hsame (hch.mpr z)
    rw [decide_eq_false (show ¬ V.int T3=V.int T2 from fun z=>hsame (by injection z))]
    refine iteT ?_
    refine ⟨_,rfl,_,rfl,x.1,_,dxp,_,rfl,h2.obj,T.P.cl,T.P.no _ (by decide +kernel),zaM,fun H2 e2 h2'=>?_⟩
    refine ⟨_,rfl,_,_,rfl,rfl,?_⟩
    have hnew:PieceAt K c.P H2 x.1 (tagA t b x).2:=⟨dxp,lk2,sn,it,dt,pt,T3,h2',e2.sqT h2.look,e2.sqT h2.seen,e2.tup h2.ins,e2.tup h2.del,h2.pend.keep e2,hT3⟩
    have tn:=Pcs.turn (f:=tagA t b) hnd hx hf e2 hp1 hp2 hnew
    have:tagged t b x=true:=by
     unfold tagged
     cases hh:Vatrka.has x.2.tags t<;>cases b<;>first | rfl | exact absurd hh hb
    rw [this] at esn
    exact ⟨_,_,by rw [esn]; rfl,e.trans (e2.mono fun a o' _ z _=>⟨x,xm,z⟩),tn.1,tn.2⟩
  ·rintro σ H1 ⟨v5,v6,rfl,e,hp1,_⟩
   have el:(refs L).length=L.length:=List.length_map ..
   rw [el,List.take_length] at hp1 ⊢
   exact ⟨_,rfl,k H1 e hp1⟩
end
def hdMid (hd:List (List AP)) (p q:Nat) (f:AP→AP):List (List AP):=hd.take (p+1)++((hd.take q).drop (p+1)).map (List.map f)++hd.drop q
theorem zdQ {β:Type} (g:AP→β) {hd:List (List AP)} {p q:Nat} {f:AP→AP} (hpq:p+1≤q) (h:∀ x,g (f x)=g x):(hdMid hd p q f).map (List.map g)=hd.map (List.map g):=by
 unfold hdMid
 rw [List.map_append,List.map_append,List.map_map]
 have e:(List.map g ∘ List.map f)=List.map g:=by
  funext l
  show (l.map f).map g=l.map g
  rw [List.map_map]
  congr 1
  funext x
  exact h x
 rw [e,← List.map_append,← List.map_append,zbo hd hpq]
theorem ziC {hd:List (List AP)} {p q:Nat} {f:AP→AP} (hpq:p+1≤q):(hdMid hd p q f).length=hd.length:=by
 have:=congrArg List.length (zdQ (hd:=hd) (q:=q) (f:=fun x=>(x.1,(f x).2)) (fun x:AP=>x.1) hpq (fun x=>rfl))
 rw [List.length_map,List.length_map] at this
 unfold hdMid at this ⊢
 simpa using this
theorem zfH {hd:List (List AP)} {p q:Nat} {f:AP→AP} {y:AP} (h:y∈(hdMid hd p q f).flatten):y∈hd.flatten∨∃ x∈((hd.take q).drop (p+1)).flatten,y=f x:=by
 obtain ⟨l,hl,hy⟩:=List.mem_flatten.mp h
 unfold hdMid at hl
 rcases List.mem_append.mp hl with hl | hl
 ·rcases List.mem_append.mp hl with hl | hl
  ·exact .inl (List.mem_flatten.mpr ⟨l,List.mem_of_mem_take hl,hy⟩)
  ·obtain ⟨l',hl',rfl⟩:=List.mem_map.mp hl
   obtain ⟨x,hx,rfl⟩:=List.mem_map.mp hy
   exact .inr ⟨x,List.mem_flatten.mpr ⟨l',hl',hx⟩,rfl⟩
 ·exact .inl (List.mem_flatten.mpr ⟨l,List.mem_of_mem_drop hl,hy⟩)
theorem ze2 {hd:List (List AP)} {p q:Nat} {x:AP} (h:x∈((hd.take q).drop (p+1)).flatten):x∈hd.flatten:=by
 obtain ⟨l,hl,hx⟩:=List.mem_flatten.mp h
 exact List.mem_flatten.mpr ⟨l,List.mem_of_mem_take (List.mem_of_mem_drop hl),hx⟩
def mapG (f:AP→AP) (g:Gap):Gap:=(g.1,g.2.map fun n=>(n.1,n.2.map f))
def gsMid (gs:List Gap) (p q:Nat) (f:AP→AP):List Gap:=gs.take (p+1)++((gs.take q).drop (p+1)).map (mapG f)++gs.drop q
theorem ziI (f:AP→AP) (g:Gap):flatG (mapG f g)=(flatG g).map f:=by
 unfold flatG flatN mapG
 rw [List.map_flatten,List.map_map,List.map_map]
 rfl
theorem zfG (f:AP→AP):∀ gs:List Gap,inner (gs.map (mapG f))=inner gs
 | []=>rfl
 | g::gs=>by
  rw [List.map_cons,zbi,zbi,zfG f gs]
  unfold mapG
  rw [List.map_map]
  rfl
theorem ziz (f:AP→AP) (gs:List Gap) {p q:Nat} (hpq:p < q):inner (gsMid gs p q f)=inner gs:=by
 unfold gsMid
 rw [za9,za9,zfG,← za9,← za9,zbo gs hpq]
theorem zkn {f:AP→AP} {H:Hp} {g:Gap} (h:GapAt H g):GapAt H (mapG f g):=by
 have e:nrefs (mapG f g).2=nrefs g.2:=by
  unfold nrefs mapG
  rw [List.map_map]
  rfl
 rcases h with h | h
 ·exact .inl (by rw [e]; exact h)
 ·exact .inr ⟨by unfold mapG; rw [h.1]; rfl,h.2⟩
theorem zkT {f:AP→AP} {H:Hp} {X:Addr→Prop} {n:Nb} (hf:∀ x,(f x).1=x.1) (hm:∀ x,Vatrka.sameMarks (f x).2 x.2=true) (h:NbAt H X n):NbAt H X (n.1,n.2.map f):=by
 refine ⟨?_,h.ne,?_⟩
 ·have e:refs (n.2.map f)=refs n.2:=by
   unfold refs
   rw [List.map_map]
   exact List.map_congr_left fun x _=>by show V.ref (f x).1=V.ref x.1; rw [hf]
  show H n.1=some (.lst (refs (n.2.map f)))
  rw [e]
  exact h.at_
 ·obtain ⟨x,t,e,ha⟩:=h.al
  refine ⟨f x,t.map f,by show n.2.map f=_; rw [e]; rfl,fun y hy=>?_⟩
  obtain ⟨z,hz,rfl⟩:=List.mem_map.mp hy
  exact zbA (hm x) (zbA (ha z hz) (zfw (hm z)))
theorem zgK {α:Type} {g:α→α} {l:List α} {p q:Nat} {y:α} (h:y∈l.take (p+1)++((l.take q).drop (p+1)).map g++l.drop q):y∈l∨∃ x∈l,y=g x:=by
 rcases List.mem_append.mp h with h | h
 ·rcases List.mem_append.mp h with h | h
  ·exact .inl (List.mem_of_mem_take h)
  ·obtain ⟨x,hx,rfl⟩:=List.mem_map.mp h
   exact .inr ⟨x,List.mem_of_mem_take (List.mem_of_mem_drop hx),rfl⟩
 ·exact .inl (List.mem_of_mem_drop h)
theorem RAt.mapMid {c:Cs} {H:Hp} {r dx sA hA:Addr} {X:Addr→Prop} {gs:List Gap} {sh:List AP} {hd:List (List AP)} {p q:Nat} {f:AP→AP} (h:RAt c H r X sh hd dx sA hA gs) (hf:∀ x,(f x).1=x.1) (hm:∀ x,Vatrka.sameMarks (f x).2 x.2=true) (hpq:p < q) :
  RAt c H r X sh (hdMid hd p q f) dx sA hA (gsMid gs p q f):=by
 have hin:=ziz f gs hpq
 refine ⟨h.obj,h.sl,?_,?_,?_,?_,by rw [hin]; exact h.nd,h.sn,h.hn,by rw [hin]; exact h.si,by rw [hin]; exact h.hi⟩
 ·have e:(gsMid gs p q f).map (fun g=>V.ref g.1)=gs.map fun g=>V.ref g.1:=by
   unfold gsMid
   rw [List.map_append,List.map_append,List.map_map]
   have e2:((fun g:Gap=>V.ref g.1) ∘ mapG f)=fun g=>V.ref g.1:=rfl
   rw [e2,← List.map_append,← List.map_append,zbo gs hpq]
  rw [e]
  exact h.hl
 ·unfold hdMid gsMid
  have e:((hd.take q).drop (p+1)).map (List.map f)=(((gs.take q).drop (p+1)).map (mapG f)).map flatG:=by
   rw [h.he,← List.map_take,← List.map_drop,List.map_map,List.map_map]
   exact List.map_congr_left fun g _=>(ziI f g).symm
  rw [List.map_append,List.map_append,← e,h.he,List.map_take (l:=gs),List.map_drop (l:=gs)]
 ·rw [hin]
  intro g hg
  rcases zgK hg with hg | ⟨g0,hg0,rfl⟩
  ·exact h.gl g hg
  ·exact ⟨zkn (h.gl g0 hg0).1,(h.gl g0 hg0).2⟩
 ·intro n hn
  obtain ⟨g,hg,hn⟩:=List.mem_flatMap.mp hn
  rcases zgK hg with hg | ⟨g0,hg0,rfl⟩
  ·exact h.nl n (List.mem_flatMap.mpr ⟨g,hg,hn⟩)
  ·obtain ⟨n0,hn0,rfl⟩:=List.mem_map.mp hn
   exact zkT hf hm (h.nl n0 (List.mem_flatMap.mpr ⟨g0,hg0,hn0⟩))
theorem zgy {n k t:Nat} {b:Bool} {x:Piece} (w:WfP n k x) (h1:1≤t) (h2:t≤999):WfP n k (Vatrka.retag t b x):=by
 refine ⟨w.look,w.ins,w.del,w.pend,w.insL,w.delL,w.pendL,?_,?_⟩
 ·unfold Vatrka.retag
  dsimp only
  split
  ·exact zcp t w.tagsS
  ·exact w.tagsS.sublist List.filter_sublist
 ·unfold Vatrka.retag
  dsimp only
  intro u hu
  split at hu
  ·rcases zdq hu with e | hu
   ·omega
   ·exact w.tagsR u hu
  ·exact w.tagsR u (List.mem_filter.mp hu).1
theorem zku {k z:Nat} {m:Mo} {sh:List AP} {hd:List (List AP)} {p q t:Nat} {b:Bool} (w:Wf k z m sh hd) (hpq:p < q) (hq:q≤sh.length) (h1:1≤t) (h2:t≤999):Wf (k+1) z m (shMid sh p q (tagA t b)) (hdMid hd p q (tagA t b)):=by
 have hf:∀ x,(tagA t b x).1=x.1:=fun x=>rfl
 have w1:Wf (k+1) z m (shMid sh p q (tagA t b)) hd:=zhv w (Nat.le_of_lt hpq) hq (.inl rfl) hf (fun x hx=>zgy ((w.pcs x (List.mem_append_left _ (zaL hx))).mono (Nat.le_refl _) (Nat.le_succ _)) h1 h2)
  (fun x hx=>⟨w.split.sh x.2 (List.mem_map.mpr ⟨x,zaL hx,rfl⟩),rfl,rfl⟩)
 have hfl:(hdMid hd p q (tagA t b)).flatten.map (·.1)=hd.flatten.map (·.1):=by
  rw [List.map_flatten,List.map_flatten,zdQ (fun x:AP=>x.1) hpq hf]
 refine ⟨⟨?_,w1.split.sh,?_⟩,?_,?_,w1.last,w1.chs,w1.shL,?_,?_⟩
 ·have:=w1.split.len
  rw [List.length_map] at this ⊢
  rw [ziC hpq]
  exact this
 ·intro h hh x hx
  obtain ⟨g,hg,rfl⟩:=List.mem_map.mp hh
  obtain ⟨y,hy,rfl⟩:=zb5 hx
  have hy2:y∈(hdMid hd p q (tagA t b)).flatten:=List.mem_flatten.mpr ⟨g,hg,hy⟩
  have old:∀ v∈hd.flatten,v.2.del≠[]:=fun v hv=>by
   obtain ⟨l,hl,hv⟩:=List.mem_flatten.mp hv
   exact w.split.hd (ps l) (List.mem_map.mpr ⟨l,hl,rfl⟩) v.2 (List.mem_map.mpr ⟨v,hv,rfl⟩)
  rcases zfH hy2 with h | ⟨v,hv,rfl⟩
  ·exact old y h
  ·exact old v (ze2 hv)
 ·unfold all
  rw [List.map_append,hfl,← List.map_append]
  exact w1.nd
 ·intro x hx
  rcases List.mem_append.mp hx with h | h
  ·exact w1.pcs x (List.mem_append_left _ h)
  ·rcases zfH h with h | ⟨v,hv,rfl⟩
   ·exact w1.pcs x (List.mem_append_right _ h)
   ·exact zgy (w1.pcs v (List.mem_append_right _ (ze2 hv))) h1 h2
 ·have:=congrArg List.length hfl
  rw [List.length_map,List.length_map] at this
  rw [this]
  exact w1.hdL
 ·have e:std (hdMid hd p q (tagA t b)).flatten=std hd.flatten:=by
   unfold hdMid
   rw [List.flatten_append,List.flatten_append,← List.map_flatten,zaw,zaw,zey (f:=tagA t b) (fun x _=>rfl),← zaw,← zaw,← List.flatten_append,← List.flatten_append,zbo hd hpq]
  unfold all
  rw [zaw,e,← zaw]
  exact w1.stL
theorem zk0 {hd:List (List AP)} {p q:Nat} {f:AP→AP} {g:Piece→Piece} (h:∀ x,(f x).2=g x.2):hs (hdMid hd p q f)=(hs hd).take (p+1)++(((hs hd).take q).drop (p+1)).map (List.map g)++(hs hd).drop q:=by
 unfold hdMid
 rw [zbp,zbp,zc1,zc2]
 have e:hs (((hd.take q).drop (p+1)).map (List.map f))=(((hs hd).take q).drop (p+1)).map (List.map g):=by
  rw [← zc1,← zc2]
  generalize (hd.take q).drop (p+1)=M
  unfold hs
  rw [List.map_map,List.map_map]
  congr 1
  funext l
  show ps (l.map f)=(ps l).map g
  unfold ps
  rw [List.map_map,List.map_map]
  congr 1
  funext x
  exact h x
 rw [e]
theorem zja {k z:Nat} {m:Mo} {sh:List AP} {hd:List (List AP)} {p q t:Nat} {on:Int} (w:Wf k z m sh hd) (hpq:p < q) (hq:q≤sh.length) (h1:1≤t) (h2:t≤999) (ho:on=0∨on=1) :
  Vatrka.step (st m sh hd) (.tag (p:Int) (q:Int) (t:Int) on)=(st m (shMid sh p q (tagA t (on == 1))) (hdMid hd p q (tagA t (on == 1))),.told [(((sh.take q).drop p).filter (tagged t (on == 1))).length]):=by
 show Vatrka.stepTag _ _ _ _ _=_
 unfold Vatrka.stepTag
 rw [zaR w,(zaU _ _ _).mpr (by omega),if_neg (by decide),(zbx _ 1 999).mpr (by omega),(zbx _ 0 1).mpr (by omega),if_neg (by decide)]
 unfold Vatrka.doTag
 simp only [Int.toNat_natCast]
 have e1:=zgs (Vatrka.retag t (on == 1)) p q w.split hpq (by rw [List.length_map]; exact hq)
 rw [← zjL (f:=tagA t (on == 1)) (fun x=>rfl),← zk0 (f:=tagA t (on == 1)) (fun x=>rfl)] at e1
 have e2:Vatrka.stretch p q (st m sh hd).row=ps ((sh.take q).drop p):=by
  show Vatrka.stretch p q (flat (hs hd) (ps sh))=_
  rw [zc8 w.split,← List.drop_take,← zcb,← zcc]
 rw [e2]
 unfold Vatrka.answered
 have e3:((ps ((sh.take q).drop p)).filter fun x=>!(Vatrka.has x.tags t == (on == 1))).length=(((sh.take q).drop p).filter (tagged t (on == 1))).length:=by
  unfold ps
  rw [List.filter_map,List.length_map]
  rfl
 dsimp only
 rw [e3]
 refine Prod.ext ?_ rfl
 show ({ st m sh hd with row:=_ }:Vatrka.State)=_
 unfold st
 dsimp only
 congr 1
section
variable {P:Program} {w:World} {K:PySem.W.Frag} {mg:Str→Option Value} {base:Heap} {c:Cs}
theorem zjw (hd:List (List AP)) {p q:Nat} (hpq:p < q):((hd.take q).drop (p+1)).flatten.Sublist hd.flatten:=by
 have e:=congrArg List.flatten (zbo hd (p:=p+1) (q:=q) hpq)
 rw [List.flatten_append,List.flatten_append] at e
 rw [← e]
 exact (List.sublist_append_right _ _).trans (List.sublist_append_left _ _)
theorem ziD {hd:List (List AP)} {p q:Nat} {f:AP→AP} (hf:∀ x,(f x).1=x.1) (hpq:p < q):(hdMid hd p q f).flatten.map (·.1)=hd.flatten.map (·.1):=by
 rw [List.map_flatten,List.map_flatten,zdQ (fun x:AP=>x.1) hpq hf]
theorem Full.setHid {H H':Hp} {d r ch:Addr} {m:Mo} {sh:List AP} {hd:List (List AP)} {p q:Nat} {f:AP→AP} (F:Full K c H d m r ch sh hd) (nd:((all sh hd).map (·.1)).Nodup) (hf:∀ x,(f x).1=x.1) (hm:∀ x,Vatrka.sameMarks (f x).2 x.2=true) (hpq:p < q)
  (e:Ext (fun b=>∃ x∈((hd.take q).drop (p+1)).flatten,b=x.1) H H') (h:Pcs K c H' (((hd.take q).drop (p+1)).flatten.map f)):Full K c H' d m r ch sh (hdMid hd p q f):=by
 have inA:∀ x∈((hd.take q).drop (p+1)).flatten,x∈all sh hd:=fun x hx=>List.mem_append_right _ (ze2 hx)
 refine ⟨F.doc.keep e (fun ⟨x,hx,z⟩=>F.dp x (inA x hx) z.symm) (fun ⟨x,hx,z⟩=>F.cp x (inA x hx) z.symm),?_,?_⟩
 ·obtain ⟨dx,sA,hA,gs,hR⟩:=F.row
  refine ⟨dx,sA,hA,gsMid gs p q f,RAt.mapMid (hR.keep e (fun ⟨x,hx,z⟩=>F.rp x (inA x hx) z.symm) (fun b ⟨x,hx,z⟩=>?_)) hf hm hpq⟩
  obtain ⟨dxp,lk,sn,it,dt,pt,T,h2⟩:=F.pcs x (inA x hx)
  exact .inr (.inr ⟨_,_,_,by rw [z]; exact h2.obj⟩)
 ·intro y hy
  have e0:=congrArg List.flatten (zbo hd (p:=p+1) (q:=q) hpq)
  rw [List.flatten_append,List.flatten_append] at e0
  have nd2:((sh++((hd.take (p+1)).flatten++((hd.take q).drop (p+1)).flatten++(hd.drop q).flatten)).map (·.1)).Nodup:=by rw [e0]; exact nd
  rw [List.map_append,List.map_append,List.map_append] at nd2
  obtain ⟨n1,n2,n3⟩:=List.nodup_append.mp nd2
  obtain ⟨n4,n5,n6⟩:=List.nodup_append.mp n2
  obtain ⟨n7,n8,n9⟩:=List.nodup_append.mp n4
  have mm:∀ x∈((hd.take q).drop (p+1)).flatten,x.1∈((hd.take q).drop (p+1)).flatten.map (·.1):=fun x hx=>List.mem_map.mpr ⟨x,hx,rfl⟩
  rcases List.mem_append.mp hy with hy | hy
  ·exact (F.pcs y (List.mem_append_left _ hy)).keep e fun ⟨x,hx,z⟩=>n3 y.1 (List.mem_map.mpr ⟨y,hy,rfl⟩) x.1 (List.mem_append_left _ (List.mem_append_right _ (mm x hx))) z
  ·unfold hdMid at hy
   rw [List.flatten_append,List.flatten_append,← List.map_flatten] at hy
   rcases List.mem_append.mp hy with hy | hy
   ·rcases List.mem_append.mp hy with hy | hy
    ·have hyh:y∈hd.flatten:=by rw [← e0]; exact List.mem_append_left _ (List.mem_append_left _ hy)
     exact (F.pcs y (List.mem_append_right _ hyh)).keep e fun ⟨x,hx,z⟩=>n9 y.1 (List.mem_map.mpr ⟨y,hy,rfl⟩) x.1 (mm x hx) z
    ·exact h y hy
   ·have hyh:y∈hd.flatten:=by rw [← e0]; exact List.mem_append_right _ hy
    exact (F.pcs y (List.mem_append_right _ hyh)).keep e fun ⟨x,hx,z⟩=>n6 x.1 (List.mem_append_right _ (mm x hx)) y.1 (List.mem_map.mpr ⟨y,hy,rfl⟩) z.symm
theorem Pcs.block {H H':Hp} {A B C:List AP} {f:AP→AP} (hnd:((A++(B++C)).map (·.1)).Nodup) (hf:∀ x,(f x).1=x.1) (e:Ext (fun a=>∃ x∈B,a=x.1) H H') (h1:Pcs K c H (A.map f)) (h2:Pcs K c H (B++C)) (h:Pcs K c H' (B.map f)) :
  Pcs K c H' ((A++B).map f)∧Pcs K c H' C:=by
 rw [List.map_append,List.map_append] at hnd
 obtain ⟨na,nb,nc⟩:=List.nodup_append.mp hnd
 obtain ⟨nd',ne',nf⟩:=List.nodup_append.mp nb
 constructor
 ·intro y hy
  rw [List.map_append] at hy
  rcases List.mem_append.mp hy with hy | hy
  ·obtain ⟨y',hy',rfl⟩:=List.mem_map.mp hy
   exact (h1 _ hy).keep e fun ⟨x,hx,z⟩=>nc y'.1 (List.mem_map.mpr ⟨y',hy',rfl⟩) x.1 (List.mem_append_left _ (List.mem_map.mpr ⟨x,hx,rfl⟩)) (by rw [← z,hf])
  ·exact h y hy
 ·intro y hy
  exact (h2 y (List.mem_append_right _ hy)).keep e fun ⟨x,hx,z⟩=>nf x.1 (List.mem_map.mpr ⟨x,hx,rfl⟩) y.1 (List.mem_map.mpr ⟨y,hy,rfl⟩) z.symm
def FM (l:List Gap):List AP:=(l.map flatG).flatten
theorem zf1 (a b:List Gap):FM (a++b)=FM a++FM b:=by unfold FM; rw [List.map_append,List.flatten_append]
theorem zlc (g:Gap):FM [g]=flatG g:=by show flatG g++[]=_; rw [List.append_nil]
abbrev s_tag:Stmt:=top 73
theorem zkA:FnScope ["document","p","q","t","on","hidden","neighbours"] ["document","p","q","t","on"] (defScope s_tag):=⟨rfl,rfl,rfl,by decide +kernel,rfl,by decide +kernel,by decide +kernel⟩
def spTag (K:PySem.W.Frag) (c:Cs):Sp:=fun vs H Q _=>∃ (d r ch:Addr) (m:Mo) (sh:List AP) (hd:List (List AP)) (k z:Nat) (p q t on:Int),vs=[.ref d,.int p,.int q,.int t,.int on]∧Given K c H d r ch m sh hd k z 0∧Owes K c H d r ch m sh hd k z 0 (.tag p q t on) Q
theorem d_tag (F:FunAt K mg "tag" s_tag) (T:Txt K mg c) (d_size_of:Def P w K mg base "size_of" 1 ["document"] (spSize c)) (d_tag_pieces:Def P w K mg base "tag_pieces" 1 ["pieces","t","on"] (spTagP K c)):Def P w K mg base "tag" 2 ["document","p","q","t","on"] (spTag K c):=by
 have sc:=zkA
 refine F.def sc (fun _ _ _ _ _ _=>ar5 fun _ _ _ _ _=>rfl) (fun vs H Q E h=>?_) (fun f cdv A outer s H vs Q E hr h=>?_)
 ·obtain ⟨d,r,ch,m,sh,hd,k,z,p,q,t,on,rfl,_⟩:=h
  rfl
 ·obtain ⟨d,r,ch,m,sh,hd,k,z,p,q,t,on,rfl,g,o⟩:=h
  have hsl:sizeLine=16777216:=sizeLine_eq
  obtain ⟨hsm,hshL,hchL⟩:=g.small
  refine ⟨_,(zab (zaC (zbE (zcJ zbg zcY zbg zaf (pv 1) (pv 2) (zap d_size_of (hr.mono (by decide)) rfl pass0 (zaa (pv 0) zac))))
    (zad (zah (zal (zaa (zbm zaZ zaf) zac))))
    zaj)
   (zab (zaC (PW.pt (zg9 (zbE (zbk zbg zbg zaf (pv 3) zaf)) (zel (zan zdd (pv 4) (zaJ (zaa zaf (zaa zaf zac))) (by with_unfolding_all rfl)))))
    (zad (zah (zal (zaa (zbm zaZ zaf) zac))))
    zaj)
   (zab (za7 PassesOwn.never rfl (zaW (zaP zaV (zae (zae (pv 0) rfl) rfl) (zaI (zaH zbu (pv 1) zaf)) (zaI (pv 2)))) (zav (i:=5) sc.nd rfl (by first | exact Or.inl rfl | exact Or.inr rfl))
    (zad (za7 PassesOwn.never rfl (zgG (pv 5)) (zav (i:=6) sc.nd rfl (by first | exact Or.inl rfl | exact Or.inr rfl))
     (zad (zaq (zap d_tag_pieces (hr.mono (by decide)) rfl pass0 (zaa (pv 6) (zaa (pv 3) (zaa (pv 4) zac)))))))))
   (zad (zah (zal (zaa (zap d_tag_pieces (hr.mono (by decide)) rfl pass0 (zaa (zaP zaV (zae (zae (pv 0) rfl) rfl) (zaI (pv 1)) (zaI (pv 2))) (zaa (pv 3) (zaa (pv 4) zac)))) zac))))))),?_⟩
  have no:¬ (0≤p∧p < q∧q≤(sh.length:Int))→∀ (l:Addr) (H':Hp),Same H H'→H l=none→H' l=some (.lst [.int (-1)])→Q (.ref l) H':=fun hw l H' s' n' g'=>by
   have e:Vatrka.step (st m sh hd) (.tag p q t on)=(st m sh hd,.refused 1):=by
    show Vatrka.stepTag _ _ _ _ _=_
    unfold Vatrka.stepTag
    rw [zaR g.wf,zcv hw]; rfl
   exact o.stay g (by rw [e]) (by rw [e]; rfl) s' n' g'
  refine ⟨_,rfl,_,_,rfl,rfl,_,rfl,?_⟩
  refine ite2 (fun h1=>?yes) (fun h1=>?no)
  case no =>
   have h1:¬ (0:Int)≤p:=fun z=>h1 (decide_eq_true z)
   refine iteT ?_
   exact ⟨_,rfl,by show 1≤sizeLine; decide,fun l H' s' n' g'=>no (by omega) l H' s' n' g'⟩
  have h1:(0:Int)≤p:=of_decide_eq_true h1
  refine ⟨_,rfl,_,_,rfl,rfl,_,rfl,?_⟩
  refine ite2 (fun h2=>?yes2) (fun h2=>?no2)
  case no2 =>
   have h2:¬ p < q:=fun z=>h2 (decide_eq_true z)
   refine iteT ?_
   exact ⟨_,rfl,by show 1≤sizeLine; decide,fun l H' s' n' g'=>no (by omega) l H' s' n' g'⟩
  have h2:p < q:=of_decide_eq_true h2
  refine ⟨_,rfl,d,r,ch,m,sh,hd,rfl,g.full.doc,g.full.row,_,_,rfl,rfl,_,rfl,?_⟩
  by_cases h3:q≤(sh.length:Int)
  case neg =>
   rw [decide_eq_false h3]
   refine iteT ?_
   exact ⟨_,rfl,by show 1≤sizeLine; decide,fun l H' s' n' g'=>no (by omega) l H' s' n' g'⟩
  rw [decide_eq_true h3]
  refine iteF ?_
  obtain ⟨pn,rfl⟩:∃ pn:Nat,p=(pn:Int):=⟨p.toNat,by omega⟩
  obtain ⟨qn,rfl⟩:∃ qn:Nat,q=(qn:Int):=⟨q.toNat,by omega⟩
  have hpq:pn < qn:=by omega
  have hq:qn≤sh.length:=by omega
  have no2:(Vatrka.within t 1 999 && Vatrka.within on 0 1)=false→∀ (l:Addr) (H':Hp),Same H H'→H l=none→H' l=some (.lst [.int (-2)])→Q (.ref l) H':=fun hw l H' s' n' g'=>by
   have e:Vatrka.step (st m sh hd) (.tag (pn:Int) (qn:Int) t on)=(st m sh hd,.refused 2):=by
    show Vatrka.stepTag _ _ _ _ _=_
    unfold Vatrka.stepTag
    rw [zaR g.wf,(zaU _ _ _).mpr ⟨h1,h2,h3⟩,if_neg (by decide),if_pos hw]
   exact o.stay g (by rw [e]) (by rw [e]; rfl) s' n' g'
  show tTest (tChain (rI0 fun i j=>V.bl (decide (i≤j))) (rI0 fun i j=>V.bl (decide (i≤j))) (tC (.int 1)) (tVar 3) (tC (.int 999))) _ _ _
  refine zgA (x:=1) (y:=t) (z:=999) (fun Q q=>q) (fun Q q=>⟨_,rfl,q⟩) (fun Q q=>q) ?_
  by_cases ht:1≤t∧t≤999
  case neg =>
   have e6:(decide ((1:Int)≤t) && decide (t≤999))=false:=by
    cases e:(decide ((1:Int)≤t) && decide (t≤999)) with
    | false=>rfl
    | true =>
     rw [Bool.and_eq_true,decide_eq_true_eq,decide_eq_true_eq] at e
     exact absurd e ht
   rw [e6]
   refine iteT ?_
   refine iteT ?_
   exact ⟨_,rfl,by show 1≤sizeLine; decide,fun l H' s' n' g'=>no2 (by rw [zcR (by omega),Bool.false_and]) l H' s' n' g'⟩
  rw [decide_eq_true ht.1,decide_eq_true ht.2]
  refine iteF ?_
  refine ⟨_,rfl,(by show 2≤sizeLine; decide),fun t1 H1 s1 n1 g1=>?_⟩
  refine ⟨t1,_,rfl,.inr (SqT.of g1),rfl,rfl,_,rfl,?_⟩
  show if (!inV (.int on) [.int 0,.int 1])=true then _ else _
  rw [in01]
  cases hw:Vatrka.within on 0 1 with
  | false =>
   refine iteT ?_
   exact ⟨_,rfl,by show 1≤sizeLine; decide,fun l H' s' n' g'=>no2 (by rw [hw,Bool.and_false]) l H' (s1.trans s') (s1.free n') g'⟩
  | true =>
   refine iteF ?_
   obtain ⟨tn,rfl⟩:∃ tn:Nat,t=(tn:Int):=⟨t.toNat,by omega⟩
   have hon:on=0∨on=1:=by
    have:=(zbx on 0 1).mp hw
    omega
   obtain ⟨b,hb,hb2⟩:∃ b:Bool,on=(if b=true then 1 else 0)∧(on == 1)=b:=by
    rcases hon with e | e
    ·exact ⟨false,by rw [e]; rfl,by rw [e]; rfl⟩
    ·exact ⟨true,by rw [e]; rfl,by rw [e]; rfl⟩
   have estep:=zja (k:=k) (z:=z) g.wf hpq hq (t:=tn) (by omega) (by omega) hon
   rw [hb2] at estep
   obtain ⟨dx,es,hD⟩:=g.full.doc
   obtain ⟨dr,sA,hA,gs,hR⟩:=g.full.row
   have hR1:=hR.same s1
   have f1:=g.full.same s1
   have hgl:gs.length=hd.length:=hR.len
   refine ⟨_,rfl,d,_,dx,_,_,rfl,s1 _ _ hD.obj,T.D.cl,T.D.no _ (by decide +kernel),zaS,r,_,dr,_,_,rfl,hR1.obj,T.R.cl,T.R.no _ (by decide +kernel),za3,_,rfl,_,_,rfl,rfl,_,rfl,_,rfl,_,rfl,hA,_,rfl,SqL.of hR1.hl,fun sl H2 s2 n2 g2=>?_⟩
   have g2:H2 sl=some (.lst (((gs.take qn).drop (pn+1)).map fun g=>V.ref g.1)):=by
    have e:((pn:Int)+1)=((pn+1:Nat):Int):=by omega
    rw [e,zcA,← List.map_take,← List.map_drop] at g2
    exact g2
   have f2:=f1.same s2
   have hR2:=hR1.same s2
   have hFM:((hd.take qn).drop (pn+1)).flatten=FM ((gs.take qn).drop (pn+1)):=by
    unfold FM
    rw [hR.he,← List.map_take,← List.map_drop]
   have inH:∀ x∈((hd.take qn).drop (pn+1)).flatten,x∈all sh hd:=fun x hx=>List.mem_append_right _ (ze2 hx)
   have ndM:(((hd.take qn).drop (pn+1)).flatten.map (·.1)).Nodup:=by
    have h1:((hd.take qn).drop (pn+1)).flatten.Sublist (all sh hd):=(zjw hd hpq).trans (List.sublist_append_right _ _)
    exact g.wf.nd.sublist (h1.map _)
   rw [hFM] at inH ndM
   have hf:∀ x,(tagA tn b x).1=x.1:=fun x=>rfl
   have hmk:∀ x,Vatrka.sameMarks (tagA tn b x).2 x.2=true:=fun x=>same_iff.mpr ⟨rfl,rfl,rfl⟩
   have gsM:∀ gg∈(gs.take qn).drop (pn+1),gg∈gs:=fun gg h=>List.mem_of_mem_take (List.mem_of_mem_drop h)
   generalize hMM:(gs.take qn).drop (pn+1)=M at hFM inH ndM g2 gsM ⊢
   have notP:∀ {b':Addr} {o':HO},H2 b'=some o'→(∀ C dx fs,o'≠.ins C dx fs)→¬ ∃ x∈FM M,b'=x.1:=fun {b' o'} hb' hn ⟨x,hx,z⟩=>by
    obtain ⟨dxp,lk2,sn,it,dt,pt,T2,h2⟩:=f2.pcs x (inH x hx)
    have h2:=h2.obj
    rw [← z,hb'] at h2
    exact hn _ _ _ (Option.some.inj h2)
   refine ⟨sl,rfl,⟨_,SqL.of g2⟩,za8 (K:=K) (a:=sl) (xs:=M.map fun g=>V.ref g.1)
    (fun i σ H'=>∃ v v6:Option V,σ=[some (.ref d),some (.int pn),some (.int qn),some (.int tn),some (.int on),v,v6]∧Ext (fun a=>∃ x∈FM M,a=x.1) H2 H' ∧
     Pcs K c H' ((FM (M.take i)).map (tagA tn b))∧Pcs K c H' (FM (M.drop i)))
    ⟨none,none,rfl,Ext.refl,(fun _ h=>absurd h (by simp [FM])),fun x hx=>f2.pcs x (inH x hx)⟩ (fun i σ H' _ ⟨_,_,_,e,_⟩=>SqL.of (e.at g2 (notP g2 (fun _ _ _ z=>by cases z)))) ?_ ?_⟩
   ·rintro i y σ H3 hi ⟨v,v6,rfl,e,hp1,hp2⟩
    obtain ⟨gg,hg,rfl⟩:=zau hi
    have ggm:gg∈gs:=gsM gg (List.mem_of_getElem? hg)
    have hil:=(List.getElem?_eq_some_iff.mp hg).1
    have hdrop:M.drop i=gg::M.drop (i+1):=by
     rw [List.drop_eq_getElem_cons hil,(List.getElem?_eq_some_iff.mp hg).2]
    have eD:FM (M.drop i)=flatG gg++FM (M.drop (i+1)):=by rw [hdrop]; rfl
    have eT:FM (M.take (i+1))=FM (M.take i)++flatG gg:=by rw [zam hg,zf1,zlc]
    have eM:FM M=FM (M.take i)++(flatG gg++FM (M.drop (i+1))):=by
     conv=>lhs; rw [← List.take_append_drop i M,zf1,eD]
    have hgap:=(hR2.gl gg ggm).1
    have kpG:∀ {H':Hp},Ext (fun a=>∃ x∈FM M,a=x.1) H2 H'→∀ o,H2 gg.1=some o→H' gg.1=some o:=fun {H'} e' o ho=>e'.at ho (by
     rcases hgap with h | h
     ·exact notP h (fun _ _ _ z=>by cases z)
     ·exact notP h.2 (fun _ _ _ z=>by cases z))
    have kpG3:∀ {H':Hp},Ext (fun a=>∃ x∈FM M,a=x.1) H2 H'→∀ o,H3 gg.1=some o→H' gg.1=some o:=fun {H'} e' o ho=>by
     rcases hgap with h | h
     ·have h3:=kpG e _ h
      rw [ho] at h3
      rw [h3]
      exact kpG e' _ h
     ·have h3:=kpG e _ h.2
      rw [ho] at h3
      rw [h3]
      exact kpG e' _ h.2
    refine ⟨_,rfl,gg.1,rfl,zdl (K:=K) (a:=gg.1) (xs:=nrefs gg.2)
     (fun j σ H'=>∃ v6:Option V,σ=[some (.ref d),some (.int pn),some (.int qn),some (.int tn),some (.int on),some (.ref gg.1),v6]∧Ext (fun a=>∃ x∈FM M,a=x.1) H2 H' ∧
      Pcs K c H' ((FM (M.take i)++flatN (gg.2.take j)).map (tagA tn b))∧Pcs K c H' (flatN (gg.2.drop j)++FM (M.drop (i+1)))) (hgap.keepO (kpG e)).seq ⟨v6,rfl,e,?_,?_⟩ (fun j σ' H' ⟨_,_,e',_⟩=>kpG3 e') ?_ ?_⟩
    ·rw [List.take_zero]
     show Pcs K c H3 ((FM (M.take i)++[]).map (tagA tn b))
     rw [List.append_nil]
     exact hp1
    ·rw [List.drop_zero]
     rw [eD] at hp2
     exact hp2
    ·rintro j y σ H4 hj ⟨v6,rfl,e4,hq1,hq2⟩
     obtain ⟨n,hn,rfl⟩:=zau hj
     have nm:n∈gg.2:=List.mem_of_getElem? hn
     have hjl:=(List.getElem?_eq_some_iff.mp hn).1
     have hndrop:gg.2.drop j=n::gg.2.drop (j+1):=by
      rw [List.drop_eq_getElem_cons hjl,(List.getElem?_eq_some_iff.mp hn).2]
     have eN:flatN (gg.2.drop j)=n.2++flatN (gg.2.drop (j+1)):=by rw [hndrop]; rfl
     have eNT:flatN (gg.2.take (j+1))=flatN (gg.2.take j)++n.2:=by
      rw [zam hn,zaQ]
      show _++(n.2++[])=_
      rw [List.append_nil]
     have eG:flatG gg=flatN (gg.2.take j)++(n.2++flatN (gg.2.drop (j+1))):=by
      show flatN gg.2=_
      conv=>lhs; rw [← List.take_append_drop j gg.2,zaQ,eN]
     have hnb:=hR2.nl n (List.mem_flatMap.mpr ⟨gg,ggm,nm⟩)
     have hno:H4 n.1=some (.lst (refs n.2)):=e4.at hnb.at_ (notP hnb.at_ (fun _ _ _ z=>by cases z))
     have nd4:(((FM (M.take i)++flatN (gg.2.take j))++(n.2++(flatN (gg.2.drop (j+1))++FM (M.drop (i+1))))).map (·.1)).Nodup:=by
      have:=ndM
      rw [eM,eG] at this
      simp only [List.append_assoc] at this ⊢
      exact this
     have nmM:∀ x∈n.2,x∈FM M:=fun x hx=>by
      rw [eM,eG]
      exact List.mem_append_right _ (List.mem_append_left _ (List.mem_append_right _ (List.mem_append_left _ hx)))
     have ndn:(n.2.map (·.1)).Nodup:=nd4.sublist (((List.sublist_append_left n.2 _).trans (List.sublist_append_right _ _)).map _)
     rw [eN,List.append_assoc] at hq2
     refine ⟨_,rfl,_,rfl,_,rfl,n.1,tn,b,n.2,by rw [hb]; rfl,by omega,hno,(fun x hx=>hq2 x (List.mem_append_left _ hx)),ndn,(fun x hx=>(g.wf.pcs x (inH x (nmM x hx))).tagsS),fun H5 e5 h5=>?_⟩
     obtain ⟨k1,k2⟩:=Pcs.block nd4 hf e5 hq1 hq2 h5
     refine ⟨_,rfl,e4.trans (e5.mono fun a o' _ ⟨x,hx,z⟩ _=>⟨x,nmM x hx,z⟩),?_,k2⟩
     rw [eNT,← List.append_assoc]
     exact k1
    ·rintro σ H4 ⟨v6,rfl,e4,hq1,hq2⟩
     have et:gg.2.take (nrefs gg.2).length=gg.2:=List.take_of_length_le (by rw [List.length_map]; exact Nat.le_refl _)
     have ed:gg.2.drop (nrefs gg.2).length=[]:=List.drop_of_length_le (by rw [List.length_map]; exact Nat.le_refl _)
     rw [et] at hq1
     rw [ed] at hq2
     exact ⟨_,_,rfl,e4,by rw [eT]; exact hq1,hq2⟩
   ·rintro σ H3 ⟨v,v6,rfl,e,hp1,_⟩
    have el:M.take (M.map fun g=>V.ref g.1).length=M:=List.take_of_length_le (by rw [List.length_map]; exact Nat.le_refl _)
    rw [el,← hFM] at hp1
    rw [← hFM] at e
    have f3:Full K c H3 d m r ch sh (hdMid hd pn qn (tagA tn b)):=f2.setHid g.wf.nd hf hmk hpq e hp1
    obtain ⟨dx3,es3,hD3⟩:=f3.doc
    obtain ⟨dr3,sA3,hA3,gs3,hR3⟩:=f3.row
    refine ⟨_,rfl,d,_,dx3,_,_,rfl,hD3.obj,T.D.cl,T.D.no _ (by decide +kernel),zaS,r,_,dr3,_,_,rfl,hR3.obj,T.R.cl,T.R.no _ (by decide +kernel),zaF,_,rfl,_,rfl,_,rfl,_,rfl,sA3,_,rfl,SqL.of hR3.sl,fun sl2 H4 s4 n4 g4=>?_⟩
    rw [zcA,zbT,zbU] at g4
    have f4:=f3.same s4
    have inA:∀ x∈(sh.take qn).drop pn,x∈all sh (hdMid hd pn qn (tagA tn b)):=fun x hx=>List.mem_append_left _ (zaL hx)
    have ndT:((all sh (hdMid hd pn qn (tagA tn b))).map (·.1)).Nodup:=by
     unfold all
     rw [List.map_append,ziD hf hpq,← List.map_append]
     exact g.wf.nd
    refine ⟨_,rfl,_,rfl,sl2,tn,b,(sh.take qn).drop pn,by rw [hb]; rfl,by omega,g4,(fun x hx=>f4.pcs x (inA x hx)),zcK (hd:=hd) g.wf.nd,(fun x hx=>(g.wf.pcs x (List.mem_append_left _ (zaL hx))).tagsS),fun H5 e5 h5=>?_⟩
    have f5:Full K c H5 d m r ch (shMid sh pn qn (tagA tn b)) (hdMid hd pn qn (tagA tn b)):=f4.setMid ndT hf (Nat.le_of_lt hpq) e5 h5
    refine ⟨by show 1≤sizeLine; decide,fun l H' s' n' h'=>?_⟩
    have E5:Ext (Foot H d r ch sh hd) H H5:=((((s1.ext.trans s2.ext).trans (e.mono fun a o' _ ⟨x,hx,z⟩ _=>.inr (.inr (.inr ⟨x,inH x (by rw [← hFM]; exact hx),z⟩)))).trans s4.ext).trans (e5.mono fun a o' _ ⟨x,hx,z⟩ _=>.inr (.inr (.inr ⟨x,List.mem_append_left _ (zaL hx),z⟩))))
    exact o H' l m _ _ (E5.trans s'.ext) (E5.dom l n') (by rw [estep]; exact h') (f5.same s') rfl (by rw [estep]) (zku g.wf hpq hq (by omega) (by omega))
end
structure TxtQ (mg:Str→Option Value):Prop where
 g_BY_ALL_PIECES:∃ t,mg "BY_ALL_PIECES"=some (.int 0 t)
 g_BY_ORIGINAL_PIECES:∃ t,mg "BY_ORIGINAL_PIECES"=some (.int 2 t)
 g_VIEW_ALL:∃ t,mg "VIEW_ALL"=some (.int 0 t)
 g_VIEW_ACCEPTED:∃ t,mg "VIEW_ACCEPTED"=some (.int 1 t)
 g_VIEW_REJECTED:∃ t,mg "VIEW_REJECTED"=some (.int 2 t)
theorem zju {K:PySem.W.Frag} {a:Addr} {xs:List V} {g:TG} {tt:TT} {te:TE} {vs:List Nat} {σ:L2.St} {H1:Hp} {D:Addr} {Qd:Hp→Prop} (Pv:Nat→Hp→Prop) (h0:Pv 0 (upd H1 D (.lst []))) (hl:∀ i H,i≤xs.length→Pv i H→SqL K H a xs)
  (hs:∀ i x H T H',xs[i]?=some x→Pv i H→Same H H'→H' T=some (.tup [.int (i:Nat),x])→g (.ref T) (wipe σ vs) H' fun σ2 H2=>wipe σ2 vs=wipe σ vs∧tt σ2 H2 fun b H3 =>
   if b=true then te σ2 H3 fun y H4=>∃ acc,H4 D=some (.lst acc)∧acc.length < sizeLine∧Pv (i+1) (upd H4 D (.lst (acc++[y]))) else Pv (i+1) H3) (hd:∀ H,Pv xs.length H→Qd H) :
  ∃ W:Nat→Nat→Hp→Prop,(∃ m,W 0 m (upd H1 D (.lst [])))∧∀ i m H,W i m H →
   ((Ite K a).stop i H∧Qd H)∨((Ite K a).go i H∧∃ Nx:Hp→Prop,(∀ H',Nx H'→∃ m',m' < m∧W (i+1) m' H')∧∀ x H',(Ite K a).yld i H x H'→g x (wipe σ vs) H' fun σ2 H2=>wipe σ2 vs=wipe σ vs∧tt σ2 H2 fun b H3 =>
    if b=true then te σ2 H3 fun y H4=>∃ acc,H4 D=some (.lst acc)∧acc.length < sizeLine∧Nx (upd H4 D (.lst (acc++[y]))) else Nx H3):=by
 refine ⟨fun i m H=>m=xs.length - i∧i≤xs.length∧Pv i H,⟨xs.length,by simp,Nat.zero_le _,h0⟩,?_⟩
 rintro i m H ⟨rfl,hi,p⟩
 have q1:=hl i H hi p
 by_cases hlt:i < xs.length
 ·refine .inr ⟨⟨xs,xs[i],q1,by simp [hlt]⟩,Pv (i+1),fun H' p'=>⟨xs.length - (i+1),by omega,rfl,hlt,p'⟩,fun v H' y=>?_⟩
  obtain ⟨T,x,e1,e2,e3,y1⟩:=y
  subst e1 e3
  exact hs i x H T _ (y1 xs q1) p (zaz e2) zai
 ·have e:i=xs.length:=by omega
  subst e
  exact .inl ⟨⟨xs,q1,Nat.le_refl _⟩,hd H p⟩
theorem zj5 {tc:TT} {t u rest:TS} {D:Ends} {σ:L2.St} {H:Hp} {b:Bool} (ht:∀ G:Bool→Hp→Prop,G b H→tc σ H G) (h:if b=true then t { D with nx:=rest D } σ H else u { D with nx:=rest D } σ H):tSeq (tIfS tc t u) rest D σ H:=ht _ h
theorem zkH {tc:TT} {t u rest:TS} {D:Ends} {σ:L2.St} {H:Hp} {b:Bool} (ht:∀ G:Bool→Hp→Prop,(∀ H',Same H H'→G b H')→tc σ H G) (h:∀ H',Same H H'→if b=true then t { D with nx:=rest D } σ H' else u { D with nx:=rest D } σ H'):tSeq (tIfS tc t u) rest D σ H:=ht _ h
theorem zjK {tc:TT} {t u:TS} {D:Ends} {σ:L2.St} {H:Hp} {b:Bool} (ht:∀ G:Bool→Hp→Prop,(∀ H',Same H H'→G b H')→tc σ H G) (h:∀ H',Same H H'→if b=true then t D σ H' else u D σ H'):tIfS tc t u D σ H:=ht _ h
theorem zhP {t:TT} {ta tb:TE} {σ:L2.St} {H:Hp} {v:V} {b:Bool} {Q:VK} (ht:∀ G:Bool→Hp→Prop,(∀ H',Same H H'→G b H')→t σ H G) (ha:b=true→∀ (H':Hp) (Q:VK),Q v H'→ta σ H' Q) (hb:b=false→∀ (H':Hp) (Q:VK),Q v H'→tb σ H' Q) (q:∀ H',Same H H'→Q v H'):tIf t ta tb σ H Q:=by
 refine ht _ fun H' s=>?_
 cases b with
 | true=>exact iteT (ha rfl H' _ (q H' s))
 | false=>exact iteF (hb rfl H' _ (q H' s))
theorem zbP (l:List Nat):ansV (.told l)=nums l:=by
 unfold ansV VatrkaNeutral.encode nums
 rw [List.map_map]
 rfl
section
variable {P:Program} {w:World} {K:PySem.W.Frag} {mg:Str→Option Value} {base:Heap} {c:Cs}
abbrev s_count_all:Stmt:=top 65
theorem zft:FnScope ["runs","run"] ["runs"] (defScope s_count_all):=⟨rfl,rfl,rfl,by decide +kernel,rfl,by decide +kernel,by decide +kernel⟩
def spCountAll (c:Cs):Sp:=fun vs H Q _=>∃ (H0:Hp) (L:Addr) (rs:List Rn) (row:List AP),vs=[.ref L]∧Runs c H0 H L rs row∧row.length < sizeLine∧∀ H',Same H H'→Q (.int (row.length:Int)) H'
theorem d_count_all (F:FunAt K mg "count_all" s_count_all) (T:Txt K mg c):Def P w K mg base "count_all" 1 ["runs"] (spCountAll c):=by
 have sc:=zft
 refine F.def sc (fun _ _ _ _ _ _=>ar1 fun _=>rfl) (fun vs H Q E h=>?_) (fun f cdv A outer s H vs Q E hr h=>?_)
 ·obtain ⟨H0,L,rs,row,rfl,_⟩:=h
  rfl
 ·obtain ⟨H0,L,rs,row,rfl,h1,hz,k⟩:=h
  have hrl:=h1.len
  refine ⟨_,(zad (zah (zax (ziR rfl) rfl T.b_sum boot_sum (zaa (zfz rfl sc.nd (zaW (pv 0)) (own:=[("run",1)]) (zbe rfl) (fun _ _ _ _ _=>(zav (i:=1) sc.nd rfl (by first | exact Or.inl rfl | exact Or.inr rfl))) (fun _ _ _ _ _=>zcW) (fun _ _ _ _ _=>(zcf (K:=K) (pv 1) rfl))) zac)))),?_⟩
  refine ⟨_,rfl,L,rfl,⟨_,SqL.of h1.lst⟩,fun D hD=>zcg (K:=K) (a:=L) (xs:=rrefs rs)
   (fun i H'=>Same H H'∧H' D=some (.lst ((sumN (fun _=>true) (rs.take i)).map V.int))) ⟨zaz hD,zai⟩ (fun i H' _ hp=>SqL.of (hp.1 _ _ h1.lst)) ?_ ?_⟩
  ·rintro i y H2 hi ⟨s2,hD2⟩
   obtain ⟨rn,hrn,rfl⟩:=zau hi
   have hil:=(List.getElem?_eq_some_iff.mp hrn).1
   obtain ⟨⟨dx,hro⟩,_,hrm⟩:=h1.at_ rn (List.mem_of_getElem? hrn)
   refine ⟨rfl,?_⟩
   dsimp only [tYes]
   rw [if_pos rfl]
   refine ⟨_,rfl,rn.at_,_,dx,_,_,rfl,s2 _ _ hro,T.S.cl,T.S.no _ (by decide +kernel),zaG,_,hD2,?_,?_⟩
   ·rw [List.length_map]
    have:=zev (fun _=>true) rs i
    omega
   ·refine ⟨fun b o' hb=>by rw [zaA (zag hb hD)]; exact s2 b o' hb,?_⟩
    rw [zai,zam hrn,zdt,if_pos rfl,List.map_append]
    rfl
  ·rintro H2 ⟨s2,hD2⟩
   have el:rs.take (rrefs rs).length=rs:=List.take_of_length_le (by rw [List.length_map]; exact Nat.le_refl _)
   rw [el] at hD2
   refine ⟨D,_,rfl,SqL.of hD2,?_⟩
   have e:((ps row).filter fun _=>true).length=row.length:=by rw [List.filter_eq_self.mpr (fun _ _=>rfl),List.length_map]
   rw [zf4,h1.exp.sum zkp,e]
   exact k H2 s2
abbrev s_count_original:Stmt:=top 66
theorem zcU:FnScope ["runs","run"] ["runs"] (defScope s_count_original):=⟨rfl,rfl,rfl,by decide +kernel,rfl,by decide +kernel,by decide +kernel⟩
def spCountOrig (K:PySem.W.Frag) (c:Cs):Sp:=fun vs H Q _=>∃ (H0:Hp) (L:Addr) (rs:List Rn) (row:List AP),vs=[.ref L]∧Runs c H0 H L rs row∧Pcs K c H0 row∧row.length < sizeLine∧∀ H',Same H H'→Q (.int (((ps row).filter Vatrka.stood).length:Int)) H'
theorem d_count_original (F:FunAt K mg "count_original" s_count_original) (T:Txt K mg c) (d_is_original:Def P w K mg base "is_original" 1 ["piece"] (spIsOrig K c.P)):Def P w K mg base "count_original" 2 ["runs"] (spCountOrig K c):=by
 have sc:=zcU
 refine F.def sc (fun _ _ _ _ _ _=>ar1 fun _=>rfl) (fun vs H Q E h=>?_) (fun f cdv A outer s H vs Q E hr h=>?_)
 ·obtain ⟨H0,L,rs,row,rfl,_⟩:=h
  rfl
 ·obtain ⟨H0,L,rs,row,rfl,h1,hpc,hz,k⟩:=h
  have hrl:=h1.len
  refine ⟨_,(zad (zah (zax (ziR rfl) rfl T.b_sum boot_sum (zaa (zfz rfl sc.nd (zaW (pv 0)) (own:=[("run",1)]) (zbe rfl) (fun _ _ _ _ _=>(zav (i:=1) sc.nd rfl (by first | exact Or.inl rfl | exact Or.inr rfl))) (fun _ _ _ _ _=>(zdF (zbD (zap d_is_original (hr.mono (by decide)) rfl pass0 (zaa (zcf (K:=K) (pv 1) rfl) zac))))) (fun _ _ _ _ _=>(zcf (K:=K) (pv 1) rfl))) zac)))),?_⟩
  refine ⟨_,rfl,L,rfl,⟨_,SqL.of h1.lst⟩,fun D hD=>zcg (K:=K) (a:=L) (xs:=rrefs rs)
   (fun i H'=>Same H H'∧H' D=some (.lst ((sumN Vatrka.stood (rs.take i)).map V.int))) ⟨zaz hD,zai⟩ (fun i H' _ hp=>SqL.of (hp.1 _ _ h1.lst)) ?_ ?_⟩
  ·rintro i y H2 hi ⟨s2,hD2⟩
   obtain ⟨rn,hrn,rfl⟩:=zau hi
   have hil:=(List.getElem?_eq_some_iff.mp hrn).1
   obtain ⟨⟨dx,hro⟩,_,hrm⟩:=h1.at_ rn (List.mem_of_getElem? hrn)
   have hro2:=s2 _ _ hro
   have hpx:=((hpc.same h1.same).same s2) rn.pc hrm
   refine ⟨rfl,?_⟩
   refine ⟨_,rfl,rn.at_,_,dx,_,_,rfl,hro2,T.S.cl,T.S.no _ (by decide +kernel),za0,rn.pc.1,rn.pc.2,rfl,hpx,fun H3 s3=>⟨_,rfl,?_⟩⟩
   rw [zam hrn,zdt]
   cases hm:Vatrka.stood rn.pc.2 with
   | true =>
    refine iteT ?_
    refine ⟨_,rfl,rn.at_,_,dx,_,_,rfl,s3 _ _ hro2,T.S.cl,T.S.no _ (by decide +kernel),zaG,_,s3 _ _ hD2,?_,?_⟩
    ·rw [List.length_map]
     have:=zev Vatrka.stood rs i
     omega
    ·refine ⟨fun b o' hb=>by rw [zaA (zag hb hD)]; exact s3 _ _ (s2 b o' hb),?_⟩
     rw [zai,if_pos rfl,List.map_append]
     rfl
   | false =>
    refine iteF ?_
    refine ⟨s2.trans s3,?_⟩
    rw [if_neg (by decide),List.append_nil]
    exact s3 _ _ hD2
  ·rintro H2 ⟨s2,hD2⟩
   have el:rs.take (rrefs rs).length=rs:=List.take_of_length_le (by rw [List.length_map]; exact Nat.le_refl _)
   rw [el] at hD2
   refine ⟨D,_,rfl,SqL.of hD2,?_⟩
   rw [zf4,h1.exp.sum ze9]
   exact k H2 s2
theorem Given.flat {H:Hp} {d r ch:Addr} {m:Mo} {sh:List AP} {hd:List (List AP)} {k z zc:Nat} (g:Given K c H d r ch m sh hd k z zc):(flat hd sh).length=hd.flatten.length+sh.length∧Pcs K c H (flat hd sh)∧hd.flatten.length+sh.length < sizeLine:=by
 have pm:=zaT (hd:=hd) (sh:=sh) g.wf.len
 obtain ⟨h1,h2,_⟩:=g.small
 exact ⟨by rw [pm.length_eq,List.length_append]; omega,fun x hx=>g.full.pcs x (pm.mem_iff.mp hx),by omega⟩
abbrev s_size:Stmt:=top 63
theorem zj2:FnScope ["document","runs"] ["document"] (defScope s_size):=⟨rfl,rfl,rfl,by decide +kernel,rfl,by decide +kernel,by decide +kernel⟩
def spSz (K:PySem.W.Frag) (c:Cs):Sp:=fun vs H Q _=>∃ (d r ch:Addr) (m:Mo) (sh:List AP) (hd:List (List AP)) (k z:Nat),vs=[.ref d]∧Given K c H d r ch m sh hd k z 0∧Owes K c H d r ch m sh hd k z 0 .size Q
theorem d_size (F:FunAt K mg "size" s_size) (T:Txt K mg c) (d_all_runs:Def P w K mg base "all_runs" 6 ["row"] (spAllRuns K c)) (d_size_of:Def P w K mg base "size_of" 1 ["document"] (spSize c)) (d_count_all:Def P w K mg base "count_all" 1 ["runs"] (spCountAll c)) (d_count_original:Def P w K mg base "count_original" 2 ["runs"] (spCountOrig K c)) :
  Def P w K mg base "size" 7 ["document"] (spSz K c):=by
 have sc:=zj2
 refine F.def sc (fun _ _ _ _ _ _=>ar1 fun _=>rfl) (fun vs H Q E h=>?_) (fun f cdv A outer s H vs Q E hr h=>?_)
 ·obtain ⟨d,r,ch,m,sh,hd,k,z,rfl,_⟩:=h
  rfl
 ·obtain ⟨d,r,ch,m,sh,hd,k,z,rfl,g,o⟩:=h
  obtain ⟨hfl,hpf,hsm⟩:=g.flat
  obtain ⟨dx,es,hD⟩:=g.full.doc
  refine ⟨_,(zab (zar (i:=1) sc.nd rfl (by first | exact Or.inl rfl | exact Or.inr rfl) (zap d_all_runs (hr.mono (by decide)) rfl pass0 (zaa (zae (pv 0) rfl) zac)))
   (zad (zah (zal (zaa (zap d_size_of (hr.mono (by decide)) rfl pass0 (zaa (pv 0) zac)) (zaa (zap d_count_all (hr.mono (by decide)) rfl pass0 (zaa (pv 1) zac)) (zaa (zap d_count_original (hr.mono (by decide)) rfl pass0 (zaa (pv 1) zac)) (zaa (zax zak rfl T.b_len PySem.boot_len (zaa (zae (pv 0) rfl) zac)) zac)))))))),?_⟩
  refine ⟨_,rfl,d,_,dx,_,_,rfl,hD.obj,T.D.cl,T.D.no _ (by decide +kernel),zaS,r,_,sh,hd,rfl,g.full.row,g.full.pcs,g.wf.len,g.wf.ne,hsm,fun H1 L rs h1=>?_⟩
  have f1:=g.full.same h1.same
  refine ⟨_,rfl,d,r,ch,m,sh,hd,rfl,f1.doc,f1.row,_,rfl,H,L,rs,_,rfl,h1,by omega,fun H2 s2=>⟨_,rfl,H,L,rs,_,rfl,h1.keep s2,hpf,by omega,fun H3 s3=>?_⟩⟩
  have s03:=(h1.same.trans s2).trans s3
  refine ⟨_,rfl,d,_,dx,_,_,rfl,s03 _ _ hD.obj,T.D.cl,T.D.no _ (by decide +kernel),zbj,ch,_,rfl,.inl (SqL.of (s03 _ _ hD.chl)),by show 4≤sizeLine; decide,fun l H' s' n' h'=>?_⟩
  have estep:Vatrka.step (st m sh hd) .size=(st m sh hd,.told [sh.length,(flat hd sh).length,((ps (flat hd sh)).filter Vatrka.stood).length,m.changes.length]):=by
   show (st m sh hd,Vatrka.Answer.told [Vatrka.count (st m sh hd),(st m sh hd).row.length,((st m sh hd).row.filter Vatrka.stood).length,m.changes.length])=_
   rw [zaR g.wf,← zbv m,List.length_map]
  refine o.stay g (ans:=nums [sh.length,(flat hd sh).length,((ps (flat hd sh)).filter Vatrka.stood).length,m.changes.length]) (by rw [estep]) (by rw [estep]; exact zbP _) (s03.trans s') (s03.free n') ?_
  rw [h',List.length_map,Paired.length hD.chs]
  rfl
abbrev s_where:Stmt:=top 64
theorem zjg:FnScope ["document","p","runs"] ["document","p"] (defScope s_where):=⟨rfl,rfl,rfl,by decide +kernel,rfl,by decide +kernel,by decide +kernel⟩
def spWhere (K:PySem.W.Frag) (c:Cs):Sp:=fun vs H Q _=>∃ (d r ch:Addr) (m:Mo) (sh:List AP) (hd:List (List AP)) (k z:Nat) (p:Int),vs=[.ref d,.int p]∧Given K c H d r ch m sh hd k z 0∧Owes K c H d r ch m sh hd k z 0 (.place p) Q
theorem d_where (F:FunAt K mg "where" s_where) (T:Txt K mg c) (d_runs_before:Def P w K mg base "runs_before" 5 ["row","p"] (spBefore K c)) (d_size_of:Def P w K mg base "size_of" 1 ["document"] (spSize c)) (d_count_all:Def P w K mg base "count_all" 1 ["runs"] (spCountAll c)) (d_count_original:Def P w K mg base "count_original" 2 ["runs"] (spCountOrig K c)) :
  Def P w K mg base "where" 6 ["document","p"] (spWhere K c):=by
 have sc:=zjg
 refine F.def sc (fun _ _ _ _ _ _=>ar2 fun _ _=>rfl) (fun vs H Q E h=>?_) (fun f cdv A outer s H vs Q E hr h=>?_)
 ·obtain ⟨d,r,ch,m,sh,hd,k,z,p,rfl,_⟩:=h
  rfl
 ·obtain ⟨d,r,ch,m,sh,hd,k,z,p,rfl,g,o⟩:=h
  obtain ⟨hfl,hpf,hsm⟩:=g.flat
  obtain ⟨dx,es,hD⟩:=g.full.doc
  refine ⟨_,(zab (zaC (zbE (zbk zbg zcY zaf (pv 1) (zap d_size_of (hr.mono (by decide)) rfl pass0 (zaa (pv 0) zac))))
    (zad (zah (zal (zaa (zbm zaZ zaf) zac))))
    zaj)
   (zab (zar (i:=2) sc.nd rfl (by first | exact Or.inl rfl | exact Or.inr rfl) (zap d_runs_before (hr.mono (by decide)) rfl pass0 (zaa (zae (pv 0) rfl) (zaa (pv 1) zac))))
   (zad (zah (zal (zaa (zap d_count_all (hr.mono (by decide)) rfl pass0 (zaa (pv 2) zac)) (zaa (zap d_count_original (hr.mono (by decide)) rfl pass0 (zaa (pv 2) zac)) zac))))))),?_⟩
  have no:¬ (0≤p∧p < (sh.length:Int))→∀ (l:Addr) (H':Hp),Same H H'→H l=none→H' l=some (.lst [.int (-1)])→Q (.ref l) H':=fun hw l H' s' n' g'=>by
   have e:Vatrka.step (st m sh hd) (.place p)=(st m sh hd,.refused 1):=by
    show (st m sh hd,Vatrka.stepPlace _ _)=_
    unfold Vatrka.stepPlace
    rw [zaR g.wf,zbJ hw]; rfl
   exact o.stay g (by rw [e]) (by rw [e]; rfl) s' n' g'
  refine ⟨_,rfl,_,_,rfl,rfl,_,rfl,?_⟩
  refine ite2 (fun h1=>?yes) (fun h1=>?no)
  case no =>
   have h1:¬ (0:Int)≤p:=fun z=>h1 (decide_eq_true z)
   refine ⟨_,rfl,?_⟩
   refine iteT ?_
   exact ⟨_,rfl,by show 1≤sizeLine; decide,fun l H' s' n' g'=>no (by omega) l H' s' n' g'⟩
  have h1:(0:Int)≤p:=of_decide_eq_true h1
  refine ⟨_,rfl,d,r,ch,m,sh,hd,rfl,g.full.doc,g.full.row,_,_,rfl,rfl,_,rfl,?_⟩
  by_cases h2:p < (sh.length:Int)
  case neg =>
   rw [decide_eq_false h2]
   refine iteT ?_
   exact ⟨_,rfl,by show 1≤sizeLine; decide,fun l H' s' n' g'=>no (by omega) l H' s' n' g'⟩
  rw [decide_eq_true h2]
  refine iteF ?_
  obtain ⟨pn,rfl⟩:∃ pn:Nat,p=(pn:Int):=⟨p.toNat,by omega⟩
  have hp:pn < sh.length:=by omega
  refine ⟨_,rfl,d,_,dx,_,_,rfl,hD.obj,T.D.cl,T.D.no _ (by decide +kernel),zaS,_,rfl,r,_,pn,sh,hd,rfl,g.full.row,g.full.pcs,g.wf.len,hp,hsm,fun H1 L rs h1=>?_⟩
  obtain ⟨e1,e2⟩:=zgE (hd:=hs hd) (sh:=ps sh) pn g.wf.split (by rw [List.length_map]; exact hp)
  have epre:ps (pre hd sh pn)=pre (hs hd) (ps sh) pn:=zhU (fun x:AP=>x.2) hd sh pn
  have hpl:(pre hd sh pn).length≤hd.flatten.length+sh.length:=by
   have:=congrArg List.length epre
   rw [List.length_map] at this
   rw [this,← e2,List.length_take]
   have e3:(flat (hs hd) (ps sh)).length=(flat hd sh).length:=by
    rw [← ze4 (fun x:AP=>x.2) hd sh,List.length_map]
   omega
  have hpp:Pcs K c H (pre hd sh pn):=fun x hx=>by
   have hgd:=zhV pn g.wf.len hp
   rw [hgd] at hx
   rcases List.mem_append.mp hx with hx | hx
   ·exact g.full.pcs x (zbL hx)
   ·rw [List.getD_eq_getElem?_getD] at hx
    cases e:hd[pn]? with
    | none=>rw [e] at hx; simp at hx
    | some hh =>
     rw [e] at hx
     exact g.full.pcs x (List.mem_append_right _ (List.mem_flatten.mpr ⟨hh,List.mem_of_getElem? e,hx⟩))
  refine ⟨_,rfl,H,L,rs,_,rfl,h1,by omega,fun H2 s2=>⟨_,rfl,H,L,rs,_,rfl,h1.keep s2,hpp,by omega,fun H3 s3=>?_⟩⟩
  have s03:=(h1.same.trans s2).trans s3
  refine ⟨by show 2≤sizeLine; decide,fun l H' s' n' h'=>?_⟩
  have estep:Vatrka.step (st m sh hd) (.place (pn:Int))=(st m sh hd,.told [(pre hd sh pn).length,((ps (pre hd sh pn)).filter Vatrka.stood).length]):=by
   show (st m sh hd,Vatrka.stepPlace _ _)=_
   unfold Vatrka.stepPlace
   rw [zaR g.wf,(zbr _ _).mpr (by omega),if_neg (by decide),Int.toNat_natCast]
   have e4:(st m sh hd).row=flat (hs hd) (ps sh):=rfl
   rw [e4,e2,e1,← epre,List.length_map]
  exact o.stay g (by rw [estep]) (by rw [estep]; exact zbP _) (s03.trans s') (s03.free n') h'
abbrev s_from_of:Stmt:=top 67
theorem zg5:FnScope ["document","w","i","shown","left","run"] ["document","w","i"] (defScope s_from_of):=⟨rfl,rfl,rfl,by decide +kernel,rfl,by decide +kernel,by decide +kernel⟩
def spFrom (K:PySem.W.Frag) (c:Cs):Sp:=fun vs H Q _=>∃ (d r ch:Addr) (m:Mo) (sh:List AP) (hd:List (List AP)) (k z:Nat) (ww i:Int),vs=[.ref d,.int ww,.int i]∧Given K c H d r ch m sh hd k z 0∧Owes K c H d r ch m sh hd k z 0 (.origin ww i) Q
def fromP (ww:Int) (x:Piece):Bool:=if ww=0 then true else Vatrka.stood x
theorem zkq (ww:Int):ByMarks (fromP ww):=fun x y h=>by
 unfold fromP
 rw [ze9 x y h]
theorem ziF {m:Mo} {sh:List AP} {hd:List (List AP)} {ww:Int} {i:Nat} (hw:ww=0∨ww=2):Vatrka.step (st m sh hd) (.origin ww (i:Int)) =
  (st m sh hd,match goF (fromP ww) (runsB (ps (flat hd sh))) 0 i with | some n=>.told [n] | none=>.refused 1):=by
 show (st m sh hd,Vatrka.stepOrigin _ _ _)=_
 rw [zk1 (zkq ww) (zcN _),zbv m]
 unfold Vatrka.stepOrigin
 rcases hw with rfl | rfl
 ·have e:fromP 0=fun _=>true:=rfl
  rw [if_pos rfl,e,List.filter_eq_self.mpr (fun _ _=>rfl)]
  by_cases h:i < (st m sh hd).row.length
  ·rw [(zbr _ _).mpr (by omega),if_pos rfl,if_pos h,zhW _ _ h,Int.toNat_natCast,Nat.zero_add]
  ·rw [zbJ (by omega),if_neg (by decide),if_neg h]
 ·have e:fromP 2=Vatrka.stood:=rfl
  rw [if_neg (by decide),if_pos rfl,e]
  by_cases h:i < ((st m sh hd).row.filter Vatrka.stood).length
  ·rw [(zbr _ _).mpr (by omega),if_pos rfl,if_pos h,zeP,Int.toNat_natCast,Nat.zero_add]
  ·rw [zbJ (by omega),if_neg (by decide),if_neg h]
theorem d_from_of (F:FunAt K mg "from_of" s_from_of) (T:Txt K mg c) (TQ:TxtQ mg) (d_all_runs:Def P w K mg base "all_runs" 6 ["row"] (spAllRuns K c)) (d_is_original:Def P w K mg base "is_original" 1 ["piece"] (spIsOrig K c.P)) (d_is_shown:Def P w K mg base "is_shown" 1 ["piece"] (spIsShown K c.P)) :
  Def P w K mg base "from_of" 7 ["document","w","i"] (spFrom K c):=by
 have sc:=zg5
 refine F.def sc (fun _ _ _ _ _ _=>ar3 fun _ _ _=>rfl) (fun vs H Q E h=>?_) (fun f cdv A outer s H vs Q E hr h=>?_)
 ·obtain ⟨d,r,ch,m,sh,hd,k,z,ww,i,rfl,_⟩:=h
  rfl
 ·obtain ⟨d,r,ch,m,sh,hd,k,z,ww,i,rfl,g,o⟩:=h
  obtain ⟨hfl,hpf,hsm⟩:=g.flat
  obtain ⟨dx,es,hD⟩:=g.full.doc
  refine ⟨_,(zab (zaC (PW.pt (zhR (zan zhe (pv 1) (zay rfl TQ.g_BY_ALL_PIECES) (nomark _)) (zge (zan zhe (pv 1) (zay rfl TQ.g_BY_ORIGINAL_PIECES) (nomark _)))))
    (zad (zah (zal (zaa (zbm zaZ zaf) zac))))
    zaj)
   (zab (zaC (zan zcY (pv 2) zaf (nomark _))
    (zad (zah (zal (zaa (zbm zaZ zaf) zac))))
    zaj)
   (zab (zar (i:=3) sc.nd rfl (by first | exact Or.inl rfl | exact Or.inr rfl) zaf)
   (zab (zar (i:=4) sc.nd rfl (by first | exact Or.inl rfl | exact Or.inr rfl) (pv 2))
   (zab (za7 PassesOwn.never rfl (zaW (zap d_all_runs (hr.mono (by decide)) rfl pass0 (zaa (zae (pv 0) rfl) zac))) (zav (i:=5) sc.nd rfl (by first | exact Or.inl rfl | exact Or.inr rfl))
    (zab (zaC (PW.pt (zg9 (zan za6 (pv 1) (zay rfl TQ.g_BY_ALL_PIECES) (nomark _)) (zel (zbD (zap d_is_original (hr.mono (by decide)) rfl pass0 (zaa (zae (pv 5) rfl) zac))))))
     (zab (zaC (zan zcY (pv 4) (zae (pv 5) rfl) (nomark _))
      (zad (zah (zal (zaa (zcl (zbD (zap d_is_shown (hr.mono (by decide)) rfl pass0 (zaa (zae (pv 5) rfl) zac))) (zaH zbu (pv 3) (pv 4)) (pv 3)) zac))))
      zaj)
     (zad (zb3 (i:=4) sc.nd rfl (by first | exact Or.inl rfl | exact Or.inr rfl) (zae (pv 5) rfl) zjQ)))
     zaj)
    (zad (zaC (zbD (zap d_is_shown (hr.mono (by decide)) rfl pass0 (zaa (zae (pv 5) rfl) zac)))
     (zad (zb3 (i:=3) sc.nd rfl (by first | exact Or.inl rfl | exact Or.inr rfl) (zae (pv 5) rfl) zcr))
     zaj))))
   (zad (zah (zal (zaa (zbm zaZ zaf) zac))))))))),?_⟩
  have no2:¬ (ww=0∨ww=2)→∀ (l:Addr) (H':Hp),Same H H'→H l=none→H' l=some (.lst [.int (-2)])→Q (.ref l) H':=fun hw l H' s' n' g'=>by
   have e:Vatrka.step (st m sh hd) (.origin ww i)=(st m sh hd,.refused 2):=by
    show (st m sh hd,Vatrka.stepOrigin _ _ _)=_
    unfold Vatrka.stepOrigin
    rw [if_neg (fun z=>hw (.inl z)),if_neg (fun z=>hw (.inr z))]
   exact o.stay g (by rw [e]) (by rw [e]; rfl) s' n' g'
  have dee:∀ (a b:Int),decide (V.int a=V.int b)=decide (a=b):=fun a b=>by
   rw [zbH,Bool.eq_iff_iff]
   simp
  refine zj5 (b:=!decide (ww=0∨ww=2)) (fun G q=>?_) ?_
  ·refine ⟨_,rfl,rfl,_,rfl,?_⟩
   by_cases h0:ww=0
   ·have e1:decide (V.int ww=V.int 0)=true:=by rw [dee]; exact decide_eq_true h0
    rw [e1]
    refine iteF ?_
    rw [decide_eq_true (Or.inl h0)] at q
    exact q
   ·have e1:decide (V.int ww=V.int 0)=false:=by rw [dee]; exact decide_eq_false h0
    rw [e1]
    refine iteT ?_
    refine ⟨_,rfl,rfl,_,rfl,?_⟩
    by_cases h2:ww=2
    ·have e2:decide (V.int ww=V.int 2)=true:=by rw [dee]; exact decide_eq_true h2
     rw [e2]
     rw [decide_eq_true (Or.inr h2)] at q
     exact q
    ·have e2:decide (V.int ww=V.int 2)=false:=by rw [dee]; exact decide_eq_false h2
     rw [e2]
     rw [decide_eq_false (fun z=>z.elim h0 h2)] at q
     exact q
  refine ite2 (fun hw=>?w1) (fun hw=>?w2)
  case w1 =>
   have hw:¬ (ww=0∨ww=2):=by simpa using hw
   exact ⟨_,rfl,by show 1≤sizeLine; decide,fun l H' s' n' g'=>no2 hw l H' s' n' g'⟩
  have hw:ww=0∨ww=2:=by
   rw [Bool.not_eq_true,Bool.not_eq_false'] at hw
   exact of_decide_eq_true hw
  refine ⟨_,rfl,_,_,rfl,rfl,_,rfl,?_⟩
  refine ite2 (fun h1=>?neg) (fun h1=>?pos)
  case neg =>
   have h1:i < 0:=of_decide_eq_true h1
   have e:Vatrka.step (st m sh hd) (.origin ww i)=(st m sh hd,.refused 1):=by
    show (st m sh hd,Vatrka.stepOrigin _ _ _)=_
    unfold Vatrka.stepOrigin
    rcases hw with rfl | rfl
    ·rw [if_pos rfl,zbJ (by omega)]; rfl
    ·rw [if_neg (by decide),if_pos rfl,zbJ (by omega)]; rfl
   exact ⟨_,rfl,by show 1≤sizeLine; decide,fun l H' s' n' g'=>o.stay g (by rw [e]) (by rw [e]; rfl) s' n' g'⟩
  have h1:¬ i < 0:=fun z=>h1 (decide_eq_true z)
  obtain ⟨ni,rfl⟩:∃ ni:Nat,i=(ni:Int):=⟨i.toNat,by omega⟩
  have estep:=ziF (m:=m) (sh:=sh) (hd:=hd) (i:=ni) hw
  refine ⟨_,rfl,?_⟩
  refine ⟨_,rfl,d,_,dx,_,_,rfl,hD.obj,T.D.cl,T.D.no _ (by decide +kernel),zaS,r,_,sh,hd,rfl,g.full.row,g.full.pcs,g.wf.len,g.wf.ne,hsm,fun H1 L rs hR1=>?_⟩
  rw [← hR1.told] at estep
  refine ⟨L,rfl,⟨_,SqL.of hR1.lst⟩,za8 (K:=K) (a:=L) (xs:=rrefs rs)
   (fun j σ H'=>∃ (v:Option V) (sn ln:Nat),σ=[some (.ref d),some (.int ww),some (.int (ni:Int)),some (.int (sn:Int)),some (.int (ln:Int)),v]∧Same H1 H'∧goF (fromP ww) (tell rs) 0 ni=goF (fromP ww) (tell (rs.drop j)) sn ln)
   ⟨none,0,ni,rfl,Same.refl _,rfl⟩ (fun j σ H' _ ⟨_,_,_,_,s',_⟩=>SqL.of (s' _ _ hR1.lst)) ?_ ?_⟩
  ·rintro j y σ H2 hj ⟨v,sn,ln,rfl,s2,hgo⟩
   obtain ⟨rn,hrn,rfl⟩:=zau hj
   have hjl:=(List.getElem?_eq_some_iff.mp hrn).1
   have hdrop:rs.drop j=rn::rs.drop (j+1):=by
    rw [List.drop_eq_getElem_cons hjl,(List.getElem?_eq_some_iff.mp hrn).2]
   have hgo2:goF (fromP ww) (tell rs) 0 ni=if fromP ww rn.pc.2=true then (if ln < rn.n then some (if Vatrka.shown rn.pc.2=true then sn+ln else sn) else goF (fromP ww) (tell (rs.drop (j+1))) (if Vatrka.shown rn.pc.2=true then sn+rn.n else sn) (ln - rn.n))
     else goF (fromP ww) (tell (rs.drop (j+1))) (if Vatrka.shown rn.pc.2=true then sn+rn.n else sn) ln:=by
    rw [hgo,hdrop]
    rfl
   obtain ⟨⟨dxr,hro⟩,_,hrm⟩:=hR1.at_ rn (List.mem_of_getElem? hrn)
   have hpx:∀ {H'},Same H1 H'→PieceAt K c.P H' rn.pc.1 rn.pc.2:=fun {H'} s'=>((hpf.same hR1.same).same s') rn.pc hrm
   refine zkH (b:=fromP ww rn.pc.2) (fun G q=>?_) (fun H3 s3=>?_)
   ·refine ⟨_,rfl,rfl,_,rfl,?_⟩
    rw [dee]
    by_cases h0:ww=0
    ·have e:fromP ww rn.pc.2=true:=by unfold fromP; rw [if_pos h0]
     rw [decide_eq_true h0]
     refine iteT ?_
     rw [e] at q
     exact q _ (Same.refl _)
    ·have e:fromP ww rn.pc.2=Vatrka.stood rn.pc.2:=by unfold fromP; rw [if_neg h0]
     rw [decide_eq_false h0]
     refine iteF ?_
     refine ⟨_,rfl,rn.at_,_,dxr,_,_,rfl,s2 _ _ hro,T.S.cl,T.S.no _ (by decide +kernel),za0,rn.pc.1,rn.pc.2,rfl,hpx s2,fun H3 s3=>⟨_,rfl,?_⟩⟩
     rw [e] at q
     exact q _ s3
   have s13:=s2.trans s3
   refine ite2 (fun hc=>?c1) (fun hc=>?c2)
   case c1 =>
    rw [if_pos hc] at hgo2
    refine ⟨_,rfl,_,rfl,rn.at_,_,dxr,_,_,rfl,s13 _ _ hro,T.S.cl,T.S.no _ (by decide +kernel),zaG,_,_,rfl,rfl,_,rfl,?_⟩
    by_cases hl:ln < rn.n
    ·rw [if_pos hl] at hgo2
     rw [decide_eq_true (show (ln:Int) < (rn.n:Int) by omega)]
     refine iteT ?_
     show tIf _ _ _ _ _ _
     refine zhP (v:=.int ((if Vatrka.shown rn.pc.2=true then sn+ln else sn:Nat):Int)) (b:=Vatrka.shown rn.pc.2) (fun G q=>⟨_,rfl,rn.at_,_,dxr,_,_,rfl,s13 _ _ hro,T.S.cl,T.S.no _ (by decide +kernel),za0,rn.pc.1,rn.pc.2,rfl,hpx s13,fun H4 s4=>⟨_,rfl,q _ s4⟩⟩) (fun hb H4 Q q=>?_) (fun hb H4 Q q=>?_) (fun H4 s4=>?_)
     ·rw [if_pos hb] at q
      exact ⟨_,rfl,_,rfl,_,_,rfl,rfl,q⟩
     ·rw [if_neg (by rw [hb]; decide)] at q
      exact ⟨_,rfl,q⟩
     ·refine ⟨by show 1≤sizeLine; decide,fun l H' s' n' h'=>?_⟩
      have s14:=s13.trans s4
      rw [hgo2] at estep
      exact o.stay g (by rw [estep]) (by rw [estep]; rfl) ((hR1.same.trans s14).trans s') ((hR1.same.trans s14).free n') h'
    ·rw [if_neg hl] at hgo2
     rw [decide_eq_false (show ¬ (ln:Int) < (rn.n:Int) by omega)]
     refine iteF ?_
     refine ⟨_,rfl,_,rfl,rn.at_,_,dxr,_,_,rfl,s13 _ _ hro,T.S.cl,T.S.no _ (by decide +kernel),zaG,_,_,rfl,rfl,?_⟩
     dsimp only [tNext]
     refine zjK (b:=Vatrka.shown rn.pc.2) (fun G q=>⟨_,rfl,rn.at_,_,dxr,_,_,rfl,s13 _ _ hro,T.S.cl,T.S.no _ (by decide +kernel),za0,rn.pc.1,rn.pc.2,rfl,hpx s13,fun H4 s4=>⟨_,rfl,q _ s4⟩⟩) (fun H4 s4=>?_)
     have s14:=s13.trans s4
     have el:((ln:Int) - (rn.n:Int))=((ln - rn.n:Nat):Int):=by omega
     refine ite2 (fun hs=>?s1) (fun hs=>?s2)
     case s1 =>
      rw [if_pos hs] at hgo2
      refine ⟨_,rfl,_,rfl,rn.at_,_,dxr,_,_,rfl,s14 _ _ hro,T.S.cl,T.S.no _ (by decide +kernel),zaG,_,_,rfl,rfl,?_⟩
      exact ⟨_,sn+rn.n,ln - rn.n,by rw [← el]; rfl,s14,hgo2⟩
     case s2 =>
      rw [if_neg hs] at hgo2
      exact ⟨_,sn,ln - rn.n,by rw [← el]; rfl,s14,hgo2⟩
   case c2 =>
    rw [if_neg hc] at hgo2
    dsimp only [tNext]
    refine zjK (b:=Vatrka.shown rn.pc.2) (fun G q=>⟨_,rfl,rn.at_,_,dxr,_,_,rfl,s13 _ _ hro,T.S.cl,T.S.no _ (by decide +kernel),za0,rn.pc.1,rn.pc.2,rfl,hpx s13,fun H4 s4=>⟨_,rfl,q _ s4⟩⟩) (fun H4 s4=>?_)
    have s14:=s13.trans s4
    refine ite2 (fun hs=>?s3) (fun hs=>?s4)
    case s3 =>
     rw [if_pos hs] at hgo2
     refine ⟨_,rfl,_,rfl,rn.at_,_,dxr,_,_,rfl,s14 _ _ hro,T.S.cl,T.S.no _ (by decide +kernel),zaG,_,_,rfl,rfl,?_⟩
     exact ⟨_,sn+rn.n,ln,rfl,s14,hgo2⟩
    case s4 =>
     rw [if_neg hs] at hgo2
     exact ⟨_,sn,ln,rfl,s14,hgo2⟩
  ·rintro σ H2 ⟨v,sn,ln,rfl,s2,hgo⟩
   have ed:rs.drop (rrefs rs).length=[]:=List.drop_of_length_le (by rw [List.length_map]; exact Nat.le_refl _)
   rw [ed] at hgo
   have hgo:goF (fromP ww) (tell rs) 0 ni=none:=hgo
   rw [hgo] at estep
   refine ⟨_,rfl,by show 1≤sizeLine; decide,fun l H' s' n' h'=>?_⟩
   exact o.stay g (by rw [estep]) (by rw [estep]; rfl) ((hR1.same.trans s2).trans s') ((hR1.same.trans s2).free n') h'
end
theorem zj7 {X:Cx} {K:PySem.W.Frag} {es:List Expr} {pos:Pos} {k:Nat} {t:TGs} {n:Nat} (hc:X.calm=true) (h:PGs X es t)
  (hn:(assignEach es X.env).length=n:=by rfl) (hst:(assignEach es X.env).findIdx? (·.1)=none:=by rfl) (hK:X.K=K:=by rfl):PG X (.Tuple es k pos) (gTup K n t):=by
 subst hK
 exact zfy hc h hn hst
theorem zhQ {tc:TT} {te:TE} {rest:TS} {D:Ends} {σ:L2.St} {H:Hp} {i:Nat} {x y:Int} {b:Bool} (hx:σ[i]?=some (some (.int x))) (ht:∀ G:Bool→Hp→Prop,G b H→tc σ H G) (he:∀ Q:VK,Q (.int y) H→te σ H Q)
  (h:rest D (σ.set i (some (.int (if b=true then x+y else x)))) H):tSeq (tIfS tc (tAug i te (ipI fun i j=>i+j)) tNext) rest D σ H:=by
 refine ht _ ?_
 cases b with
 | true=>exact iteT ⟨_,hx,he _ ⟨x,y,rfl,rfl,h⟩⟩
 | false =>
  refine iteF ?_
  have e:σ.set i (some (.int x))=σ:=by
   obtain ⟨hlt,he⟩:=List.getElem?_eq_some_iff.mp hx
   rw [← he]
   exact List.set_getElem_self hlt
  have h:rest D (σ.set i (some (.int x))) H:=h
  rw [e] at h
  exact h
section
variable {P:Program} {w:World} {K:PySem.W.Frag} {mg:Str→Option Value} {base:Heap} {c:Cs}
abbrev s_paragraph:Stmt:=top 68
theorem zfp:FnScope ["document","i","ends","place","piece","begin"] ["document","i"] (defScope s_paragraph):=⟨rfl,rfl,rfl,by decide +kernel,rfl,by decide +kernel,by decide +kernel⟩
def spPara (K:PySem.W.Frag) (c:Cs):Sp:=fun vs H Q _=>∃ (d r ch:Addr) (m:Mo) (sh:List AP) (hd:List (List AP)) (k z:Nat) (i:Int),vs=[.ref d,.int i]∧Given K c H d r ch m sh hd k z 0∧Owes K c H d r ch m sh hd k z 0 (.paragraph i) Q
theorem zeq:∀ (l:List Piece) (i:Nat),(endsAt i l).length≤l.length
 | [],_=>Nat.le_refl _
 | x::l,i=>by
  have:=zeq l (i+1)
  unfold endsAt
  split
  ·rw [List.length_cons,List.length_cons]; omega
  ·rw [List.length_cons]; omega
theorem zh5 {k z:Nat} {m:Mo} {sh:List AP} {hd:List (List AP)} (w:Wf k z m sh hd) (n:Nat):Vatrka.paragraphOf (st m sh hd).row n=((endsAt 0 (ps sh))[n]?).map fun b=>(if n=0 then 0 else (endsAt 0 (ps sh)).getD (n - 1) 0+1,b+1):=by
 unfold Vatrka.paragraphOf
 have hv:Vatrka.visible (st m sh hd).row=ps sh:=zaO w.split
 rw [hv,zgl]
 dsimp only
 rw [List.getElem?_map]
 cases e:(endsAt 0 (ps sh))[n]? with
 | none=>rfl
 | some b =>
  rw [Option.map_some,Option.map_some,Option.map_some]
  by_cases h0:n=0
  ·rw [if_pos h0,if_pos h0]
  ·rw [if_neg h0,if_neg h0]
   have hl:=(List.getElem?_eq_some_iff.mp e).1
   rw [List.getD_eq_getElem?_getD,List.getD_eq_getElem?_getD,List.getElem?_map,List.getElem?_eq_getElem (by omega)]
   rfl
theorem d_paragraph (F:FunAt K mg "paragraph" s_paragraph) (T:Txt K mg c):Def P w K mg base "paragraph" 1 ["document","i"] (spPara K c):=by
 have sc:=zfp
 refine F.def sc (fun _ _ _ _ _ _=>ar2 fun _ _=>rfl) (fun vs H Q E h=>?_) (fun f cdv A outer s H vs Q E hr h=>?_)
 ·obtain ⟨d,r,ch,m,sh,hd,k,z,i,rfl,_⟩:=h
  rfl
 ·obtain ⟨d,r,ch,m,sh,hd,k,z,i,rfl,g,o⟩:=h
  have hsl:sizeLine=16777216:=sizeLine_eq
  obtain ⟨hsm,hshL,hchL⟩:=g.small
  obtain ⟨dx,es,hD⟩:=g.full.doc
  obtain ⟨dr,sA,hA,gs,hR⟩:=g.full.row
  refine ⟨_,(zab (zeN (i:=2) rfl sc.nd rfl rfl (zf3 rfl rfl rfl (by decide +kernel)) (zgg rfl T.b_enumerate (zaa (zae (zae (pv 0) rfl) rfl) zac)) (own:=[("place",3),("piece",4)]) (zbe rfl) (fun _ _ _ _ _=>(zj7 (n:=2) (K:=K) rfl (zbl (zav (i:=3) sc.nd rfl (by first | exact Or.inl rfl | exact Or.inr rfl)) (zbl (zav (i:=4) sc.nd rfl (by first | exact Or.inl rfl | exact Or.inr rfl)) zdG)))) (fun _ _ _ _ _=>(zdF (zan za6 (zcf (K:=K) (pv 4) rfl) (zay rfl T.g_PARAGRAPH_END) (nomark _)))) (fun _ _ _ _ _=>(pv 3)))
   (zab (zaC (zbE (zbk zbg zcY zaf (pv 1) (zax zak rfl T.b_len PySem.boot_len (zaa (pv 2) zac))))
    (zad (zah (zal (zaa (zbm zaZ zaf) zac))))
    zaj)
   (zab (zar (i:=5) sc.nd rfl (by first | exact Or.inl rfl | exact Or.inr rfl) (zcl (zan za6 (pv 1) zaf (nomark _)) zaf (zaH zbu (zaE zao (pv 2) (zaH zb4 (pv 1) zaf) (fun _ _=>rfl)) zaf)))
   (zad (zah (zal (zaa (pv 5) (zaa (zaH zbu (zaE zao (pv 2) (pv 1) (fun _ _=>rfl)) zaf) zac)))))))),?_⟩
  refine ⟨_,rfl,d,_,dx,_,_,rfl,hD.obj,T.D.cl,T.D.no _ (by decide +kernel),zaS,r,_,dr,_,_,rfl,hR.obj,T.R.cl,T.R.no _ (by decide +kernel),zaF,sA,_,rfl,SqL.of hR.sl,fun D hD0=>zju (K:=K) (a:=sA) (xs:=refs sh)
   (fun i H'=>Same H H'∧H' D=some (.lst (nums (endsAt 0 (ps (sh.take i)))))) ⟨zaz hD0,zai⟩ (fun i H' _ hp=>SqL.of (hp.1 _ _ hR.sl)) ?_ ?_⟩
  ·rintro j y H1 tt H2 hj ⟨s1,hD1⟩ s2 htt
   obtain ⟨x,hx,rfl⟩:=zau hj
   have hjl:=(List.getElem?_eq_some_iff.mp hx).1
   have s02:=s1.trans s2
   obtain ⟨dxp,lk,sn,it,dt,pt,Tg,hp⟩:=(g.full.pcs.same s02) x (List.mem_append_left _ (List.mem_of_getElem? hx))
   refine ⟨tt,_,rfl,SqT.of htt,rfl,_,_,rfl,_,_,rfl,rfl,?_⟩
   refine ⟨rfl,?_⟩
   refine ⟨_,rfl,x.1,_,dxp,_,_,rfl,hp.obj,T.P.cl,T.P.no _ (by decide +kernel),zcX,rfl,_,rfl,?_⟩
   have esn:endsAt 0 (ps (sh.take (j+1)))=endsAt 0 (ps (sh.take j))++if x.2.sign=Vatrka.END then [j] else []:=by
    rw [zam hx,zaD]
    show endsAt 0 (ps (sh.take j)++[x.2])=_
    rw [zdU,List.length_map,List.length_take,Nat.zero_add,Nat.min_eq_left (by omega)]
   have bl:=zeq (ps (sh.take j)) 0
   rw [List.length_map,List.length_take] at bl
   rw [esn]
   by_cases he:x.2.sign=Vatrka.END
   ·have e1:decide (V.int (x.2.sign:Int)=V.int 10)=true:=by
     rw [he]
     exact decide_eq_true rfl
    rw [e1]
    refine iteT ?_
    refine ⟨_,rfl,_,s2 _ _ hD1,?_,?_⟩
    ·rw [List.length_map]
     omega
    ·refine ⟨fun b o' hb=>by rw [zaA (zag hb hD0)]; exact s02 b o' hb,?_⟩
     rw [zai,if_pos he,← zaB]
     rfl
   ·have e1:decide (V.int (x.2.sign:Int)=V.int 10)=false:=by
     refine decide_eq_false fun z=>he ?_
     injection z with z
     show x.2.sign=10
     omega
    rw [e1]
    refine iteF ?_
    refine ⟨s02,?_⟩
    rw [if_neg he,List.append_nil]
    exact s2 _ _ hD1
  ·rintro H1 ⟨s1,hD1⟩
   have el:sh.take (refs sh).length=sh:=List.take_of_length_le (by rw [List.length_map]; exact Nat.le_refl _)
   rw [el] at hD1
   have hlen:(nums (endsAt 0 (ps sh))).length=(endsAt 0 (ps sh)).length:=List.length_map ..
   have no:¬ (0≤i∧i < ((endsAt 0 (ps sh)).length:Int))→∀ (l:Addr) (H':Hp),Same H1 H'→H1 l=none→H' l=some (.lst [.int (-1)])→Q (.ref l) H':=fun hw l H' s' n' g'=>by
    have e:Vatrka.step (st m sh hd) (.paragraph i)=(st m sh hd,.refused 1):=by
     show (st m sh hd,if i < 0 then Vatrka.Answer.refused 1 else match Vatrka.paragraphOf (st m sh hd).row i.toNat with
      | some (a,b)=>Vatrka.Answer.told [a,b]
      | none=>Vatrka.Answer.refused 1)=_
     by_cases h0:i < 0
     ·rw [if_pos h0]
     ·rw [if_neg h0,zh5 g.wf,List.getElem?_eq_none (by omega)]
      rfl
    exact o.stay g (by rw [e]) (by rw [e]; rfl) (s1.trans s') (s1.free n') g'
   refine ⟨_,rfl,_,_,rfl,rfl,_,rfl,?_⟩
   refine ite2 (fun h1=>?yes) (fun h1=>?no)
   case no =>
    have h1:¬ (0:Int)≤i:=fun z=>h1 (decide_eq_true z)
    refine ⟨_,rfl,?_⟩
    refine iteT ?_
    exact ⟨_,rfl,by show 1≤sizeLine; decide,fun l H' s' n' g'=>no (by omega) l H' s' n' g'⟩
   have h1:(0:Int)≤i:=of_decide_eq_true h1
   refine ⟨_,rfl,D,_,rfl,.inl (SqL.of hD1),_,_,rfl,rfl,_,rfl,?_⟩
   rw [hlen]
   by_cases h2:i < ((endsAt 0 (ps sh)).length:Int)
   case neg =>
    rw [decide_eq_false h2]
    refine iteT ?_
    exact ⟨_,rfl,by show 1≤sizeLine; decide,fun l H' s' n' g'=>no (by omega) l H' s' n' g'⟩
   rw [decide_eq_true h2]
   refine iteF ?_
   obtain ⟨ni,rfl⟩:∃ ni:Nat,i=(ni:Int):=⟨i.toNat,by omega⟩
   obtain ⟨b,hb⟩:∃ b,(endsAt 0 (ps sh))[ni]?=some b:=⟨_,List.getElem?_eq_getElem (by omega)⟩
   have estep:Vatrka.step (st m sh hd) (.paragraph (ni:Int))=(st m sh hd,.told [if ni=0 then 0 else (endsAt 0 (ps sh)).getD (ni - 1) 0+1,b+1]):=by
    show (st m sh hd,if ((ni:Nat):Int) < 0 then Vatrka.Answer.refused 1 else match Vatrka.paragraphOf (st m sh hd).row ((ni:Nat):Int).toNat with
      | some (a,b)=>Vatrka.Answer.told [a,b]
      | none=>Vatrka.Answer.refused 1)=_
    rw [if_neg (by omega),zh5 g.wf,Int.toNat_natCast,hb]
    rfl
   dsimp only [tNext]
   refine zcI (v:=.int ((if ni=0 then 0 else (endsAt 0 (ps sh)).getD (ni - 1) 0+1:Nat):Int)) (b:=decide (ni=0)) (fun G q=>⟨_,rfl,rfl,_,rfl,?_⟩) (fun hb Q q=>?_) (fun hb Q q=>?_) ?_
   ·have e:decide (V.int (ni:Int)=V.int 0)=decide (ni=0):=by
     rw [zbH,Bool.eq_iff_iff]
     simp
    rw [e]
    exact q
   ·rw [if_pos (of_decide_eq_true hb)] at q
    exact q
   ·have h0:¬ ni=0:=of_decide_eq_false hb
    rw [if_neg h0] at q
    obtain ⟨e,he⟩:∃ e,(endsAt 0 (ps sh))[ni - 1]?=some e:=⟨_,List.getElem?_eq_getElem (by omega)⟩
    have hg:(endsAt 0 (ps sh)).getD (ni - 1) 0=e:=by rw [List.getD_eq_getElem?_getD,he]; rfl
    rw [hg] at q
    exact ⟨_,rfl,_,rfl,_,_,rfl,rfl,D,_,_,_,rfl,rfl,SqL.of hD1,zd0 (j:=ni - 1) (v:=V.int (e:Int)) (by omega) (by rw [List.getElem?_map,he]; rfl),_,_,rfl,rfl,q⟩
   refine ⟨_,rfl,_,rfl,_,rfl,D,_,_,_,rfl,rfl,SqL.of hD1,zas (j:=ni) (v:=V.int (b:Int)) (by rw [List.getElem?_map,hb]; rfl),_,_,rfl,rfl,by show 2≤sizeLine; decide,fun l H' s' n' h'=>?_⟩
   exact o.stay g (by rw [estep]) (by rw [estep]; exact zbP _) (s1.trans s') (s1.free n') h'
abbrev GG:=Nat×Nat×Piece
def tellG (g:GG):List Nat:=g.1::g.2.1::Vatrka.toldMarks g.2.2
theorem zdS {α β:Type} (f:α→List β) {l a b:List α} (h:l=a++b):(a.flatMap f).length+(b.flatMap f).length=(l.flatMap f).length:=by
 rw [h,List.flatMap_append,List.length_append]
abbrev s_stretches:Stmt:=top 54
theorem zfo:FnScope ["document","count","told","begin","run"] ["document"] (defScope s_stretches):=⟨rfl,rfl,rfl,by decide +kernel,rfl,by decide +kernel,by decide +kernel⟩
def Short (m:Mo) (sh:List AP) (hd:List (List AP)) (call:Vatrka.Call):Prop:=(VatrkaNeutral.encode (Vatrka.step (st m sh hd) call).2).length≤10000000
def spStretches (K:PySem.W.Frag) (c:Cs):Sp:=fun vs H Q _=>∃ (d r ch:Addr) (m:Mo) (sh:List AP) (hd:List (List AP)) (k z:Nat),vs=[.ref d]∧Given K c H d r ch m sh hd k z 0∧Short m sh hd .stretches∧Owes K c H d r ch m sh hd k z 0 .stretches Q
theorem d_stretches (F:FunAt K mg "stretches" s_stretches) (T:Txt K mg c) (d_all_runs:Def P w K mg base "all_runs" 6 ["row"] (spAllRuns K c)) (d_is_marked:Def P w K mg base "is_marked" 1 ["piece"] (spIsMarked K c.P)) (d_listed_marks:Def P w K mg base "listed_marks" 1 ["piece"] (spListed K c.P)) :
  Def P w K mg base "stretches" 7 ["document"] (spStretches K c):=by
 have sc:=zfo
 refine F.def sc (fun _ _ _ _ _ _=>ar1 fun _=>rfl) (fun vs H Q E h=>?_) (fun f cdv A outer s H vs Q E hr h=>?_)
 ·obtain ⟨d,r,ch,m,sh,hd,k,z,rfl,_⟩:=h
  rfl
 ·obtain ⟨d,r,ch,m,sh,hd,k,z,rfl,g,hans,o⟩:=h
  have hsl:sizeLine=16777216:=sizeLine_eq
  obtain ⟨hfl,hpf,hsm⟩:=g.flat
  obtain ⟨dx,es,hD⟩:=g.full.doc
  have estep:Vatrka.step (st m sh hd) .stretches=(st m sh hd,.told ((Vatrka.grouped 0 (st m sh hd).row).length::(Vatrka.grouped 0 (st m sh hd).row).flatMap tellG)):=rfl
  rw [← zbv m,zde] at estep
  unfold Short at hans
  rw [estep] at hans
  unfold VatrkaNeutral.encode at hans
  rw [List.length_map,List.length_cons] at hans
  refine ⟨_,(zab (zar (i:=1) sc.nd rfl (by first | exact Or.inl rfl | exact Or.inr rfl) zaf)
   (zab (zar (i:=2) sc.nd rfl (by first | exact Or.inl rfl | exact Or.inr rfl) (zal zac))
   (zab (zar (i:=3) sc.nd rfl (by first | exact Or.inl rfl | exact Or.inr rfl) zaf)
   (zab (za7 PassesOwn.never rfl (zaW (zap d_all_runs (hr.mono (by decide)) rfl pass0 (zaa (zae (pv 0) rfl) zac))) (zav (i:=4) sc.nd rfl (by first | exact Or.inl rfl | exact Or.inr rfl))
    (zab (zaC (zbD (zap d_is_marked (hr.mono (by decide)) rfl pass0 (zaa (zae (pv 4) rfl) zac)))
     (zab (zb3 (i:=1) sc.nd rfl (by first | exact Or.inl rfl | exact Or.inr rfl) zaf zcr)
     (zab (zaq (zba PySem.F.plainAttrs_list PySem.F.slot_list_extend PySem.F.type_list_extend zbh (pv 2) (zaa (zal (zaa (pv 3) (zaa (zae (pv 4) rfl) zac))) zac)))
     (zad (zaq (zba PySem.F.plainAttrs_list PySem.F.slot_list_extend PySem.F.type_list_extend zbh (pv 2) (zaa (zap d_listed_marks (hr.mono (by decide)) rfl pass0 (zaa (zae (pv 4) rfl) zac)) zac))))))
     zaj)
    (zad (zb3 (i:=3) sc.nd rfl (by first | exact Or.inl rfl | exact Or.inr rfl) (zae (pv 4) rfl) zcr))))
   (zad (zah (zaH zbR (zal (zaa (pv 1) zac)) (pv 2)))))))),?_⟩
  refine ⟨Nat.zero_le _,fun tl H1 s1 ntl gtl=>?_⟩
  have f1:=g.full.same s1
  refine ⟨_,rfl,d,_,dx,_,_,rfl,s1 _ _ hD.obj,T.D.cl,T.D.no _ (by decide +kernel),zaS,r,_,sh,hd,rfl,f1.row,f1.pcs,g.wf.len,g.wf.ne,hsm,fun H2 L rs hR=>?_⟩
  rw [← hR.told] at estep hans
  have s02:=s1.trans hR.same
  have hpf2:=hpf.same s02
  have ntl2:∀ {b o},H b=some o→b≠tl:=fun hb=>zag hb ntl
  have Ltl:L≠tl:=fun z=>by have:=hR.fresh; rw [z,gtl] at this; cases this
  have rtl:∀ rn∈rs,rn.at_≠tl:=fun rn hrn z=>by
   have:=(hR.at_ rn hrn).2.1
   rw [z,gtl] at this
   cases this
  have ptl:∀ x∈flat hd sh,x.1≠tl:=fun x hx=>by
   obtain ⟨dxp,lk,sn,it,dt,pt,Tg,hp⟩:=hpf x hx
   exact ntl2 hp.obj
  refine ⟨L,rfl,⟨_,SqL.of hR.lst⟩,za8 (K:=K) (a:=L) (xs:=rrefs rs)
   (fun j σ H'=>∃ (v:Option V) (dn:List GG) (bg:Nat),σ=[some (.ref d),some (.int (dn.length:Int)),some (.ref tl),some (.int (bg:Int)),v]∧Ext (·=tl) H2 H'∧H' tl=some (.lst (nums (dn.flatMap tellG)))∧mkR 0 (tell rs)=dn++mkR bg (tell (rs.drop j)))
   ⟨none,[],0,rfl,Ext.refl,hR.same _ _ gtl,rfl⟩ (fun j σ H' _ ⟨_,_,_,_,e,_⟩=>SqL.of (e.at hR.lst Ltl)) ?_ ?_⟩
  ·rintro j y σ H3 hj ⟨v,dn,bg,rfl,e3,htl,hgo⟩
   obtain ⟨rn,hrn,rfl⟩:=zau hj
   have hjl:=(List.getElem?_eq_some_iff.mp hrn).1
   have hdrop:rs.drop j=rn::rs.drop (j+1):=by
    rw [List.drop_eq_getElem_cons hjl,(List.getElem?_eq_some_iff.mp hrn).2]
   have hgo2:mkR 0 (tell rs)=dn++if marked rn.pc.2=true then (bg,rn.n,rn.pc.2)::mkR (bg+rn.n) (tell (rs.drop (j+1))) else mkR (bg+rn.n) (tell (rs.drop (j+1))):=by
    rw [hgo,hdrop]
    rfl
   have hrm:=List.mem_of_getElem? hrn
   obtain ⟨⟨dxr,hro⟩,_,hpm⟩:=hR.at_ rn hrm
   have hro3:∀ {H'},Ext (·=tl) H2 H'→H' rn.at_=some (.ins c.S dxr (rnf (.ref rn.pc.1) (.int rn.n))):=fun {H'} e=>e.at hro (rtl rn hrm)
   have hpx:∀ {H'},Ext (·=tl) H2 H'→PieceAt K c.P H' rn.pc.1 rn.pc.2:=fun {H'} e=>(hpf2 rn.pc hpm).keep e (ptl _ hpm)
   refine ⟨_,rfl,rn.at_,_,dxr,_,_,rfl,hro3 e3,T.S.cl,T.S.no _ (by decide +kernel),za0,rn.pc.1,rn.pc.2,rfl,hpx e3,_,rfl,?_⟩
   refine ite2 (fun hm=>?m1) (fun hm=>?m2)
   case m1 =>
    rw [if_pos hm] at hgo2
    have hgo3:mkR 0 (tell rs)=(dn++[(bg,rn.n,rn.pc.2)])++mkR (bg+rn.n) (tell (rs.drop (j+1))):=by rw [hgo2]; simp
    have bl:=zdS tellG hgo3
    rw [List.flatMap_append,List.length_append] at bl
    have e1:[(bg,rn.n,rn.pc.2)].flatMap tellG=tellG (bg,rn.n,rn.pc.2):=by simp
    have e2:(tellG (bg,rn.n,rn.pc.2)).length=2+(Vatrka.toldMarks rn.pc.2).length:=by show (Vatrka.toldMarks rn.pc.2).length+1+1=_; omega
    rw [e1,e2] at bl
    refine ⟨_,rfl,_,_,rfl,rfl,?_⟩
    refine ⟨_,rfl,.inl ⟨rfl,_,SqL.of htl⟩,_,rfl,_,rfl,rn.at_,_,dxr,_,_,rfl,hro3 e3,T.S.cl,T.S.no _ (by decide +kernel),zaG,by show 2≤sizeLine; decide,fun l2 H4 s4 n4 h4=>?_⟩
    have htl4:=s4 _ _ htl
    refine ⟨tl,l2,_,_,rfl,rfl,htl4,.inl h4,?_,fun H5 e5 h5=>?_⟩
    ·rw [List.length_map]
     show _+2≤_
     omega
    have e25:Ext (·=tl) H2 H5:=(e3.trans s4.ext).trans e5
    refine ⟨_,rfl,.inl ⟨rfl,_,SqL.of h5⟩,_,rfl,rn.at_,_,dxr,_,_,rfl,hro3 e25,T.S.cl,T.S.no _ (by decide +kernel),za0,rn.pc.1,rn.pc.2,rfl,hpx e25,by omega,fun H6 ml s6 nml h6=>?_⟩
    refine ⟨tl,ml,_,_,rfl,rfl,s6 _ _ h5,.inl h6,?_,fun H7 e7 h7=>?_⟩
    ·rw [List.length_append,List.length_map,List.length_map]
     show _+2+_≤_
     omega
    have e27:Ext (·=tl) H2 H7:=(e25.trans s6.ext).trans e7
    refine ⟨_,rfl,_,rfl,rn.at_,_,dxr,_,_,rfl,hro3 e27,T.S.cl,T.S.no _ (by decide +kernel),zaG,_,_,rfl,rfl,?_⟩
    refine ⟨some (.ref rn.at_),dn++[(bg,rn.n,rn.pc.2)],bg+rn.n,?_,e27,?_,hgo3⟩
    ·rw [List.length_append]
     rfl
    ·rw [h7,List.flatMap_append,e1]
     unfold tellG
     rw [← zaB]
     have e3:nums (bg::rn.n::Vatrka.toldMarks rn.pc.2)=[V.int (bg:Int),V.int (rn.n:Int)]++nums (Vatrka.toldMarks rn.pc.2):=rfl
     rw [e3,List.append_assoc]
   case m2 =>
    rw [if_neg hm] at hgo2
    refine ⟨_,rfl,_,rfl,rn.at_,_,dxr,_,_,rfl,hro3 e3,T.S.cl,T.S.no _ (by decide +kernel),zaG,_,_,rfl,rfl,?_⟩
    exact ⟨_,dn,bg+rn.n,rfl,e3,htl,hgo2⟩
  ·rintro σ H3 ⟨v,dn,bg,rfl,e3,htl,hgo⟩
   have ed:rs.drop (rrefs rs).length=[]:=List.drop_of_length_le (by rw [List.length_map]; exact Nat.le_refl _)
   rw [ed] at hgo
   have hgo:mkR 0 (tell rs)=dn:=by rw [hgo]; show dn++[]=dn; rw [List.append_nil]
   rw [hgo] at estep hans
   refine ⟨_,rfl,by show 1≤sizeLine; decide,fun l1 H4 s4 n4 h4=>?_⟩
   refine ⟨_,rfl,l1,tl,_,_,rfl,rfl,h4,s4 _ _ htl,?_,fun l2 H5 s5 n5 h5=>?_⟩
   ·rw [List.length_map]
    show 1+_≤_
    omega
   have s03:Same H H3:=fun b o' hb=>e3.at (s02 b o' hb) (ntl2 hb)
   have s04:=s03.trans s4
   exact o.stay g (by rw [estep]) (by rw [estep]; exact zbP _) (s04.trans s5) (s04.free n5) h5
abbrev s_change:Stmt:=top 55
theorem zhI:FnScope ["document","c","inserted","deleted","pending","run","entries","entry"] ["document","c"] (defScope s_change):=⟨rfl,rfl,rfl,by decide +kernel,rfl,by decide +kernel,by decide +kernel⟩
def spChange (K:PySem.W.Frag) (c:Cs):Sp:=fun vs H Q _=>∃ (d r ch:Addr) (m:Mo) (sh:List AP) (hd:List (List AP)) (k z:Nat) (cc:Int),vs=[.ref d,.int cc]∧Given K c H d r ch m sh hd k z 0∧Owes K c H d r ch m sh hd k z 0 (.change cc) Q
theorem zfO (l:List Nat):(nums l).all flatV=true:=by
 rw [List.all_eq_true]
 intro v hv
 obtain ⟨n,_,rfl⟩:=List.mem_map.mp hv
 rfl
theorem ziA (n:Nat) (l:List Nat):inV (.int (n:Int)) (nums l)=Vatrka.has l n:=by
 unfold Vatrka.has inV nums
 rw [List.any_map]
 congr 1
 funext a
 show ((a:Int) == (n:Int))=(a == n)
 rw [Bool.eq_iff_iff]
 simp
 omega
def pendN (cn:Nat) (rs:List Rn):Nat:=((tell rs).map fun z=>z.2 * pendC cn z.1).sum
theorem zhd (cn:Nat) (rs:List Rn) (r:Rn):pendN cn (rs++[r])=pendN cn rs+r.n * pendC cn r.pc.2:=by
 unfold pendN tell
 rw [List.map_append,List.map_append,List.sum_append]
 simp
theorem zfk (P:Piece→Bool) (rs:List Rn) (r:Rn):sumR P (tell (rs++[r]))=if P r.pc.2=true then sumR P (tell rs)+r.n else sumR P (tell rs):=by
 unfold sumR tell
 rw [List.map_append,List.filter_append,List.map_append,List.sum_append]
 cases h:P r.pc.2<;>simp [h]
theorem d_change (F:FunAt K mg "change" s_change) (T:Txt K mg c) (d_all_runs:Def P w K mg base "all_runs" 6 ["row"] (spAllRuns K c)):Def P w K mg base "change" 7 ["document","c"] (spChange K c):=by
 have sc:=zhI
 refine F.def sc (fun _ _ _ _ _ _=>ar2 fun _ _=>rfl) (fun vs H Q E h=>?_) (fun f cdv A outer s H vs Q E hr h=>?_)
 ·obtain ⟨d,r,ch,m,sh,hd,k,z,cc,rfl,_⟩:=h
  rfl
 ·obtain ⟨d,r,ch,m,sh,hd,k,z,cc,rfl,g,o⟩:=h
  have hsl:sizeLine=16777216:=sizeLine_eq
  obtain ⟨hfl,hpf,hsm⟩:=g.flat
  obtain ⟨hsm2,hshL,hchL⟩:=g.small
  obtain ⟨dx,es,hD⟩:=g.full.doc
  have hce:=Paired.length hD.chs
  refine ⟨_,(zab (zaC (zbE (zbk zbg zbg zaf (pv 1) (zax zak rfl T.b_len PySem.boot_len (zaa (zae (pv 0) rfl) zac))))
    (zad (zah (zal (zaa (zbm zaZ zaf) zac))))
    zaj)
   (zab (zar (i:=2) sc.nd rfl (by first | exact Or.inl rfl | exact Or.inr rfl) zaf)
   (zab (zar (i:=3) sc.nd rfl (by first | exact Or.inl rfl | exact Or.inr rfl) zaf)
   (zab (zar (i:=4) sc.nd rfl (by first | exact Or.inl rfl | exact Or.inr rfl) zaf)
   (zab (za7 PassesOwn.never rfl (zaW (zap d_all_runs (hr.mono (by decide)) rfl pass0 (zaa (zae (pv 0) rfl) zac))) (zav (i:=5) sc.nd rfl (by first | exact Or.inl rfl | exact Or.inr rfl))
    (zab (zaC (zan zfC (pv 1) (zae (zae (pv 5) rfl) rfl) (by with_unfolding_all rfl))
     (zad (zb3 (i:=2) sc.nd rfl (by first | exact Or.inl rfl | exact Or.inr rfl) (zae (pv 5) rfl) zcr))
     zaj)
    (zab (zaC (zan zfC (pv 1) (zae (zae (pv 5) rfl) rfl) (by with_unfolding_all rfl))
     (zad (zb3 (i:=3) sc.nd rfl (by first | exact Or.inl rfl | exact Or.inr rfl) (zae (pv 5) rfl) zcr))
     zaj)
    (zab (zeN (i:=6) rfl sc.nd rfl rfl (zf3 rfl rfl rfl (by decide +kernel)) (zhZ (zae (zae (pv 5) rfl) rfl)) (own:=[("entry",7)]) (zbe rfl) (fun _ _ _ _ _=>(zav (i:=7) sc.nd rfl (by first | exact Or.inl rfl | exact Or.inr rfl))) (fun _ _ _ _ _=>(zdF (zan za6 (zaE (ziv (K:=K)) (pv 7) zaf (fun _ _=>rfl)) (pv 1) (nomark _)))) (fun _ _ _ _ _=>(pv 7)))
    (zad (zb3 (i:=4) sc.nd rfl (by first | exact Or.inl rfl | exact Or.inr rfl) (zaH zkR (zae (pv 5) rfl) (zax zak rfl T.b_len PySem.boot_len (zaa (pv 6) zac))) zcr))))))
   (zad (zah (zaH zbR (zfA zho rfl T.b_list boot_list (zaa (zaE zao (zae (pv 0) rfl) (zaH zb4 (pv 1) zaf) (fun _ _=>rfl)) zac)) (zal (zaa (pv 2) (zaa (pv 3) (zaa (pv 4) zac)))))))))))),?_⟩
  have no:¬ (1≤cc∧cc≤(m.changes.length:Int))→∀ (l:Addr) (H':Hp),Same H H'→H l=none→H' l=some (.lst [.int (-4)])→Q (.ref l) H':=fun hw l H' s' n' g'=>by
   have e:Vatrka.step (st m sh hd) (.change cc)=(st m sh hd,.refused 4):=by
    show (st m sh hd,if cc < 1 then Vatrka.Answer.refused 4 else match m.changes[cc.toNat - 1]? with
     | some x=>Vatrka.Answer.told (Vatrka.toldChange (st m sh hd) cc.toNat x)
     | none=>Vatrka.Answer.refused 4)=_
    by_cases h0:cc < 1
    ·rw [if_pos h0]
    ·rw [if_neg h0,List.getElem?_eq_none (by omega)]
   exact o.stay g (by rw [e]) (by rw [e]; rfl) s' n' g'
  refine ⟨_,rfl,_,_,rfl,rfl,_,rfl,?_⟩
  refine ite2 (fun h1=>?yes) (fun h1=>?no)
  case no =>
   have h1:¬ (1:Int)≤cc:=fun z=>h1 (decide_eq_true z)
   refine ⟨_,rfl,?_⟩
   refine iteT ?_
   exact ⟨_,rfl,by show 1≤sizeLine; decide,fun l H' s' n' g'=>no (by omega) l H' s' n' g'⟩
  have h1:(1:Int)≤cc:=of_decide_eq_true h1
  refine ⟨_,rfl,d,_,dx,_,_,rfl,hD.obj,T.D.cl,T.D.no _ (by decide +kernel),zbj,ch,_,rfl,.inl (SqL.of hD.chl),_,_,rfl,rfl,_,rfl,?_⟩
  rw [List.length_map,hce]
  by_cases h2:cc≤(m.changes.length:Int)
  case neg =>
   rw [decide_eq_false h2]
   refine iteT ?_
   exact ⟨_,rfl,by show 1≤sizeLine; decide,fun l H' s' n' g'=>no (by omega) l H' s' n' g'⟩
  rw [decide_eq_true h2]
  refine iteF ?_
  obtain ⟨cn,rfl⟩:∃ cn:Nat,cc=(cn:Int):=⟨cc.toNat,by omega⟩
  refine ⟨_,rfl,d,_,dx,_,_,rfl,hD.obj,T.D.cl,T.D.no _ (by decide +kernel),zaS,r,_,sh,hd,rfl,g.full.row,g.full.pcs,g.wf.len,g.wf.ne,hsm,fun H1 L rs hR=>?_⟩
  have hpf1:=hpf.same hR.same
  refine ⟨L,rfl,⟨_,SqL.of hR.lst⟩,za8 (K:=K) (a:=L) (xs:=rrefs rs)
   (fun j σ H'=>∃ v5 v6 v7:Option V,σ=[some (.ref d),some (.int (cn:Int)),some (.int ((sumR (fun x=>Vatrka.has x.ins cn) (tell (rs.take j)):Nat):Int)),some (.int ((sumR (fun x=>Vatrka.has x.del cn) (tell (rs.take j)):Nat):Int)),some (.int ((pendN cn (rs.take j):Nat):Int)),v5,v6,v7]∧Same H1 H')
   ⟨none,none,none,rfl,Same.refl _⟩ (fun j σ H' _ ⟨_,_,_,_,s'⟩=>SqL.of (s' _ _ hR.lst)) ?_ ?_⟩
  ·rintro j y σ H2 hj ⟨v5,v6,v7,rfl,s2⟩
   obtain ⟨rn,hrn,rfl⟩:=zau hj
   have hrm:=List.mem_of_getElem? hrn
   obtain ⟨⟨dxr,hro⟩,_,hpm⟩:=hR.at_ rn hrm
   have hro2:=s2 _ _ hro
   obtain ⟨dxp,lk,sn,it,dt,pt,Tg,hp⟩:=(hpf1.same s2) rn.pc hpm
   obtain ⟨pes,hpt,hes⟩:=hp.pend
   have hel:=Paired.length hes
   have epi:=zfk (fun x=>Vatrka.has x.ins cn) (rs.take j) rn
   have epd:=zfk (fun x=>Vatrka.has x.del cn) (rs.take j) rn
   have epp:=zhd cn (rs.take j) rn
   rw [← zam hrn] at epi epd epp
   have hwp:=g.wf.pcs rn.pc ((zaT g.wf.len).mem_iff.mp hpm)
   have hpl:=hwp.pendL
   have hkL:=g.kL
   refine zhQ (x:=((sumR (fun x=>Vatrka.has x.ins cn) (tell (rs.take j)):Nat):Int)) (y:=(rn.n:Int)) (b:=Vatrka.has rn.pc.2.ins cn) rfl (fun G q=>?_) (fun Q q=>⟨_,rfl,rn.at_,_,dxr,_,_,rfl,hro2,T.S.cl,T.S.no _ (by decide +kernel),zaG,q⟩) ?_
   ·refine ⟨_,rfl,_,rfl,rn.at_,_,dxr,_,_,rfl,hro2,T.S.cl,T.S.no _ (by decide +kernel),za0,rn.pc.1,_,dxp,_,_,rfl,hp.obj,T.P.cl,T.P.no _ (by decide +kernel),zcq,it,_,rfl,.inr (SqT.of hp.ins),rfl,zfO _,_,rfl,?_⟩
    show G (inV (.int (cn:Int)) (nums rn.pc.2.ins)) _
    rw [ziA]
    exact q
   refine zhQ (x:=((sumR (fun x=>Vatrka.has x.del cn) (tell (rs.take j)):Nat):Int)) (y:=(rn.n:Int)) (b:=Vatrka.has rn.pc.2.del cn) rfl (fun G q=>?_) (fun Q q=>⟨_,rfl,rn.at_,_,dxr,_,_,rfl,hro2,T.S.cl,T.S.no _ (by decide +kernel),zaG,q⟩) ?_
   ·refine ⟨_,rfl,_,rfl,rn.at_,_,dxr,_,_,rfl,hro2,T.S.cl,T.S.no _ (by decide +kernel),za0,rn.pc.1,_,dxp,_,_,rfl,hp.obj,T.P.cl,T.P.no _ (by decide +kernel),zdb,dt,_,rfl,.inr (SqT.of hp.del),rfl,zfO _,_,rfl,?_⟩
    show G (inV (.int (cn:Int)) (nums rn.pc.2.del)) _
    rw [ziA]
    exact q
   refine ⟨_,rfl,rn.at_,_,dxr,_,_,rfl,hro2,T.S.cl,T.S.no _ (by decide +kernel),za0,rn.pc.1,_,dxp,_,_,rfl,hp.obj,T.P.cl,T.P.no _ (by decide +kernel),zbX,pt,rfl,⟨_,SqT.of hpt⟩,fun D hD0=>zjO (K:=K) (a:=pt) (xs:=pes.map V.ref)
    (fun i H'=>Same H2 H'∧H' D=some (.lst ((((pes.zip rn.pc.2.pend).take i).filter fun p=>p.2.change == cn).map fun p=>V.ref p.1))) ⟨zaz hD0,zai⟩ (fun i H' _ hp'=>SqT.of (hp'.1 _ _ hpt)) ?_ ?_⟩
   ·rintro i y H' hi ⟨s1,hD1⟩
    obtain ⟨e,he,rfl⟩:=zau hi
    obtain ⟨yd,hy,hte⟩:=Paired.get? hes he
    have hzip:(pes.zip rn.pc.2.pend)[i]?=some (e,yd):=by rw [List.getElem?_zip_eq_some]; exact ⟨he,hy⟩
    have hil:=(List.getElem?_eq_some_iff.mp hy).1
    refine ⟨rfl,?_⟩
    refine ⟨_,rfl,e,_,_,_,rfl,rfl,SqT.of (s1 _ _ hte),zas (j:=0) rfl,_,rfl,rfl,_,rfl,?_⟩
    have edec:decide (V.int (yd.change:Int)=V.int (cn:Int))=(yd.change == cn):=by
     rw [zbH,Bool.eq_iff_iff]
     simp
     omega
    dsimp only
    rw [edec,zam hzip,List.filter_append]
    by_cases hb:(yd.change == cn)=true
    ·rw [if_pos hb]
     refine ⟨_,rfl,_,hD1,?_,?_⟩
     ·rw [List.length_map]
      refine Nat.lt_of_le_of_lt (List.length_filter_le _ _) (Nat.lt_of_le_of_lt (List.length_take_le _ _) ?_)
      omega
     ·refine ⟨fun b o hb=>by rw [zaA (zag hb hD0)]; exact s1 b o hb,?_⟩
      rw [zai,List.filter_cons,if_pos hb,List.filter_nil,List.map_append]
      rfl
    ·rw [if_neg hb]
     refine ⟨s1,?_⟩
     rw [List.filter_cons,if_neg hb,List.filter_nil,List.append_nil]
     exact hD1
   ·rintro H3 ⟨s3,hD3⟩
    have ea:((pes.zip rn.pc.2.pend).take (pes.map V.ref).length)=pes.zip rn.pc.2.pend:=List.take_of_length_le (by rw [List.length_zip,List.length_map]; exact Nat.min_le_left _ _)
    rw [ea] at hD3
    have eln:(((pes.zip rn.pc.2.pend).filter fun p=>p.2.change == cn).map fun p=>V.ref p.1).length=pendC cn rn.pc.2:=by
     rw [List.length_map]
     unfold pendC
     conv=>rhs; rw [← Paired.zip_snd hes,List.filter_map,List.length_map]
     rfl
    refine ⟨_,rfl,_,rfl,rn.at_,_,dxr,_,_,rfl,s3 _ _ hro2,T.S.cl,T.S.no _ (by decide +kernel),zaG,_,rfl,D,_,rfl,.inl (SqL.of hD3),_,_,rfl,rfl,.inl ?_,_,_,rfl,rfl,?_⟩
    ·have h1:=(hR.exp.mem (List.mem_map.mpr ⟨rn,hrm,rfl⟩)).2
     rw [List.length_map] at h1
     have h1:rn.n≤(flat hd sh).length:=h1
     constructor<;>omega
    ·rw [epi,epd,epp]
     have c1:((if Vatrka.has rn.pc.2.ins cn=true then sumR (fun x=>Vatrka.has x.ins cn) (tell (rs.take j))+rn.n else sumR (fun x=>Vatrka.has x.ins cn) (tell (rs.take j)):Nat):Int)=if Vatrka.has rn.pc.2.ins cn=true then ((sumR (fun x=>Vatrka.has x.ins cn) (tell (rs.take j)):Nat):Int)+(rn.n:Int) else ((sumR (fun x=>Vatrka.has x.ins cn) (tell (rs.take j)):Nat):Int):=by split<;>simp
     have c2:((if Vatrka.has rn.pc.2.del cn=true then sumR (fun x=>Vatrka.has x.del cn) (tell (rs.take j))+rn.n else sumR (fun x=>Vatrka.has x.del cn) (tell (rs.take j)):Nat):Int)=if Vatrka.has rn.pc.2.del cn=true then ((sumR (fun x=>Vatrka.has x.del cn) (tell (rs.take j)):Nat):Int)+(rn.n:Int) else ((sumR (fun x=>Vatrka.has x.del cn) (tell (rs.take j)):Nat):Int):=by split<;>simp
     have c3:((pendN cn (rs.take j)+rn.n * pendC cn rn.pc.2:Nat):Int)=((pendN cn (rs.take j):Nat):Int)+(rn.n:Int) * ((pendC cn rn.pc.2:Nat):Int):=by rw [Int.natCast_add,Int.natCast_mul]
     rw [c1,c2,c3,← eln]
     exact ⟨_,_,_,rfl,s2.trans s3⟩
  ·rintro σ H2 ⟨v5,v6,v7,rfl,s2⟩
   have el:rs.take (rrefs rs).length=rs:=List.take_of_length_le (by rw [List.length_map]; exact Nat.le_refl _)
   rw [el]
   obtain ⟨x,hx⟩:∃ x,m.changes[cn - 1]?=some x:=⟨_,List.getElem?_eq_getElem (by omega)⟩
   obtain ⟨ea,hea⟩:∃ ea,es[cn - 1]?=some ea:=⟨_,List.getElem?_eq_getElem (by omega)⟩
   obtain ⟨x',hx',hxa⟩:=Paired.get? hD.chs hea
   have ex:x'=x:=Option.some.inj (hx'.symm.trans hx)
   subst ex
   have s02:=hR.same.trans s2
   refine ⟨_,rfl,d,_,dx,_,_,rfl,s02 _ _ hD.obj,T.D.cl,T.D.no _ (by decide +kernel),zbj,_,rfl,_,_,rfl,rfl,ch,_,_,_,rfl,rfl,SqL.of (s02 _ _ hD.chl),zd0 (j:=cn - 1) (v:=V.ref ea) (by omega) (by rw [List.getElem?_map,hea]; rfl),ea,_,rfl,.inr (SqT.of (s02 _ _ hxa)),fun l1 H3 s3 n3 h3=>?_⟩
   refine ⟨_,rfl,_,rfl,_,rfl,by show 3≤sizeLine; decide,fun l2 H4 s4 n4 h4=>?_⟩
   refine ⟨l1,l2,_,_,rfl,rfl,s4 _ _ h3,h4,by show 3+3≤sizeLine; decide,fun l3 H5 s5 n5 h5=>?_⟩
   have s04:=(s02.trans s3).trans s4
   have estep:Vatrka.step (st m sh hd) (.change (cn:Int))=(st m sh hd,.told [x'.author,x'.time,x'.kind,sumR (fun x=>Vatrka.has x.ins cn) (tell rs),sumR (fun x=>Vatrka.has x.del cn) (tell rs),pendN cn rs]):=by
    show (st m sh hd,if ((cn:Nat):Int) < 1 then Vatrka.Answer.refused 4 else match m.changes[((cn:Nat):Int).toNat - 1]? with
     | some x=>Vatrka.Answer.told (Vatrka.toldChange (st m sh hd) ((cn:Nat):Int).toNat x)
     | none=>Vatrka.Answer.refused 4)=_
    rw [if_neg (by omega),Int.toNat_natCast,hx]
    unfold Vatrka.toldChange
    rw [← zbv m,← hR.exp.sum (zk8 cn),← hR.exp.sum (zk9 cn),← hR.exp.pend cn]
    rfl
   exact o.stay g (by rw [estep]) (by rw [estep]; exact zbP _) (s04.trans s5) (s04.free n5) h5
end
end Tt
end
section
namespace Tt
theorem zjt {n:Nat}:∀ {t:Nat},(∀ i < t,n.testBit i=false)→n % 2 ^ t=0:=fun {t} h=>by
 apply Nat.eq_of_testBit_eq
 intro i
 rw [Nat.testBit_mod_two_pow,Nat.zero_testBit]
 by_cases hi:i < t
 ·rw [h i hi,Bool.and_false]
 ·rw [decide_eq_false hi,Bool.false_and]
theorem zkh {n t:Nat} (ht:n.testBit t=true) (hl:∀ i < t,n.testBit i=false):n &&& (n - 1)=n - 2 ^ t:=by
 have h0:=zjt hl
 have hdm:=Nat.div_add_mod n (2 ^ t)
 rw [h0,Nat.add_zero] at hdm
 have hodd:n / 2 ^ t % 2=1:=by
  rw [Nat.testBit_eq_decide_div_mod_eq] at ht
  exact of_decide_eq_true ht
 have hp:0 < 2 ^ t:=Nat.two_pow_pos t
 generalize ha:n / 2 ^ t=a at hdm hodd
 obtain ⟨b,rfl⟩:∃ b,a=2 * b+1:=⟨a / 2,by omega⟩
 have e1:n=2 ^ t * (2 * b+1)+0:=by omega
 have e2:n - 1=2 ^ t * (2 * b)+(2 ^ t - 1):=by
  have:2 ^ t * (2 * b+1)=2 ^ t * (2 * b)+2 ^ t:=by rw [Nat.mul_add,Nat.mul_one]
  omega
 have e3:n - 2 ^ t=2 ^ t * (2 * b)+0:=by
  have:2 ^ t * (2 * b+1)=2 ^ t * (2 * b)+2 ^ t:=by rw [Nat.mul_add,Nat.mul_one]
  omega
 rw [e3,e2]
 conv=>lhs; rw [e1]
 apply Nat.eq_of_testBit_eq
 intro i
 rw [Nat.testBit_and,Nat.testBit_two_pow_mul_add _ hp,Nat.testBit_two_pow_mul_add _ (show 2 ^ t - 1 < 2 ^ t by omega),Nat.testBit_two_pow_mul_add _ hp]
 by_cases hi:i < t
 ·simp [hi]
 ·simp only [hi,if_false]
  cases hj:i - t with
  | zero =>
   rw [Nat.testBit_zero,Nat.testBit_zero]
   have:¬ (2 * b) % 2=1:=by omega
   simp [this]
  | succ j =>
   rw [Nat.testBit_succ,Nat.testBit_succ]
   have h1:(2 * b+1) / 2=b:=by omega
   have h2:2 * b / 2=b:=by omega
   rw [h1,h2,Bool.and_self]
theorem zim {n t:Nat} (ht:n.testBit t=true):2 ^ t≤n:=Nat.ge_two_pow_of_testBit ht
theorem zkf {n t:Nat} (ht:n.testBit t=true) (hl:∀ i < t,n.testBit i=false):n - (n &&& (n - 1))=2 ^ t:=by
 rw [zkh ht hl,Nat.sub_sub_self (zim ht)]
theorem zi0 {n t:Nat} {l:List Nat} (h:∀ i,n.testBit i=(t::l).contains i) (hs:(t::l).Pairwise (· < ·)):n.testBit t=true∧(∀ i < t,n.testBit i=false)∧0 < n:=by
 have h1:n.testBit t=true:=by rw [h]; simp
 refine ⟨h1,fun i hi=>?_,Nat.lt_of_lt_of_le (Nat.two_pow_pos t) (zim h1)⟩
 rw [h]
 have hp:=(List.pairwise_cons.mp hs).1
 cases e:(t::l).contains i with
 | false=>rfl
 | true =>
  have hm:i∈t::l:=by simpa using e
  rcases List.mem_cons.mp hm with e | hm
  ·omega
  ·have:=hp i hm; omega
theorem zjF {n:Nat} (h:∀ i,n.testBit i=([]:List Nat).contains i):n=0:=by
 apply Nat.eq_of_testBit_eq
 intro i
 rw [h,Nat.zero_testBit]
 rfl
end Tt
end
section
namespace Tt
open PySem PySem.Spec PyProof.Rows L2
open Vatrka (Piece Pending Change shownLook shownValue marked)
section
variable {X:Cx}
def rExtB (K:PySem.W.Frag):V→List V→Hp→VK→Prop:=fun x vs H Q=>∃ l b xs zs,x = .ref l∧vs=[.ref b]∧H l=some (.lst xs)∧SqT K H b zs∧xs.length+zs.length≤sizeLine ∧
 ∀ H',Ext (·=l) H H'→H' l=some (.lst (xs++zs))→Q .non H'
theorem zig:MtM X "list.extend" (rExtB X.K):=by
 intro pins s σ H x vs v us Q I rx rv h
 obtain ⟨l,b,xs,zs,h1,h2,h3,h4,h5,q⟩:=h
 subst h1 h2
 cases rx
 obtain ⟨u,rfl,ru⟩:=rv.one
 cases ru
 obtain ⟨z,its,n,r,hl,e⟩:=I.lstM h3
 obtain ⟨its2,r2,p2,z2⟩:=I.tuple h4
 have hl2:=r2.length
 have hl1:=r.length
 obtain ⟨⟨cls2,dd2,data2,sl2⟩,ho2,hc2,n2,hd2⟩:=id p2
 simp only at hc2 hd2
 subst hc2 hd2
 have hsz:its.toArray.size+its2.toArray.size≤sizeLine:=by rw [List.size_toArray,List.size_toArray]; omega
 have hlong:¬ (!its.toArray.isEmpty && Builtin.List.listTooLong (its.toArray.size+its2.toArray.size))=true:=by
  rw [notLongL hsz,Bool.and_false]
  exact Bool.false_ne_true
 refine call_meets PySem.F.slot_list_extend ⟨_,e,rfl⟩ PySem.F.entry_list_extend (PySem.F.args_list_extend_2 _ _)
  (zbN l its.toArray n b its2.toArray n2 dd2 sl2 hlong (by rw [List.size_toArray]; omega) (by omega)) ⟨e,ho2,?_⟩
 refine ⟨.non,_,I.lset (its':=its++its2) h3 e (by simp) (r.append r2) ?_,rfl,q _ (zbG h3 (fun z=>z) rfl) zai⟩
 rw [List.length_append]
 omega
def rBitLen:V→List V→Hp→VK→Prop:=fun x vs H Q=>∃ i:Int,x = .int i∧vs=[]∧Q (.int ((Builtin.Int.intBits i:Nat):Int)) H
theorem zii:MtM X "int.bit_length" rBitLen:=by
 intro pins s σ H x vs v us Q I rx rv h
 obtain ⟨i,rfl,rfl,q⟩:=h
 obtain ⟨t,rfl⟩:=rx
 cases rv
 exact call_int_bit_length ⟨.int _,H,I.tok _,⟨_,rfl⟩,q⟩
end
theorem zjE (t:Nat):Builtin.Int.intBits ((2 ^ t:Nat):Int)=t+1:=by
 unfold Builtin.Int.intBits
 have hp:0 < 2 ^ t:=Nat.two_pow_pos t
 have h0:(((2 ^ t:Nat):Int) == 0)=false:=by
  rw [beq_eq_false_iff_ne]
  omega
 rw [h0,if_neg (by decide),Int.natAbs_natCast,Nat.log2_two_pow]
theorem zkg {n t:Nat} (ht:n.testBit t=true) (hl:∀ i < t,n.testBit i=false) (h0:0 < n):Builtin.bitAnd (n:Int) (-(n:Int))=((2 ^ t:Nat):Int):=by
 have e:-(n:Int)=Builtin.bitNot ((n - 1:Nat):Int):=by
  unfold Builtin.bitNot
  omega
 rw [e,zcQ,zkf ht hl]
theorem zei:∀ {l m:List Nat},l.Pairwise (· < ·)→m.Pairwise (· < ·)→(∀ i,l.contains i=m.contains i)→l=m
 | [],[],_,_,_=>rfl
 | [],b::m,_,_,h=>by
  have:=h b
  simp at this
 | a::l,[],_,_,h=>by
  have:=h a
  simp at this
 | a::l,b::m,hl,hm,h=>by
  obtain ⟨hl1,hl2⟩:=List.pairwise_cons.mp hl
  obtain ⟨hm1,hm2⟩:=List.pairwise_cons.mp hm
  have ha:a∈b::m:=by
   have:=h a
   simp only [List.contains_cons,beq_self_eq_true,Bool.true_or] at this
   have h2:(b::m).contains a=true:=by rw [List.contains_cons]; exact this.symm
   simpa using h2
  have hb:b∈a::l:=by
   have:=h b
   simp only [List.contains_cons,beq_self_eq_true,Bool.true_or] at this
   have h2:(a::l).contains b=true:=by rw [List.contains_cons]; exact this
   simpa using h2
  have e:a=b:=by
   rcases List.mem_cons.mp ha with e | ha
   ·exact e
   ·rcases List.mem_cons.mp hb with e | hb
    ·exact e.symm
    ·have:=hm1 a ha
     have:=hl1 b hb
     omega
  subst e
  rw [zei hl2 hm2 fun i=>?_]
  have hi:=h i
  rw [List.contains_cons,List.contains_cons] at hi
  by_cases e:i=a
  ·subst e
   have n1:l.contains i=false:=by
    cases q:l.contains i with
    | false=>rfl
    | true=>have:=hl1 i (by simpa using q); omega
   have n2:m.contains i=false:=by
    cases q:m.contains i with
    | false=>rfl
    | true=>have:=hm1 i (by simpa using q); omega
   rw [n1,n2]
  ·have:(i == a)=false:=by simpa using e
   rw [this,Bool.false_or,Bool.false_or] at hi
   exact hi
theorem TagsAre.uniq {T:Int} {l m:List Nat} (h1:TagsAre T l) (h2:TagsAre T m) (hl:l.Pairwise (· < ·)) (hm:m.Pairwise (· < ·)):l=m:=zei hl hm ((h1.same h2).mp rfl)
section
variable {P:Program} {w:World} {K:PySem.W.Frag} {mg:Str→Option Value} {base:Heap} {c:Cs}
abbrev s_bits_of:Stmt:=top 83
theorem zg6:FnScope ["tags","numbers","rest","lowest"] ["tags"] (defScope s_bits_of):=⟨rfl,rfl,rfl,by decide +kernel,rfl,by decide +kernel,by decide +kernel⟩
def spBits:Sp:=fun vs H Q _=>∃ (T:Int) (ts:List Nat),vs=[.int T]∧TagsAre T ts∧ts.Pairwise (· < ·)∧ts.length < sizeLine∧∀ H' l,Same H H'→H l=none→H' l=some (.lst (nums ts))→Q (.ref l) H'
theorem d_bits_of (F:FunAt K mg "bits_of" s_bits_of):Def P w K mg base "bits_of" 1 ["tags"] spBits:=by
 have sc:=zg6
 refine F.def sc (fun _ _ _ _ _ _=>ar1 fun _=>rfl) (fun vs H Q E h=>?_) (fun f cdv A outer s H vs Q E hr h=>?_)
 ·obtain ⟨T,ts,rfl,_⟩:=h
  rfl
 ·obtain ⟨T,ts,rfl,hT,hso,hz,k⟩:=h
  refine ⟨_,(zab (zar (i:=1) sc.nd rfl (by first | exact Or.inl rfl | exact Or.inr rfl) (zal zac))
   (zab (zar (i:=2) sc.nd rfl (by first | exact Or.inl rfl | exact Or.inr rfl) (pv 0))
   (zab (zeM PassesOwn.never (zan zjp (pv 2) zaf (nomark _))
    (zab (zar (i:=3) sc.nd rfl (by first | exact Or.inl rfl | exact Or.inr rfl) (zaH zh9 (pv 2) (zbm zaZ (pv 2))))
    (zab (zaq (zba PySem.F.plainAttrs_list PySem.F.slot_list_append PySem.F.type_list_append zbd (pv 1) (zaa (zaH zb4 (zkN PySem.F.plainAttrs_int slot_int_bit_length type_int_bit_length zii (pv 3)) zaf) zac)))
    (zad (zb3 (i:=2) sc.nd rfl (by first | exact Or.inl rfl | exact Or.inr rfl) (pv 3) zjQ)))))
   (zad (zah (pv 1)))))),?_⟩
  refine ⟨Nat.zero_le _,fun L H1 s1 nL gL=>?_⟩
  refine ⟨_,rfl,?_⟩
  refine ⟨fun n σ H'=>∃ (j:Nat) (R:Int) (v:Option V),σ=[some (.int T),some (.ref L),some (.int R),v]∧Same H H'∧H' L=some (.lst (nums (ts.take j)))∧TagsAre R (ts.drop j)∧n=ts.length - j,⟨_,0,T,none,rfl,s1,gL,hT,rfl⟩,?_⟩
  rintro n σ H2 ⟨j,R,v,rfl,s2,hL,hR,rfl⟩
  obtain ⟨r,rfl,hr0⟩:=id hR
  refine ⟨_,rfl,_,_,rfl,rfl,_,rfl,?_⟩
  have hsd:(ts.drop j).Pairwise (· < ·):=hso.sublist (List.drop_sublist _ _)
  cases hd:ts.drop j with
  | nil =>
   rw [hd] at hr0
   have h0:r=0:=zjF hr0
   subst h0
   refine iteF ?_
   have et:ts.take j=ts:=List.take_of_length_le (by
    have:=congrArg List.length hd
    rw [List.length_drop,List.length_nil] at this
    omega)
   rw [et] at hL
   exact ⟨_,rfl,k H2 L s2 nL hL⟩
  | cons t tl =>
   rw [hd] at hr0 hsd
   obtain ⟨b1,b2,b3⟩:=zi0 hr0 hsd
   rw [decide_eq_true (show (0:Int) < ((r:Nat):Int) by omega)]
   refine iteT ?_
   have hjl:j < ts.length:=by
    have:=congrArg List.length hd
    rw [List.length_drop,List.length_cons] at this
    omega
   have htj:ts[j]?=some t:=by
    have:=congrArg (fun l=>l[0]?) hd
    simp only [List.getElem?_drop,List.getElem?_cons_zero,Nat.add_zero] at this
    exact this
   refine ⟨fun σ' H'=>∃ m',m' < ts.length - j∧∃ (j:Nat) (R:Int) (v:Option V),σ'=[some (.int T),some (.ref L),some (.int R),v]∧Same H H'∧H' L=some (.lst (nums (ts.take j)))∧TagsAre R (ts.drop j)∧m'=ts.length - j,fun σ' H' z=>z,?_⟩
   refine ⟨_,rfl,_,rfl,_,rfl,_,_,rfl,rfl,?_⟩
   dsimp only
   rw [zkg b1 b2 b3]
   refine ⟨_,rfl,.inl ⟨rfl,_,SqL.of hL⟩,_,rfl,rfl,_,rfl,rfl,_,_,rfl,rfl,L,_,_,rfl,rfl,hL,?_,fun H3 e3 h3=>?_⟩
   ·rw [List.length_map,List.length_take]
    omega
   rw [zjE] at h3
   refine ⟨_,rfl,_,rfl,_,_,rfl,rfl,?_⟩
   have hge:=zim b1
   refine ⟨ts.length - (j+1),by omega,j+1,((r:Nat):Int) - ((2 ^ t:Nat):Int),_,rfl,fun b o hb=>e3.at (s2 b o hb) (zag hb nL),?_,?_,rfl⟩
   ·rw [h3,zam htj,← zaB]
    have:(((t+1:Nat):Int) - 1)=((t:Nat):Int):=by omega
    show some (HO.lst (nums (List.take j ts)++[V.int (((t+1:Nat):Int) - 1)]))=_
    rw [this]
    rfl
   ·have e1:ts.drop (j+1)=tl:=by
     rw [show j+1=j+1 from rfl,← List.drop_drop,hd]
     rfl
    rw [e1]
    refine ⟨r - 2 ^ t,by omega,fun i=>?_⟩
    have e2:r - 2 ^ t=r - (r &&& 2 ^ t):=by rw [zi5,b1,if_pos rfl]
    rw [e2,zfT,hr0,List.contains_cons]
    have hp:=(List.pairwise_cons.mp hsd).1
    by_cases e:i=t
    ·subst e
     have:tl.contains i=false:=by
      cases q:tl.contains i with
      | false=>rfl
      | true=>have:=hp i (by simpa using q); omega
     rw [this]
     simp
    ·have:(i == t)=false:=by simpa using e
     rw [this]
     simp
def KnownAt (H:Hp) (kd an:Addr) (b:Nat):Prop:=∃ kvs:List (Key×V),H kd=some (.dK kvs)∧kvs.length≤b∧∀ T v,valV kvs (Sum.inl T)=some v→∃ l ts,v = .ref l∧l≠an∧TagsAre T ts∧ts.Pairwise (· < ·)∧H l=some (.lst (nums (Vatrka.counted ts)))
theorem KnownAt.keep {H H':Hp} {kd an:Addr} {b:Nat} (e:Ext (·=an) H H') (hk:kd≠an) (h:KnownAt H kd an b):KnownAt H' kd an b:=by
 obtain ⟨kvs,h1,h2,h3⟩:=h
 refine ⟨kvs,e.at h1 hk,h2,fun T v hv=>?_⟩
 obtain ⟨l,ts,a1,a2,a3,a4,a5⟩:=h3 T v hv
 exact ⟨l,ts,a1,a2,a3,a4,e.at a5 a2⟩
theorem KnownAt.same {H H':Hp} {kd an:Addr} {b:Nat} (e:Same H H') (h:KnownAt H kd an b):KnownAt H' kd an b:=by
 obtain ⟨kvs,h1,h2,h3⟩:=h
 refine ⟨kvs,e _ _ h1,h2,fun T v hv=>?_⟩
 obtain ⟨l,ts,a1,a2,a3,a4,a5⟩:=h3 T v hv
 exact ⟨l,ts,a1,a2,a3,a4,e _ _ a5⟩
abbrev s_listed_tags:Stmt:=top 82
theorem zd7:FnScope ["known","tags","numbers"] ["known","tags"] (defScope s_listed_tags):=⟨rfl,rfl,rfl,by decide +kernel,rfl,by decide +kernel,by decide +kernel⟩
def spTags:Sp:=fun vs H Q _=>∃ (kd an:Addr) (b:Nat) (T:Int) (ts:List Nat),vs=[.ref kd,.int T]∧KnownAt H kd an b∧b < sizeLine∧TagsAre T ts∧ts.Pairwise (· < ·)∧ts.length < 16000000∧(∃ o,H an=some o) ∧
 ∀ H' l,Ext (·=kd) H H'→KnownAt H' kd an (b+1)→l≠an→H' l=some (.lst (nums (Vatrka.counted ts)))→Q (.ref l) H'
theorem d_listed_tags (F:FunAt K mg "listed_tags" s_listed_tags) (T:Txt K mg c) (d_bits_of:Def P w K mg base "bits_of" 1 ["tags"] spBits):Def P w K mg base "listed_tags" 2 ["known","tags"] spTags:=by
 have sc:=zd7
 refine F.def sc (fun _ _ _ _ _ _=>ar2 fun _ _=>rfl) (fun vs H Q E h=>?_) (fun f cdv A outer s H vs Q E hr h=>?_)
 ·obtain ⟨kd,an,b,Tg,ts,rfl,_⟩:=h
  rfl
 ·obtain ⟨kd,an,b,Tg,ts,rfl,⟨kvs,hd,hb,hv⟩,hbl,hT,hso,hz,⟨oa,han⟩,k⟩:=h
  have hu:=zkZ hr
  have hsl:sizeLine=16777216:=sizeLine_eq
  refine ⟨_,(zab (zaC (zhS (zfB hu (pv 1) (pv 0)) (by with_unfolding_all rfl))
    (zab (zar (i:=2) sc.nd rfl (by first | exact Or.inl rfl | exact Or.inr rfl) (zap d_bits_of (hr.mono (by decide)) rfl pass0 (zaa (pv 1) zac)))
    (zad (zhT hu (pv 0) (pv 1) (zaH zbR (zal (zaa (zax zak rfl T.b_len PySem.boot_len (zaa (pv 2) zac)) zac)) (pv 2)) rfl)))
    zaj)
   (zad (zah (zh4 hu (pv 0) (pv 1) (fun _ _=>rfl))))),?_⟩
  have hgk:∀ {H':Hp} {kv:List (Key×V)},H' kd=some (.dK kv)→DGet H' kd (.int Tg) (valV kv (Sum.inl Tg)):=fun h'=>DGet.k (k:=Sum.inl Tg) h'
  refine ⟨_,rfl,_,rfl,kd,_,rfl,hgk hd,_,rfl,?_⟩
  cases hval:valV kvs (Sum.inl Tg) with
  | some v =>
   refine iteF ?_
   obtain ⟨l,ts',rfl,a2,a3,a4,a5⟩:=hv Tg v hval
   have e:=a3.uniq hT a4 hso
   subst e
   refine ⟨_,rfl,_,rfl,kd,.ref l,rfl,by have:=hgk hd; rw [hval] at this; exact this,?_⟩
   exact k H l Ext.refl ⟨kvs,hd,by omega,hv⟩ a2 a5
  | none =>
   refine iteT ?_
   refine ⟨_,rfl,Tg,ts,rfl,hT,hso,by omega,fun H1 bl s1 nbl hbl'=>?_⟩
   refine ⟨_,rfl,bl,_,rfl,.inl (SqL.of hbl'),by show 1≤sizeLine; decide,fun l1 H2 s2 n2 h2=>?_⟩
   refine ⟨_,rfl,l1,bl,_,_,rfl,rfl,h2,s2 _ _ hbl',?_,fun l3 H3 s3 n3 h3=>?_⟩
   ·rw [List.length_map]
    show 1+_≤_
    omega
   have s02:=s1.trans s2
   have s03:=s02.trans s3
   have h3:H3 l3=some (.lst (nums (Vatrka.counted ts))):=by
    rw [h3,List.length_map]
    rfl
   have hd3:=s03 _ _ hd
   have l3an:l3≠an:=fun z=>by rw [z,s02 _ _ han] at n3; cases n3
   have l3kd:l3≠kd:=fun z=>by rw [z,s02 _ _ hd] at n3; cases n3
   refine ⟨_,rfl,_,rfl,kd,_,rfl,DPut.k (k:=Sum.inl Tg) hd3 (by omega),?_⟩
   have e4:Ext (·=kd) H3 (upd H3 kd (.dK (putK kvs (Sum.inl Tg) (.ref l3)))):=zbG hd3 (fun z=>z) rfl
   have h4:upd H3 kd (.dK (putK kvs (Sum.inl Tg) (.ref l3))) kd=some (.dK (putK kvs (Sum.inl Tg) (.ref l3))):=zai
   generalize upd H3 kd (.dK (putK kvs (Sum.inl Tg) (.ref l3)))=H4 at e4 h4 ⊢
   have hl4:=e4.at h3 l3kd
   refine ⟨_,rfl,_,rfl,kd,.ref l3,rfl,by have:=hgk h4; rw [zdj,if_pos rfl] at this; exact this,?_⟩
   refine k H4 l3 (s03.ext.trans e4) ⟨_,h4,?_,fun T' v hv'=>?_⟩ l3an hl4
   ·rw [zgC _ hval,List.length_append]
    show _+1≤_
    omega
   ·rw [zdj] at hv'
    by_cases e:(Sum.inl T':Key)=Sum.inl Tg
    ·rw [if_pos e] at hv'
     have:=Option.some.inj hv'
     subst this
     injection e with e
     subst e
     exact ⟨l3,ts,rfl,l3an,hT,hso,hl4⟩
    ·rw [if_neg e] at hv'
     obtain ⟨l,ts',rfl,a2,a3,a4,a5⟩:=hv T' v hv'
     have lkd:l≠kd:=zbw a5 hd (by intro z; cases z)
     exact ⟨l,ts',rfl,a2,a3,a4,e4.at (s03 _ _ a5) lkd⟩
abbrev s_view_of_all:Stmt:=top 80
theorem zd3:FnScope ["pieces","answer","known","piece"] ["pieces"] (defScope s_view_of_all):=⟨rfl,rfl,rfl,by decide +kernel,rfl,by decide +kernel,by decide +kernel⟩
def spViewAll (K:PySem.W.Frag) (c:Cs):Sp:=fun vs H Q _=>∃ (pl:Addr) (row:List AP),vs=[.ref pl]∧H pl=some (.lst (refs row))∧Pcs K c H row∧(∀ x∈row,x.2.tags.Pairwise (· < ·))∧row.length < sizeLine∧((ps row).flatMap Vatrka.toldPiece).length < 10000000 ∧
 ∀ H' l,Same H H'→H l=none→H' l=some (.lst (nums (row.length::(ps row).flatMap Vatrka.toldPiece)))→Q (.ref l) H'
theorem zb6 {α β:Type} (f:α→List β) (l:List α) (i:Nat):((l.take i).flatMap f).length≤(l.flatMap f).length:=by
 conv=>rhs; rw [← List.take_append_drop i l,List.flatMap_append,List.length_append]
 omega
theorem d_view_of_all (F:FunAt K mg "view_of_all" s_view_of_all) (T:Txt K mg c) (d_listed_marks:Def P w K mg base "listed_marks" 1 ["piece"] (spListed K c.P)) (d_listed_tags:Def P w K mg base "listed_tags" 2 ["known","tags"] spTags):Def P w K mg base "view_of_all" 3 ["pieces"] (spViewAll K c):=by
 have sc:=zd3
 refine F.def sc (fun _ _ _ _ _ _=>ar1 fun _=>rfl) (fun vs H Q E h=>?_) (fun f cdv A outer s H vs Q E hr h=>?_)
 ·obtain ⟨pl,row,rfl,_⟩:=h
  rfl
 ·obtain ⟨pl,row,rfl,hpl,hpc,hso,hrl,hz,k⟩:=h
  have hsl:sizeLine=16777216:=sizeLine_eq
  refine ⟨_,(zab (zar (i:=1) sc.nd rfl (by first | exact Or.inl rfl | exact Or.inr rfl) (zal (zaa (zax zak rfl T.b_len PySem.boot_len (zaa (pv 0) zac)) zac)))
   (zab (zar (i:=2) sc.nd rfl (by first | exact Or.inl rfl | exact Or.inr rfl) zgI)
   (zab (za7 PassesOwn.never rfl (zaW (pv 0)) (zav (i:=3) sc.nd rfl (by first | exact Or.inl rfl | exact Or.inr rfl))
    (zab (zaq (zba PySem.F.plainAttrs_list PySem.F.slot_list_append PySem.F.type_list_append zbd (pv 1) (zaa (zae (pv 3) rfl) zac)))
    (zab (zaq (zba PySem.F.plainAttrs_list PySem.F.slot_list_extend PySem.F.type_list_extend zig (pv 1) (zaa (zae (pv 3) rfl) zac)))
    (zab (zaq (zba PySem.F.plainAttrs_list PySem.F.slot_list_extend PySem.F.type_list_extend zbh (pv 1) (zaa (zap d_listed_marks (hr.mono (by decide)) rfl pass0 (zaa (pv 3) zac)) zac)))
    (zad (zaq (zba PySem.F.plainAttrs_list PySem.F.slot_list_extend PySem.F.type_list_extend zbh (pv 1) (zaa (zap d_listed_tags (hr.mono (by decide)) rfl pass0 (zaa (pv 2) (zaa (zae (pv 3) rfl) zac))) zac))))))))
   (zad (zah (pv 1)))))),?_⟩
  refine ⟨_,rfl,pl,_,rfl,.inl (SqL.of hpl),by show 1≤sizeLine; decide,fun an H1 s1 nan gan=>?_⟩
  intro kd nkd
  have s2:Same H1 (upd H1 kd (.dK [])):=zaz nkd
  have hkd2:upd H1 kd (.dK []) kd=some (.dK []):=zai
  generalize upd H1 kd (.dK [])=H2 at s2 hkd2 ⊢
  have kan:kd≠an:=fun z=>by rw [z,gan] at nkd; cases nkd
  have s02:=s1.trans s2
  have nkdH:H kd=none:=s1.free nkd
  have hS:∀ {b:Addr} {o:HO},H b=some o→¬ (b=an∨b=kd):=fun {b o} hb z=>z.elim (zag hb nan) (zag hb nkdH)
  refine ⟨_,rfl,pl,rfl,⟨_,SqL.of (s02 _ _ hpl)⟩,za8 (K:=K) (a:=pl) (xs:=refs row)
   (fun i σ H'=>∃ v:Option V,σ=[some (.ref pl),some (.ref an),some (.ref kd),v]∧Ext (fun b=>b=an∨b=kd) H2 H'∧KnownAt H' kd an i∧H' an=some (.lst (nums (row.length::((ps row).take i).flatMap Vatrka.toldPiece))))
   ⟨none,rfl,Ext.refl,⟨[],hkd2,Nat.le_refl _,fun _ _ h=>by cases h⟩,?_⟩ (fun i σ H' _ ⟨_,_,e,_⟩=>SqL.of (e.at (s02 _ _ hpl) (hS hpl))) ?_ ?_⟩
  ·rw [s2 _ _ gan,List.length_map]
   rfl
  ·rintro i y σ H3 hi ⟨v,rfl,e3,hkn,han⟩
   obtain ⟨x,hx,rfl⟩:=zau hi
   have xm:=List.mem_of_getElem? hx
   have hil:=(List.getElem?_eq_some_iff.mp hx).1
   have hpx:∀ {H'},Ext (fun b=>b=an∨b=kd) H2 H'→PieceAt K c.P H' x.1 x.2:=fun {H'} e=>((hpc.same s02) x xm).keep e (by
    obtain ⟨dxp,lk,sn,it,dt,pt,Tg,hp⟩:=hpc x xm
    exact hS hp.obj)
   have hxp:(ps row)[i]?=some x.2:=by rw [List.getElem?_map,hx]; rfl
   have bl:=zb6 Vatrka.toldPiece (ps row) (i+1)
   rw [zam hxp,List.flatMap_append,List.length_append] at bl
   have e1:[x.2].flatMap Vatrka.toldPiece=Vatrka.toldPiece x.2:=by simp
   have e2:Vatrka.toldPiece x.2=[x.2.sign]++x.2.look++Vatrka.toldMarks x.2++Vatrka.counted x.2.tags:=by
    unfold Vatrka.toldPiece
    simp
   have e3l:(Vatrka.toldPiece x.2).length=1+x.2.look.length+(Vatrka.toldMarks x.2).length+(Vatrka.counted x.2.tags).length:=by
    rw [e2]
    simp only [List.length_append,List.length_cons,List.length_nil]
   rw [e1,e3l] at bl
   have e4l:(Vatrka.counted x.2.tags).length=x.2.tags.length+1:=rfl
   obtain ⟨dxp,lk,sn,it,dt,pt,Tg,hp⟩:=hpx e3
   refine ⟨_,rfl,.inl ⟨rfl,_,SqL.of han⟩,_,rfl,x.1,_,dxp,_,_,rfl,hp.obj,T.P.cl,T.P.no _ (by decide +kernel),zcX,an,_,_,rfl,rfl,han,?_,fun H4 e4 h4=>?_⟩
   ·rw [List.length_map,List.length_cons]
    omega
   have e24:Ext (fun b=>b=an∨b=kd) H2 H4:=e3.trans (e4.mono fun b o _ z _=>.inl z)
   obtain ⟨dxp,lk,sn,it,dt,pt,Tg,hp⟩:=hpx e24
   refine ⟨_,rfl,.inl ⟨rfl,_,SqL.of h4⟩,_,rfl,x.1,_,dxp,_,_,rfl,hp.obj,T.P.cl,T.P.no _ (by decide +kernel),zdH,an,lk,_,_,rfl,rfl,h4,hp.look,?_,fun H5 e5 h5=>?_⟩
   ·rw [List.length_append,List.length_map,List.length_map,List.length_cons]
    show _+1+_≤_
    omega
   have e25:Ext (fun b=>b=an∨b=kd) H2 H5:=e24.trans (e5.mono fun b o _ z _=>.inl z)
   refine ⟨_,rfl,.inl ⟨rfl,_,SqL.of h5⟩,_,rfl,x.1,x.2,rfl,hpx e25,by omega,fun H6 ml s6 nml h6=>?_⟩
   refine ⟨an,ml,_,_,rfl,rfl,s6 _ _ h5,.inl h6,?_,fun H7 e7 h7=>?_⟩
   ·rw [List.length_append,List.length_append,List.length_map,List.length_map,List.length_map,List.length_cons]
    show _+1+_+_≤_
    omega
   have e27:Ext (fun b=>b=an∨b=kd) H2 H7:=(e25.trans s6.ext).trans (e7.mono fun b o _ z _=>.inl z)
   have hkn7:KnownAt H7 kd an i:=(((hkn.keep e4 kan).keep e5 kan).same s6).keep e7 kan
   obtain ⟨dxp,lk,sn,it,dt,pt,Tg,hp⟩:=hpx e27
   refine ⟨_,rfl,.inl ⟨rfl,_,SqL.of h7⟩,_,rfl,_,rfl,x.1,_,dxp,_,_,rfl,hp.obj,T.P.cl,T.P.no _ (by decide +kernel),zcd,kd,an,i,Tg,x.2.tags,rfl,hkn7,by omega,hp.tags,hso x xm,by omega,⟨_,h7⟩,fun H8 tl e8 hkn8 tlan h8=>?_⟩
   have h78:=e8.at h7 (fun z=>kan z.symm)
   refine ⟨an,tl,_,_,rfl,rfl,h78,.inl h8,?_,fun H9 e9 h9=>?_⟩
   ·rw [List.length_append,List.length_append,List.length_append,List.length_map,List.length_map,List.length_map,List.length_map,List.length_cons]
    show _+1+_+_+_≤_
    omega
   refine ⟨_,rfl,(e27.trans (e8.mono fun b o _ z _=>.inr z)).trans (e9.mono fun b o _ z _=>.inl z),hkn8.keep e9 kan,?_⟩
   rw [h9,zam hxp,List.flatMap_append,e1,e2]
   have e5':row.length::(((ps row).take i).flatMap Vatrka.toldPiece++([x.2.sign]++x.2.look++Vatrka.toldMarks x.2++Vatrka.counted x.2.tags))=(((row.length::((ps row).take i).flatMap Vatrka.toldPiece)++[x.2.sign])++x.2.look++Vatrka.toldMarks x.2)++Vatrka.counted x.2.tags:=by simp
   rw [e5',← zaB,← zaB,← zaB,← zaB _ [x.2.sign]]
   rfl
  ·rintro σ H3 ⟨v,rfl,e3,hkn,han⟩
   have et:(ps row).take (refs row).length=ps row:=List.take_of_length_le (by rw [List.length_map,List.length_map]; exact Nat.le_refl _)
   rw [et] at han
   exact ⟨_,rfl,k H3 an (fun b o hb=>e3.at (s02 b o hb) (hS hb)) nan han⟩
abbrev s_view_of_text:Stmt:=top 81
theorem zdw:FnScope ["pieces","looks","answer","known","piece","look"] ["pieces","looks"] (defScope s_view_of_text):=⟨rfl,rfl,rfl,by decide +kernel,rfl,by decide +kernel,by decide +kernel⟩
def tellT (f:Piece→List Nat) (x:Piece):List Nat:=x.sign::(f x++Vatrka.counted x.tags)
def spViewText (K:PySem.W.Frag) (c:Cs):Sp:=fun vs H Q _=>∃ (pl ll:Addr) (row:List AP) (lks:List Addr) (f:Piece→List Nat),vs=[.ref pl,.ref ll]∧H pl=some (.lst (refs row))∧H ll=some (.lst (lks.map V.ref))∧Paired (fun a (x:AP)=>SqT K H a (nums (f x.2))) lks row∧Pcs K c H row∧(∀ x∈row,x.2.tags.Pairwise (· < ·))∧row.length < sizeLine∧((ps row).flatMap (tellT f)).length < 10000000 ∧
 ∀ H' l,Same H H'→H l=none→H' l=some (.lst (nums (row.length::(ps row).flatMap (tellT f))))→Q (.ref l) H'
theorem d_view_of_text (F:FunAt K mg "view_of_text" s_view_of_text) (T:Txt K mg c) (d_listed_tags:Def P w K mg base "listed_tags" 2 ["known","tags"] spTags):Def P w K mg base "view_of_text" 3 ["pieces","looks"] (spViewText K c):=by
 have sc:=zdw
 refine F.def sc (fun _ _ _ _ _ _=>ar2 fun _ _=>rfl) (fun vs H Q E h=>?_) (fun f cdv A outer s H vs Q E hr h=>?_)
 ·obtain ⟨pl,ll,row,lks,f,rfl,_⟩:=h
  rfl
 ·obtain ⟨pl,ll,row,lks,tf,rfl,hpl,hll,hlk,hpc,hso,hrl,hz,k⟩:=h
  have hsl:sizeLine=16777216:=sizeLine_eq
  have hlen:=Paired.length hlk
  refine ⟨_,(zab (zar (i:=2) sc.nd rfl (by first | exact Or.inl rfl | exact Or.inr rfl) (zal (zaa (zax zak rfl T.b_len PySem.boot_len (zaa (pv 0) zac)) zac)))
   (zab (zar (i:=3) sc.nd rfl (by first | exact Or.inl rfl | exact Or.inr rfl) zgI)
   (zab (za7 PassesOwn.never rfl (zjM rfl T.b_zip (zaa (pv 0) (zaa (pv 1) zac))) (zfy rfl (zbl (zav (i:=4) sc.nd rfl (by first | exact Or.inl rfl | exact Or.inr rfl)) (zbl (zav (i:=5) sc.nd rfl (by first | exact Or.inl rfl | exact Or.inr rfl)) zdG)))
    (zab (zaq (zba PySem.F.plainAttrs_list PySem.F.slot_list_append PySem.F.type_list_append zbd (pv 2) (zaa (zae (pv 4) rfl) zac)))
    (zab (zaq (zba PySem.F.plainAttrs_list PySem.F.slot_list_extend PySem.F.type_list_extend zig (pv 2) (zaa (pv 5) zac)))
    (zad (zaq (zba PySem.F.plainAttrs_list PySem.F.slot_list_extend PySem.F.type_list_extend zbh (pv 2) (zaa (zap d_listed_tags (hr.mono (by decide)) rfl pass0 (zaa (pv 3) (zaa (zae (pv 4) rfl) zac))) zac)))))))
   (zad (zah (pv 2)))))),?_⟩
  refine ⟨_,rfl,pl,_,rfl,.inl (SqL.of hpl),by show 1≤sizeLine; decide,fun an H1 s1 nan gan=>?_⟩
  intro kd nkd
  have s2:Same H1 (upd H1 kd (.dK [])):=zaz nkd
  have hkd2:upd H1 kd (.dK []) kd=some (.dK []):=zai
  generalize upd H1 kd (.dK [])=H2 at s2 hkd2 ⊢
  have kan:kd≠an:=fun z=>by rw [z,gan] at nkd; cases nkd
  have s02:=s1.trans s2
  have nkdH:H kd=none:=s1.free nkd
  have hS:∀ {b:Addr} {o:HO},H b=some o→¬ (b=an∨b=kd):=fun {b o} hb z=>z.elim (zag hb nan) (zag hb nkdH)
  refine ⟨_,rfl,_,rfl,pl,ll,_,_,rfl,SqL.of (s02 _ _ hpl),SqL.of (s02 _ _ hll),zgR (K:=K) (a:=pl) (b:=ll) (xs:=refs row) (ys:=lks.map V.ref)
   (fun i σ H'=>∃ v4 v5:Option V,σ=[some (.ref pl),some (.ref ll),some (.ref an),some (.ref kd),v4,v5]∧Ext (fun b=>b=an∨b=kd) H2 H'∧KnownAt H' kd an i∧H' an=some (.lst (nums (row.length::((ps row).take i).flatMap (tellT tf)))))
   (by rw [List.length_map,List.length_map,hlen]) ⟨none,none,rfl,Ext.refl,⟨[],hkd2,Nat.le_refl _,fun _ _ h=>by cases h⟩,?_⟩ (fun i σ H' _ ⟨_,_,_,e,_⟩=>⟨SqL.of (e.at (s02 _ _ hpl) (hS hpl)),SqL.of (e.at (s02 _ _ hll) (hS hll))⟩) ?_ ?_⟩
  ·rw [s2 _ _ gan,List.length_map]
   rfl
  ·rintro i y1 y2 σ H3 tt H3' hi hi2 ⟨v4,v5,rfl,e3,hkn,han⟩ s3 htt
   obtain ⟨x,hx,rfl⟩:=zau hi
   obtain ⟨la,hla,rfl⟩:=zau hi2
   obtain ⟨x',hx',hlx⟩:=Paired.get? hlk hla
   have ex:x'=x:=Option.some.inj (hx'.symm.trans hx)
   subst ex
   have xm:=List.mem_of_getElem? hx
   have hpx:∀ {H'},Ext (fun b=>b=an∨b=kd) H2 H'→PieceAt K c.P H' x'.1 x'.2:=fun {H'} e=>((hpc.same s02) x' xm).keep e (by
    obtain ⟨dxp,lk,sn,it,dt,pt,Tg,hp⟩:=hpc x' xm
    exact hS hp.obj)
   have hlx2:∀ {H'},Ext (fun b=>b=an∨b=kd) H2 H'→SqT K H' la (nums (tf x'.2)):=fun {H'} e=>e.sqT ((s02.ext (S:=fun _=>False)).sqT hlx)
   have e3':Ext (fun b=>b=an∨b=kd) H2 H3':=e3.trans s3.ext
   have han3:=s3 _ _ han
   have hkn3:=hkn.same s3
   have hxp:(ps row)[i]?=some x'.2:=by rw [List.getElem?_map,hx]; rfl
   have bl:=zb6 (tellT tf) (ps row) (i+1)
   rw [zam hxp,List.flatMap_append,List.length_append] at bl
   have e1:[x'.2].flatMap (tellT tf)=tellT tf x'.2:=by simp
   have e2:tellT tf x'.2=[x'.2.sign]++tf x'.2++Vatrka.counted x'.2.tags:=by
    unfold tellT
    simp
   have e3l:(tellT tf x'.2).length=1+(tf x'.2).length+(Vatrka.counted x'.2.tags).length:=by
    rw [e2]
    simp only [List.length_append,List.length_cons,List.length_nil]
   rw [e1,e3l] at bl
   have e4l:(Vatrka.counted x'.2.tags).length=x'.2.tags.length+1:=rfl
   have hil:=(List.getElem?_eq_some_iff.mp hx).1
   refine ⟨tt,_,rfl,SqT.of htt,rfl,_,_,rfl,_,_,rfl,rfl,?_⟩
   obtain ⟨dxp,lk,sn,it,dt,pt,Tg,hp⟩:=hpx e3'
   refine ⟨_,rfl,.inl ⟨rfl,_,SqL.of han3⟩,_,rfl,x'.1,_,dxp,_,_,rfl,hp.obj,T.P.cl,T.P.no _ (by decide +kernel),zcX,an,_,_,rfl,rfl,han3,?_,fun H4 e4 h4=>?_⟩
   ·rw [List.length_map,List.length_cons]
    omega
   have e24:Ext (fun b=>b=an∨b=kd) H2 H4:=e3'.trans (e4.mono fun b o _ z _=>.inl z)
   refine ⟨_,rfl,.inl ⟨rfl,_,SqL.of h4⟩,_,rfl,an,la,_,_,rfl,rfl,h4,hlx2 e24,?_,fun H5 e5 h5=>?_⟩
   ·rw [List.length_append,List.length_map,List.length_map,List.length_cons]
    show _+1+_≤_
    omega
   have e25:Ext (fun b=>b=an∨b=kd) H2 H5:=e24.trans (e5.mono fun b o _ z _=>.inl z)
   have hkn5:KnownAt H5 kd an i:=(hkn3.keep e4 kan).keep e5 kan
   obtain ⟨dxp,lk,sn,it,dt,pt,Tg,hp⟩:=hpx e25
   refine ⟨_,rfl,.inl ⟨rfl,_,SqL.of h5⟩,_,rfl,_,rfl,x'.1,_,dxp,_,_,rfl,hp.obj,T.P.cl,T.P.no _ (by decide +kernel),zcd,kd,an,i,Tg,x'.2.tags,rfl,hkn5,by omega,hp.tags,hso x' xm,by omega,⟨_,h5⟩,fun H8 tl e8 hkn8 tlan h8=>?_⟩
   have h58:=e8.at h5 (fun z=>kan z.symm)
   refine ⟨an,tl,_,_,rfl,rfl,h58,.inl h8,?_,fun H9 e9 h9=>?_⟩
   ·rw [List.length_append,List.length_append,List.length_map,List.length_map,List.length_map,List.length_cons]
    show _+1+_+_≤_
    omega
   refine ⟨_,_,rfl,(e25.trans (e8.mono fun b o _ z _=>.inr z)).trans (e9.mono fun b o _ z _=>.inl z),hkn8.keep e9 kan,?_⟩
   rw [h9,zam hxp,List.flatMap_append,e1,e2]
   have e5':row.length::(((ps row).take i).flatMap (tellT tf)++([x'.2.sign]++tf x'.2++Vatrka.counted x'.2.tags))=(((row.length::((ps row).take i).flatMap (tellT tf))++[x'.2.sign])++tf x'.2)++Vatrka.counted x'.2.tags:=by simp
   rw [e5',← zaB,← zaB,← zaB _ [x'.2.sign]]
   rfl
  ·rintro σ H3 ⟨v4,v5,rfl,e3,hkn,han⟩
   have et:(ps row).take (refs row).length=ps row:=List.take_of_length_le (by rw [List.length_map,List.length_map]; exact Nat.le_refl _)
   rw [et] at han
   exact ⟨_,rfl,k H3 an (fun b o hb=>e3.at (s02 b o hb) (hS hb)) nan han⟩
end
section
variable {P:Program} {w:World} {K:PySem.W.Frag} {mg:Str→Option Value} {base:Heap} {c:Cs}
abbrev s_view:Stmt:=top 79
theorem zj1:FnScope ["document","w","shown","piece","kept"] ["document","w"] (defScope s_view):=⟨rfl,rfl,rfl,by decide +kernel,rfl,by decide +kernel,by decide +kernel⟩
def spView (K:PySem.W.Frag) (c:Cs):Sp:=fun vs H Q _=>∃ (d r ch:Addr) (m:Mo) (sh:List AP) (hd:List (List AP)) (k z:Nat) (ww:Int),vs=[.ref d,.int ww]∧Given K c H d r ch m sh hd k z 0∧Short m sh hd (.view ww)∧Owes K c H d r ch m sh hd k z 0 (.view ww) Q
theorem dee (a b:Int):decide (V.int a=V.int b)=decide (a=b):=by
 rw [zbH,Bool.eq_iff_iff]
 simp
theorem zgq (f:Piece→List Nat) (l:List Piece):(l.map fun x=>({ sign:=x.sign,look:=f x,tags:=x.tags }:Vatrka.Plain)).flatMap Vatrka.toldPlain=l.flatMap (tellT f):=by
 rw [List.flatMap_map]
 rfl
theorem zdv {m:Mo} {sh:List AP} {hd:List (List AP)} {call:Vatrka.Call} {l:List Nat} {s':Vatrka.State} (h:Short m sh hd call) (e:Vatrka.step (st m sh hd) call=(s',.told l)):l.length≤10000000:=by
 unfold Short at h
 rw [e] at h
 unfold VatrkaNeutral.encode at h
 rw [List.length_map] at h
 exact h
theorem d_view (F:FunAt K mg "view" s_view) (T:Txt K mg c) (TQ:TxtQ mg) (d_all_pieces:Def P w K mg base "all_pieces" 1 ["row"] (spAll c)) (d_original_pieces:Def P w K mg base "original_pieces" 2 ["row"] (spOrigs K c)) (d_view_of_all:Def P w K mg base "view_of_all" 3 ["pieces"] (spViewAll K c)) (d_view_of_text:Def P w K mg base "view_of_text" 3 ["pieces","looks"] (spViewText K c)) :
  Def P w K mg base "view" 4 ["document","w"] (spView K c):=by
 have sc:=zj1
 refine F.def sc (fun _ _ _ _ _ _=>ar2 fun _ _=>rfl) (fun vs H Q E h=>?_) (fun f cdv A outer s H vs Q E hr h=>?_)
 ·obtain ⟨d,r,ch,m,sh,hd,k,z,ww,rfl,_⟩:=h
  rfl
 ·obtain ⟨d,r,ch,m,sh,hd,k,z,ww,rfl,g,hans,o⟩:=h
  have hsl:sizeLine=16777216:=sizeLine_eq
  obtain ⟨hfl,hpf,hsm⟩:=g.flat
  obtain ⟨hsm2,hshL,hchL⟩:=g.small
  obtain ⟨dx,es,hD⟩:=g.full.doc
  obtain ⟨dr,sA,hA,gs,hR⟩:=g.full.row
  have pm:=zaT (hd:=hd) (sh:=sh) g.wf.len
  refine ⟨_,(zab (zaC (zan za6 (pv 1) (zay rfl TQ.g_VIEW_ALL) (nomark _))
    (zad (zah (zap d_view_of_all (hr.mono (by decide)) rfl pass0 (zaa (zap d_all_pieces (hr.mono (by decide)) rfl pass0 (zaa (zae (pv 0) rfl) zac)) zac))))
    zaj)
   (zab (zaC (zan za6 (pv 1) (zay rfl TQ.g_VIEW_ACCEPTED) (nomark _))
    (zab (zar (i:=2) sc.nd rfl (by first | exact Or.inl rfl | exact Or.inr rfl) (zae (zae (pv 0) rfl) rfl))
    (zad (zah (zap d_view_of_text (hr.mono (by decide)) rfl pass0 (zaa (pv 2) (zaa (zfz rfl sc.nd (zaW (pv 2)) (own:=[("piece",3)]) (zbe rfl) (fun _ _ _ _ _=>(zav (i:=3) sc.nd rfl (by first | exact Or.inl rfl | exact Or.inr rfl))) (fun _ _ _ _ _=>zcW) (fun _ _ _ _ _=>(zcf (K:=K) (pv 3) rfl))) zac))))))
    zaj)
   (zab (zaC (zan za6 (pv 1) (zay rfl TQ.g_VIEW_REJECTED) (nomark _))
    (zab (zar (i:=4) sc.nd rfl (by first | exact Or.inl rfl | exact Or.inr rfl) (zap d_original_pieces (hr.mono (by decide)) rfl pass0 (zaa (zae (pv 0) rfl) zac)))
    (zad (zah (zap d_view_of_text (hr.mono (by decide)) rfl pass0 (zaa (pv 4) (zaa (zfz rfl sc.nd (zaW (pv 4)) (own:=[("piece",3)]) (zbe rfl) (fun _ _ _ _ _=>(zav (i:=3) sc.nd rfl (by first | exact Or.inl rfl | exact Or.inr rfl))) (fun _ _ _ _ _=>zcW) (fun _ _ _ _ _=>(zcf (K:=K) (pv 3) rfl))) zac))))))
    zaj)
   (zad (zah (zal (zaa (zbm zaZ zaf) zac))))))),?_⟩
  have sorted:∀ x∈all sh hd,x.2.tags.Pairwise (· < ·):=fun x hx=>(g.wf.pcs x hx).tagsS
  refine ⟨_,rfl,rfl,_,rfl,?_⟩
  refine ite2 (fun h0=>?w0) (fun h0=>?n0)
  case w0 =>
   have h0:ww=0:=by rw [dee] at h0; exact of_decide_eq_true h0
   subst h0
   have estep:Vatrka.step (st m sh hd) (.view 0)=(st m sh hd,.told ((flat hd sh).length::(ps (flat hd sh)).flatMap Vatrka.toldPiece)):=by
    show (st m sh hd,Vatrka.stepView _ _)=_
    unfold Vatrka.stepView
    rw [if_pos rfl,← zbv m,List.length_map]
   have hl:=zdv hans estep
   rw [List.length_cons] at hl
   refine ⟨_,rfl,d,_,dx,_,_,rfl,hD.obj,T.D.cl,T.D.no _ (by decide +kernel),zaS,r,_,sh,hd,rfl,g.full.row,g.wf.len,hsm,fun H1 al s1 nal hal=>?_⟩
   refine ⟨al,flat hd sh,rfl,hal,hpf.same s1,(fun x hx=>sorted x (pm.mem_iff.mp hx)),by omega,by omega,fun H2 l s2 n2 h2=>?_⟩
   exact o.stay g (by rw [estep]) (by rw [estep]; exact zbP _) (s1.trans s2) (s1.free n2) h2
  have h0:¬ ww=0:=fun z=>h0 (by rw [dee]; exact decide_eq_true z)
  refine ⟨_,rfl,rfl,_,rfl,?_⟩
  refine ite2 (fun h1=>?w1) (fun h1=>?n1)
  case w1 =>
   have h1:ww=1:=by rw [dee] at h1; exact of_decide_eq_true h1
   subst h1
   have estep:Vatrka.step (st m sh hd) (.view 1)=(st m sh hd,.told (sh.length::(ps sh).flatMap (tellT shownLook))):=by
    show (st m sh hd,Vatrka.stepView _ _)=_
    unfold Vatrka.stepView
    have hv:(st m sh hd).row.filter Vatrka.shown=ps sh:=zaO g.wf.split
    rw [if_neg (by decide),if_pos rfl]
    unfold Vatrka.accepted
    rw [hv,zgq,List.length_map,List.length_map]
   have hl:=zdv hans estep
   rw [List.length_cons] at hl
   refine ⟨_,rfl,d,_,dx,_,_,rfl,hD.obj,T.D.cl,T.D.no _ (by decide +kernel),zaS,r,_,dr,_,_,rfl,hR.obj,T.R.cl,T.R.no _ (by decide +kernel),zaF,?_⟩
   refine ⟨_,rfl,_,rfl,sA,rfl,⟨_,SqL.of hR.sl⟩,fun D hD0=>zcg (K:=K) (a:=sA) (xs:=refs sh)
    (fun i H'=>Same H H'∧∃ lks:List Addr,H' D=some (.lst (lks.map V.ref))∧Paired (fun a (x:AP)=>SqT K H' a (nums (shownLook x.2))) lks (sh.take i)) ⟨zaz hD0,[],zai,.nil⟩ (fun i H' _ hp=>SqL.of (hp.1 _ _ hR.sl)) ?_ ?_⟩
   ·rintro i y H1 hi ⟨s1,lks,hD1,hlk⟩
    obtain ⟨x,hx,rfl⟩:=zau hi
    have hil:=(List.getElem?_eq_some_iff.mp hx).1
    obtain ⟨dxp,lk,sn,it,dt,pt,Tg,hp⟩:=(g.full.pcs.same s1) x (List.mem_append_left _ (List.mem_of_getElem? hx))
    refine ⟨rfl,?_⟩
    dsimp only [tYes]
    rw [if_pos rfl]
    have hll:=Paired.length hlk
    rw [List.length_take] at hll
    refine ⟨_,rfl,x.1,_,dxp,_,_,rfl,hp.obj,T.P.cl,T.P.no _ (by decide +kernel),zce,_,hD1,?_,?_⟩
    ·rw [List.length_map]
     omega
    ·have eD:Ext (·=D) H1 (upd H1 D (.lst (lks.map V.ref++[.ref sn]))):=zbG hD1 (fun z=>z) rfl
     refine ⟨fun b o' hb=>by rw [zaA (zag hb hD0)]; exact s1 b o' hb,lks++[sn],?_,?_⟩
     ·rw [zai,List.map_append]
      rfl
     ·rw [zam hx]
      exact Paired.snoc (R:=fun a (x:AP)=>SqT K _ a (nums (shownLook x.2))) (eD.sqT hp.seen) (Paired.mapP hlk fun a x z=>eD.sqT z)
   ·rintro H1 ⟨s1,lks,hD1,hlk⟩
    have el:sh.take (refs sh).length=sh:=List.take_of_length_le (by rw [List.length_map]; exact Nat.le_refl _)
    rw [el] at hlk
    refine ⟨sA,D,sh,lks,shownLook,rfl,s1 _ _ hR.sl,hD1,hlk,(fun x hx=>(g.full.pcs.same s1) x (List.mem_append_left _ hx)),(fun x hx=>sorted x (List.mem_append_left _ hx)),by omega,by omega,fun H2 l s2 n2 h2=>?_⟩
    exact o.stay g (by rw [estep]) (by rw [estep]; exact zbP _) (s1.trans s2) (s1.free n2) h2
  have h1:¬ ww=1:=fun z=>h1 (by rw [dee]; exact decide_eq_true z)
  refine ⟨_,rfl,rfl,_,rfl,?_⟩
  refine ite2 (fun h2=>?w2) (fun h2=>?n2)
  case w2 =>
   have h2:ww=2:=by rw [dee] at h2; exact of_decide_eq_true h2
   subst h2
   have estep:Vatrka.step (st m sh hd) (.view 2)=(st m sh hd,.told ((origs (flat hd sh)).length::(ps (origs (flat hd sh))).flatMap (tellT fun x=>x.look))):=by
    show (st m sh hd,Vatrka.stepView _ _)=_
    unfold Vatrka.stepView
    rw [if_neg (by decide),if_neg (by decide),if_pos rfl]
    unfold Vatrka.rejected
    rw [← zbv m,← zgD,zgq (fun x=>x.look),List.length_map,List.length_map]
   have hl:=zdv hans estep
   rw [List.length_cons] at hl
   refine ⟨_,rfl,d,_,dx,_,_,rfl,hD.obj,T.D.cl,T.D.no _ (by decide +kernel),zaS,r,_,sh,hd,rfl,g.full.row,g.full.pcs,g.wf.len,hsm,fun H0 kl s0 nkl hkl=>?_⟩
   have inA:∀ x∈origs (flat hd sh),x∈all sh hd:=fun x hx=>pm.mem_iff.mp (List.mem_filter.mp hx).1
   have hol:(origs (flat hd sh)).length≤(flat hd sh).length:=List.length_filter_le _ _
   generalize hLL:origs (flat hd sh)=LL at inA hol hkl hl estep ⊢
   refine ⟨_,rfl,_,rfl,kl,rfl,⟨_,SqL.of hkl⟩,fun D hD0=>zcg (K:=K) (a:=kl) (xs:=refs LL)
    (fun i H'=>Same H0 H'∧∃ lks:List Addr,H' D=some (.lst (lks.map V.ref))∧Paired (fun a (x:AP)=>SqT K H' a (nums x.2.look)) lks (LL.take i)) ⟨zaz hD0,[],zai,.nil⟩ (fun i H' _ hp=>SqL.of (hp.1 _ _ hkl)) ?_ ?_⟩
   ·rintro i y H1 hi ⟨s1,lks,hD1,hlk⟩
    obtain ⟨x,hx,rfl⟩:=zau hi
    have hil:=(List.getElem?_eq_some_iff.mp hx).1
    obtain ⟨dxp,lk,sn,it,dt,pt,Tg,hp⟩:=((g.full.pcs.same s0).same s1) x (inA x (List.mem_of_getElem? hx))
    refine ⟨rfl,?_⟩
    dsimp only [tYes]
    rw [if_pos rfl]
    have hll:=Paired.length hlk
    rw [List.length_take] at hll
    refine ⟨_,rfl,x.1,_,dxp,_,_,rfl,hp.obj,T.P.cl,T.P.no _ (by decide +kernel),zdH,_,hD1,?_,?_⟩
    ·rw [List.length_map]
     omega
    ·have eD:Ext (·=D) H1 (upd H1 D (.lst (lks.map V.ref++[.ref lk]))):=zbG hD1 (fun z=>z) rfl
     refine ⟨fun b o' hb=>by rw [zaA (zag hb hD0)]; exact s1 b o' hb,lks++[lk],?_,?_⟩
     ·rw [zai,List.map_append]
      rfl
     ·rw [zam hx]
      exact Paired.snoc (R:=fun a (x:AP)=>SqT K _ a (nums x.2.look)) (eD.sqT hp.look) (Paired.mapP hlk fun a x z=>eD.sqT z)
   ·rintro H1 ⟨s1,lks,hD1,hlk⟩
    have el:LL.take (refs LL).length=LL:=List.take_of_length_le (by rw [List.length_map]; exact Nat.le_refl _)
    rw [el] at hlk
    have s01:=s0.trans s1
    refine ⟨kl,D,LL,lks,fun x=>x.look,rfl,s1 _ _ hkl,hD1,hlk,(fun x hx=>(g.full.pcs.same s01) x (inA x hx)),(fun x hx=>sorted x (inA x hx)),by omega,by omega,fun H2 l s2 n2 h2=>?_⟩
    exact o.stay g (by rw [estep]) (by rw [estep]; exact zbP _) (s01.trans s2) (s01.free n2) h2
  have h2:¬ ww=2:=fun z=>h2 (by rw [dee]; exact decide_eq_true z)
  have estep:Vatrka.step (st m sh hd) (.view ww)=(st m sh hd,.refused 2):=by
   show (st m sh hd,Vatrka.stepView _ _)=_
   unfold Vatrka.stepView
   rw [if_neg h0,if_neg h1,if_neg h2]
  exact ⟨_,rfl,by show 1≤sizeLine; decide,fun l H' s' n' g'=>o.stay g (by rw [estep]) (by rw [estep]; rfl) s' n' g'⟩
end
end Tt
end
section
namespace Tt
inductive CallIs:Int→List Int→List Int→Vatrka.Call→Prop
 | author (a):CallIs 0 [a] [] (.author a)
 | clock (a):CallIs 1 [a] [] (.clock a)
 | track (a):CallIs 2 [a] [] (.track a)
 | put (a zs):CallIs 3 [a] zs (.put a zs)
 | cut (a b):CallIs 4 [a,b] [] (.cut a b)
 | paint (a b e f):CallIs 5 [a,b,e,f] [] (.paint a b e f)
 | move (a b e):CallIs 6 [a,b,e] [] (.move a b e)
 | tag (a b e f):CallIs 7 [a,b,e,f] [] (.tag a b e f)
 | accept:CallIs 8 [] [] .accept
 | reject:CallIs 9 [] [] .reject
 | view (a):CallIs 10 [a] [] (.view a)
 | change (a):CallIs 11 [a] [] (.change a)
 | size:CallIs 12 [] [] .size
 | place (a):CallIs 13 [a] [] (.place a)
 | origin (a b):CallIs 14 [a,b] [] (.origin a b)
 | paragraph (a):CallIs 15 [a] [] (.paragraph a)
 | stretches:CallIs 16 [] [] .stretches
def numTab:List (Int×Int):=[(0,1),(1,1),(2,1),(3,1),(4,2),(5,4),(6,3),(7,4),(8,0),(9,0),(10,1),(11,1),(12,0),(13,1),(14,2),(15,1),(16,0)]
theorem zf5 {p:Int} {x:Nat×Nat} (h:PyVatrka.shape p=some x):p=0∨p=1∨p=2∨p=3∨p=4∨p=5∨p=6∨p=7∨p=8∨p=9∨p=10∨p=11∨p=12∨p=13∨p=14∨p=15∨p=16:=by
 unfold PyVatrka.shape at h
 by_cases h0:p=0; · simp [h0]
 rw [if_neg h0] at h
 by_cases h1:p=1; · simp [h1]
 rw [if_neg h1] at h
 by_cases h2:p=2; · simp [h2]
 rw [if_neg h2] at h
 by_cases h3:p=3; · simp [h3]
 rw [if_neg h3] at h
 by_cases h4:p=4; · simp [h4]
 rw [if_neg h4] at h
 by_cases h5:p=5; · simp [h5]
 rw [if_neg h5] at h
 by_cases h6:p=6; · simp [h6]
 rw [if_neg h6] at h
 by_cases h7:p=7; · simp [h7]
 rw [if_neg h7] at h
 by_cases h8:p=8; · simp [h8]
 rw [if_neg h8] at h
 by_cases h9:p=9; · simp [h9]
 rw [if_neg h9] at h
 by_cases h10:p=10; · simp [h10]
 rw [if_neg h10] at h
 by_cases h11:p=11; · simp [h11]
 rw [if_neg h11] at h
 by_cases h12:p=12; · simp [h12]
 rw [if_neg h12] at h
 by_cases h13:p=13; · simp [h13]
 rw [if_neg h13] at h
 by_cases h14:p=14; · simp [h14]
 rw [if_neg h14] at h
 by_cases h15:p=15; · simp [h15]
 rw [if_neg h15] at h
 by_cases h16:p=16; · simp [h16]
 rw [if_neg h16] at h
 cases h
def Read (p:Int) (rest:List Int) (cc:List (List Int)) (t:List Int):Prop :=
 ∃ ns zs call,CallIs p ns zs call∧VatrkaNeutral.callOf cc=some call∧zs.length≤2000∧((p=3∧rest=ns++((zs.length:Int)::(zs++t)))∨(p≠3∧zs=[]∧rest=ns++t))∧(numTab.find? fun kv=>kv.1 == p).map (·.2)=some (ns.length:Int)
theorem call0 {p:Int} {n:Nat} {rest:List Int} {cc:List (List Int)} {t:List Int} (hs:PyVatrka.shape p=some (n,0)) (h:PyFlat.call PyVatrka.shape (p::rest)=some (cc,t)):n≤rest.length∧cc=[p::rest.take n]∧t=rest.drop n:=by
 unfold PyFlat.call at h
 dsimp only at h
 rw [hs] at h
 dsimp only at h
 by_cases hl:rest.length < n
 ·rw [if_pos hl] at h; cases h
 ·rw [if_neg hl] at h
  have h:some ((p::rest.take n)::([]:List (List Int)),rest.drop n)=some (cc,t):=h
  injection h with h
  injection h with h1 h2
  exact ⟨by omega,h1.symm,h2.symm⟩
theorem ziX {p:Int} {rest:List Int} {cc:List (List Int)} {t:List Int} (h:PyFlat.call PyVatrka.shape (p::rest)=some (cc,t)) (ha:VatrkaNeutral.asked1 cc=true):Read p rest cc t:=by
 have hs:∃ x,PyVatrka.shape p=some x:=by
  unfold PyFlat.call at h
  dsimp only at h
  cases e:PyVatrka.shape p with
  | none=>rw [e] at h; cases h
  | some x=>exact ⟨x,rfl⟩
 obtain ⟨x,hx⟩:=hs
 rcases zf5 hx with e | e | e | e | e | e | e | e | e | e | e | e | e | e | e | e | e<;>subst e
 ·obtain ⟨h1,rfl,rfl⟩:=call0 (n:=1) rfl h
  match rest,h1 with
  | a::r,_=>exact ⟨[a],[],_,.author a,rfl,Nat.zero_le _,.inr ⟨by decide,rfl,rfl⟩,rfl⟩
 ·obtain ⟨h1,rfl,rfl⟩:=call0 (n:=1) rfl h
  match rest,h1 with
  | a::r,_=>exact ⟨[a],[],_,.clock a,rfl,Nat.zero_le _,.inr ⟨by decide,rfl,rfl⟩,rfl⟩
 ·obtain ⟨h1,rfl,rfl⟩:=call0 (n:=1) rfl h
  match rest,h1 with
  | a::r,_=>exact ⟨[a],[],_,.track a,rfl,Nat.zero_le _,.inr ⟨by decide,rfl,rfl⟩,rfl⟩
 ·have h:(if rest.length < 1 then none else match PyFlat.rows 1 (rest.drop 1) with
   | none=>none
   | some (xs,t)=>some (((3:Int)::rest.take 1)::xs,t))=some (cc,t):=h
  match rest,h with
  | [],h=>cases h
  | [a],h=>cases h
  | a::n::r,h =>
   have h:(match (match PyFlat.row (n::r) with
    | none=>none
    | some (x,s)=>some ([x],s)) with
    | none=>none
    | some (xs,t)=>some (((3:Int)::[a])::xs,t))=some (cc,t):=h
   unfold PyFlat.row at h
   dsimp only at h
   by_cases hn:0≤n∧n.toNat≤r.length
   ·rw [if_pos hn] at h
    have h:some ([[(3:Int),a],r.take n.toNat],r.drop n.toNat)=some (cc,t):=h
    injection h with h
    injection h with h1 h2
    subst h1 h2
    have hl:(r.take n.toNat).length≤2000:=by
     have ha:(VatrkaNeutral.whole60 a && ((r.take n.toNat).all (fun (z:Int)=>VatrkaNeutral.whole60 z) && decide ((r.take n.toNat).length≤2000)))=true:=ha
     rw [Bool.and_eq_true,Bool.and_eq_true,decide_eq_true_eq] at ha
     exact ha.2.2
    refine ⟨[a],r.take n.toNat,_,.put a _,rfl,hl,.inl ⟨rfl,?_⟩,rfl⟩
    have e1:((r.take n.toNat).length:Int)=n:=by rw [List.length_take]; omega
    rw [e1,List.take_append_drop]
    rfl
   ·rw [if_neg hn] at h
    cases h
 ·obtain ⟨h1,rfl,rfl⟩:=call0 (n:=2) rfl h
  match rest,h1 with
  | a::b::r,_=>exact ⟨[a,b],[],_,.cut a b,rfl,Nat.zero_le _,.inr ⟨by decide,rfl,rfl⟩,rfl⟩
 ·obtain ⟨h1,rfl,rfl⟩:=call0 (n:=4) rfl h
  match rest,h1 with
  | a::b::e::f::r,_=>exact ⟨[a,b,e,f],[],_,.paint a b e f,rfl,Nat.zero_le _,.inr ⟨by decide,rfl,rfl⟩,rfl⟩
 ·obtain ⟨h1,rfl,rfl⟩:=call0 (n:=3) rfl h
  match rest,h1 with
  | a::b::e::r,_=>exact ⟨[a,b,e],[],_,.move a b e,rfl,Nat.zero_le _,.inr ⟨by decide,rfl,rfl⟩,rfl⟩
 ·obtain ⟨h1,rfl,rfl⟩:=call0 (n:=4) rfl h
  match rest,h1 with
  | a::b::e::f::r,_=>exact ⟨[a,b,e,f],[],_,.tag a b e f,rfl,Nat.zero_le _,.inr ⟨by decide,rfl,rfl⟩,rfl⟩
 ·obtain ⟨h1,rfl,rfl⟩:=call0 (n:=0) rfl h
  exact ⟨[],[],_,.accept,rfl,Nat.zero_le _,.inr ⟨by decide,rfl,rfl⟩,rfl⟩
 ·obtain ⟨h1,rfl,rfl⟩:=call0 (n:=0) rfl h
  exact ⟨[],[],_,.reject,rfl,Nat.zero_le _,.inr ⟨by decide,rfl,rfl⟩,rfl⟩
 ·obtain ⟨h1,rfl,rfl⟩:=call0 (n:=1) rfl h
  match rest,h1 with
  | a::r,_=>exact ⟨[a],[],_,.view a,rfl,Nat.zero_le _,.inr ⟨by decide,rfl,rfl⟩,rfl⟩
 ·obtain ⟨h1,rfl,rfl⟩:=call0 (n:=1) rfl h
  match rest,h1 with
  | a::r,_=>exact ⟨[a],[],_,.change a,rfl,Nat.zero_le _,.inr ⟨by decide,rfl,rfl⟩,rfl⟩
 ·obtain ⟨h1,rfl,rfl⟩:=call0 (n:=0) rfl h
  exact ⟨[],[],_,.size,rfl,Nat.zero_le _,.inr ⟨by decide,rfl,rfl⟩,rfl⟩
 ·obtain ⟨h1,rfl,rfl⟩:=call0 (n:=1) rfl h
  match rest,h1 with
  | a::r,_=>exact ⟨[a],[],_,.place a,rfl,Nat.zero_le _,.inr ⟨by decide,rfl,rfl⟩,rfl⟩
 ·obtain ⟨h1,rfl,rfl⟩:=call0 (n:=2) rfl h
  match rest,h1 with
  | a::b::r,_=>exact ⟨[a,b],[],_,.origin a b,rfl,Nat.zero_le _,.inr ⟨by decide,rfl,rfl⟩,rfl⟩
 ·obtain ⟨h1,rfl,rfl⟩:=call0 (n:=1) rfl h
  match rest,h1 with
  | a::r,_=>exact ⟨[a],[],_,.paragraph a,rfl,Nat.zero_le _,.inr ⟨by decide,rfl,rfl⟩,rfl⟩
 ·obtain ⟨h1,rfl,rfl⟩:=call0 (n:=0) rfl h
  exact ⟨[],[],_,.stretches,rfl,Nat.zero_le _,.inr ⟨by decide,rfl,rfl⟩,rfl⟩
theorem zhn {f:Nat} {p:Int} {r:List Int} {cs:List (List (List Int))} (h:PyFlat.calls PyVatrka.shape f (p::r)=some cs):∃ f' cc t cs',PyFlat.call PyVatrka.shape (p::r)=some (cc,t)∧PyFlat.calls PyVatrka.shape f' t=some cs'∧cs=cc::cs':=by
 cases f with
 | zero=>cases h
 | succ f =>
  unfold PyFlat.calls at h
  cases e:PyFlat.call PyVatrka.shape (p::r) with
  | none=>rw [e] at h; cases h
  | some x =>
   obtain ⟨cc,t⟩:=x
   rw [e] at h
   dsimp only at h
   cases e2:PyFlat.calls PyVatrka.shape f t with
   | none=>rw [e2] at h; cases h
   | some cs' =>
    rw [e2] at h
    exact ⟨f,cc,t,cs',rfl,e2,(Option.some.inj h).symm⟩
theorem ziV {f:Nat} {cs:List (List (List Int))} (h:PyFlat.calls PyVatrka.shape f []=some cs):cs=[]:=by
 cases f<;>exact (Option.some.inj h).symm
theorem zi7 (c:List (List Int)):PyVatrka.whole c=c:=by
 rcases c with _ | ⟨_ | ⟨k | k,t⟩,r⟩
 ·rfl
 ·rfl
 ·by_cases hk:17≤k
  ·obtain ⟨j,rfl⟩:=Nat.exists_eq_add_of_le' hk
   rcases r with _ | ⟨r0,_ | ⟨r1,r⟩⟩<;>rcases t with _ | ⟨x0,_ | ⟨x1,_ | ⟨x2,_ | ⟨x3,_ | ⟨x4,t⟩⟩⟩⟩⟩<;>rfl
  ·rcases r with _ | ⟨r0,_ | ⟨r1,r⟩⟩<;>rcases t with _ | ⟨x0,_ | ⟨x1,_ | ⟨x2,_ | ⟨x3,_ | ⟨x4,t⟩⟩⟩⟩⟩<;>(rcases k with _ | _ | _ | _ | _ | _ | _ | _ | _ | _ | _ | _ | _ | _ | _ | _ | _ | k<;>first | rfl | exact absurd (Nat.le_add_left 17 k) hk)
 ·rcases r with _ | ⟨r0,_ | ⟨r1,r⟩⟩<;>rcases t with _ | ⟨x0,_ | ⟨x1,_ | ⟨x2,_ | ⟨x3,_ | ⟨x4,t⟩⟩⟩⟩⟩<;>rfl
theorem zfd:∀ cs:List (List (List Int)),cs.map PyVatrka.whole=cs
 | []=>rfl
 | c::cs=>by rw [List.map_cons,zi7,zfd cs]
theorem zhy {s:Vatrka.State} {cc:List (List Int)} {cs:List (List (List Int))} {call:Vatrka.Call} (h:VatrkaNeutral.callOf cc=some call) :
  PyFlat.told (PyFlat.played VatrkaNeutral.step s (cc::cs))=((VatrkaNeutral.encode (Vatrka.step s call).2).length:Int)::VatrkaNeutral.encode (Vatrka.step s call).2++PyFlat.told (PyFlat.played VatrkaNeutral.step (Vatrka.step s call).1 cs):=by
 have e:VatrkaNeutral.step s cc=((Vatrka.step s call).1,VatrkaNeutral.encode (Vatrka.step s call).2):=by
  unfold VatrkaNeutral.step
  rw [h]
 unfold PyFlat.told
 rw [PyFlat.played,e,List.flatMap_cons]
end Tt
end
section
namespace Tt
open PySem PySem.Spec PyProof.Rows L2
open Vatrka (Piece Pending Change shownLook shownValue marked)
def KDict (K:PySem.W.Frag) (a:Addr) (kvs:List (Key×V)):Prop:=(a == sysModules)=false∧∀ (P:Program) (w:World) (h:Heap),K.In h→∃ vs,KV kvs vs∧h.DictOf (mixKind P w) a vs
def tKGet2 (K:PySem.W.Frag) (td ty tx:TE):TE:=fun σ H Q=>td σ H fun x H1=>∃ a kvs,x = .ref a∧KDict K a kvs∧ty σ H1 fun y H2=>tx σ H2 fun z H3=>∃ k,y=kV k∧Q ((valV kvs k).getD z) H3
theorem zjm {X:Cx} {o e f:Expr} {apos cpos:Pos} {td ty tx:TE} (ho:PE X o td) (he:PE X e ty) (hf:PE X f tx) (m:M2 X o "get" apos e f cpos):PE X (.Call (.Attribute o "get" apos) [e,f] [] cpos) (tKGet2 X.K td ty tx):=by
 intro pins s σ H Q I h
 refine wpAny_Call_method m.base m.few m.line PySem.F.plainAttrs_dict PySem.F.slot_dict_get PySem.F.type_dict_get (thn (ho pins s σ H _ I h) fun u s1 ⟨x,H1,I1,rx,a,kvs,ex,⟨hsys,hkd⟩,q1⟩=>?_)
 subst ex
 obtain rfl:u=Value.ref a:=rx
 obtain ⟨vs1,_,dd1⟩:=hkd X.prog X.w s1.heap I1.kIn
 refine ⟨dd1.typeIs,fun b q=>?_,?_⟩
 ·cases q
  obtain ⟨ob,_,_,h1,h2,_⟩:=dd1
  exact ⟨ob,h1,h2.2.1⟩
 rw [m.trees]
 refine Calls.callWith_builtin rfl (Calls.evalArgs_plain (Calls.spliced_cons (thn (he pins s1 σ H1 _ I1 q1) fun iv s2 ⟨y,H2,I2,ry,q2⟩ =>
  Calls.spliced_cons (thn (hf pins s2 σ H2 _ I2 q2) fun fv s3 ⟨z,H3,I3,rz,k,ey,q3⟩=>Calls.spliced_nil ?_))))
 subst ey
 obtain ⟨vs,rel,dd⟩:=hkd X.prog X.w s3.heap I3.kIn
 refine call_meetsIn PySem.F.slot_dict_get dd.typeIs PySem.F.entry_dict_get (PySem.F.args_dict_get_3 _ _ _) (meets_dict_get_default (mixKind X.prog X.w) a (ziu ry) hsys fv) ⟨_,dd.mapOf,?_⟩
 exact ⟨_,H3,I3.tok _,(rel.val k).getD rz,q3⟩
theorem zaK {x y:Int} (h:x≠y) {A B:Prop} (b:B):if decide (V.int x=V.int y)=true then A else B:=by
 rw [dee,decide_eq_false h]
 exact iteF b
theorem za1 {x:Int} {A B:Prop} (a:A):if decide (V.int x=V.int x)=true then A else B:=by
 rw [dee,decide_eq_true rfl]
 exact iteT a
structure TxtD (K:PySem.W.Frag) (mg:Str→Option Value) (c:Cs):Prop where
 g_AUTHOR:∃ t,mg "AUTHOR"=some (.int 0 t)
 g_CLOCK:∃ t,mg "CLOCK"=some (.int 1 t)
 g_TRACK:∃ t,mg "TRACK"=some (.int 2 t)
 g_PUT:∃ t,mg "PUT"=some (.int 3 t)
 g_CUT:∃ t,mg "CUT"=some (.int 4 t)
 g_PAINT:∃ t,mg "PAINT"=some (.int 5 t)
 g_MOVE:∃ t,mg "MOVE"=some (.int 6 t)
 g_TAG:∃ t,mg "TAG"=some (.int 7 t)
 g_ACCEPT:∃ t,mg "ACCEPT"=some (.int 8 t)
 g_REJECT:∃ t,mg "REJECT"=some (.int 9 t)
 g_VIEW:∃ t,mg "VIEW"=some (.int 10 t)
 g_CHANGE:∃ t,mg "CHANGE"=some (.int 11 t)
 g_SIZE:∃ t,mg "SIZE"=some (.int 12 t)
 g_WHERE:∃ t,mg "WHERE"=some (.int 13 t)
 g_FROM_OF:∃ t,mg "FROM_OF"=some (.int 14 t)
 g_PARAGRAPH:∃ t,mg "PARAGRAPH"=some (.int 15 t)
 g_STRETCHES:∃ t,mg "STRETCHES"=some (.int 16 t)
 g_NUMBERS:mg "NUMBERS"=some (.ref c.N)
 numbers:KDict K c.N (numTab.map fun p=>(Sum.inl p.1,V.int p.2))
section
variable {P:Program} {w:World} {K:PySem.W.Frag} {mg:Str→Option Value} {base:Heap} {c:Cs}
abbrev s_answer_to_question:Stmt:=top 108
theorem zb9:FnScope ["document","call","numbers"] ["document","call","numbers"] (defScope s_answer_to_question):=⟨rfl,rfl,rfl,by decide +kernel,rfl,by decide +kernel,by decide +kernel⟩
def spAsk (K:PySem.W.Frag) (c:Cs):Sp:=fun vs H Q _=>∃ (d r ch nl:Addr) (m:Mo) (sh:List AP) (hd:List (List AP)) (k z:Nat) (p:Int) (ns:List Int) (call:Vatrka.Call),vs=[.ref d,.int p,.ref nl]∧H nl=some (.lst (ns.map V.int))∧CallIs p ns [] call∧10≤p∧Given K c H d r ch m sh hd k z 0∧Short m sh hd call∧Owes K c H d r ch m sh hd k z 0 call Q
theorem d_answer_to_question (F:FunAt K mg "answer_to_question" s_answer_to_question) (TD:TxtD K mg c) (d_view:Def P w K mg base "view" 4 ["document","w"] (spView K c)) (d_change:Def P w K mg base "change" 7 ["document","c"] (spChange K c)) (d_size:Def P w K mg base "size" 7 ["document"] (spSz K c))
  (d_where:Def P w K mg base "where" 6 ["document","p"] (spWhere K c)) (d_from_of:Def P w K mg base "from_of" 7 ["document","w","i"] (spFrom K c)) (d_paragraph:Def P w K mg base "paragraph" 1 ["document","i"] (spPara K c)) (d_stretches:Def P w K mg base "stretches" 7 ["document"] (spStretches K c)) :
  Def P w K mg base "answer_to_question" 8 ["document","call","numbers"] (spAsk K c):=by
 have sc:=zb9
 refine F.def sc (fun _ _ _ _ _ _=>ar3 fun _ _ _=>rfl) (fun vs H Q E h=>?_) (fun f cdv A outer s H vs Q E hr h=>?_)
 ·obtain ⟨d,r,ch,nl,m,sh,hd,k,z,p,ns,call,rfl,_⟩:=h
  rfl
 ·obtain ⟨d,r,ch,nl,m,sh,hd,k,z,p,ns,call,rfl,hnl,hc,hp,g,hs,o⟩:=h
  refine ⟨_,(zab (zaC (zan za6 (pv 1) (zay rfl TD.g_VIEW) (nomark _))
    (zad (zah (zap d_view (hr.mono (by decide)) rfl pass0 (zaa (pv 0) (zaa (zaE zao (pv 2) zaf (fun _ _=>rfl)) zac)))))
    zaj)
   (zab (zaC (zan za6 (pv 1) (zay rfl TD.g_CHANGE) (nomark _))
    (zad (zah (zap d_change (hr.mono (by decide)) rfl pass0 (zaa (pv 0) (zaa (zaE zao (pv 2) zaf (fun _ _=>rfl)) zac)))))
    zaj)
   (zab (zaC (zan za6 (pv 1) (zay rfl TD.g_SIZE) (nomark _))
    (zad (zah (zap d_size (hr.mono (by decide)) rfl pass0 (zaa (pv 0) zac))))
    zaj)
   (zab (zaC (zan za6 (pv 1) (zay rfl TD.g_WHERE) (nomark _))
    (zad (zah (zap d_where (hr.mono (by decide)) rfl pass0 (zaa (pv 0) (zaa (zaE zao (pv 2) zaf (fun _ _=>rfl)) zac)))))
    zaj)
   (zab (zaC (zan za6 (pv 1) (zay rfl TD.g_FROM_OF) (nomark _))
    (zad (zah (zap d_from_of (hr.mono (by decide)) rfl pass0 (zaa (pv 0) (zaa (zaE zao (pv 2) zaf (fun _ _=>rfl)) (zaa (zaE zao (pv 2) zaf (fun _ _=>rfl)) zac))))))
    zaj)
   (zab (zaC (zan za6 (pv 1) (zay rfl TD.g_PARAGRAPH) (nomark _))
    (zad (zah (zap d_paragraph (hr.mono (by decide)) rfl pass0 (zaa (pv 0) (zaa (zaE zao (pv 2) zaf (fun _ _=>rfl)) zac)))))
    zaj)
   (zab (zaC (zan za6 (pv 1) (zay rfl TD.g_STRETCHES) (nomark _))
    (zad (zah (zap d_stretches (hr.mono (by decide)) rfl pass0 (zaa (pv 0) zac))))
    zaj)
   (zad zjj)))))))),?_⟩
  cases hc with
  | author a=>omega
  | clock a=>omega
  | track a=>omega
  | put a=>omega
  | cut a b=>omega
  | paint a b e f=>omega
  | move a b e=>omega
  | tag a b e f=>omega
  | accept=>omega
  | reject=>omega
  | view a =>
   refine ⟨_,rfl,rfl,_,rfl,za1 ?_⟩
   exact ⟨_,rfl,_,rfl,nl,_,_,_,rfl,rfl,SqL.of hnl,zas (j:=0) rfl,d,r,ch,m,sh,hd,k,z,a,rfl,g,hs,o⟩
  | change a =>
   refine ⟨_,rfl,rfl,_,rfl,zaK (by decide) ?_⟩
   refine ⟨_,rfl,rfl,_,rfl,za1 ?_⟩
   exact ⟨_,rfl,_,rfl,nl,_,_,_,rfl,rfl,SqL.of hnl,zas (j:=0) rfl,d,r,ch,m,sh,hd,k,z,a,rfl,g,o⟩
  | size =>
   iterate 2 refine ⟨_,rfl,rfl,_,rfl,zaK (by decide) ?_⟩
   refine ⟨_,rfl,rfl,_,rfl,za1 ?_⟩
   exact ⟨_,rfl,d,r,ch,m,sh,hd,k,z,rfl,g,o⟩
  | place a =>
   iterate 3 refine ⟨_,rfl,rfl,_,rfl,zaK (by decide) ?_⟩
   refine ⟨_,rfl,rfl,_,rfl,za1 ?_⟩
   exact ⟨_,rfl,_,rfl,nl,_,_,_,rfl,rfl,SqL.of hnl,zas (j:=0) rfl,d,r,ch,m,sh,hd,k,z,a,rfl,g,o⟩
  | origin a b =>
   iterate 4 refine ⟨_,rfl,rfl,_,rfl,zaK (by decide) ?_⟩
   refine ⟨_,rfl,rfl,_,rfl,za1 ?_⟩
   exact ⟨_,rfl,_,rfl,nl,_,_,_,rfl,rfl,SqL.of hnl,zas (j:=0) rfl,_,rfl,nl,_,_,_,rfl,rfl,SqL.of hnl,zas (j:=1) rfl,d,r,ch,m,sh,hd,k,z,a,b,rfl,g,o⟩
  | paragraph a =>
   iterate 5 refine ⟨_,rfl,rfl,_,rfl,zaK (by decide) ?_⟩
   refine ⟨_,rfl,rfl,_,rfl,za1 ?_⟩
   exact ⟨_,rfl,_,rfl,nl,_,_,_,rfl,rfl,SqL.of hnl,zas (j:=0) rfl,d,r,ch,m,sh,hd,k,z,a,rfl,g,o⟩
  | stretches =>
   iterate 6 refine ⟨_,rfl,rfl,_,rfl,zaK (by decide) ?_⟩
   refine ⟨_,rfl,rfl,_,rfl,za1 ?_⟩
   exact ⟨_,rfl,d,r,ch,m,sh,hd,k,z,rfl,g,hs,o⟩
abbrev s_answer_to:Stmt:=top 107
theorem zfv:FnScope ["document","call","numbers","signs"] ["document","call","numbers","signs"] (defScope s_answer_to):=⟨rfl,rfl,rfl,by decide +kernel,rfl,by decide +kernel,by decide +kernel⟩
def spAnswer (K:PySem.W.Frag) (c:Cs):Sp:=fun vs H Q _=>∃ (d r ch nl sl:Addr) (m:Mo) (sh:List AP) (hd:List (List AP)) (k z:Nat) (p:Int) (ns zs:List Int) (call:Vatrka.Call),vs=[.ref d,.int p,.ref nl,.ref sl]∧H nl=some (.lst (ns.map V.int))∧H sl=some (.lst (zs.map V.int))∧CallIs p ns zs call∧zs.length≤2000 ∧
 Given K c H d r ch m sh hd k z zs.length∧Short m sh hd call∧Owes K c H d r ch m sh hd k z zs.length call Q
theorem d_answer_to (F:FunAt K mg "answer_to" s_answer_to) (TD:TxtD K mg c) (d_set_author:Def P w K mg base "set_author" 1 ["document","a"] (spAuthor K c)) (d_set_time:Def P w K mg base "set_time" 1 ["document","t"] (spTime K c)) (d_set_tracking:Def P w K mg base "set_tracking" 1 ["document","on"] (spTrack K c))
  (d_put:Def P w K mg base "put" 4 ["document","p","signs"] (spPut K c)) (d_cut:Def P w K mg base "cut" 4 ["document","p","q"] (spCut K c)) (d_paint:Def P w K mg base "paint" 3 ["document","p","q","k","v"] (spPaint K c)) (d_move:Def P w K mg base "move" 5 ["document","p","q","r"] (spMove K c))
  (d_tag:Def P w K mg base "tag" 2 ["document","p","q","t","on"] (spTag K c)) (d_accept:Def P w K mg base "accept" 8 ["document"] (spAccept K c)) (d_reject:Def P w K mg base "reject" 8 ["document"] (spReject K c)) (d_answer_to_question:Def P w K mg base "answer_to_question" 8 ["document","call","numbers"] (spAsk K c)) :
  Def P w K mg base "answer_to" 9 ["document","call","numbers","signs"] (spAnswer K c):=by
 have sc:=zfv
 refine F.def sc (fun _ _ _ _ _ _=>ar4 fun _ _ _ _=>rfl) (fun vs H Q E h=>?_) (fun f cdv A outer s H vs Q E hr h=>?_)
 ·obtain ⟨d,r,ch,nl,sl,m,sh,hd,k,z,p,ns,zs,call,rfl,_⟩:=h
  rfl
 ·obtain ⟨d,r,ch,nl,sl,m,sh,hd,k,z,p,ns,zs,call,rfl,hnl,hsl,hc,hzl,g,hs,o⟩:=h
  refine ⟨_,(zab (zaC (zan za6 (pv 1) (zay rfl TD.g_AUTHOR) (nomark _))
    (zad (zah (zap d_set_author (hr.mono (by decide)) rfl pass0 (zaa (pv 0) (zaa (zaE zao (pv 2) zaf (fun _ _=>rfl)) zac)))))
    zaj)
   (zab (zaC (zan za6 (pv 1) (zay rfl TD.g_CLOCK) (nomark _))
    (zad (zah (zap d_set_time (hr.mono (by decide)) rfl pass0 (zaa (pv 0) (zaa (zaE zao (pv 2) zaf (fun _ _=>rfl)) zac)))))
    zaj)
   (zab (zaC (zan za6 (pv 1) (zay rfl TD.g_TRACK) (nomark _))
    (zad (zah (zap d_set_tracking (hr.mono (by decide)) rfl pass0 (zaa (pv 0) (zaa (zaE zao (pv 2) zaf (fun _ _=>rfl)) zac)))))
    zaj)
   (zab (zaC (zan za6 (pv 1) (zay rfl TD.g_PUT) (nomark _))
    (zad (zah (zap d_put (hr.mono (by decide)) rfl pass0 (zaa (pv 0) (zaa (zaE zao (pv 2) zaf (fun _ _=>rfl)) (zaa (pv 3) zac))))))
    zaj)
   (zab (zaC (zan za6 (pv 1) (zay rfl TD.g_CUT) (nomark _))
    (zad (zah (zap d_cut (hr.mono (by decide)) rfl pass0 (zaa (pv 0) (zaa (zaE zao (pv 2) zaf (fun _ _=>rfl)) (zaa (zaE zao (pv 2) zaf (fun _ _=>rfl)) zac))))))
    zaj)
   (zab (zaC (zan za6 (pv 1) (zay rfl TD.g_PAINT) (nomark _))
    (zad (zah (zap d_paint (hr.mono (by decide)) rfl pass0 (zaa (pv 0) (zaa (zaE zao (pv 2) zaf (fun _ _=>rfl)) (zaa (zaE zao (pv 2) zaf (fun _ _=>rfl)) (zaa (zaE zao (pv 2) zaf (fun _ _=>rfl)) (zaa (zaE zao (pv 2) zaf (fun _ _=>rfl)) zac))))))))
    zaj)
   (zab (zaC (zan za6 (pv 1) (zay rfl TD.g_MOVE) (nomark _))
    (zad (zah (zap d_move (hr.mono (by decide)) rfl pass0 (zaa (pv 0) (zaa (zaE zao (pv 2) zaf (fun _ _=>rfl)) (zaa (zaE zao (pv 2) zaf (fun _ _=>rfl)) (zaa (zaE zao (pv 2) zaf (fun _ _=>rfl)) zac)))))))
    zaj)
   (zab (zaC (zan za6 (pv 1) (zay rfl TD.g_TAG) (nomark _))
    (zad (zah (zap d_tag (hr.mono (by decide)) rfl pass0 (zaa (pv 0) (zaa (zaE zao (pv 2) zaf (fun _ _=>rfl)) (zaa (zaE zao (pv 2) zaf (fun _ _=>rfl)) (zaa (zaE zao (pv 2) zaf (fun _ _=>rfl)) (zaa (zaE zao (pv 2) zaf (fun _ _=>rfl)) zac))))))))
    zaj)
   (zab (zaC (zan za6 (pv 1) (zay rfl TD.g_ACCEPT) (nomark _))
    (zad (zah (zap d_accept (hr.mono (by decide)) rfl pass0 (zaa (pv 0) zac))))
    zaj)
   (zab (zaC (zan za6 (pv 1) (zay rfl TD.g_REJECT) (nomark _))
    (zad (zah (zap d_reject (hr.mono (by decide)) rfl pass0 (zaa (pv 0) zac))))
    zaj)
   (zad (zah (zap d_answer_to_question (hr.mono (by decide)) rfl pass0 (zaa (pv 0) (zaa (pv 1) (zaa (pv 2) zac)))))))))))))))),?_⟩
  have ask:∀ {p:Int} {ns:List Int} {call:Vatrka.Call},H nl=some (.lst (ns.map V.int))→CallIs p ns [] call→10≤p→Given K c H d r ch m sh hd k z 0→Short m sh hd call→Owes K c H d r ch m sh hd k z 0 call Q→spAsk K c [.ref d,.int p,.ref nl] H Q E0 :=
   fun {p ns call} h1 h2 h3 h4 h5 h6=>⟨d,r,ch,nl,m,sh,hd,k,z,p,ns,call,rfl,h1,h2,h3,h4,h5,h6⟩
  cases hc with
  | author a =>
   refine ⟨_,rfl,rfl,_,rfl,za1 ?_⟩
   exact ⟨_,rfl,_,rfl,nl,_,_,_,rfl,rfl,SqL.of hnl,zas (j:=0) rfl,d,r,ch,m,sh,hd,k,z,a,rfl,g,o⟩
  | clock a =>
   refine ⟨_,rfl,rfl,_,rfl,zaK (by decide) ?_⟩
   refine ⟨_,rfl,rfl,_,rfl,za1 ?_⟩
   exact ⟨_,rfl,_,rfl,nl,_,_,_,rfl,rfl,SqL.of hnl,zas (j:=0) rfl,d,r,ch,m,sh,hd,k,z,a,rfl,g,o⟩
  | track a =>
   iterate 2 refine ⟨_,rfl,rfl,_,rfl,zaK (by decide) ?_⟩
   refine ⟨_,rfl,rfl,_,rfl,za1 ?_⟩
   exact ⟨_,rfl,_,rfl,nl,_,_,_,rfl,rfl,SqL.of hnl,zas (j:=0) rfl,d,r,ch,m,sh,hd,k,z,a,rfl,g,o⟩
  | put a =>
   iterate 3 refine ⟨_,rfl,rfl,_,rfl,zaK (by decide) ?_⟩
   refine ⟨_,rfl,rfl,_,rfl,za1 ?_⟩
   exact ⟨_,rfl,_,rfl,nl,_,_,_,rfl,rfl,SqL.of hnl,zas (j:=0) rfl,_,rfl,d,r,ch,sl,m,sh,hd,k,z,a,_,rfl,SqL.of hsl,hzl,g,o⟩
  | cut a b =>
   iterate 4 refine ⟨_,rfl,rfl,_,rfl,zaK (by decide) ?_⟩
   refine ⟨_,rfl,rfl,_,rfl,za1 ?_⟩
   exact ⟨_,rfl,_,rfl,nl,_,_,_,rfl,rfl,SqL.of hnl,zas (j:=0) rfl,_,rfl,nl,_,_,_,rfl,rfl,SqL.of hnl,zas (j:=1) rfl,d,r,ch,m,sh,hd,k,z,a,b,rfl,g,o⟩
  | paint a b e f =>
   iterate 5 refine ⟨_,rfl,rfl,_,rfl,zaK (by decide) ?_⟩
   refine ⟨_,rfl,rfl,_,rfl,za1 ?_⟩
   exact ⟨_,rfl,_,rfl,nl,_,_,_,rfl,rfl,SqL.of hnl,zas (j:=0) rfl,_,rfl,nl,_,_,_,rfl,rfl,SqL.of hnl,zas (j:=1) rfl,_,rfl,nl,_,_,_,rfl,rfl,SqL.of hnl,zas (j:=2) rfl,_,rfl,nl,_,_,_,rfl,rfl,SqL.of hnl,zas (j:=3) rfl,d,r,ch,m,sh,hd,k,z,a,b,e,f,rfl,g,o⟩
  | move a b e =>
   iterate 6 refine ⟨_,rfl,rfl,_,rfl,zaK (by decide) ?_⟩
   refine ⟨_,rfl,rfl,_,rfl,za1 ?_⟩
   exact ⟨_,rfl,_,rfl,nl,_,_,_,rfl,rfl,SqL.of hnl,zas (j:=0) rfl,_,rfl,nl,_,_,_,rfl,rfl,SqL.of hnl,zas (j:=1) rfl,_,rfl,nl,_,_,_,rfl,rfl,SqL.of hnl,zas (j:=2) rfl,d,r,ch,m,sh,hd,k,z,a,b,e,rfl,g,o⟩
  | tag a b e f =>
   iterate 7 refine ⟨_,rfl,rfl,_,rfl,zaK (by decide) ?_⟩
   refine ⟨_,rfl,rfl,_,rfl,za1 ?_⟩
   exact ⟨_,rfl,_,rfl,nl,_,_,_,rfl,rfl,SqL.of hnl,zas (j:=0) rfl,_,rfl,nl,_,_,_,rfl,rfl,SqL.of hnl,zas (j:=1) rfl,_,rfl,nl,_,_,_,rfl,rfl,SqL.of hnl,zas (j:=2) rfl,_,rfl,nl,_,_,_,rfl,rfl,SqL.of hnl,zas (j:=3) rfl,d,r,ch,m,sh,hd,k,z,a,b,e,f,rfl,g,o⟩
  | accept =>
   iterate 8 refine ⟨_,rfl,rfl,_,rfl,zaK (by decide) ?_⟩
   refine ⟨_,rfl,rfl,_,rfl,za1 ?_⟩
   exact ⟨_,rfl,d,r,ch,m,sh,hd,k,z,rfl,g,o⟩
  | reject =>
   iterate 9 refine ⟨_,rfl,rfl,_,rfl,zaK (by decide) ?_⟩
   refine ⟨_,rfl,rfl,_,rfl,za1 ?_⟩
   exact ⟨_,rfl,d,r,ch,m,sh,hd,k,z,rfl,g,o⟩
  | view a =>
   iterate 10 refine ⟨_,rfl,rfl,_,rfl,zaK (by decide) ?_⟩
   exact ⟨_,rfl,_,rfl,_,rfl,ask hnl (.view a) (by decide) g hs o⟩
  | change a =>
   iterate 10 refine ⟨_,rfl,rfl,_,rfl,zaK (by decide) ?_⟩
   exact ⟨_,rfl,_,rfl,_,rfl,ask hnl (.change a) (by decide) g hs o⟩
  | size =>
   iterate 10 refine ⟨_,rfl,rfl,_,rfl,zaK (by decide) ?_⟩
   exact ⟨_,rfl,_,rfl,_,rfl,ask hnl .size (by decide) g hs o⟩
  | place a =>
   iterate 10 refine ⟨_,rfl,rfl,_,rfl,zaK (by decide) ?_⟩
   exact ⟨_,rfl,_,rfl,_,rfl,ask hnl (.place a) (by decide) g hs o⟩
  | origin a b =>
   iterate 10 refine ⟨_,rfl,rfl,_,rfl,zaK (by decide) ?_⟩
   exact ⟨_,rfl,_,rfl,_,rfl,ask hnl (.origin a b) (by decide) g hs o⟩
  | paragraph a =>
   iterate 10 refine ⟨_,rfl,rfl,_,rfl,zaK (by decide) ?_⟩
   exact ⟨_,rfl,_,rfl,_,rfl,ask hnl (.paragraph a) (by decide) g hs o⟩
  | stretches =>
   iterate 10 refine ⟨_,rfl,rfl,_,rfl,zaK (by decide) ?_⟩
   exact ⟨_,rfl,_,rfl,_,rfl,ask hnl .stretches (by decide) g hs o⟩
abbrev s_end_of_row:Stmt:=top 106
theorem zeH:FnScope ["calls","at","end"] ["calls","at","end"] (defScope s_end_of_row):=⟨rfl,rfl,rfl,by decide +kernel,rfl,by decide +kernel,by decide +kernel⟩
def spEndRow (K:PySem.W.Frag):Sp:=fun vs H Q _=>∃ (cl:Addr) (l:List Int) (a e:Nat) (p:Int) (re:Nat),vs=[.ref cl,.int a,.int e]∧SqL K H cl (l.map V.int)∧l[a]?=some p∧(p=3→∃ n,l[e]?=some n∧(e:Int)+1+n=(re:Int))∧(p≠3→e=re)∧Q (.int (re:Int)) H
theorem d_end_of_row (F:FunAt K mg "end_of_row" s_end_of_row) (TD:TxtD K mg c):Def P w K mg base "end_of_row" 1 ["calls","at","end"] (spEndRow K):=by
 have sc:=zeH
 refine F.def sc (fun _ _ _ _ _ _=>ar3 fun _ _ _=>rfl) (fun vs H Q E h=>?_) (fun f cdv A outer s H vs Q E hr h=>?_)
 ·obtain ⟨cl,l,a,e,p,re,rfl,_⟩:=h
  rfl
 ·obtain ⟨cl,l,a,e,p,re,rfl,hl,ha,k1,k2,q⟩:=h
  refine ⟨_,(zab (zaC (zan za6 (zaE zao (pv 0) (pv 1) (fun _ _=>rfl)) (zay rfl TD.g_PUT) (nomark _))
    (zad (zah (zaH zbu (zaH zbu (pv 2) zaf) (zaE zao (pv 0) (pv 2) (fun _ _=>rfl)))))
    zaj)
   (zad (zah (pv 2)))),?_⟩
  refine ⟨_,rfl,_,rfl,cl,_,_,_,rfl,rfl,hl,zas (j:=a) (v:=V.int p) (by rw [List.getElem?_map,ha]; rfl),rfl,_,rfl,?_⟩
  by_cases h3:p=3
  ·subst h3
   obtain ⟨n,hn,hre⟩:=k1 rfl
   rw [← hre] at q
   refine za1 ?_
   exact ⟨_,rfl,_,_,rfl,rfl,_,rfl,_,rfl,cl,_,_,_,rfl,rfl,hl,zas (j:=e) (v:=V.int n) (by rw [List.getElem?_map,hn]; rfl),_,_,rfl,rfl,q⟩
  ·have he:=k2 h3
   subst he
   exact zaK h3 ⟨_,rfl,q⟩
end
def FrzL (K:PySem.W.Frag) (H:Hp) (a:Addr) (xs:List V):Prop:=(∃ o,H a=some (.frz o (.lst xs))) ∨
 ∃ (o:Obj) (its:Array Value) (n:Nat),K.lookup a=some o∧o.cls = .type "list"∧o.dict=none∧o.data = .seq its n∧its.size≤sizeLine∧Vals xs its.toList
theorem FrzL.sq {K:PySem.W.Frag} {H:Hp} {a:Addr} {xs:List V} (h:FrzL K H a xs):SqL K H a xs:=h.elim (fun ⟨o,h⟩=>.inl (.inr ⟨o,h⟩)) .inr
theorem FrzL.keep {K:PySem.W.Frag} {H H':Hp} {a:Addr} {xs:List V} {S:Addr→Prop} (h:FrzL K H a xs) (e:Ext S H H'):FrzL K H' a xs:=h.elim (fun ⟨o,h⟩=>.inl ⟨o,e.kp a _ h fun _=>trivial⟩) .inr
theorem FrzL.same {K:PySem.W.Frag} {H H':Hp} {a:Addr} {xs:List V} (h:FrzL K H a xs) (e:Same H H'):FrzL K H' a xs:=h.keep (S:=fun _=>False) e.ext
theorem zke {p:Int} {n:Nat} (h:(numTab.find? fun kv=>kv.1 == p).map (·.2)=some (n:Int)):valV (numTab.map fun q=>((Sum.inl q.1:Key),V.int q.2)) (Sum.inl p)=some (.int (n:Int)):=by
 unfold valV
 rw [List.find?_map]
 have e:((fun kv:Key×V=>decide (kv.1=Sum.inl p)) ∘ fun q:Int×Int=>((Sum.inl q.1:Key),V.int q.2))=fun kv=>kv.1 == p:=by
  funext q
  show decide ((Sum.inl q.1:Key)=Sum.inl p)=(q.1 == p)
  rw [Bool.eq_iff_iff]
  simp
 rw [e]
 cases hf:numTab.find? fun kv=>kv.1 == p with
 | none=>rw [hf] at h; cases h
 | some q =>
  rw [hf] at h
  have h:some q.2=some (n:Int):=h
  show some (V.int q.2)=_
  rw [Option.some.inj h]
theorem ziL {l:List Int} {a:Nat} {p:Int} {r:List Int} (h:l.drop a=p::r):l[a]?=some p∧a < l.length∧l.drop (a+1)=r:=by
 have h1:a < l.length:=by
  have:=congrArg List.length h
  rw [List.length_drop,List.length_cons] at this
  omega
 refine ⟨?_,h1,?_⟩
 ·have:=congrArg (fun x=>x[0]?) h
  simp only [List.getElem?_drop,List.getElem?_cons_zero,Nat.add_zero] at this
  exact this
 ·rw [← List.drop_drop,h]
  rfl
theorem zdu {l:List Int} {b n:Nat} {u v:List Int} (h:l.drop b=u++v) (hn:u.length=n):(l.take (b+n)).drop b=u:=by
 rw [List.drop_take,h,Nat.add_sub_cancel_left,← hn,List.take_left']
 rfl
section
variable {P:Program} {w:World} {K:PySem.W.Frag} {mg:Str→Option Value} {base:Heap} {c:Cs}
theorem zjd (a e:Addr):Wf 0 0 (mo0 e) [(a,lastEnd)] [[]]:=by
 refine ⟨⟨rfl,?_,?_⟩,?_,?_,⟨_,rfl,rfl,rfl⟩,Nat.le_refl _,Nat.le_refl _,Nat.le_refl _,?_⟩
 ·intro x hx
  rw [List.mem_singleton.mp hx]
  rfl
 ·intro h hh x hx
  rw [List.mem_singleton.mp hh] at hx
  cases hx
 ·simp [all]
 ·intro p hp
  have hp:p∈[(a,lastEnd)]:=by simpa [all] using hp
  rw [List.mem_singleton.mp hp]
  exact ⟨rfl,(fun i hi=>by cases hi),(fun i hi=>by cases hi),(fun i hi=>by cases hi),Nat.zero_le _,Nat.zero_le _,Nat.zero_le _,.nil,fun t ht=>by cases ht⟩
 ·exact Nat.le_trans (zgu _) (Nat.le_refl _)
abbrev s_answers_on:Stmt:=top 105
theorem zeI:FnScope ["document","calls","given","at","begin","end","row_end","answer"] ["document","calls"] (defScope s_answers_on):=⟨rfl,rfl,rfl,by decide +kernel,rfl,by decide +kernel,by decide +kernel⟩
abbrev allTold (s:Vatrka.State) (cs:List (List (List Int))):List Int:=PyFlat.told (PyFlat.played VatrkaNeutral.step s cs)
def spOn (K:PySem.W.Frag) (c:Cs):Sp:=fun vs H Q _=>∃ (d r ch a cl:Addr) (l:List Int) (cs:List (List (List Int))),vs=[.ref d,.ref cl]∧FrzL K H cl (l.map V.int)∧(∀ e,H e=none→Full K c H d (mo0 e) r ch [(a,lastEnd)] [[]])∧l.length≤17000∧PyFlat.calls PyVatrka.shape l.length l=some cs∧(∀ cc∈cs,VatrkaNeutral.asked1 cc=true)∧cs.length≤400∧(allTold VatrkaNeutral.start cs).length≤10000000 ∧
 ∀ H' p,H' p=some (.lst ((allTold VatrkaNeutral.start cs).map V.int))→Q (.ref p) H'
theorem d_answers_on (F:FunAt K mg "answers_on" s_answers_on) (T:Txt K mg c) (TD:TxtD K mg c) (d_end_of_row:Def P w K mg base "end_of_row" 1 ["calls","at","end"] (spEndRow K)) (d_answer_to:Def P w K mg base "answer_to" 9 ["document","call","numbers","signs"] (spAnswer K c)) :
  Def P w K mg base "answers_on" 10 ["document","calls"] (spOn K c):=by
 have sc:=zeI
 refine F.def sc (fun _ _ _ _ _ _=>ar2 fun _ _=>rfl) (fun vs H Q E h=>?_) (fun f cdv A outer s H vs Q E hr h=>?_)
 ·obtain ⟨d,r,ch,a,cl,l,cs,rfl,_⟩:=h
  rfl
 ·obtain ⟨d,r,ch,a,cl,l,cs,rfl,hcl,hF,hll,hcs,hask,hcl4,htot,k⟩:=h
  have hsl:sizeLine=16777216:=sizeLine_eq
  refine ⟨_,(zab (zar (i:=2) sc.nd rfl (by first | exact Or.inl rfl | exact Or.inr rfl) (zal zac))
   (zab (zar (i:=3) sc.nd rfl (by first | exact Or.inl rfl | exact Or.inr rfl) zaf)
   (zab (zeM PassesOwn.never (zan zcY (pv 3) (zax zak rfl T.b_len PySem.boot_len (zaa (pv 1) zac)) (nomark _))
    (zab (zar (i:=4) sc.nd rfl (by first | exact Or.inl rfl | exact Or.inr rfl) (zaH zbu (pv 3) zaf))
    (zab (zar (i:=5) sc.nd rfl (by first | exact Or.inl rfl | exact Or.inr rfl) (zaH zbu (pv 4) (zjm (zeS (v:=.ref c.N) rfl TD.g_NUMBERS rfl) (zaE zao (pv 1) (pv 3) (fun _ _=>rfl)) zaf ⟨rfl,rfl,rfl,rfl⟩)))
    (zab (zar (i:=6) sc.nd rfl (by first | exact Or.inl rfl | exact Or.inr rfl) (zap d_end_of_row (hr.mono (by decide)) rfl pass0 (zaa (pv 1) (zaa (pv 3) (zaa (pv 5) zac)))))
    (zab (zar (i:=7) sc.nd rfl (by first | exact Or.inl rfl | exact Or.inr rfl) (zap d_answer_to (hr.mono (by decide)) rfl pass0 (zaa (pv 0) (zaa (zaE zao (pv 1) (pv 3) (fun _ _=>rfl)) (zaa (zaP zaV (pv 1) (zaI (pv 4)) (zaI (pv 5))) (zaa (zaP zaV (pv 1) (zaI (zaH zbu (pv 5) zaf)) (zaI (pv 6))) zac))))))
    (zab (zaq (zba PySem.F.plainAttrs_list PySem.F.slot_list_append PySem.F.type_list_append zbd (pv 2) (zaa (zax zak rfl T.b_len PySem.boot_len (zaa (pv 7) zac)) zac)))
    (zab (zaq (zba PySem.F.plainAttrs_list PySem.F.slot_list_extend PySem.F.type_list_extend zbh (pv 2) (zaa (pv 7) zac)))
    (zad (zar (i:=3) sc.nd rfl (by first | exact Or.inl rfl | exact Or.inr rfl) (pv 6))))))))))
   (zad (zah (pv 2)))))),?_⟩
  refine ⟨Nat.zero_le _,fun gv H1 s1 ngv ggv=>?_⟩
  have hF:=hF gv ngv
  have chgv:ch≠gv:=by
   obtain ⟨o',h'⟩:=hF.chl
   exact zag h' ngv
  let Pv:Nat→L2.St→Hp→Prop:=fun n σ H'=>∃ (at_ kk z f:Nat) (m:Mo) (sh:List AP) (hd:List (List AP)) (given:List Int) (cs':List (List (List Int))) (v4 v5 v6 v7:Option V),
   σ=[some (.ref d),some (.ref cl),some (.ref gv),some (.int (at_:Int)),v4,v5,v6,v7]∧FrzL K H' cl (l.map V.int)∧Full K c H' d m r ch sh hd∧Wf kk z m sh hd∧m.ex=gv∧H' gv=some (.lst (given.map V.int)) ∧
   PyFlat.calls PyVatrka.shape f (l.drop at_)=some cs'∧(∀ cc∈cs',VatrkaNeutral.asked1 cc=true)∧kk+cs'.length≤400∧z≤at_∧at_≤l.length∧allTold VatrkaNeutral.start cs=given++allTold (st m sh hd) cs'∧n=l.length - at_
  refine ⟨Pv,⟨_,0,0,0,l.length,mo0 gv,[(a,lastEnd)],[[]],[],cs,none,none,none,none,rfl,hcl.same s1,hF.same s1,zjd a gv,rfl,ggv,hcs,hask,by omega,Nat.le_refl _,Nat.zero_le _,rfl,rfl⟩,?_⟩
  rintro n σ H2 ⟨at_,kk,z,ff,m,sh,hd,given,cs',v4,v5,v6,v7,rfl,hcl2,hF2,hwf,hex,hgv,hcs',hask',hk4,hzat,hatl,hgo,rfl⟩
  have hlen:((l.map V.int).length:Int)=(l.length:Int):=by rw [List.length_map]
  refine ⟨_,rfl,_,rfl,cl,_,rfl,.inl hcl2.sq,_,_,rfl,rfl,_,rfl,?_⟩
  dsimp only
  rw [hlen]
  by_cases hlt:at_ < l.length
  case neg =>
   have ea:at_=l.length:=by omega
   rw [decide_eq_false (show ¬ ((at_:Nat):Int) < ((l.length:Nat):Int) by omega)]
   refine iteF ?_
   rw [ea,List.drop_length] at hcs'
   have:=ziV hcs'
   subst this
   have hgo:allTold VatrkaNeutral.start cs=given:=by rw [hgo]; show given++[]=given; rw [List.append_nil]
   refine ⟨_,rfl,k H2 gv ?_⟩
   rw [hgo]
   exact hgv
  rw [decide_eq_true (show ((at_:Nat):Int) < ((l.length:Nat):Int) by omega)]
  refine iteT ?_
  obtain ⟨p,rest,hpr⟩:∃ p rest,l.drop at_=p::rest:=by
   cases e:l.drop at_ with
   | nil =>
    have:=congrArg List.length e
    rw [List.length_drop,List.length_nil] at this
    omega
   | cons p rest=>exact ⟨p,rest,rfl⟩
  obtain ⟨hp,_,hrest⟩:=ziL hpr
  rw [hpr] at hcs'
  obtain ⟨f',cc,t,cs'',hcall,hcs'',rfl⟩:=zhn hcs'
  obtain ⟨ns,zs,call,hci,hco,hzl,hlay,hnum⟩:=ziX hcall (hask' cc List.mem_cons_self)
  have hpat:atI (l.map V.int) ((at_:Nat):Int)=some (V.int p):=zas (j:=at_) (by rw [List.getElem?_map,hp]; rfl)
  have hgo:allTold VatrkaNeutral.start cs=given++(((VatrkaNeutral.encode (Vatrka.step (st m sh hd) call).2).length:Int)::VatrkaNeutral.encode (Vatrka.step (st m sh hd) call).2++allTold (Vatrka.step (st m sh hd) call).1 cs''):=hgo.trans (congrArg (fun x=>given++x) (zhy hco))
  rw [List.length_cons] at hk4
  have hnl:(rest.length:Nat)=l.length - (at_+1):=by rw [← hrest,List.length_drop]
  have htotal:=congrArg List.length hgo
  rw [List.length_append,List.length_append,List.length_cons] at htotal
  refine ⟨fun σ' H'=>∃ m',m' < l.length - at_∧Pv m' σ' H',fun σ' H' z=>z,?_⟩
  refine ⟨_,rfl,_,_,rfl,rfl,?_⟩
  refine ⟨_,rfl,c.N,_,rfl,TD.numbers,_,rfl,_,rfl,cl,_,_,_,rfl,rfl,hcl2.sq,hpat,Sum.inl p,rfl,?_⟩
  rw [zke hnum]
  refine ⟨_,_,rfl,rfl,?_⟩
  have eE:(((at_:Nat):Int)+1+((ns.length:Nat):Int))=((at_+1+ns.length:Nat):Int):=by omega
  have eB:(((at_:Nat):Int)+1)=((at_+1:Nat):Int):=by omega
  have eE1:(((at_+1+ns.length:Nat):Int)+1)=((at_+1+ns.length+1:Nat):Int):=by omega
  dsimp only
  rw [eE,eB]
  obtain ⟨re,hre1,hre2,hre3,hsl1,hsl2⟩:∃ re:Nat,(p=3→∃ n,l[at_+1+ns.length]?=some n∧((at_+1+ns.length:Nat):Int)+1+n=(re:Int))∧(p≠3→at_+1+ns.length=re)∧(l.drop re=t∧at_ < re∧re≤l.length∧at_+zs.length≤re) ∧
    (l.take (at_+1+ns.length)).drop (at_+1)=ns∧(l.take re).drop (at_+1+ns.length+1)=zs:=by
   rcases hlay with ⟨h3,hr⟩ | ⟨h3,hz0,hr⟩
   ·have hd1:l.drop (at_+1)=ns++((zs.length:Int)::(zs++t)):=by rw [hrest,hr]
    have hd2:l.drop (at_+1+ns.length)=(zs.length:Int)::(zs++t):=by rw [← List.drop_drop,hd1,List.drop_left']; rfl
    obtain ⟨g1,g2,g3⟩:=ziL hd2
    have hd4:l.drop (at_+1+ns.length+1+zs.length)=t:=by rw [← List.drop_drop,g3,List.drop_left']; rfl
    have hl4:=congrArg List.length g3
    rw [List.length_drop,List.length_append] at hl4
    refine ⟨at_+1+ns.length+1+zs.length,fun _=>⟨_,g1,by omega⟩,fun z=>absurd h3 z,⟨hd4,by omega,by omega,by omega⟩,zdu hd1 rfl,zdu g3 rfl⟩
   ·have hd1:l.drop (at_+1)=ns++t:=by rw [hrest,hr]
    have hd2:l.drop (at_+1+ns.length)=t:=by rw [← List.drop_drop,hd1,List.drop_left']; rfl
    have hl4:=congrArg List.length hd1
    rw [List.length_drop,List.length_append] at hl4
    refine ⟨at_+1+ns.length,fun z=>absurd z h3,fun _=>rfl,⟨hd2,by omega,by omega,by rw [hz0]; show at_+0≤_; omega⟩,zdu hd1 rfl,?_⟩
    rw [hz0]
    exact List.drop_of_length_le (by rw [List.length_take]; omega)
  obtain ⟨hrt,hatre,hrel,hzre⟩:=hre3
  refine ⟨_,rfl,_,rfl,_,rfl,cl,l,at_,at_+1+ns.length,p,re,rfl,hcl2.sq,hp,hre1,hre2,?_⟩
  refine ⟨_,rfl,_,rfl,_,rfl,cl,_,_,_,rfl,rfl,hcl2.sq,hpat,_,rfl,_,rfl,_,rfl,_,rfl,_,rfl,cl,_,rfl,hcl2.sq,fun nl H3 s3 n3 h3=>?_⟩
  have h3:H3 nl=some (.lst (ns.map V.int)):=by
   rw [zcA,← List.map_take,← List.map_drop,hsl1] at h3
   exact h3
  refine ⟨_,rfl,_,rfl,_,_,rfl,rfl,_,rfl,_,rfl,_,rfl,cl,_,rfl,(hcl2.same s3).sq,fun sl H4 s4 n4 h4=>?_⟩
  have h4:H4 sl=some (.lst (zs.map V.int)):=by
   rw [eE1,zcA,← List.map_take,← List.map_drop,hsl2] at h4
   exact h4
  have s24:=s3.trans s4
  have hF4:=hF2.same s24
  have hgv4:=s24 _ _ hgv
  have hcl4':=hcl2.same s24
  have hans:(VatrkaNeutral.encode (Vatrka.step (st m sh hd) call).2).length≤10000000:=by omega
  refine ⟨d,r,ch,nl,sl,m,sh,hd,kk,z,p,ns,zs,call,rfl,s4 _ _ h3,h4,hci,hzl,⟨hF4,hwf,by omega,⟨_,by rw [hex]; exact hgv4⟩,by omega⟩,hans,?_⟩
  intro H5 al m' sh' hd' e5 nal hal hF5 hex5 hst hwf5
  have gvF:¬ Foot H4 d r ch sh hd gv:=by
   rintro ((z | ⟨x,t,z⟩) | z | z | ⟨x,hx,z⟩)
   ·obtain ⟨dx,es,hD⟩:=hF4.doc
    rw [z,hD.obj] at hgv4
    cases hgv4
   ·rw [hgv4] at z
    have z:=Option.some.inj z
    injection z with z
    cases hg:given with
    | nil=>rw [hg] at z; cases z
    | cons b bs=>rw [hg] at z; injection z with z; cases z
   ·obtain ⟨dr,sA,hA,gs,hR⟩:=hF4.row
    rw [z,hR.obj] at hgv4
    cases hgv4
   ·exact chgv z.symm
   ·obtain ⟨dxp,lk,sn,it,dt,pt,Tg,hp'⟩:=hF4.pcs x hx
    rw [z,hp'.obj] at hgv4
    cases hgv4
  have hgv5:=e5.at hgv4 gvF
  have hcl5:=hcl4'.keep e5
  have algv:al≠gv:=fun z=>by rw [z,hgv4] at nal; cases nal
  have hanslen:(ansV (Vatrka.step (st m sh hd) call).2).length=(VatrkaNeutral.encode (Vatrka.step (st m sh hd) call).2).length:=by
   unfold ansV
   rw [List.length_map]
  refine ⟨_,rfl,.inl ⟨rfl,_,SqL.of hgv5⟩,_,rfl,al,_,rfl,.inl (SqL.of hal),gv,_,_,rfl,rfl,hgv5,?_,fun H6 e6 h6=>?_⟩
  ·rw [List.length_map]
   omega
  have hal6:=e6.at hal algv
  refine ⟨_,rfl,.inl ⟨rfl,_,SqL.of h6⟩,_,rfl,gv,al,_,_,rfl,rfl,h6,.inl hal6,?_,fun H7 e7 h7=>?_⟩
  ·rw [List.length_append,List.length_map,hanslen]
   show _+1+_≤_
   omega
  have e57:Ext (·=gv) H5 H7:=e6.trans e7
  have hF7:Full K c H7 d m' r ch sh' hd':=by
   have dgv:d≠gv:=fun z=>by
    obtain ⟨dx,es,hD⟩:=hF5.doc
    rw [← z,hD.obj] at hgv5
    cases hgv5
   have rgv:r≠gv:=fun z=>by
    obtain ⟨dr,sA,hA,gs,hR⟩:=hF5.row
    rw [← z,hR.obj] at hgv5
    cases hgv5
   refine ⟨hF5.doc.keep e57 dgv chgv,hF5.row.keep e57 rgv (fun b z=>.inl (.inr (by rw [hex5,hex]; exact z))),hF5.pcs.keep e57 fun x hx z=>?_⟩
   obtain ⟨dxp,lk,sn,it,dt,pt,Tg,hp'⟩:=hF5.pcs x hx
   have z:x.1=gv:=z
   rw [← z,hp'.obj] at hgv5
   cases hgv5
  refine ⟨_,rfl,l.length - re,by omega,re,kk+1,z+zs.length,f',m',sh',hd',given++(((VatrkaNeutral.encode (Vatrka.step (st m sh hd) call).2).length:Int)::VatrkaNeutral.encode (Vatrka.step (st m sh hd) call).2),cs'',_,_,_,_,rfl,hcl5.keep e57,hF7,hwf5,hex5.trans hex,?_,by rw [hrt]; exact hcs'',(fun x hx=>hask' x (List.mem_cons_of_mem _ hx)),by omega,by omega,hrel,?_,rfl⟩
  ·rw [h7,hanslen,List.map_append]
   unfold ansV
   rw [List.append_assoc]
   rfl
  ·rw [hgo,hst]
   simp only [List.append_assoc]
end
structure FunsAt (K:PySem.W.Frag) (mg:Str→Option Value) (c:Cs):Prop where
 f_is_sign:FunAt K mg "is_sign" s_is_sign
 f_look_with:FunAt K mg "look_with" s_look_with
 f_is_marked:FunAt K mg "is_marked" s_is_marked
 f_settle:FunAt K mg "settle" s_settle
 f_add_pending:FunAt K mg "add_pending" s_add_pending
 f_paint_over:FunAt K mg "paint_over" s_paint_over
 f_has_same_marks:FunAt K mg "has_same_marks" s_has_same_marks
 f_copy_with:FunAt K mg "copy_with" s_copy_with
 f_is_shown:FunAt K mg "is_shown" s_is_shown
 f_is_original:FunAt K mg "is_original" s_is_original
 f_restore:FunAt K mg "restore" s_restore
 f_stand_before:FunAt K mg "stand_before" s_stand_before
 f_hide_behind:FunAt K mg "hide_behind" s_hide_behind
 f_take_out:FunAt K mg "take_out" s_take_out
 f_size_of:FunAt K mg "size_of" s_size_of
 f_next_change:FunAt K mg "next_change" s_next_change
 f_enter_change:FunAt K mg "enter_change" s_enter_change
 f_is_own:FunAt K mg "is_own" s_is_own
 f_is_untracked:FunAt K mg "is_untracked" s_is_untracked
 f_set_author:FunAt K mg "set_author" s_set_author
 f_set_time:FunAt K mg "set_time" s_set_time
 f_set_tracking:FunAt K mg "set_tracking" s_set_tracking
 f_shared_tags:FunAt K mg "shared_tags" s_shared_tags
 f_look_for_letters:FunAt K mg "look_for_letters" s_look_for_letters
 f_look_for_ends:FunAt K mg "look_for_ends" s_look_for_ends
 f_new_pieces:FunAt K mg "new_pieces" s_new_pieces
 f_mark_put:FunAt K mg "mark_put" s_mark_put
 f_put:FunAt K mg "put" s_put
 f_cut:FunAt K mg "cut" s_cut
 f_paint:FunAt K mg "paint" s_paint
 f_lengthened:FunAt K mg "lengthened" s_lengthened
 f_pieces_that_come:FunAt K mg "pieces_that_come" s_pieces_that_come
 f_move:FunAt K mg "move" s_move
 f_add_to_runs:FunAt K mg "add_to_runs" s_add_to_runs
 f_add_hidden_to_runs:FunAt K mg "add_hidden_to_runs" s_add_hidden_to_runs
 f_runs_before:FunAt K mg "runs_before" s_runs_before
 f_all_runs:FunAt K mg "all_runs" s_all_runs
 f_count_marked:FunAt K mg "count_marked" s_count_marked
 f_all_pieces:FunAt K mg "all_pieces" s_all_pieces
 f_original_pieces:FunAt K mg "original_pieces" s_original_pieces
 f_listed_marks:FunAt K mg "listed_marks" s_listed_marks
 f_fill_with:FunAt K mg "fill_with" s_fill_with
 f_accept:FunAt K mg "accept" s_accept
 f_reject:FunAt K mg "reject" s_reject
 f_tag_pieces:FunAt K mg "tag_pieces" s_tag_pieces
 f_tag:FunAt K mg "tag" s_tag
 f_count_all:FunAt K mg "count_all" s_count_all
 f_count_original:FunAt K mg "count_original" s_count_original
 f_size:FunAt K mg "size" s_size
 f_where:FunAt K mg "where" s_where
 f_from_of:FunAt K mg "from_of" s_from_of
 f_paragraph:FunAt K mg "paragraph" s_paragraph
 f_stretches:FunAt K mg "stretches" s_stretches
 f_change:FunAt K mg "change" s_change
 f_bits_of:FunAt K mg "bits_of" s_bits_of
 f_listed_tags:FunAt K mg "listed_tags" s_listed_tags
 f_view_of_all:FunAt K mg "view_of_all" s_view_of_all
 f_view_of_text:FunAt K mg "view_of_text" s_view_of_text
 f_view:FunAt K mg "view" s_view
 f_answer_to_question:FunAt K mg "answer_to_question" s_answer_to_question
 f_answer_to:FunAt K mg "answer_to" s_answer_to
 f_end_of_row:FunAt K mg "end_of_row" s_end_of_row
 f_answers_on:FunAt K mg "answers_on" s_answers_on
 i_Piece:InitAt K mg "Piece" "Piece.__init__" c.P s_Piece_init
 i_Run:InitAt K mg "Run" "Run.__init__" c.S s_Run_init
 i_Row:InitAt K mg "Row" "Row.__init__" c.R s_Row_init
 i_Document:InitAt K mg "Document" "Document.__init__" c.D s_Document_init
section
variable {P:Program} {w:World} {K:PySem.W.Frag} {mg:Str→Option Value} {base:Heap} {c:Cs}
theorem zjH (A:FunsAt K mg c) (T:Txt K mg c) (TK:TxtK mg) (TQ:TxtQ mg) (TD:TxtD K mg c):Def P w K mg base "answers_on" 10 ["document","calls"] (spOn K c)∧NewDef P w K mg base "Document" c.D 5 ["self"] (spDocNew K c):=by
 have d_Piece:NewDef P w K mg base "Piece" c.P 1 ["self","sign","look","tags"] (spPiece K c.P):=Tt.d_Piece A.i_Piece T
 have d_is_sign:Def P w K mg base "is_sign" 1 ["number"] spIsSign:=Tt.d_is_sign A.f_is_sign T
 have d_look_with:Def P w K mg base "look_with" 1 ["look","k","v"] (spLookWith K):=Tt.d_look_with A.f_look_with T
 have d_is_marked:Def P w K mg base "is_marked" 1 ["piece"] (spIsMarked K c.P):=Tt.d_is_marked A.f_is_marked T
 have d_settle:Def P w K mg base "settle" 1 ["piece"] (spSettle K c.P):=Tt.d_settle A.f_settle T
 have d_add_pending:Def P w K mg base "add_pending" 2 ["piece","entry"] (spAddPending K c.P):=Tt.d_add_pending A.f_add_pending T d_look_with
 have d_paint_over:Def P w K mg base "paint_over" 2 ["piece","k","v"] (spPaintOver K c.P):=Tt.d_paint_over A.f_paint_over T d_look_with
 have d_has_same_marks:Def P w K mg base "has_same_marks" 1 ["piece","other"] (spSameMarks K c.P):=Tt.d_has_same_marks A.f_has_same_marks T
 have d_copy_with:Def P w K mg base "copy_with" 3 ["piece","insertions"] (spCopy K c.P):=Tt.d_copy_with A.f_copy_with T d_Piece
 have d_is_shown:Def P w K mg base "is_shown" 1 ["piece"] (spIsShown K c.P):=Tt.d_is_shown A.f_is_shown T
 have d_is_original:Def P w K mg base "is_original" 1 ["piece"] (spIsOrig K c.P):=Tt.d_is_original A.f_is_original T
 have d_restore:Def P w K mg base "restore" 1 ["piece"] (spRestore K c.P):=Tt.d_restore A.f_restore T
 have d_stand_before:Def P w K mg base "stand_before" 1 ["row","p","pieces"] (spStand c):=Tt.d_stand_before A.f_stand_before T
 have d_hide_behind:Def P w K mg base "hide_behind" 2 ["hidden","piece"] (spHide K c):=Tt.d_hide_behind A.f_hide_behind T d_has_same_marks
 have d_take_out:Def P w K mg base "take_out" 3 ["row","p","q"] (spTake K c):=Tt.d_take_out A.f_take_out T d_hide_behind
 have d_size_of:Def P w K mg base "size_of" 1 ["document"] (spSize c):=Tt.d_size_of A.f_size_of T
 have d_next_change:Def P w K mg base "next_change" 1 ["document"] (spNext c):=Tt.d_next_change A.f_next_change T
 have d_enter_change:Def P w K mg base "enter_change" 1 ["document","kind","bearers"] (spEnter c):=Tt.d_enter_change A.f_enter_change T
 have d_is_own:Def P w K mg base "is_own" 1 ["document","piece"] (spOwn K c):=Tt.d_is_own A.f_is_own T
 have d_is_untracked:Def P w K mg base "is_untracked" 2 ["document","piece"] (spUntracked K c):=Tt.d_is_untracked A.f_is_untracked T d_is_own
 have d_set_author:Def P w K mg base "set_author" 1 ["document","a"] (spAuthor K c):=Tt.d_set_author A.f_set_author T
 have d_set_time:Def P w K mg base "set_time" 1 ["document","t"] (spTime K c):=Tt.d_set_time A.f_set_time T
 have d_set_tracking:Def P w K mg base "set_tracking" 1 ["document","on"] (spTrack K c):=Tt.d_set_tracking A.f_set_tracking T
 have d_shared_tags:Def P w K mg base "shared_tags" 1 ["shown","p"] (spShared K c):=Tt.d_shared_tags A.f_shared_tags T
 have d_look_for_letters:Def P w K mg base "look_for_letters" 1 ["shown","p"] (spLetters K c):=Tt.d_look_for_letters A.f_look_for_letters T
 have d_look_for_ends:Def P w K mg base "look_for_ends" 1 ["shown","p"] (spEnds K c):=Tt.d_look_for_ends A.f_look_for_ends T
 have d_new_pieces:Def P w K mg base "new_pieces" 3 ["shown","p","signs"] (spNewPieces K c):=Tt.d_new_pieces A.f_new_pieces T d_Piece d_shared_tags d_look_for_letters d_look_for_ends
 have d_mark_put:Def P w K mg base "mark_put" 1 ["pieces","change"] (spMarkPut K c):=Tt.d_mark_put A.f_mark_put T
 have d_put:Def P w K mg base "put" 4 ["document","p","signs"] (spPut K c):=Tt.d_put A.f_put T TK d_size_of d_is_sign d_new_pieces d_mark_put d_next_change d_stand_before d_enter_change
 have d_cut:Def P w K mg base "cut" 4 ["document","p","q"] (spCut K c):=Tt.d_cut A.f_cut T TK d_size_of d_next_change d_is_untracked d_take_out d_enter_change
 have d_paint:Def P w K mg base "paint" 3 ["document","p","q","k","v"] (spPaint K c):=Tt.d_paint A.f_paint T TK d_size_of d_next_change d_is_untracked d_paint_over d_add_pending d_enter_change
 have d_lengthened:Def P w K mg base "lengthened" 1 ["longer","insertions","change"] spLonger:=Tt.d_lengthened A.f_lengthened
 have d_pieces_that_come:Def P w K mg base "pieces_that_come" 4 ["stretch","untracked","change"] (spCome K c):=Tt.d_pieces_that_come A.f_pieces_that_come T d_copy_with d_lengthened
 have d_move:Def P w K mg base "move" 5 ["document","p","q","r"] (spMove K c):=Tt.d_move A.f_move T TK d_size_of d_next_change d_is_untracked d_pieces_that_come d_take_out d_stand_before d_enter_change
 have d_Run:NewDef P w K mg base "Run" c.S 1 ["self","piece","length"] (spRun c):=Tt.d_Run A.i_Run T
 have d_add_to_runs:Def P w K mg base "add_to_runs" 3 ["runs","piece","length"] (spAddTo K c):=Tt.d_add_to_runs A.f_add_to_runs T d_has_same_marks d_Run
 have d_add_hidden_to_runs:Def P w K mg base "add_hidden_to_runs" 4 ["runs","hidden"] (spAddHid K c):=Tt.d_add_hidden_to_runs A.f_add_hidden_to_runs T d_add_to_runs
 have d_runs_before:Def P w K mg base "runs_before" 5 ["row","p"] (spBefore K c):=Tt.d_runs_before A.f_runs_before T d_add_hidden_to_runs d_add_to_runs
 have d_all_runs:Def P w K mg base "all_runs" 6 ["row"] (spAllRuns K c):=Tt.d_all_runs A.f_all_runs T d_runs_before d_add_to_runs
 have d_count_marked:Def P w K mg base "count_marked" 7 ["row"] (spCount K c):=Tt.d_count_marked A.f_count_marked T d_all_runs d_is_marked
 have d_all_pieces:Def P w K mg base "all_pieces" 1 ["row"] (spAll c):=Tt.d_all_pieces A.f_all_pieces T
 have d_original_pieces:Def P w K mg base "original_pieces" 2 ["row"] (spOrigs K c):=Tt.d_original_pieces A.f_original_pieces T d_is_original
 have d_listed_marks:Def P w K mg base "listed_marks" 1 ["piece"] (spListed K c.P):=Tt.d_listed_marks A.f_listed_marks T
 have d_fill_with:Def P w K mg base "fill_with" 1 ["row","pieces"] (spFill c):=Tt.d_fill_with A.f_fill_with T
 have d_accept:Def P w K mg base "accept" 8 ["document"] (spAccept K c):=Tt.d_accept A.f_accept T d_count_marked d_fill_with d_settle
 have d_reject:Def P w K mg base "reject" 8 ["document"] (spReject K c):=Tt.d_reject A.f_reject T d_count_marked d_original_pieces d_fill_with d_restore
 have d_Row:NewDef P w K mg base "Row" c.R 3 ["self"] (spRowNew K c):=Tt.d_Row A.i_Row T d_Piece
 have d_Document:NewDef P w K mg base "Document" c.D 5 ["self"] (spDocNew K c):=Tt.d_Document A.i_Document T d_Row
 have d_tag_pieces:Def P w K mg base "tag_pieces" 1 ["pieces","t","on"] (spTagP K c):=Tt.d_tag_pieces A.f_tag_pieces T
 have d_tag:Def P w K mg base "tag" 2 ["document","p","q","t","on"] (spTag K c):=Tt.d_tag A.f_tag T d_size_of d_tag_pieces
 have d_count_all:Def P w K mg base "count_all" 1 ["runs"] (spCountAll c):=Tt.d_count_all A.f_count_all T
 have d_count_original:Def P w K mg base "count_original" 2 ["runs"] (spCountOrig K c):=Tt.d_count_original A.f_count_original T d_is_original
 have d_size:Def P w K mg base "size" 7 ["document"] (spSz K c):=Tt.d_size A.f_size T d_all_runs d_size_of d_count_all d_count_original
 have d_where:Def P w K mg base "where" 6 ["document","p"] (spWhere K c):=Tt.d_where A.f_where T d_runs_before d_size_of d_count_all d_count_original
 have d_from_of:Def P w K mg base "from_of" 7 ["document","w","i"] (spFrom K c):=Tt.d_from_of A.f_from_of T TQ d_all_runs d_is_original d_is_shown
 have d_paragraph:Def P w K mg base "paragraph" 1 ["document","i"] (spPara K c):=Tt.d_paragraph A.f_paragraph T
 have d_stretches:Def P w K mg base "stretches" 7 ["document"] (spStretches K c):=Tt.d_stretches A.f_stretches T d_all_runs d_is_marked d_listed_marks
 have d_change:Def P w K mg base "change" 7 ["document","c"] (spChange K c):=Tt.d_change A.f_change T d_all_runs
 have d_bits_of:Def P w K mg base "bits_of" 1 ["tags"] spBits:=Tt.d_bits_of A.f_bits_of
 have d_listed_tags:Def P w K mg base "listed_tags" 2 ["known","tags"] spTags:=Tt.d_listed_tags A.f_listed_tags T d_bits_of
 have d_view_of_all:Def P w K mg base "view_of_all" 3 ["pieces"] (spViewAll K c):=Tt.d_view_of_all A.f_view_of_all T d_listed_marks d_listed_tags
 have d_view_of_text:Def P w K mg base "view_of_text" 3 ["pieces","looks"] (spViewText K c):=Tt.d_view_of_text A.f_view_of_text T d_listed_tags
 have d_view:Def P w K mg base "view" 4 ["document","w"] (spView K c):=Tt.d_view A.f_view T TQ d_all_pieces d_original_pieces d_view_of_all d_view_of_text
 have d_answer_to_question:Def P w K mg base "answer_to_question" 8 ["document","call","numbers"] (spAsk K c):=Tt.d_answer_to_question A.f_answer_to_question TD d_view d_change d_size d_where d_from_of d_paragraph d_stretches
 have d_answer_to:Def P w K mg base "answer_to" 9 ["document","call","numbers","signs"] (spAnswer K c):=Tt.d_answer_to A.f_answer_to TD d_set_author d_set_time d_set_tracking d_put d_cut d_paint d_move d_tag d_accept d_reject d_answer_to_question
 have d_end_of_row:Def P w K mg base "end_of_row" 1 ["calls","at","end"] (spEndRow K):=Tt.d_end_of_row A.f_end_of_row TD
 have d_answers_on:Def P w K mg base "answers_on" 10 ["document","calls"] (spOn K c):=Tt.d_answers_on A.f_answers_on T TD d_end_of_row d_answer_to
 exact ⟨d_answers_on,d_Document⟩
abbrev s_answers:Stmt:=top 104
theorem zg7:FnScope ["calls"] ["calls"] (defScope s_answers):=⟨rfl,rfl,rfl,by decide +kernel,rfl,by decide +kernel,by decide +kernel⟩
def spAnswers (K:PySem.W.Frag):Sp:=fun vs H Q _=>∃ (cl:Addr) (l:List Int) (cs:List (List (List Int))),vs=[.ref cl]∧FrzL K H cl (l.map V.int)∧l.length≤17000∧PyFlat.calls PyVatrka.shape l.length l=some cs∧(∀ cc∈cs,VatrkaNeutral.asked1 cc=true)∧cs.length≤400∧(allTold VatrkaNeutral.start cs).length≤10000000 ∧
 ∀ H' p,H' p=some (.lst ((allTold VatrkaNeutral.start cs).map V.int))→Q (.ref p) H'
theorem zhf {f:Addr} {fd:FuncData} (F:Fun K "answers" "answers" s_answers f fd) (A:FunsAt K mg c) (T:Txt K mg c) (TK:TxtK mg) (TQ:TxtQ mg) (TD:TxtD K mg c):FnOk P w K mg base CX0 11 f fd ["calls"] (spAnswers K):=by
 have sc:=zg7
 refine F.ok sc (fun vs H Q E h=>?_) (fun cdv A' outer s H vs Q E hr h=>?_)
 ·obtain ⟨cl,l,cs,rfl,_⟩:=h
  rfl
 ·obtain ⟨cl,l,cs,rfl,hcl,h1,h2,h3,h4,h5,k⟩:=h
  obtain ⟨d_answers_on,d_Document⟩:=zjH (P:=P) (w:=w) (base:=base) A T TK TQ TD
  refine ⟨_,(zad (zah (zap d_answers_on (hr.mono (by decide)) rfl pass0 (zaa (zh3 d_Document (hr.mono (by decide)) rfl pass0) (zaa (pv 0) zac))))),?_⟩
  intro d dx H1 s1 n1 g1
  refine ⟨d,dx,rfl,g1,fun H2 r ch a e2 hF _ _ _=>⟨rfl,?_⟩⟩
  exact ⟨_,rfl,d,r,ch,a,cl,l,cs,rfl,(hcl.same s1).keep e2,hF,h1,h2,h3,h4,h5,k⟩
end
structure FnIs (K:PySem.W.Frag) (name:Str) (st:Stmt):Prop where
 ex:∃ (f:Addr) (fd:FuncData),PySem.W.nsIn K mainGlobals name=some (some (.ref f))∧Fun K name name st f fd∧∃ kV doc pm an cdv ct,fd=PySem.W.fnOf name name (defArgs st) (defBody st) (defScope st) .none kV doc pm an cdv ct
theorem fnIs {K:PySem.W.Frag} {name:Str} {st:Stmt} {f:Addr} {oc:Value} {od:Option Addr} {kV dc pm:Value} {an:Option Addr} {cd ct:Value} {sl:Array (Option Value)} (a:PySem.W.nsIn K mainGlobals name=some (some (.ref f)))
  (l:K.lookup f=some ⟨oc,od,.func (PySem.W.fnOf name name (defArgs st) (defBody st) (defScope st) .none kV dc pm an cd ct),sl⟩) (c:PySem.W.codeIn K cd name=true) (k:PySem.W.keepIn K (.ref f)=true):FnIs K name st:=⟨f,_,a,zjR l c k,_,_,_,_,_,_,rfl⟩
def NoAll (K:PySem.W.Frag) (C:Addr):List Str→Prop
 | []=>True
 | f::r=>PySem.W.findIn K (.ref C) f=some none∧NoAll K C r
theorem NoAll.no {K:PySem.W.Frag} {C:Addr}:∀ {l:List Str},NoAll K C l→∀ f∈l,NoAttr K C f
 | [],_,f,h=>by cases h
 | x::r,⟨h1,h2⟩,f,h=>by
  rcases List.mem_cons.mp h with e | m
  ·rw [e]
   exact h1
  ·exact h2.no f m
structure ClsIs (K:PySem.W.Frag) (cname qual:Str) (C:Addr) (st:Stmt) (fields:List Str):Prop where
 ns:PySem.W.nsIn K mainGlobals cname=some (some (.ref C))
 cls:ClsOf K C fields
 ini:∃ f fd,Mk K C f∧Fun K "__init__" qual st f fd
theorem clsIs {K:PySem.W.Frag} {cname qual:Str} {C f:Addr} {st:Stmt} {fields:List Str} {oc:Value} {od:Option Addr} {kV dc pm:Value} {an:Option Addr} {cd ct:Value} {sl:Array (Option Value)}
  (ns:PySem.W.nsIn K mainGlobals cname=some (some (.ref C))) (a:PySem.W.findIn K (.ref C) "__init__"=some (some (.ref f))) (i:PySem.W.isFn K (.ref f)=true)
  (l:K.lookup f=some ⟨oc,od,.func (PySem.W.fnOf "__init__" qual (defArgs st) (defBody st) (defScope st) .none kV dc pm an cd ct),sl⟩) (c:PySem.W.codeIn K cd qual=true) (k:PySem.W.keepIn K (.ref f)=true)
  (pg:PySem.W.plainGet K C Str.empty=true) (hd:PySem.W.hasDictIn K C=true) (po:PySem.W.plainOver K C=true) (sa:PySem.W.findIn K (.ref C) "__setattr__"=some (some (.builtin "object.__setattr__"))) (mk:PySem.W.makesIn K C=true) (kc:PySem.W.keepIn K (.ref C)=true)
  (no:NoAll K C fields):ClsIs K cname qual C st fields:=⟨ns,⟨⟨pg,hd,po,sa⟩,no.no⟩,f,_,⟨mk,a,i,kc⟩,zjR l c k⟩
structure NumIs (K:PySem.W.Frag) (name:Str) (n:Int):Prop where
 ex:∃ t,PySem.W.nsIn K mainGlobals name=some (some (.int n t))
theorem numIs {K:PySem.W.Frag} {name:Str} {n:Int} {t:Tok} (h:PySem.W.nsIn K mainGlobals name=some (some (.int n t))):NumIs K name n:=⟨t,h⟩
structure LookIs (K:PySem.W.Frag) (name:Str) (L:Addr):Prop where
 ns:PySem.W.nsIn K mainGlobals name=some (some (.ref L))
 at_:∃ (o:Obj) (its:Array Value) (n:Nat),K.lookup L=some o∧o.cls = .type "tuple"∧o.data = .seq its n∧its.size≤sizeLine∧Vals [.int 0,.int 0,.int 0,.int 0] its.toList
theorem lookIs {K:PySem.W.Frag} {name:Str} {L:Addr} {t1 t2 t3 t4:Tok} {od:Option Addr} {n:Nat} {sl:Array (Option Value)} (ns:PySem.W.nsIn K mainGlobals name=some (some (.ref L)))
  (l:K.lookup L=some ⟨.type "tuple",od,.seq #[.int 0 t1,.int 0 t2,.int 0 t3,.int 0 t4] n,sl⟩):LookIs K name L :=
 ⟨ns,_,_,_,l,rfl,rfl,(by show 4≤sizeLine; decide),.cons ⟨_,rfl⟩ (.cons ⟨_,rfl⟩ (.cons ⟨_,rfl⟩ (.cons ⟨_,rfl⟩ .nil)))⟩
def isI (v:Value) (i:Int):Bool:=match v with
 | .int k _=>decide (k=i)
 | _=>false
theorem zjP {v:Value} {i:Int} (h:isI v i=true):∃ t,v = .int i t:=by
 cases v with
 | int k t=>exact ⟨t,by rw [of_decide_eq_true h]⟩
 | _=>exact Bool.noConfusion (h:false=true)
def entB:List DictEntry→List (Int×Int)→Bool
 | [],[]=>true
 | e::es,p::ps=>decide (e.hash=hashInt p.1) && isI e.key p.1 && isI e.val p.2 && entB es ps
 | _,_=>false
theorem zfP (P:Program) (w:World):∀ (es:List DictEntry) (ps:List (Int×Int)),entB es ps=true →
  ∃ vs:List (Key×Value),KV (ps.map fun p=>((Sum.inl p.1:Key),V.int p.2)) vs∧Pairs (mixKind P w) es vs∧vs.map (·.1)=ps.map (fun p=>(Sum.inl p.1:Key))∧∀ e∈es,∃ k,(mixKind P w).is k e.key=true∧e.hash=(mixKind P w).hash k
 | [],[],_=>⟨[],.nil,.nil,rfl,fun e h=>by cases h⟩
 | ⟨h,ky,vl⟩::es,p::ps,x=>by
  have x:(decide (h=hashInt p.1) && isI ky p.1 && isI vl p.2 && entB es ps)=true:=x
  rw [Bool.and_eq_true,Bool.and_eq_true,Bool.and_eq_true] at x
  obtain ⟨⟨⟨x1,x2⟩,x3⟩,x4⟩:=x
  have x1:=of_decide_eq_true x1
  obtain ⟨t,x2⟩:=zjP x2
  obtain ⟨u,x3⟩:=zjP x3
  obtain ⟨vs,h1,h2,h3,h4⟩:=zfP P w es ps x4
  subst x1 x2 x3
  refine ⟨((Sum.inl p.1:Key),.int p.2 u)::vs,.cons ⟨rfl,u,rfl⟩ h1,.cons (zcy P w _ t) rfl h2,by rw [List.map_cons,List.map_cons,h3],fun e he=>?_⟩
  rcases List.mem_cons.mp he with z | z
  ·rw [z]
   exact ⟨Sum.inl p.1,zcy P w _ t,rfl⟩
  ·exact h4 e z
structure NumbersIs (K:PySem.W.Frag) (name:Str) (N:Addr):Prop where
 ns:PySem.W.nsIn K mainGlobals name=some (some (.ref N))
 at_:KDict K N (numTab.map fun p=>(Sum.inl p.1,V.int p.2))
theorem numbersIs {K:PySem.W.Frag} {name:Str} {N:Addr} {es:Array DictEntry} {n:Nat} (ns:PySem.W.nsIn K mainGlobals name=some (some (.ref N))) (l:K.lookup N=some ⟨.type "dict",none,.dict es n,#[]⟩) (hs:(N == sysModules)=false) (he:entB es.toList numTab=true):NumbersIs K name N:=by
 refine ⟨ns,hs,fun P w h X=>?_⟩
 obtain ⟨vs,h1,h2,h3,h4⟩:=zfP P w es.toList numTab he
 refine ⟨vs,h1,_,es,n,X _ _ l,⟨rfl,rfl,rfl⟩,rfl,fun e m=>h4 e (by simpa using m),h2,?_⟩
 rw [h3]
 decide
structure AllIs (K:PySem.W.Frag):Prop where
 f_is_sign:FnIs K "is_sign" s_is_sign
 f_look_with:FnIs K "look_with" s_look_with
 f_is_marked:FnIs K "is_marked" s_is_marked
 f_settle:FnIs K "settle" s_settle
 f_add_pending:FnIs K "add_pending" s_add_pending
 f_paint_over:FnIs K "paint_over" s_paint_over
 f_has_same_marks:FnIs K "has_same_marks" s_has_same_marks
 f_copy_with:FnIs K "copy_with" s_copy_with
 f_is_shown:FnIs K "is_shown" s_is_shown
 f_is_original:FnIs K "is_original" s_is_original
 f_restore:FnIs K "restore" s_restore
 f_stand_before:FnIs K "stand_before" s_stand_before
 f_hide_behind:FnIs K "hide_behind" s_hide_behind
 f_take_out:FnIs K "take_out" s_take_out
 f_size_of:FnIs K "size_of" s_size_of
 f_next_change:FnIs K "next_change" s_next_change
 f_enter_change:FnIs K "enter_change" s_enter_change
 f_is_own:FnIs K "is_own" s_is_own
 f_is_untracked:FnIs K "is_untracked" s_is_untracked
 f_set_author:FnIs K "set_author" s_set_author
 f_set_time:FnIs K "set_time" s_set_time
 f_set_tracking:FnIs K "set_tracking" s_set_tracking
 f_shared_tags:FnIs K "shared_tags" s_shared_tags
 f_look_for_letters:FnIs K "look_for_letters" s_look_for_letters
 f_look_for_ends:FnIs K "look_for_ends" s_look_for_ends
 f_new_pieces:FnIs K "new_pieces" s_new_pieces
 f_mark_put:FnIs K "mark_put" s_mark_put
 f_put:FnIs K "put" s_put
 f_cut:FnIs K "cut" s_cut
 f_paint:FnIs K "paint" s_paint
 f_lengthened:FnIs K "lengthened" s_lengthened
 f_pieces_that_come:FnIs K "pieces_that_come" s_pieces_that_come
 f_move:FnIs K "move" s_move
 f_add_to_runs:FnIs K "add_to_runs" s_add_to_runs
 f_add_hidden_to_runs:FnIs K "add_hidden_to_runs" s_add_hidden_to_runs
 f_runs_before:FnIs K "runs_before" s_runs_before
 f_all_runs:FnIs K "all_runs" s_all_runs
 f_count_marked:FnIs K "count_marked" s_count_marked
 f_all_pieces:FnIs K "all_pieces" s_all_pieces
 f_original_pieces:FnIs K "original_pieces" s_original_pieces
 f_listed_marks:FnIs K "listed_marks" s_listed_marks
 f_fill_with:FnIs K "fill_with" s_fill_with
 f_accept:FnIs K "accept" s_accept
 f_reject:FnIs K "reject" s_reject
 f_tag_pieces:FnIs K "tag_pieces" s_tag_pieces
 f_tag:FnIs K "tag" s_tag
 f_count_all:FnIs K "count_all" s_count_all
 f_count_original:FnIs K "count_original" s_count_original
 f_size:FnIs K "size" s_size
 f_where:FnIs K "where" s_where
 f_from_of:FnIs K "from_of" s_from_of
 f_paragraph:FnIs K "paragraph" s_paragraph
 f_stretches:FnIs K "stretches" s_stretches
 f_change:FnIs K "change" s_change
 f_bits_of:FnIs K "bits_of" s_bits_of
 f_listed_tags:FnIs K "listed_tags" s_listed_tags
 f_view_of_all:FnIs K "view_of_all" s_view_of_all
 f_view_of_text:FnIs K "view_of_text" s_view_of_text
 f_view:FnIs K "view" s_view
 f_answer_to_question:FnIs K "answer_to_question" s_answer_to_question
 f_answer_to:FnIs K "answer_to" s_answer_to
 f_end_of_row:FnIs K "end_of_row" s_end_of_row
 f_answers_on:FnIs K "answers_on" s_answers_on
structure NumsIs (K:PySem.W.Frag):Prop where
 n_PARAGRAPH_END:NumIs K "PARAGRAPH_END" 10
 n_KIND_PUT:NumIs K "KIND_PUT" 1
 n_KIND_CUT:NumIs K "KIND_CUT" 2
 n_KIND_PAINT:NumIs K "KIND_PAINT" 3
 n_KIND_MOVE:NumIs K "KIND_MOVE" 4
 n_BY_ALL_PIECES:NumIs K "BY_ALL_PIECES" 0
 n_BY_ORIGINAL_PIECES:NumIs K "BY_ORIGINAL_PIECES" 2
 n_VIEW_ALL:NumIs K "VIEW_ALL" 0
 n_VIEW_ACCEPTED:NumIs K "VIEW_ACCEPTED" 1
 n_VIEW_REJECTED:NumIs K "VIEW_REJECTED" 2
 n_AUTHOR:NumIs K "AUTHOR" 0
 n_CLOCK:NumIs K "CLOCK" 1
 n_TRACK:NumIs K "TRACK" 2
 n_PUT:NumIs K "PUT" 3
 n_CUT:NumIs K "CUT" 4
 n_PAINT:NumIs K "PAINT" 5
 n_MOVE:NumIs K "MOVE" 6
 n_TAG:NumIs K "TAG" 7
 n_ACCEPT:NumIs K "ACCEPT" 8
 n_REJECT:NumIs K "REJECT" 9
 n_VIEW:NumIs K "VIEW" 10
 n_CHANGE:NumIs K "CHANGE" 11
 n_SIZE:NumIs K "SIZE" 12
 n_WHERE:NumIs K "WHERE" 13
 n_FROM_OF:NumIs K "FROM_OF" 14
 n_PARAGRAPH:NumIs K "PARAGRAPH" 15
 n_STRETCHES:NumIs K "STRETCHES" 16
structure NoneIs (K:PySem.W.Frag):Prop where
 b_len:PySem.W.nsIn K mainGlobals "len"=some none
 b_tuple:PySem.W.nsIn K mainGlobals "tuple"=some none
 b_range:PySem.W.nsIn K mainGlobals "range"=some none
 b_sum:PySem.W.nsIn K mainGlobals "sum"=some none
 b_all:PySem.W.nsIn K mainGlobals "all"=some none
 b_enumerate:PySem.W.nsIn K mainGlobals "enumerate"=some none
 b_zip:PySem.W.nsIn K mainGlobals "zip"=some none
 b_list:PySem.W.nsIn K mainGlobals "list"=some none
theorem FnIs.fun {K:PySem.W.Frag} {h:Heap} {mg:Str→Option Value} {name:Str} {st:Stmt} (F:FnIs K name st) (X:K.In h) (G:h.Ns mainGlobals mg):FunAt K mg name st:=by
 obtain ⟨f,fd,h1,h2,_⟩:=F.ex
 exact ⟨f,fd,PySem.W.mg_of X G h1,h2⟩
theorem ClsIs.init {K:PySem.W.Frag} {h:Heap} {mg:Str→Option Value} {cname qual:Str} {C:Addr} {st:Stmt} {fields:List Str} (F:ClsIs K cname qual C st fields) (X:K.In h) (G:h.Ns mainGlobals mg):InitAt K mg cname qual C st:=by
 obtain ⟨f,fd,h1,h2⟩:=F.ini
 exact ⟨f,fd,PySem.W.mg_of X G F.ns,h1,h2⟩
theorem NumIs.num {K:PySem.W.Frag} {h:Heap} {mg:Str→Option Value} {name:Str} {n:Int} (F:NumIs K name n) (X:K.In h) (G:h.Ns mainGlobals mg):∃ t,mg name=some (.int n t):=by
 obtain ⟨t,e⟩:=F.ex
 exact ⟨t,PySem.W.mg_of X G e⟩
theorem all_mk {P:Program} {w:World} {K:PySem.W.Frag} {h:Heap} {mg:Str→Option Value} {fa cP cR cD cS cL cN:Addr} (X:K.In h) (G:h.Ns mainGlobals mg) (hfa:mg "answers"=some (.ref fa))
  (hP:ClsIs K "Piece" "Piece.__init__" cP s_Piece_init fP) (hR:ClsIs K "Row" "Row.__init__" cR s_Row_init fR) (hD:ClsIs K "Document" "Document.__init__" cD s_Document_init fD) (hS:ClsIs K "Run" "Run.__init__" cS s_Run_init fS)
  (hL:LookIs K "PLAIN_LOOK" cL) (hN:NumbersIs K "NUMBERS" cN) (hn:NumsIs K) (hb:NoneIs K) (ha:FnIs K "answers" s_answers) (hf:AllIs K) :
  ∃ fd:FuncData,(∀ (s:Shared) (us:List Value),us.length=(["calls"]:List Str).length→BindsTo s fd ⟨us,[]⟩ ((["calls"]:List Str).zip us))∧∀ base:Heap,K.In base→base.Ns mainGlobals mg→FnOk P w K mg base CX0 11 fa fd ["calls"] (spAnswers K):=by
 obtain ⟨f,fd,h1,h2,kV,doc,pm,an,cdv,ct,h3⟩:=ha.ex
 have e:=hfa.symm.trans (PySem.W.mg_of X G h1)
 cases e
 subst h3
 have A:FunsAt K mg ⟨cP,cR,cD,cS,cL,cN⟩:=⟨hf.f_is_sign.fun X G,hf.f_look_with.fun X G,hf.f_is_marked.fun X G,hf.f_settle.fun X G,hf.f_add_pending.fun X G,hf.f_paint_over.fun X G,hf.f_has_same_marks.fun X G,hf.f_copy_with.fun X G,hf.f_is_shown.fun X G,hf.f_is_original.fun X G,hf.f_restore.fun X G,hf.f_stand_before.fun X G,hf.f_hide_behind.fun X G,hf.f_take_out.fun X G,hf.f_size_of.fun X G,hf.f_next_change.fun X G,hf.f_enter_change.fun X G,hf.f_is_own.fun X G,hf.f_is_untracked.fun X G,hf.f_set_author.fun X G,hf.f_set_time.fun X G,hf.f_set_tracking.fun X G,hf.f_shared_tags.fun X G,hf.f_look_for_letters.fun X G,hf.f_look_for_ends.fun X G,hf.f_new_pieces.fun X G,hf.f_mark_put.fun X G,hf.f_put.fun X G,hf.f_cut.fun X G,hf.f_paint.fun X G,hf.f_lengthened.fun X G,hf.f_pieces_that_come.fun X G,hf.f_move.fun X G,hf.f_add_to_runs.fun X G,hf.f_add_hidden_to_runs.fun X G,hf.f_runs_before.fun X G,hf.f_all_runs.fun X G,hf.f_count_marked.fun X G,hf.f_all_pieces.fun X G,hf.f_original_pieces.fun X G,hf.f_listed_marks.fun X G,hf.f_fill_with.fun X G,hf.f_accept.fun X G,hf.f_reject.fun X G,hf.f_tag_pieces.fun X G,hf.f_tag.fun X G,hf.f_count_all.fun X G,hf.f_count_original.fun X G,hf.f_size.fun X G,hf.f_where.fun X G,hf.f_from_of.fun X G,hf.f_paragraph.fun X G,hf.f_stretches.fun X G,hf.f_change.fun X G,hf.f_bits_of.fun X G,hf.f_listed_tags.fun X G,hf.f_view_of_all.fun X G,hf.f_view_of_text.fun X G,hf.f_view.fun X G,hf.f_answer_to_question.fun X G,hf.f_answer_to.fun X G,hf.f_end_of_row.fun X G,hf.f_answers_on.fun X G,hP.init X G,hS.init X G,hR.init X G,hD.init X G⟩
 have T:Txt K mg ⟨cP,cR,cD,cS,cL,cN⟩:=⟨hP.cls,hR.cls,hD.cls,hS.cls,hn.n_PARAGRAPH_END.num X G,PySem.W.mg_of X G hL.ns,hL.at_,PySem.W.mg_none_of X G hb.b_len,PySem.W.mg_none_of X G hb.b_tuple,PySem.W.mg_none_of X G hb.b_range,PySem.W.mg_none_of X G hb.b_sum,PySem.W.mg_none_of X G hb.b_all,PySem.W.mg_none_of X G hb.b_enumerate,PySem.W.mg_none_of X G hb.b_zip,PySem.W.mg_none_of X G hb.b_list⟩
 have TK:TxtK mg:=⟨hn.n_KIND_PUT.num X G,hn.n_KIND_CUT.num X G,hn.n_KIND_PAINT.num X G,hn.n_KIND_MOVE.num X G⟩
 have TQ:TxtQ mg:=⟨hn.n_BY_ALL_PIECES.num X G,hn.n_BY_ORIGINAL_PIECES.num X G,hn.n_VIEW_ALL.num X G,hn.n_VIEW_ACCEPTED.num X G,hn.n_VIEW_REJECTED.num X G⟩
 have TD:TxtD K mg ⟨cP,cR,cD,cS,cL,cN⟩:=⟨hn.n_AUTHOR.num X G,hn.n_CLOCK.num X G,hn.n_TRACK.num X G,hn.n_PUT.num X G,hn.n_CUT.num X G,hn.n_PAINT.num X G,hn.n_MOVE.num X G,hn.n_TAG.num X G,hn.n_ACCEPT.num X G,hn.n_REJECT.num X G,hn.n_VIEW.num X G,hn.n_CHANGE.num X G,hn.n_SIZE.num X G,hn.n_WHERE.num X G,hn.n_FROM_OF.num X G,hn.n_PARAGRAPH.num X G,hn.n_STRETCHES.num X G,PySem.W.mg_of X G hN.ns,hN.at_⟩
 exact ⟨_,fun s us hu=>match us,hu with | [_],_=>.of_eq rfl,fun base _ _=>zhf h2 A T TK TQ TD⟩
end Tt
end
section
namespace Tt
open PySem PySem.Spec PyProof.Rows L2
open PySem.W (WData Codec OpenSpec)
theorem zk2 {K:PySem.W.Frag} {H:Hp} {a:Addr} {xs:List V} (hO:OnlyF H) (h:SqL K H a xs):FrzL K H a xs:=by
 rcases h with (h | ⟨o,h⟩) | h
 ·rcases hO a with z | ⟨o,u,z⟩
  ·rw [z] at h
   cases h
  ·rw [z] at h
   cases h
 ·exact .inl ⟨o,h⟩
 ·exact .inr h
theorem asked_sp (K:PySem.W.Frag) (H:Hp) (xs:List V) (a:Codec.denoteAll PySem.Challenge.rw_trackedtext_s01_answers.args) (hO:OnlyF H) (hwi:Codec.withinAll PySem.Challenge.rw_trackedtext_s01_answers.args a=true)
  (hask:Codec.app PySem.Challenge.rw_trackedtext_s01_answers.args PySem.Challenge.rw_trackedtext_s01_answers.asked a=true) (hx:DwAll K H xs (Codec.encAll PySem.Challenge.rw_trackedtext_s01_answers.args a)) :
  spAnswers K xs H (fun v H'=>Dw K H' v (PySem.Challenge.rw_trackedtext_s01_answers.ret.enc (Codec.app PySem.Challenge.rw_trackedtext_s01_answers.args PySem.Challenge.rw_trackedtext_s01_answers.f a))) fun _ _ _=>False:=by
 cases hx with
 | cons h1 h2 =>
  cases h2
  cases h1 with
  | lst hs ha =>
   have e:=zix a.1 _ ha
   subst e
   have q:((Codec.inLen 0 17000 a.1 && a.1.all (Codec.inInt (Int.negSucc 999999999999999999) (Int.ofNat 1000000000000000000))) && true)=true:=hwi
   rw [Bool.and_eq_true,Bool.and_eq_true] at q
   have hlen:=(Codec.inNat_iff.mp q.1.1).2
   have hask:PyVatrka.answers_asked a.1=true:=hask
   show spAnswers K _ H (fun v H'=>Dw K H' v (.list ((PyVatrka.answers a.1).map WData.int))) _
   unfold PyVatrka.answers_asked at hask
   cases hc:PyFlat.calls PyVatrka.shape a.1.length a.1 with
   | none =>
    have hn:PyVatrka.calls a.1=none:=by
     unfold PyVatrka.calls
     rw [hc]
    rw [hn] at hask
    cases hask
   | some cs =>
    have hn:PyVatrka.calls a.1=some cs:=by
     unfold PyVatrka.calls
     rw [hc]
     show some (cs.map PyVatrka.whole)=_
     rw [zfd]
    have hans:PyVatrka.answers a.1=allTold VatrkaNeutral.start cs:=by
     unfold PyVatrka.answers
     rw [hn]
    rw [hn] at hask
    have hask:(PyFlat.atMost 400 cs && VatrkaNeutral.asked cs && PyFlat.short 10000000 (PyVatrka.answers a.1))=true:=hask
    rw [Bool.and_eq_true,Bool.and_eq_true] at hask
    obtain ⟨⟨b1,b2⟩,b3⟩:=hask
    have b1:cs.length≤400:=of_decide_eq_true b1
    have b3:(PyVatrka.answers a.1).length≤10000000:=of_decide_eq_true b3
    rw [hans] at b3
    have b2:(cs.all VatrkaNeutral.asked1 && (decide (1≤cs.length) && decide (cs.length≤400)))=true:=b2
    rw [Bool.and_eq_true] at b2
    refine ⟨_,a.1,cs,rfl,zk2 hO hs,hlen,hc,fun cc hcc=>List.all_eq_true.mp b2.1 cc hcc,b1,b3,fun H' p hp=>?_⟩
    rw [hans]
    exact .lst (SqL.of hp) (ziK _)
end Tt
end
section
open PySem PySem.W PyProof.Rows
namespace PySem.W.Fast
def tw10109961205678241295:=0
def tw14302531019300606902:=0
def tw15510468799416156744:=0
def tw4148013389599620143:=0
def tw12467274223919540569:=0
def tw14016277858901302981:=0
def tw14810001908082010500:=0
def tw12681150245235754589:=0
def tw14770717013780505135:=0
def tw9407319737235253413:=0
def tw5488778549973077008:=0
def tw14683705414462204553:=0
def tw9884134130554547297:=0
def tw18026649615047055611:=0
def tw12833135180417631145:=0
def tw2746745847648487431:=0
def tw4128875358687902622:=0
def tw16156545220004865467:=0
def tw312262301234556198:=0
def tw9912516136254599:=0
def tw15385527838303515199:=0
def tw11455944909863012955:=0
def tw17181497396613658425:=0
def tw12398202747782759219:=0
def tw15424820213222306130:=0
def tw13389180135066165593:=0
def tw3312389924003682605:=0
def tw13193282329920489343:=0
def tw4552006695732912262:=0
def tw7432205487445557561:=0
def tw17322261528179162594:=0
def tw12509599282510698973:=0
def tw5048718985873800818:=0
def tw6660464077841220613:=0
def tw17689127177024223608:=0
def tw14699759782712620065:=0
def tw3274607047966525043:=0
def tw6387804968533630622:=0
def tw15983014505586239351:=0
def tw16103290448431005797:=0
def tw3479987579681857574:=0
def tw5745753269896843402:=0
def tw4047706485558730842:=0
def tw356975239790233767:=0
def tw14659154925146364142:=0
def tw10407102828875301027:=0
def tw14007648681658541655:=0
def tw13957425414580363249:=0
def tw16060580952849795248:=0
def tw10065589849294346443:=0
def tw2446168755440594212:=0
def tw17904408522270412850:=0
def tw4180406743983771968:=0
def tw17831136104497320564:=0
def tw16389220960439370674:=0
def tw406548543830227832:=0
def tw6079015231335365482:=0
def tw11406274935204224355:=0
def tw13534800978827843348:=0
def tw892023477678530817:=0
def tw11856411585217101028:=0
def tw8457648011539406672:=0
def tw14438884122049705424:=0
def tw774763498088896705:=0
def tw11447355065935067761:=0
def tw6748526334631569002:=0
def tw1865040036288842997:=0
def tw3200605091076828681:=0
def tw8075755024607841240:=0
def tw14527837751025975552:=0
def tw299851927319852675:=0
def tw12415854998536671283:=0
def tw1684197915531171082:=0
def tw14546265346090777547:=0
def tw15624197499947051368:=0
def tw6781682171725411567:=0
def tw1274306155234935419:=0
def tw7662255406387542444:=0
def tw14214079302929757031:=0
def tw14136554395574793422:=0
def tw13691893052761824554:=0
def tw14557345394860611864:=0
def tw1961408172724483433:=0
def tw1715864895908510173:=0
def tw18367477368403534400:=0
def tw14592292397912184928:=0
def tw14735988230132611256:=0
def tw1085354348538068379:=0
def tw14707029984714902044:=0
def tw9510262222294948962:=0
def tw16452721072515700001:=0
def tw18113785172781345416:=0
def tw6487731460264391953:=0
def tw14975042199241131357:=0
def tw996477751572238679:=0
def tw4178975852513741695:=0
def tw680370314775759338:=0
def tw12200101734918887472:=0
def tw4401739044046811386:=0
def tw18114902180227862852:=0
def tw6697827564728218200:=0
def tw8279174159586827679:=0
def tw14270093626144680454:=0
def tw11159552361759420527:=0
def tw9524659908263717368:=0
def tw14726165203562362382:=0
def tw17591999671477765687:=0
def tw137716172131992603:=0
def tw8592452450313513181:=0
def tw9775457878954970852:=0
def tw15726210143021914091:=0
def tw1589226024021484954:=0
def tw7003154626079654824:=0
def tw1545438538275878318:=0
def tw10453816005501762398:=0
def tw3298626149830924543:=0
def tw5631859253204540721:=0
def tw2950438326395369994:=0
def tw9271323377901023122:=0
def tw3744146567642810856:=0
def tw8964470935135526159:=0
def tw12317754216021148057:=0
def tw5110370576537105347:=0
def tw6971484450685762666:=0
def tw12554952935782958349:=0
def tw16948255140582575651:=0
def tw13184765351968249686:=0
def tw5569787975851327897:=0
def tw9716157713012337851:=0
def tw6460639189438695937:=0
def tw10752241847729284623:=0
def tw12739809985585032527:=0
def tw12513948569937557538:=0
def tw15584028525108228615:=0
def tw7294181824448057612:=0
def tw17245131007249861089:=0
def tw2115424997831126271:=0
def tw843342095612092148:=0
def tw17284404340445356026:=0
def tw11856011715134101988:=0
def tw4588941080172869739:=0
def tw15830766946562921079:=0
def tw2753025475776043337:=0
def tw5426581937294611821:=0
def tw13053747466581257667:=0
def tw15959866847801869695:=0
def tw6499589890538046154:=0
def tw17847494109584644577:=0
def tw17068576259611767654:=0
def tw5056313478348812651:=0
def tw4354790947764511502:=0
def tw9529584642721765688:=0
def tw14399591730712652831:=0
def tw8550459560533088027:=0
def tw5064668046455456685:=0
def tw15980409585264794559:=0
def tw14840700791850389961:=0
def tw2304595970760066988:=0
def tw4443213159102179241:=0
def tw6329614163095302233:=0
def tw4705132684529206155:=0
def tw14312891253254420426:=0
def tw10501804890105294247:=0
def tw15930413023475894109:=0
def tw1914005481170238822:=0
def tw4402908865698886210:=0
def tw11175521753395102691:=0
def tw7039725285855139390:=0
def tw15156969093407642510:=0
def tw5245211508378661276:=0
def tw7977359489683041220:=0
def tw4857881560917246624:=0
def tw1803997141276932191:=0
def tw12572142009775987973:=0
def tw10871684138100833013:=0
def tw17424580117086102903:=0
def tw9044512642905047623:=0
def tw5133901467352835535:=0
def tw15773060695219496947:=0
def tw7217655018255156040:=0
def tw1670233043161237723:=0
def tw11981668172176607598:=0
def tw17257467795464073748:=0
def tw15601814559028077140:=0
def tw3131650872172772631:=0
def tw6655223374650039986:=0
def tw7018738128618937145:=0
def tw3420377488062202364:=0
def tw641063186569971005:=0
def tw13330257624848864907:=0
def tw15577295749929559832:=0
def tw13195056460528594397:=0
def tw10445815832469897575:=0
def tw16344276452421866139:=0
def tw2322207490799653478:=0
def tw12186862771812103102:=0
def tw13582705431320481642:=0
def tw10689551859476894804:=0
def tw12805809611800750872:=0
def tw15993544361639525157:=0
def tw8813022833359835088:=0
def tw453043994157960444:=0
def tw16836412629499082963:=0
def tw4002412338390548432:=0
def tw15331198509093253182:=0
def tw6547593861477891675:=0
def tw15143207589582984540:=0
def tw10325560705699142014:=0
def tw5984300299792234878:=0
def tw202465391026255122:=0
def tw1189264047117643496:=0
def tw16911720871590657586:=0
def tw9560030005273528455:=0
def tw11145155982430717218:=0
def tw9476231452822785769:=0
def tw3856340730815569607:=0
def tw15496078594334056681:=0
def tw5908154185064062466:=0
def tw7972878852178515926:=0
def tw3876320954914039748:=0
def tw17647276240439232465:=0
def tw8208869831608159543:=0
def tw6179564093355586821:=0
def tw17611061802492463235:=0
def tw3008822188906751672:=0
def tw15087290783057459574:=0
def tw4893782183354393538:=0
def tw15107568710888091893:=0
def tw118549352107221344:=0
end PySem.W.Fast
set_option maxRecDepth 100000 in
set_option maxHeartbeats 0 in
theorem PySem.Challenge.cw_trackedtext_s01_answers_holds : PySem.Challenge.rw_trackedtext_s01_answers.Holds := by
  w_on; k_headS; (case hw => exact ⟨[.list [.int 8]], by decide +kernel, by decide +kernel⟩)
  k_fillS
  refine L2.walk_specK (r := PySem.Challenge.rw_trackedtext_s01_answers) (k := 11) (CX := L2.CX0) (ps := ["calls"]) (sp := Tt.spAnswers) (by decide +kernel) rfl rfl ⟨rfl, by decide, by decide⟩ (fun w h Y => PySem.W.kIn_of Y) ?F Tt.asked_sp (fun _ _ _ _ z => z)
  case F =>
    intro w mg fa h Y KX G hmg
    refine' Tt.all_mk KX G hmg ?hP ?hR ?hD ?hS ?hL ?hN ?hn ?hb ?ha ?hf
    case hP =>
      refine' Tt.clsIs ?ns ?a ?i ?l ?c ?k ?pg ?hd ?po ?sa ?mk ?kc ?no
      (case ns => k_is); (case a => k_is); (case i => k_is); (case l => k_is); (case c => k_is); (case k => k_is); (case pg => k_is); (case hd => k_is); (case po => k_is); (case sa => k_is); (case mk => k_is); (case kc => k_is)
      (case no => refine ⟨?_, ?_, ?_, ?_, ?_, ?_, ?_, trivial⟩ <;> k_is)
    case hR =>
      refine' Tt.clsIs ?ns ?a ?i ?l ?c ?k ?pg ?hd ?po ?sa ?mk ?kc ?no
      (case ns => k_is); (case a => k_is); (case i => k_is); (case l => k_is); (case c => k_is); (case k => k_is); (case pg => k_is); (case hd => k_is); (case po => k_is); (case sa => k_is); (case mk => k_is); (case kc => k_is)
      (case no => refine ⟨?_, ?_, trivial⟩ <;> k_is)
    case hD =>
      refine' Tt.clsIs ?ns ?a ?i ?l ?c ?k ?pg ?hd ?po ?sa ?mk ?kc ?no
      (case ns => k_is); (case a => k_is); (case i => k_is); (case l => k_is); (case c => k_is); (case k => k_is); (case pg => k_is); (case hd => k_is); (case po => k_is); (case sa => k_is); (case mk => k_is); (case kc => k_is)
      (case no => refine ⟨?_, ?_, ?_, ?_, ?_, trivial⟩ <;> k_is)
    case hS =>
      refine' Tt.clsIs ?ns ?a ?i ?l ?c ?k ?pg ?hd ?po ?sa ?mk ?kc ?no
      (case ns => k_is); (case a => k_is); (case i => k_is); (case l => k_is); (case c => k_is); (case k => k_is); (case pg => k_is); (case hd => k_is); (case po => k_is); (case sa => k_is); (case mk => k_is); (case kc => k_is)
      (case no => refine ⟨?_, ?_, trivial⟩ <;> k_is)
    case hL =>
      refine' Tt.lookIs ?ns ?l
      (case ns => k_is); (case l => k_is)
    case hN =>
      refine' Tt.numbersIs ?ns ?l ?hs ?he
      (case ns => k_is); (case l => k_is); (case hs => decide); (case he => decide +kernel)
    case hn =>
      constructor
      all_goals (refine' Tt.numIs ?a; (case a => k_is))
    case hb =>
      constructor
      all_goals k_is
    case ha =>
      refine' Tt.fnIs ?a ?l ?c ?k
      (case a => k_is); (case l => k_is); (case c => k_is); (case k => k_is)
    case hf =>
      constructor
      all_goals (refine' Tt.fnIs ?a ?l ?c ?k; (case a => k_is); (case l => k_is); (case c => k_is); (case k => k_is))
#print axioms PySem.Challenge.cw_trackedtext_s01_answers_holds
end
