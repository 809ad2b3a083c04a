import PyProof.Rows.All
import Wide.All
import OpenK.AllK
import Wide.FinOn
import Lean
import PyProof.EqAt
import PyProof.EqKinds
import PyProof.TupleCall
import PyProof.NeKinds
import KE.KLam
import KE.KMinKey
import KE.KSortTup
import PyProof.AutoListH
import PyProof.MeetsStr
import PyProof.StrLawsJoin
import PyProof.FitsReplace
import PyProof.Rows.TupDisplay
import PyProof.ListRange
import PyProof.ZipIter
import PyProof.ListNew
import KE.KSortKey
import PyProof.StationsW
import PyProof.ExcClass2
import PyProof.ExcInit
import PyProof.ExcBaseAll.ValueError
import PyProof.RulesAs
import PyProof.NsDelKeeps
import PyProof.ExcAttrAll.ValueError
import PyProof.IsiBase
import KE.KIsAll
import PyProof.InstStoreFacts
import PyProof.Rows.SetFrom
import PyProof.SetRoads
import PySem.Challenge.RW_cutyard_k62_roads_refused
set_option Elab.async false
set_option linter.all false
set_option maxRecDepth 100000
namespace L2
open PySem PySem.Spec PyProof.Rows
abbrev Key:=Sum Int Str
def qiK:Key→Value→Bool
 | .inl k,v=>Value.isInt k v
 | .inr x,v=>Value.isStrOf x v
def qrx (w:World):Key→Int
 | .inl k=>hashInt k
 | .inr x=>hashStr w x
theorem qaZ:∀ {k:Key} {v:Value},qiK k v=true→(∃ i t,k=Sum.inl i∧v=Value.int i t)∨(∃ x t,k=Sum.inr x∧v=Value.str x t)
 | .inl i,v,h=>by
  obtain⟨t,e⟩:=Value.isInt_shape (k:=i) (v:=v) h
  exact .inl ⟨i,t,rfl,e⟩
 | .inr x,v,h=>by
  obtain⟨t,e⟩:=Value.isStrOf_shape (x:=x) (v:=v) h
  exact .inr ⟨x,t,rfl,e⟩
theorem qjl (i:Int)(t:Tok):qiK (.inl i) (.int i t)=true:=by simp [qiK,Value.isInt]
theorem qkc (x:Str)(t:Tok):qiK (.inr x) (.str x t)=true:=by simp [qiK,Value.isStrOf]
theorem qpm (a b:Int):decide ((Sum.inl a:Key)=Sum.inl b)=(a == b):=by
 by_cases e:a=b
 ·subst e;simp
 ·have h:¬ (Sum.inl a:Key)=Sum.inl b:=fun q=>e (Sum.inl.inj q)
  rw[decide_eq_false h]
  exact (beq_eq_false_iff_ne.mpr e).symm
theorem qoG (a b:Str):decide ((Sum.inr a:Key)=Sum.inr b)=decide (a=b):=by
 by_cases e:a=b
 ·subst e;simp
 ·have h:¬ (Sum.inr a:Key)=Sum.inr b:=fun q=>e (Sum.inr.inj q)
  rw[decide_eq_false h,decide_eq_false e]
theorem qoS (a:Int)(b:Str):decide ((Sum.inl a:Key)=Sum.inr b)=false:=decide_eq_false (fun q=>nomatch q)
theorem qnQ (a:Str)(b:Int):decide ((Sum.inr a:Key)=Sum.inl b)=false:=decide_eq_false (fun q=>nomatch q)
def qbf (prog:Program)(w:World):PySem.KeyKind prog w Key where
 is:=qiK
 hash:=qrx w
 inj:=fun v a b ha hb=>by
  rcases qaZ ha with⟨i,t,rfl,rfl⟩ | ⟨x,t,rfl,rfl⟩
  ·rcases qaZ hb with⟨j,u,rfl,e⟩ | ⟨y,u,rfl,e⟩
   ·injection e with e1 _;rw[e1]
   ·exact nomatch e
  ·rcases qaZ hb with⟨j,u,rfl,e⟩ | ⟨y,u,rfl,e⟩
   ·exact nomatch e
   ·injection e with e1 _;rw[e1]
 byValue:=fun k v h=>by
  rcases qaZ h with⟨i,t,rfl,rfl⟩ | ⟨x,t,rfl,rfl⟩ <;> rfl
 pyHash:=fun hv h=>by
  rcases qaZ hv with⟨i,t,rfl,rfl⟩ | ⟨x,t,rfl,rfl⟩
  ·exact wpAny_pyHash_int h
  ·exact wpAny_pyHash_str h
 eqBool:=fun hu hv h=>by
  rcases qaZ hu with⟨i,t,rfl,rfl⟩ | ⟨x,t,rfl,rfl⟩
  ·rcases qaZ hv with⟨j,u,rfl,rfl⟩ | ⟨y,u,rfl,rfl⟩
   ·rw[qpm] at h;exact wpAny_eqBool_int h
   ·rw[qoS] at h;exact SeqAt.EqAt.int_str i t y u _ _ _ _ h
  ·rcases qaZ hv with⟨j,u,rfl,rfl⟩ | ⟨y,u,rfl,rfl⟩
   ·rw[qnQ] at h;exact SeqAt.EqAt.str_int x t j u _ _ _ _ h
   ·rw[qoG] at h;exact wpAny_eqBool_str h
 «strs»:=fun k x t v h=>by
  rcases qaZ h with⟨i,u,rfl,e⟩ | ⟨y,u,rfl,e⟩
  ·exact nomatch e
  ·injection e with e1 _
   subst e1
   cases v <;> rfl
theorem qhs (prog:Program)(w:World)(i:Int)(t:Tok):(qbf prog w).is (.inl i) (.int i t)=true:=qjl i t
theorem qhp (prog:Program)(w:World)(x:Str)(t:Tok):(qbf prog w).is (.inr x) (.str x t)=true:=qkc x t
inductive V where
 | non | bl (b:Bool) | int (i:Int) | str (x:Str) | byt (b:Array UInt8) | flt (b:UInt64) | ref (a:Addr) | ty (n:String)
 deriving DecidableEq
def RelV:V→Value→Prop
 | .non,u=>u=Value.none
 | .bl b,u=>u=Value.bool b
 | .int i,u=>∃ t,u=Value.int i t
 | .str x,u=>∃ t,u=Value.str x t
 | .byt b,u=>∃ t,u=Value.bytes b t
 | .flt b,u=>∃ t,u=Value.float b t
 | .ref a,u=>u=Value.ref a
 | .ty n,u=>u=Value.type n
abbrev Vals:List V→List Value→Prop:=Paired RelV
theorem Vals.length {xs:List V}{us:List Value}(r:Vals xs us):xs.length=us.length:=Paired.length r
theorem Vals.get:∀ {xs:List V} {us:List Value} {i:Nat} {x:V},Vals xs us→xs[i]?=some x→∃ u,us[i]?=some u∧RelV x u
 | _,_,_,_,.nil,e=>by simp at e
 | _,_,0,_,.cons r _,e=>by simp at e;subst e;exact⟨_,rfl,r⟩
 | _,_,i+1,x,.cons _ t,e=>by
  obtain⟨u,h1,h2⟩:=Vals.get (i:=i) (x:=x) t (by simpa using e)
  exact⟨u,by simpa using h1,h2⟩
theorem Vals.set {x:V}{u:Value}(r:RelV x u):∀ {xs:List V} {us:List Value} (i:Nat),Vals xs us→Vals (xs.set i x) (us.set i u)
 | _,_,_,.nil=>.nil
 | _,_,0,.cons _ t=>.cons r t
 | _,_,i+1,.cons q t=>.cons q (Vals.set r i t)
theorem Vals.append:∀ {xs ys:List V} {us ws:List Value},Vals xs us→Vals ys ws→Vals (xs++ys) (us++ws)
 | _,_,_,_,.nil,s=>s
 | _,_,_,_,.cons r t,s=>.cons r (Vals.append t s)
theorem Vals.take:∀ {xs:List V} {us:List Value} (n:Nat),Vals xs us→Vals (xs.take n) (us.take n)
 | _,_,0,_=>.nil
 | _,_,_+1,.nil=>.nil
 | _,_,n+1,.cons r t=>.cons r (Vals.take n t)
theorem Vals.drop:∀ {xs:List V} {us:List Value} (n:Nat),Vals xs us→Vals (xs.drop n) (us.drop n)
 | _,_,0,r=>r
 | _,_,_+1,.nil=>.nil
 | _,_,n+1,.cons _ t=>Vals.drop n t
def RelO:Option V→Option Value→Prop
 | some v,some u=>RelV v u
 | none,none=>True
 | _,_=>False
def KV {κ:Type}:List (κ × V)→List (κ × Value)→Prop:=Paired fun (p:κ × V) (q:κ × Value)=>p.1=q.1∧RelV p.2 q.2
def kV:Key→V
 | .inl i=>.int i
 | .inr x=>.str x
inductive HO where
  | lst (xs:List V)
  | tup (xs:List V)
  | dK (kvs:List (Key × V)) | dT (kvs:List (List Key × V))
  | set (S:Int→Bool) (n:Nat)
  | ins (C dx:Addr) (fs:List (Str × V))
  | own (x:Addr)
  | xd (fs:List (Str × V))
  | met (f x:Addr)
  | rng (lo hi:Int)
  | frz (o:Obj) (u:HO)
  | tbl (ps:Array Value)
  | ext (φ:Heap→Prop)
abbrev Hp:=Addr→Option HO
def upd (H:Hp)(a:Addr)(o:HO):Hp:=fun b=>if b=a then some o else H b
theorem qaj {H:Hp}{a:Addr}{o:HO}:upd H a o a=some o:=by unfold upd;rw[if_pos rfl]
theorem qal {H:Hp}{a b:Addr}{o:HO}(h:b≠a):upd H a o b=H b:=by unfold upd;rw[if_neg h]
theorem qqH {H:Hp}{a b:Addr}{o u:HO}(h:H a=some o)(h':H b=some u)(d:o≠u):a≠b:=by
 intro e;subst e;rw[h] at h';exact d (Option.some.inj h')
theorem qas {H:Hp}{a b:Addr}{o:HO}(h:H a=some o)(h':H b=none):a≠b:=by
 intro e;subst e;rw[h] at h';cases h'
def IsTupD (h:Heap)(a:Addr)(items:Array Value):Prop:=∃ o,h.get? a=some o∧(o.cls=.type "tuple"∧o.dict=none)∧∃ n,o.data=.seq items n
theorem IsTupD.tup {h:Heap}{a:Addr}{items:Array Value}(x:IsTupD h a items):IsTup h a items:=let ⟨o,e,c,d⟩:=x;⟨o,e,c.1,d⟩
theorem IsTupD.lt {h:Heap}{a:Addr}{items:Array Value}(x:IsTupD h a items):a<h.objs.size:=x.tup.lt
theorem IsTupD.new (h:Heap)(items:Array Value):IsTupD (h.push { cls:=.type "tuple",data:=.seq items }) h.objs.size items:=⟨_,Heap.get?_push_size _ rfl,⟨rfl,rfl⟩,_,rfl⟩
section
variable (P : Program) (w : World)
def ObjOk (H:Hp)(h:Heap)(a:Addr):HO→Prop
 | .lst xs=>xs.length≤sizeLine∧∃ (its:List Value) (n:Nat),Vals xs its∧h.get? a=some { cls:=.type "list",data:=.seq its.toArray n }
 | .tup xs=>xs.length≤sizeLine∧∃ its:List Value,Vals xs its∧IsTupD h a its.toArray
 | .dK kvs=>kvs.length≤sizeLine∧(a == sysModules)=false∧∃ vs,KV kvs vs∧h.DictOf (qbf P w) a vs
 | .dT kvs=>kvs.length≤sizeLine∧(a == sysModules)=false∧∃ xs:List (List Key × Addr × Value),
   Paired (fun (p:List Key × V) (q:List Key × Addr × Value)=>p.1=q.1∧H q.2.1=some (.tup (p.1.map kV))∧RelV p.2 q.2.2) kvs xs ∧
   ∃ o es ep,h.get? a=some o∧o.ExactDict∧o.data=.dict es ep∧es.toList=xs.map (entryOfKey (tupleKind (qbf P w)))∧(xs.map (·.1)).Nodup
 | .set S n=>h.SetOf (intKind P w) a S n
 | .ins C dx fs=>H dx=some (.own a)∧fs.length≤1000∧dx≠a∧h.get? a=some (PySem.W.instObj C dx) ∧
   ∃ mA,h.Ns1 dx mA∧(∀ f,RelO (fs.lookup f) (mA f))∧PySem.Within mA (fs.map (·.1))
 | .own _=>∃ o,h.get? a=some o
 | .xd fs=>∃ mA,h.Ns1 a mA∧∀ f,RelO (fs.lookup f) (mA f)
 | .rng lo hi=>∃ t u v,h.get? a=some { cls:=.type "range",data:=.fields #[.int lo t,.int hi u,.int 1 v] }
 | .frz o u=>h.get? a=some o∧ObjOk H h a u
 | .tbl ps=>h.get? a=some { cls:=.none,data:=.fields #[] }∨∃ (c:Addr) (o:Obj) (vs:Array Value) (x y:Value) (q:Str) (t t':Tok),ps=#[x,y,.str q t]∧H c=some (.frz o (.own a)) ∧
   h.get? a=some { cls:=.none,data:=.fields #[x,y,.ref c] }∧o.data=.fields vs∧vs[1]?=some (.str q t')
 | .met f x=>h.get? a=some (PySem.W.methodObj (.ref f) (.ref x))
 | .ext φ=>φ h∧(∃ o,h.get? a=some o)∧∀ h1 h2:Heap,φ h1→(∀ o,h1.get? a=some o→h2.get? a=some o)→φ h2
def HOk (H:Hp)(h:Heap):Prop:=∀ a o,H a=some o→ObjOk P w H h a o
end
section
variable {P : Program} {w : World} {H H' : Hp} {h h' : Heap} {a : Addr} {o : HO}
theorem ObjOk.lt (x:ObjOk P w H h a o):a<h.objs.size:=by
 cases o with
 | lst xs=>obtain⟨_,_,_,_,e⟩:=x;exact Heap.lt_size e
 | tup xs=>obtain⟨_,_,_,p⟩:=x;exact p.lt
 | dK kvs=>obtain⟨_,_,_,_,o,_,_,e,_⟩:=x;exact Heap.lt_size e
 | dT kvs=>obtain⟨_,_,_,_,o,_,_,e,_⟩:=x;exact Heap.lt_size e
 | set S n=>obtain⟨o,_,_,_,e,_⟩:=x;exact Heap.lt_size e
 | ins C dx fs=>obtain⟨_,_,_,e,_⟩:=x;exact Heap.lt_size e
 | own y=>obtain⟨_,e⟩:=x;exact Heap.lt_size e
 | xd fs=>obtain⟨_,⟨_,_,_,e,_⟩,_⟩:=x;exact Heap.lt_size e
 | rng lo hi=>obtain⟨_,_,_,e⟩:=x;exact Heap.lt_size e
 | frz ob u=>obtain⟨e,_⟩:=x;exact Heap.lt_size e
 | tbl ps=>rcases x with x | ⟨_,_,_,_,_,_,_,_,_,_,x,_⟩ <;> exact Heap.lt_size x
 | met f y=>exact Heap.lt_size (show h.get? a=some _ from x)
 | ext φ=>obtain⟨_,⟨_,e⟩,_⟩:=x;exact Heap.lt_size e
theorem Paired.mapP {α β:Type}{F G:α→β→Prop}:∀ {l₁:List α} {l₂:List β},Paired F l₁ l₂→(∀ a b,F a b→G a b)→Paired G l₁ l₂
 | _,_,.nil,_=>.nil
 | _,_,.cons r t,f=>.cons (f _ _ r) (Paired.mapP t f)
theorem ObjOk.stay (x:ObjOk P w H h a o)(k:∀ b u,(b=a∨H b=some (.own a))→h.get? b=some u→h'.get? b=some u)
  (ho:∀ b,H b=some (.own a)→H' b=some (.own a)) (ht:∀ b xs,H b=some (.tup xs)→H' b=some (.tup xs)) (hf:∀ b o u,H b=some (.frz o u)→H' b=some (.frz o u)):ObjOk P w H' h' a o:=by
 induction o with
 | lst xs=>obtain⟨z,its,n,r,e⟩:=x;exact⟨z,its,n,r,k _ _ (.inl rfl) e⟩
 | tup xs=>obtain⟨z,its,r,ob,e,c⟩:=x;exact⟨z,its,r,ob,k _ _ (.inl rfl) e,c⟩
 | dK kvs=>obtain⟨z,y,vs,r,ob,es,ep,e,c⟩:=x;exact⟨z,y,vs,r,ob,es,ep,k _ _ (.inl rfl) e,c⟩
 | dT kvs =>
  obtain⟨z,y,xs,r,ob,es,ep,e,c⟩:=x
  exact⟨z,y,xs,Paired.mapP r fun p q z=>⟨z.1,ht _ _ z.2.1,z.2.2⟩,ob,es,ep,k _ _ (.inl rfl) e,c⟩
 | set S n=>obtain⟨ob,es,ep,t,e,c⟩:=x;exact⟨ob,es,ep,t,k _ _ (.inl rfl) e,c⟩
 | ins C dx fs =>
  obtain⟨d,z,ne,e,mA,⟨od,es,ep,e2,c⟩,r⟩:=x
  exact⟨ho _ d,z,ne,k _ _ (.inl rfl) e,mA,⟨od,es,ep,k _ _ (.inr d) e2,c⟩,r⟩
 | own y=>obtain⟨ob,e⟩:=x;exact⟨ob,k _ _ (.inl rfl) e⟩
 | xd fs=>obtain⟨mA,⟨od,es,ep,e,c⟩,r⟩:=x;exact⟨mA,⟨od,es,ep,k _ _ (.inl rfl) e,c⟩,r⟩
 | rng lo hi=>obtain⟨t,u,v,e⟩:=x;exact⟨t,u,v,k _ _ (.inl rfl) e⟩
 | frz ob u ih=>obtain⟨e,q⟩:=x;exact⟨k _ _ (.inl rfl) e,ih q⟩
 | tbl ps =>
  rcases x with x | ⟨c,o,vs,y,z,q,t,t',e1,e2,e3,e4⟩
  ·exact .inl (k a _ (.inl rfl) x)
  ·exact .inr ⟨c,o,vs,y,z,q,t,t',e1,hf _ _ _ e2,k a _ (.inl rfl) e3,e4⟩
 | met f y =>
  have e:h.get? a=some (PySem.W.methodObj (.ref f) (.ref y)):=x
  show h'.get? a=some (PySem.W.methodObj (.ref f) (.ref y))
  exact k a _ (.inl rfl) e
 | ext φ=>obtain⟨p,⟨o,e⟩,st⟩:=x;exact⟨st _ _ p fun o q=>k _ _ (.inl rfl) q,⟨o,k _ _ (.inl rfl) e⟩,st⟩
theorem HOk.lt (x:HOk P w H h)(e:H a=some o):a<h.objs.size:=(x a o e).lt
theorem HOk.fresh (x:HOk P w H h)(e:h.objs.size≤a):H a=none:=by
 cases q:H a with
 | none=>rfl
 | some u=>exact absurd (Nat.lt_of_lt_of_le (x.lt q) e) (Nat.lt_irrefl _)
theorem HOk.kept (x:HOk P w H h)(k:∀ b u,h.get? b=some u→h'.get? b=some u):HOk P w H h':=fun a o e =>
 (x a o e).stay (fun b u _ q=>k b u q) (fun _ q=>q) (fun _ _ q=>q) fun _ _ _ q=>q
theorem HOk.laid (x:HOk P w H h)(k:∀ b u,h.get? b=some u→h'.get? b=some u)(hp:h.objs.size≤a)(new:ObjOk P w (upd H a o) h' a o):HOk P w (upd H a o) h':=fun b u e=>by
 have hn:=x.fresh hp
 by_cases hb:b=a
 ·subst hb;rw[qaj] at e;cases e;exact new
 ·rw[qal hb] at e
  exact (x b u e).stay (fun c v _ q=>k c v q) (fun c q=>by rw[qal (qas q hn)];exact q) (fun c xs q=>by rw[qal (qas q hn)];exact q) fun c ob w' q=>by rw[qal (qas q hn)];exact q
end
def Rd (H:Hp)(a:Addr)(u:HO):Prop:=H a=some u∨∃ o,H a=some (.frz o u)
theorem Rd.ok {P:Program}{w:World}{H:Hp}{h:Heap}{a:Addr}{u:HO}(r:Rd H a u)(x:HOk P w H h):ObjOk P w H h a u:=by
 rcases r with r | ⟨o,r⟩
 ·exact x a u r
 ·obtain⟨_,q⟩:=x a _ r
  exact q
def Mut:Option HO→Prop
 | some (.lst _)=>True
 | some (.dK _)=>True
 | some (.dT _)=>True
 | some (.set _ _)=>True
 | some (.ins _ _ _)=>True
 | some (.ext _)=>True
 | _=>False
section
variable {P : Program} {w : World} {H : Hp} {h h' : Heap} {x e : Addr} {o' : HO}
theorem HOk.write (ok:HOk P w H h)(mu:Mut (H x))(he:e=x∨H e=some (.own x))(k:∀ b u,b≠e→h.get? b=some u→h'.get? b=some u)(heo:∃ u,h'.get? e=some u)
  (new:ObjOk P w (upd H x o') h' x o'):HOk P w (upd H x o') h':=fun b u q=>by
 have nown:∀ c y,H c=some (.own y)→c≠x:=fun c y r z=>by subst z;rw[r] at mu;exact mu
 have ntup:∀ c xs,H c=some (.tup xs)→c≠x:=fun c xs r z=>by subst z;rw[r] at mu;exact mu
 have nfrz:∀ c ob w',H c=some (.frz ob w')→c≠x:=fun c ob w' r z=>by subst z;rw[r] at mu;exact mu
 by_cases hb:b=x
 ·subst hb;rw[qaj] at q;cases q;exact new
 ·rw[qal hb] at q
  by_cases hbe:b=e
  ·have q':H b=some (.own x):=by
    rcases he with z | z
    ·exact absurd (hbe.trans z) hb
    ·rw[hbe];exact z
   rw[q] at q';cases q'
   obtain⟨v,hv⟩:=heo
   exact⟨v,by rw[hbe];exact hv⟩
  ·refine (ok b u q).stay (fun c v hc r=>k c v ?_ r) (fun c r=>by rw[qal (nown c b r)];exact r) (fun c xs r=>by rw[qal (ntup c xs r)];exact r) fun c ob w' r=>by rw[qal (nfrz c ob w' r)];exact r
   rcases hc with rfl | hc
   ·exact hbe
   ·rintro rfl
    rcases he with z | z
    ·exact nown c b hc z
    ·rw[hc] at z;cases z;exact hb rfl
end
structure Un (fs ex:List Addr)(H H':Hp)(h h':Heap):Prop where
 keep:∀ b o,h.get? b=some o→H b=none→b∉fs→b∉ex→h'.get? b=some o
 slot:∀ b o,h.get? b=some o→H b=none→b∈fs→b∉ex→∃ sl,h'.get? b=some { o with slots:=sl }
 free:∀ b o,h.get? b=some o→H b=none→b∉ex→H' b=none
 there:∀ b o,h.get? b=some o→b∉ex→∃ o',h'.get? b=some o'
 tups:∀ b xs,H b=some (.tup xs)→H' b=some (.tup xs)
 frzs:∀ b o u,H b=some (.frz o u)→H' b=some (.frz o u)
 tbls:∀ b ps,H b=some (.tbl ps)→H' b=some (.tbl ps)
section
variable {fs fs' ex ex' : List Addr} {H H1 H2 : Hp} {h h1 h2 h' : Heap} {a x e : Addr} {o : HO}
theorem Un.any (u:Un fs ex H H1 h h1){b:Addr}{ob:Obj}(q:h.get? b=some ob)(n:H b=none)(hx:b∉ex):∃ sl,h1.get? b=some { ob with slots:=sl }:=by
 by_cases hb:b∈fs
 ·exact u.slot b ob q n hb hx
 ·exact⟨ob.slots,u.keep b ob q n hb hx⟩
theorem Un.kept (k:∀ b u,h.get? b=some u→h'.get? b=some u):Un fs ex H H h h' :=
 ⟨fun b ob q _ _ _=>k b ob q,fun b ob q _ _ _=>⟨ob.slots,k b ob q⟩,fun _ _ _ n _=>n,fun b ob q _=>⟨ob,k b ob q⟩,fun _ _ q=>q,fun _ _ _ q=>q,fun _ _ q=>q⟩
theorem Un.refl:Un fs ex H H h h:=Un.kept fun _ _ q=>q
theorem Un.laid (k:∀ b u,h.get? b=some u→h'.get? b=some u)(hp:h.objs.size≤a)(hn:H a=none):Un fs ex H (upd H a o) h h' where
 keep:=fun b u q _ _ _=>k b u q
 slot:=fun b u q _ _ _=>⟨u.slots,k b u q⟩
 free:=fun b u q n _=>by rw[qal (Nat.ne_of_lt (Nat.lt_of_lt_of_le (Heap.lt_size q) hp))];exact n
 there:=fun b u q _=>⟨u,k b u q⟩
 tups:=fun b xs q=>by rw[qal (qas q hn)];exact q
 frzs:=fun b u xs q=>by rw[qal (qas q hn)];exact q
 tbls:=fun b ps q=>by rw[qal (qas q hn)];exact q
theorem Un.write (mu:Mut (H x))(he:e=x∨H e=some (.own x))(k:∀ b u,b≠e→h.get? b=some u→h'.get? b=some u)(heo:∃ u,h'.get? e=some u):Un fs ex H (upd H x o) h h':=by
 have hx:∀ b,H b=none→b≠x:=fun b n z=>by subst z;rw[n] at mu;exact mu
 have hb:∀ b,H b=none→b≠e:=fun b n z=>by
  subst z
  rcases he with r | r
  ·exact hx b n r
  ·rw[n] at r;cases r
 have hm:∀ b u,H b=some u→¬ Mut (some u)→b≠x:=fun b u q nm z=>by subst z;rw[q] at mu;exact nm mu
 refine⟨fun b u q n _ _=>k b u (hb b n) q,fun b u q n _ _=>⟨u.slots,k b u (hb b n) q⟩,fun b u q n _=>by rw[qal (hx b n)];exact n,fun b u q _=>?_,
  fun b xs q=>by rw[qal (hm b _ q fun z=>z)];exact q,fun b u xs q=>by rw[qal (hm b _ q fun z=>z)];exact q,fun b ps q=>by rw[qal (hm b _ q fun z=>z)];exact q⟩
 by_cases hbe:b=e
 ·subst hbe;exact heo
 ·exact⟨u,k b u hbe q⟩
end
def trk (h:Heap)(H:Hp):List Addr:=(List.range h.objs.size).filter fun a=>(H a).isSome
def qk1 (h:Heap)(H:Hp):Heap:=PySem.W.hideAll h (trk h H)
theorem qkn (h:Heap)(H:Hp):(qk1 h H).objs.size=h.objs.size:=PySem.W.hideAll_size _ _
theorem qlu {h:Heap}{H:Hp}{b:Addr}{o:Obj}(e:h.get? b=some o)(n:H b=none):(qk1 h H).get? b=some o :=
 PySem.W.hideAll_get _ e fun hm=>by
  have q:(H b).isSome=true:=(List.mem_filter.mp hm).2
  rw[n] at q;simp at q
theorem qns {h:Heap}{H:Hp}{b:Addr}{o:Obj}(e:(qk1 h H).get? b=some o):h.get? b=some o∧H b=none:=by
 have e':h.get? b=some o:=PySem.W.of_hideAll (trk h H) e
 refine⟨e',?_⟩
 cases q:H b with
 | none=>rfl
 | some x =>
  have hm:b∈trk h H:=List.mem_filter.mpr ⟨List.mem_range.mpr (Heap.lt_size e'),by simp [q]⟩
  have z:(qk1 h H).get? b=none:=PySem.W.hideAll_none (trk h H) hm
  rw[z] at e;cases e
structure Mod (K:PySem.W.Frag)(mg:Str→Option Value)(base:Heap):Prop where
 kin:K.In base
 glob:base.Ns mainGlobals mg
 blt:∃ mb,base.Ns builtinsNs mb∧∀ x:Str,x≠"__name__"→mb x=bootBuiltins x
 nolimit:base.NoLimit
 bmod:∃ bm ob,mg "__builtins__"=some (.ref bm)∧bm≠builtinsNs∧base.get? bm=some ob∧ob.cls=.type "module"∧ob.dict=some builtinsNs∧ob.data=.plain
 seer:base.NoSeer
 dig:∃ mc,base.Ns cStatics mc∧mc "sys.int_max_str_digits"=none
structure Cx where
 prog:Program
 w:World
 K:PySem.W.Frag
 mg:Str→Option Value
 base:Heap
 A:Around
 N:List Str
 s₀:Shared
 H₀:Hp
 env:Env
 outer:List Env
 stack:List Env
 ex:List Addr
 fn:Str→Bool
 calm:Bool
 pn:List (Addr × Obj)
 xe:Value→Shared→Prop
def frs (l:List Env):List Addr:=l.filterMap (·.frame)
abbrev Cx.fs (X:Cx):List Addr:=frs X.outer
def Vis (sc:Scope)(x:Str):Prop:=sc.names.lookup x=some .local∨sc.names.lookup x=some .cell∨sc.names.lookup x=some .free
def Loc (sc:Scope)(x:Str):Prop:=sc.names.lookup x=some .local∨sc.names.lookup x=some .cell
def qr9 (env:Env)(h:Heap)(m:Str→Option Value)(x:Str)(u:Value):Prop :=
 (env.kindOf x=some .local∧m x=some u)∨((env.kindOf x=some .cell∨env.kindOf x=some .free)∧∃ c,env.cells.lookup x=some c∧h.IsCell c (some u))
structure Cx.Ok (X:Cx):Prop where
 mod:Mod X.K X.mg X.base
 kind:X.env.scope.kind=.function
 glob:X.env.globals=mainGlobals
 blt:X.env.builtins=builtinsNs
 above:X.s₀.heap.objs.size≤X.env.locals
 inj:∀ x y c,X.env.cells.lookup x=some c→X.env.cells.lookup y=some c→x=y
 has:∀ x,(X.env.kindOf x=some .cell∨X.env.kindOf x=some .free)→∃ c,X.env.cells.lookup x=some c
 cab:∀ x c,X.fn x=true→X.env.cells.lookup x=some c→X.s₀.heap.objs.size≤c
 hd:X.calm=true→X.A.handled=none
 frames:X.A.frames=some X.stack
 stk:X.stack=X.outer∨(X.stack=X.env::X.outer∧X.env.frame=some X.env.locals)
 exf:∀ b∈X.ex,b≠X.env.locals∧∀ x c,X.env.cells.lookup x=some c→c≠b
 bs:∀ b o,X.base.get? b=some o→X.s₀.heap.get? b=some o∧X.H₀ b=none
 bsz:X.base.objs.size≤X.s₀.heap.objs.size
 noex:∀ b o,X.base.get? b=some o→b∉X.ex
 exfs:∀ b∈X.ex,b∉X.fs
 funs:X.s₀.heap.FunFrames X.base X.outer
 frf:∀ b∈X.fs,X.H₀ b=none
structure Inv (X:Cx)(pins:List (Addr × Obj))(σ:List (Option V))(H:Hp)(s:Shared):Prop where
 ok:X.Ok
 os:s.os=X.s₀.os
 bare:AllBare s.gens
 base:Un X.fs X.ex X.H₀ H X.s₀.heap s.heap
 loc:∃ m,s.heap.Ns X.env.locals m∧∀ (i:Nat) (x:Str) (v:V),X.N[i]?=some x→σ[i]?=some (some v)→Vis X.env.scope x→∃ u,RelV v u∧qr9 X.env s.heap m x u
 cell:∀ x c,X.env.cells.lookup x=some c→∃ v,s.heap.IsCell c v
 free:H X.env.locals=none
 freeC:∀ x c,X.env.cells.lookup x=some c→H c=none
 pin:∀ p∈X.pn++pins,s.heap.get? p.1=some p.2∧H p.1=none∧p.1≠X.env.locals∧p.1∉X.fs∧∀ v,p.2.data≠.cell v
 hok:HOk X.prog X.w H s.heap
 len:σ.length=X.N.length
section
variable {X : Cx} {pins : List (Addr × Obj)} {σ : List (Option V)} {H H' : Hp} {s : Shared} {h' : Heap}
theorem Cx.Ok.nofr (ok:X.Ok){b:Addr}{o:Obj}(e:X.base.get? b=some o):b∉X.fs:=fun hb=>by
 have:=(ok.funs.mem hb).1
 rw[e] at this;cases this
theorem Inv.bs (I:Inv X pins σ H s):∀ b o,X.base.get? b=some o→s.heap.get? b=some o∧H b=none:=fun b o e =>
 ⟨I.base.keep b o (I.ok.bs b o e).1 (I.ok.bs b o e).2 (I.ok.nofr e) (I.ok.noex b o e),I.base.free b o (I.ok.bs b o e).1 (I.ok.bs b o e).2 (I.ok.noex b o e)⟩
theorem Inv.bk (I:Inv X pins σ H s):∀ b o,X.base.get? b=some o→s.heap.get? b=some o:=fun b o e=>(I.bs b o e).1
theorem Inv.mod (I:Inv X pins σ H s):Mod X.K X.mg X.base:=I.ok.mod
theorem Inv.kIn (I:Inv X pins σ H s):X.K.In s.heap:=I.ok.mod.kin.keeps I.bk
theorem Inv.lt (I:Inv X pins σ H s):X.env.locals<s.heap.objs.size:=let ⟨_,hn,_⟩:=I.loc;hn.lt
theorem Inv.sz (I:Inv X pins σ H s):X.s₀.heap.objs.size≤s.heap.objs.size:=Nat.le_trans I.ok.above (Nat.le_of_lt I.lt)
theorem Inv.nofs (I:Inv X pins σ H s){a:Addr}(h:s.heap.objs.size≤a):a∉X.fs:=fun hb=>by
 obtain⟨_,o,ho,_⟩:=I.ok.funs.mem hb
 exact absurd (Nat.lt_of_lt_of_le (Heap.lt_size ho) (Nat.le_trans I.sz h)) (Nat.lt_irrefl _)
theorem Inv.cne (I:Inv X pins σ H s):∀ x c,X.env.cells.lookup x=some c→c≠X.env.locals:=fun x c e z=>by
 obtain⟨v,o,ho,hd⟩:=I.cell x c e
 obtain⟨m,⟨o',es,ep,ho',hd',_⟩,_⟩:=I.loc
 rw[z,ho'] at ho;cases ho;rw[hd'] at hd;cases hd
theorem Inv.funs (I:Inv X pins σ H s):s.heap.FunFrames X.base X.outer:=by
 have all:∀ (l:List Env),(∀ b∈frs l,b∈X.fs)→X.s₀.heap.FunFrames X.base l→s.heap.FunFrames X.base l:=by
  intro l
  induction l with
  | nil=>intro _ _;trivial
  | cons env r ih =>
   intro hs hl
   obtain⟨hk,⟨L,o,hf,hn,ho,hd⟩,hr⟩:=hl
   have hL:L∈X.fs:=hs L (by unfold frs;rw[List.filterMap_cons,hf];exact List.mem_cons_self)
   obtain⟨sl,e⟩:=I.base.slot L o ho (I.ok.frf L hL) hL fun z=>I.ok.exfs L z hL
   exact⟨hk,⟨L,_,hf,hn,e,hd⟩,ih (fun b hb=>hs b (by unfold frs;rw[List.filterMap_cons,hf];exact List.mem_cons_of_mem _ hb)) hr⟩
 exact all X.outer (fun _ hb=>hb) I.ok.funs
theorem Inv.stack (I:Inv X pins σ H s):s.heap.FunFrames X.base X.stack:=by
 rcases I.ok.stk with e | ⟨e,hf⟩
 ·rw[e];exact I.funs
 ·rw[e]
  obtain⟨m,hn,_⟩:=I.loc
  refine .cons (by rw[I.ok.kind];decide) hf hn ?_ I.funs
  exact Heap.get?_none_of_le (Nat.le_trans I.ok.bsz I.ok.above)
theorem Inv.stkSub (I:Inv X pins σ H s):∀ b∈frs X.stack,b∈X.env.locals::X.fs:=fun b hb=>by
 rcases I.ok.stk with e | ⟨e,hf⟩
 ·rw[e] at hb;exact List.mem_cons_of_mem _ hb
 ·rw[e] at hb
  unfold frs at hb
  rw[List.filterMap_cons,hf] at hb
  exact hb
theorem Inv.stkFree (I:Inv X pins σ H s):∀ b∈frs X.stack,H b=none:=fun b hb=>by
 rcases List.mem_cons.mp (I.stkSub b hb) with e | hb
 ·rw[e];exact I.free
 ·obtain⟨_,o,ho,_⟩:=I.ok.funs.mem hb
  exact I.base.free b o ho (I.ok.frf b hb) fun z=>I.ok.exfs b z hb
theorem Inv.step {g':Array GenState}{t':Nat}{d':Drawn}{ch:List Addr}(I:Inv X pins σ H s)
  (hch:∀ b∈ch,(b∈X.ex∨X.s₀.heap.objs.size≤b)∧b≠X.env.locals∧(∀ x c,X.env.cells.lookup x=some c→c≠b)∧∀ p∈X.pn++pins,p.1≠b)
  (keep:∀ b o,b≠X.env.locals→b∉X.fs→b∉ch→s.heap.get? b=some o→H b=none→h'.get? b=some o)
  (slot:∀ b o,b≠X.env.locals→b∈X.fs→b∉ch→s.heap.get? b=some o→H b=none→∃ sl,h'.get? b=some { o with slots:=sl }) (free:∀ b o,b∉ch→s.heap.get? b=some o→H b=none→H' b=none)
  (there:∀ b o,b∉ch→s.heap.get? b=some o→∃ o',h'.get? b=some o')
  (tups:∀ b xs,H b=some (.tup xs)→H' b=some (.tup xs)) (frzs:∀ b o u,H b=some (.frz o u)→H' b=some (.frz o u)) (tbls:∀ b ps,H b=some (.tbl ps)→H' b=some (.tbl ps))
  (ns:∀ m,s.heap.Ns X.env.locals m→h'.Ns X.env.locals m) (hok:HOk X.prog X.w H' h') (hg:AllBare g') :
  Inv X pins σ H' { s with heap:=h',gens:=g',drawn:=d',toks:=t' }:=by
 have neL:∀ b o,X.s₀.heap.get? b=some o→b≠X.env.locals:=fun b o e=>Nat.ne_of_lt (Nat.lt_of_lt_of_le (Heap.lt_size e) I.ok.above)
 have neC:∀ b o,X.s₀.heap.get? b=some o→b∉X.ex→b∉ch:=fun b o e hx hb=>by
  rcases (hch b hb).1 with z | z
  ·exact hx z
  ·exact absurd (Nat.lt_of_lt_of_le (Heap.lt_size e) z) (Nat.lt_irrefl _)
 have cellK:∀ x c,X.env.cells.lookup x=some c→∀ v,s.heap.IsCell c v→h'.IsCell c v:=fun x c e v hq0=>by
  obtain⟨o,ho,hd⟩:=hq0
  have nch:c∉ch:=fun z=>(hch c z).2.2.1 x c e rfl
  by_cases hc:c∈X.fs
  ·obtain⟨sl,q⟩:=slot c o (I.cne x c e) hc nch ho (I.freeC x c e)
   exact⟨_,q,hd⟩
  ·exact⟨o,keep c o (I.cne x c e) hc nch ho (I.freeC x c e),hd⟩
 refine⟨I.ok,I.os,hg,⟨fun b o e n hb hx=>?_,fun b o e n hb hx=>?_,fun b o e n hx=>?_,fun b o e hx=>?_,fun b xs e=>tups b xs (I.base.tups b xs e),fun b o xs e=>frzs b o xs (I.base.frzs b o xs e),fun b ps e=>tbls b ps (I.base.tbls b ps e)⟩,?_,fun x c e=>?_,?_,fun x c e=>?_,fun p hp=>?_,hok,I.len⟩
 ·exact keep b o (neL b o e) hb (neC b o e hx) (I.base.keep b o e n hb hx) (I.base.free b o e n hx)
 ·obtain⟨sl,e1⟩:=I.base.slot b o e n hb hx
  obtain⟨sl',e2⟩:=slot b _ (neL b o e) hb (neC b o e hx) e1 (I.base.free b o e n hx)
  exact⟨sl',e2⟩
 ·obtain⟨o',e1⟩:=I.base.there b o e hx
  exact free b o' (neC b o e hx) e1 (I.base.free b o e n hx)
 ·obtain⟨o',e1⟩:=I.base.there b o e hx
  exact there b o' (neC b o e hx) e1
 ·obtain⟨m,hn,hl⟩:=I.loc
  refine⟨m,ns m hn,fun i x v e1 e2 e3=>?_⟩
  obtain⟨u,r,l⟩:=hl i x v e1 e2 e3
  refine⟨u,r,?_⟩
  rcases l with l | ⟨k,c,e,z⟩
  ·exact .inl l
  ·exact .inr ⟨k,c,e,cellK x c e _ z⟩
 ·obtain⟨v,z⟩:=I.cell x c e
  exact⟨v,cellK x c e v z⟩
 ·obtain⟨m,⟨o,_,_,ho,_⟩,_⟩:=I.loc
  exact free _ o (fun z=>(hch _ z).2.1 rfl) ho I.free
 ·obtain⟨v,o,ho,hd⟩:=I.cell x c e
  exact free c o (fun z=>(hch c z).2.2.1 x c e rfl) ho (I.freeC x c e)
 ·obtain⟨e,n,ne,nf,d⟩:=I.pin p hp
  have nch:p.1∉ch:=fun z=>(hch p.1 z).2.2.2 p hp rfl
  exact⟨keep p.1 p.2 ne nf nch e n,free p.1 p.2 nch e n,ne,nf,d⟩
theorem Inv.un {t':Nat}(I:Inv X pins σ H s)(u:Un X.fs [] H H' s.heap h')(hok:HOk X.prog X.w H' h'):Inv X pins σ H' { s with heap:=h',toks:=t' }:=by
 obtain⟨m,⟨o,es,ep,ho,r⟩,_⟩:=id I.loc
 obtain⟨sl,hL⟩:=u.any ho I.free (by simp)
 exact I.step (g':=s.gens) (d':=s.drawn) (ch:=[]) (fun _ z=>nomatch z) (fun b o _ hb _ e n=>u.keep b o e n hb (by simp)) (fun b o _ hb _ e n=>u.slot b o e n hb (by simp)) (fun b o _ e n=>u.free b o e n (by simp)) (fun b o _ e=>u.there b o e (by simp)) u.tups u.frzs u.tbls (fun m' hm=>by
  obtain⟨o',es',ep',ho',r'⟩:=hm
  rw[ho] at ho';cases ho'
  exact⟨_,es',ep',hL,r'⟩) hok I.bare
theorem Inv.call {g':Array GenState}{t':Nat}{d':Drawn}{ch:List Addr}(I:Inv X pins σ H s)(u:Un (frs X.stack) ch H H' s.heap h')(hok:HOk X.prog X.w H' h')(hg:AllBare g')
  (hch:∀ b∈ch,(b∈X.ex∨X.s₀.heap.objs.size≤b)∧b≠X.env.locals∧(∀ x c,X.env.cells.lookup x=some c→c≠b)∧∀ p∈X.pn++pins,p.1≠b) :
  Inv X pins σ H' { s with heap:=h',gens:=g',drawn:=d',toks:=t' }:=by
 obtain⟨m,⟨o,es,ep,ho,r⟩,_⟩:=id I.loc
 obtain⟨sl,hL⟩:=u.any ho I.free fun z=>(hch _ z).2.1 rfl
 exact I.step (ch:=ch) hch (fun b o hL hb hc e n=>u.keep b o e n (fun z=>(List.mem_cons.mp (I.stkSub b z)).elim hL hb) hc) (fun b o _ _ hc e n=>u.any e n hc) (fun b o hc e n=>u.free b o e n hc) (fun b o hc e=>u.there b o e hc) u.tups u.frzs u.tbls (fun m' hm=>by
  obtain⟨o',es',ep',ho',r'⟩:=hm
  rw[ho] at ho';cases ho'
  exact⟨_,es',ep',hL,r'⟩) hok hg
theorem Inv.turned {t':Nat}{it:Addr}(I:Inv X pins σ H s)(k:∀ b o,b≠it→s.heap.get? b=some o→h'.get? b=some o)(hn:H it=none)(hL:it≠X.env.locals)
  (h1:it∈X.ex∨X.s₀.heap.objs.size≤it) (h2:∀ x c,X.env.cells.lookup x=some c→c≠it) (h3:∀ p∈X.pn++pins,p.1≠it):Inv X pins σ H { s with heap:=h',toks:=t' }:=by
 have nit:∀ b u,H b=some u→b≠it:=fun b u e z=>by rw[z,hn] at e;cases e
 refine I.step (g':=s.gens) (d':=s.drawn) (ch:=[it]) (fun b hb=>?_) (fun b o _ _ hc e _=>k b o (fun z=>hc (by simp [z])) e) (fun b o _ _ hc e _=>⟨o.slots,k b o (fun z=>hc (by simp [z])) e⟩) (fun _ _ _ _ n=>n)
  (fun b o hc e=>⟨o,k b o (fun z=>hc (by simp [z])) e⟩) (fun _ _ e=>e) (fun _ _ _ e=>e) (fun b ps e=>e) (fun m hm=>?_) (fun b u e=>?_) I.bare
 ·have e:b=it:=by simpa using hb
  subst e
  exact⟨h1,hL,h2,h3⟩
 ·obtain⟨o,es,ep,ho,r⟩:=hm
  exact⟨o,es,ep,k _ o (Ne.symm hL) ho,r⟩
 ·refine (I.hok b u e).stay (fun c v hc q=>k c v ?_ q) (fun _ q=>q) (fun _ _ q=>q) fun _ _ _ q=>q
  rcases hc with z | z
  ·rw[z];exact nit b u e
  ·exact nit c _ z
theorem Inv.tok (I:Inv X pins σ H s)(t:Nat):Inv X pins σ H { s with toks:=t }:=I.un (h':=s.heap) (t':=t) Un.refl I.hok
theorem Inv.kept {t':Nat}(I:Inv X pins σ H s)(k:∀ b u,s.heap.get? b=some u→h'.get? b=some u):Inv X pins σ H { s with heap:=h',toks:=t' }:=I.un (Un.kept k) (I.hok.kept k)
theorem Inv.laid {a:Addr}{o:HO}{t':Nat}(I:Inv X pins σ H s)(k:∀ b u,s.heap.get? b=some u→h'.get? b=some u)(hp:s.heap.objs.size≤a)(new:ObjOk X.prog X.w (upd H a o) h' a o) :
  Inv X pins σ (upd H a o) { s with heap:=h',toks:=t' }:=I.un (Un.laid k hp (I.hok.fresh hp)) (I.hok.laid k hp new)
theorem Inv.write {x e:Addr}{o:HO}{t':Nat}(I:Inv X pins σ H s)(mu:Mut (H x))(he:e=x∨H e=some (.own x))(k:∀ b u,b≠e→s.heap.get? b=some u→h'.get? b=some u)(heo:∃ u,h'.get? e=some u)
  (new:ObjOk X.prog X.w (upd H x o) h' x o):Inv X pins σ (upd H x o) { s with heap:=h',toks:=t' }:=I.un (Un.write mu he k heo) (I.hok.write mu he k heo new)
theorem Inv.pins_of {pins':List (Addr × Obj)}(I:Inv X pins σ H s)(h:∀ p∈pins',s.heap.get? p.1=some p.2∧H p.1=none∧p.1≠X.env.locals∧p.1∉X.fs∧∀ v,p.2.data≠.cell v):Inv X pins' σ H s :=
 ⟨I.ok,I.os,I.bare,I.base,I.loc,I.cell,I.free,I.freeC,fun p hp=>(List.mem_append.mp hp).elim (fun z=>I.pin p (List.mem_append_left _ z)) (h p),I.hok,I.len⟩
theorem qhV {N:List Str}(hN:N.Nodup){i j:Nat}{x:Str}(a:N[i]?=some x)(b:N[j]?=some x):i=j:=by
 obtain⟨h1,e1⟩:=List.getElem?_eq_some_iff.mp a
 obtain⟨h2,e2⟩:=List.getElem?_eq_some_iff.mp b
 exact (List.getElem_inj hN).mp (e1.trans e2.symm)
theorem qgh {M:Model}{A:Around}{E:Value→Shared→Prop}{i:Nat}{x:Str}{v:V}{u:Value}{Q:Unit→Shared→Prop}(I:Inv X pins σ H s)(hN:X.N.Nodup)(hi:X.N[i]?=some x)(hx:Loc X.env.scope x)(r:RelV v u)
  (h:∀ s',Inv X pins (σ.set i (some v)) H s'→(∃ a,Heap.SameBut a s.heap s'.heap∧(a=X.env.locals∨X.env.cells.lookup x=some a))→Q () s') (hf:X.fn x=true∨X.env.scope.names.lookup x=some .local:=by first | exact .inl rfl | exact .inr rfl | assumption):wpAny M A (storeName X.env x u) Q E s:=by
 obtain⟨m,hn,hl⟩:=id I.loc
 have hcls:(X.env.scope.kind == .class || (X.env.scope.kind == .module && X.env.locals != X.env.globals))=false:=by rw[I.ok.kind];rfl
 have hiσ:i<σ.length:=by rw[I.len];exact (List.getElem?_eq_some_iff.mp hi).1
 have cne:=I.cne
 have tracked:∀ {a:Addr} {h':Heap},(∃ o,s.heap.get? a=some o∧H a=none)→Heap.SameBut a s.heap h'→HOk X.prog X.w H h':=fun {a h'} ha hs b ob e=>by
  obtain⟨_,_,hfree⟩:=ha
  refine (I.hok b ob e).stay (fun c w' hc q=>(hs.2 c ?_).trans q) (fun _ q=>q) (fun _ _ q=>q) fun _ _ _ q=>q
  rintro rfl
  rcases hc with rfl | hc
  ·rw[hfree] at e;cases e
  ·rw[hfree] at hc;cases hc
 rcases hx with hk | hk
 ·refine wpAny_storeName_local hk hn (fun h' hn' hs=>?_) hcls
  obtain⟨oL,_,_,hoL,_⟩:=id hn
  refine h _ ⟨I.ok,I.os,I.bare,⟨fun b o e n hb hx=>?_,fun b o e n hb hx=>?_,I.base.free,fun b o e hx=>?_,I.base.tups,I.base.frzs,I.base.tbls⟩,⟨_,hn',fun j y v' e1 e2 e3=>?_⟩,fun y c e=>?_,I.free,I.freeC,fun p hp=>?_,tracked ⟨oL,hoL,I.free⟩ hs,by simpa using I.len⟩ ⟨_,hs,.inl rfl⟩
  ·exact (hs.2 b (Nat.ne_of_lt (Nat.lt_of_lt_of_le (Heap.lt_size e) I.ok.above))).trans (I.base.keep b o e n hb hx)
  ·obtain⟨sl,e1⟩:=I.base.slot b o e n hb hx
   exact⟨sl,(hs.2 b (Nat.ne_of_lt (Nat.lt_of_lt_of_le (Heap.lt_size e) I.ok.above))).trans e1⟩
  ·obtain⟨o',e1⟩:=I.base.there b o e hx
   exact⟨o',(hs.2 b (Nat.ne_of_lt (Nat.lt_of_lt_of_le (Heap.lt_size e) I.ok.above))).trans e1⟩
  ·by_cases hj:j=i
   ·subst hj
    rw[hi] at e1;cases e1
    rw[List.getElem?_set_self hiσ] at e2
    cases e2
    exact⟨u,r,.inl ⟨hk,by simp⟩⟩
   ·rw[List.getElem?_set_ne (Ne.symm hj)] at e2
    obtain⟨u',r',q⟩:=hl j y v' e1 e2 e3
    refine⟨u',r',?_⟩
    rcases q with⟨k,e⟩ | ⟨k,c,e,z⟩
    ·refine .inl ⟨k,?_⟩
     have:y≠x:=fun e=>hj (qhV hN e1 (e ▸ hi))
     simp [this,e]
    ·exact .inr ⟨k,c,e,z.sameBut hs (cne y c e)⟩
  ·obtain⟨w',z⟩:=I.cell y c e
   exact⟨w',z.sameBut hs (cne y c e)⟩
  ·obtain⟨e,n,ne,nf,d⟩:=I.pin p hp
   exact⟨(hs.2 p.1 ne).trans e,n,ne,nf,d⟩
 ·have hfn:X.fn x=true:=by
   rcases hf with z | z
   ·exact z
   ·rw[z] at hk;cases hk
  obtain⟨c,hc⟩:=I.ok.has x (.inl hk)
  obtain⟨w',z⟩:=I.cell x c hc
  refine wpAny_storeName_cell I.ok.kind hk hc z (fun h' hc' hs=>?_)
  obtain⟨oc,hoc,hocd⟩:=id z
  refine h { s with heap:=h' } ⟨I.ok,I.os,I.bare,⟨fun b o e n hb hx=>?_,fun b o e n hb hx=>?_,I.base.free,fun b o e hx=>?_,I.base.tups,I.base.frzs,I.base.tbls⟩,⟨m,hn.sameBut hs (Ne.symm (cne x c hc)),fun j y v' e1 e2 e3=>?_⟩,fun y c' e=>?_,I.free,I.freeC,fun p hp=>?_,tracked ⟨oc,hoc,I.freeC x c hc⟩ hs,by simpa using I.len⟩ ⟨c,hs,.inr hc⟩
  ·exact (hs.2 b (Nat.ne_of_lt (Nat.lt_of_lt_of_le (Heap.lt_size e) (I.ok.cab x c hfn hc)))).trans (I.base.keep b o e n hb hx)
  ·obtain⟨sl,e1⟩:=I.base.slot b o e n hb hx
   exact⟨sl,(hs.2 b (Nat.ne_of_lt (Nat.lt_of_lt_of_le (Heap.lt_size e) (I.ok.cab x c hfn hc)))).trans e1⟩
  ·obtain⟨o',e1⟩:=I.base.there b o e hx
   exact⟨o',(hs.2 b (Nat.ne_of_lt (Nat.lt_of_lt_of_le (Heap.lt_size e) (I.ok.cab x c hfn hc)))).trans e1⟩
  ·by_cases hj:j=i
   ·subst hj
    rw[hi] at e1;cases e1
    rw[List.getElem?_set_self hiσ] at e2
    cases e2
    exact⟨u,r,.inr ⟨.inl hk,c,hc,hc'⟩⟩
   ·rw[List.getElem?_set_ne (Ne.symm hj)] at e2
    obtain⟨u',r',q⟩:=hl j y v' e1 e2 e3
    refine⟨u',r',?_⟩
    rcases q with q | ⟨k,c',e,z'⟩
    ·exact .inl q
    ·refine .inr ⟨k,c',e,z'.sameBut hs ?_⟩
     rintro rfl
     exact hj (qhV hN e1 (I.ok.inj _ _ _ e hc ▸ hi))
  ·by_cases hcc:c'=c
   ·subst hcc;exact⟨_,hc'⟩
   ·obtain⟨w2,z2⟩:=I.cell y c' e
    exact⟨w2,z2.sameBut hs hcc⟩
  ·obtain⟨e,n,ne,nf,d⟩:=I.pin p hp
   refine⟨(hs.2 p.1 ?_).trans e,n,ne,nf,d⟩
   intro q
   rw[q,hoc] at e
   have q':oc=p.2:=Option.some.inj e
   exact d w' (by rw[← q'];exact hocd)
theorem qfG {M:Model}{A:Around}{E:Value→Shared→Prop}{i:Nat}{x:Str}{v:V}{u:Value}{Q:Unit→Shared→Prop}(I:Inv X pins σ H s)(hN:X.N.Nodup)(hi:X.N[i]?=some x)(hx:Loc X.env.scope x)(r:RelV v u)
  (h:∀ s',Inv X pins (σ.set i (some v)) H s'→Q () s') (hf:X.fn x=true∨X.env.scope.names.lookup x=some .local:=by first | exact .inl rfl | exact .inr rfl | assumption):wpAny M A (storeName X.env x u) Q E s :=
 qgh I hN hi hx r (fun s' I' _=>h s' I') hf
theorem Inv.call' {s':Shared}{ch:List Addr}(I:Inv X pins σ H s)(ho:s'.os=s.os)(u:Un (frs X.stack) ch H H' s.heap s'.heap)(hok:HOk X.prog X.w H' s'.heap)(hg:AllBare s'.gens)
  (hch:∀ b∈ch,(b∈X.ex∨X.s₀.heap.objs.size≤b)∧b≠X.env.locals∧(∀ x c,X.env.cells.lookup x=some c→c≠b)∧∀ p∈X.pn++pins,p.1≠b):Inv X pins σ H' s':=by
 obtain⟨h',g',d',t',o'⟩:=s'
 have e:o'=s.os:=ho
 subst e
 exact I.call (g':=g') (t':=t') (d':=d') u hok hg hch
end
abbrev XK:=Value→Option Addr→Hp→Prop
abbrev St:=List (Option V)
abbrev VK:=V→Hp→Prop
abbrev TE:=St→Hp→VK→Prop
abbrev TT:=St→Hp→(Bool→Hp→Prop)→Prop
abbrev TA:=St→Hp→(List V→Hp→Prop)→Prop
structure Ends where
 nx:St→Hp→Prop
 rt:VK
 bk:St→Hp→Prop:=fun _ _=>False
 ct:St→Hp→Prop:=fun _ _=>False
abbrev TS:=Ends→St→Hp→Prop
def EP (X:Cx)(pins:List (Addr × Obj))(σ:St)(Q:VK)(u:Value)(s':Shared):Prop:=∃ v H',Inv X pins σ H' s'∧RelV v u∧Q v H'
def TP (X:Cx)(pins:List (Addr × Obj))(σ:St)(Q:Bool→Hp→Prop)(b:Bool)(s':Shared):Prop:=∃ H',Inv X pins σ H' s'∧Q b H'
def AP (X:Cx)(pins:List (Addr × Obj))(σ:St)(Q:List V→Hp→Prop)(us:List Value)(s':Shared):Prop:=∃ vs H',Inv X pins σ H' s'∧Vals vs us∧Q vs H'
def SP (X:Cx)(pins:List (Addr × Obj))(D:Ends)(f:Flow)(s':Shared):Prop :=
 match f with
 | .next=>∃ σ' H',Inv X pins σ' H' s'∧D.nx σ' H'
 | .brk=>∃ σ' H',Inv X pins σ' H' s'∧D.bk σ' H'
 | .cont=>∃ σ' H',Inv X pins σ' H' s'∧D.ct σ' H'
 | .ret u=>∃ v σ' H',Inv X pins σ' H' s'∧RelV v u∧D.rt v H'
def PE (X:Cx)(e:Expr)(t:TE):Prop :=
 ∀ (pins:List (Addr × Obj)) (s:Shared) (σ:St) (H:Hp) (Q:VK),Inv X pins σ H s→t σ H Q→wpAny (model X.prog X.w) X.A (eval e X.env) (EP X pins σ Q) X.xe s
def PT (X:Cx)(e:Expr)(t:TT):Prop :=
 ∀ (pins:List (Addr × Obj)) (s:Shared) (σ:St) (H:Hp) (Q:Bool→Hp→Prop),Inv X pins σ H s→t σ H Q→wpAny (model X.prog X.w) X.A (isTrue e X.env (eval e X.env)) (TP X pins σ Q) X.xe s
def PW (X:Cx)(e:Expr)(t:TT):Prop :=
 ∀ (whole:Sem Value) (pins:List (Addr × Obj)) (s:Shared) (σ:St) (H:Hp) (Q:Bool→Hp→Prop),Inv X pins σ H s→t σ H Q→wpAny (model X.prog X.w) X.A (isTrue e X.env whole) (TP X pins σ Q) X.xe s
theorem PW.pt {X:Cx}{e:Expr}{t:TT}(h:PW X e t):PT X e t:=h _
def PA (X:Cx)(es:List Expr)(t:TA):Prop :=
 ∀ (pos:Pos) (pins:List (Addr × Obj)) (s:Shared) (σ:St) (H:Hp) (Q:List V→Hp→Prop),Inv X pins σ H s→t σ H Q→wpAny (model X.prog X.w) X.A (spliced (backTo pos (starEach es X.env))) (AP X pins σ Q) X.xe s
def PS (X:Cx)(st:Stmt)(t:TS):Prop :=
 ∀ (pins:List (Addr × Obj)) (s:Shared) (σ:St) (H:Hp) (D:Ends),Inv X pins σ H s→t D σ H→wpAny (model X.prog X.w) X.A (exec st X.env) (SP X pins D) X.xe s
def PSs (X:Cx)(st:List Stmt)(t:TS):Prop :=
 ∀ (pins:List (Addr × Obj)) (s:Shared) (σ:St) (H:Hp) (D:Ends),Inv X pins σ H s→t D σ H→wpAny (model X.prog X.w) X.A (execs st X.env) (SP X pins D) X.xe s
theorem thn {α:Type}{t:Sem α}{Q Q':α→Shared→Prop}{M:Model}{A:Around}{E:Value→Shared→Prop}{s:Shared}(h:wpAny M A t Q E s)(hQ:∀ a s,Q a s→Q' a s):wpAny M A t Q' E s:=wpAny_mono h hQ fun _ _ x=>x
section
variable {X : Cx}
def ql4 (i:Nat):TE:=fun σ H Q=>∃ v,σ[i]?=some (some v)∧Q v H
def tC (v:V):TE:=fun _ H Q=>Q v H
theorem qj0 {i:Nat}{x:Str}{pos:Pos}(hN:X.N[i]?=some x)(hv:Vis X.env.scope x)(hd:(x == ("__debug__":Str))=false:=by decide)(hcd:(x == ("__classdict__":Str))=false:=by decide):PE X (.Name x pos) (ql4 i):=by
 intro pins s σ H Q I h
 obtain⟨v,e,h⟩:=h
 obtain⟨m,hn,hl⟩:=I.loc
 obtain⟨u,r,l⟩:=hl i x v hN e hv
 have fin:EP X pins σ Q u s:=⟨v,H,I,r,h⟩
 rcases l with⟨hk,hm⟩ | ⟨hk,c,hc,hcell⟩
 ·exact wpAny_Name (wpAny_loadName_local I.ok.kind hk hn hm fin) hd
 ·rcases hk with hk | hk
  ·exact wpAny_Name (wpAny_loadName_cell I.ok.kind hk hc hcell fin) hd
  ·exact wpAny_Name (wpAny_loadName_free I.ok.kind hk hc hcell fin hcd) hd
theorem qjR {i j pos}:PE X (.Constant (.int i) j pos) (tC (.int i)):=fun _ _ _ H _ I h=>wpAny_Constant_int ⟨.int i,H,I.tok _,⟨_,rfl⟩,h⟩
theorem qqC {b j pos}:PE X (.Constant (.bool b) j pos) (tC (.bl b)):=fun _ _ _ H _ I h=>Constant_bool ⟨.bl b,H,I,rfl,h⟩
theorem qn7 {j pos}:PE X (.Constant .none j pos) (tC .non):=fun _ _ _ H _ I h=>Constant_none ⟨.non,H,I,rfl,h⟩
theorem qog {x j pos}:PE X (.Constant (.str x) j pos) (tC (.str x)):=fun _ _ _ H _ I h=>Calls.Constant_str ⟨.str x,H,I.tok _,⟨_,rfl⟩,h⟩
def Gl (X:Cx)(x:Str):Prop:=X.env.kindOf x=some .globalImplicit
theorem qeG {E:Value→Shared→Prop}{pins:List (Addr × Obj)}{s:Shared}{σ:St}{H:Hp}{x:Str}{u:Value}{pos:Pos}{Q:Value→Shared→Prop}(I:Inv X pins σ H s)(hg:Gl X x)(hm:X.mg x=some u)(h:Q u s)
  (hd:(x == ("__debug__":Str))=false:=by decide):wpAny (model X.prog X.w) X.A (eval (.Name x pos) X.env) Q E s :=
 Calls.Name_function_global I.ok.kind hg (Calls.loadGlobal_global (by rw[I.ok.glob];exact I.mod.glob.keeps I.bk) hm h) hd
theorem qgR {E:Value→Shared→Prop}{pins:List (Addr × Obj)}{s:Shared}{σ:St}{H:Hp}{x:Str}{u:Value}{pos:Pos}{Q:Value→Shared→Prop}(I:Inv X pins σ H s)(hg:Gl X x)(hm:X.mg x=none)(hv:bootBuiltins x=some u)(h:Q u s)
  (hn:x≠"__name__":=by decide) (hd:(x == ("__debug__":Str))=false:=by decide):wpAny (model X.prog X.w) X.A (eval (.Name x pos) X.env) Q E s:=by
 obtain⟨mb,h1,h2⟩:=I.mod.blt
 exact Calls.Name_function_global I.ok.kind hg (Calls.loadGlobal_builtin (by rw[I.ok.glob];exact I.mod.glob.keeps I.bk) hm (by rw[I.ok.blt];exact h1.keeps I.bk) ((h2 x hn).trans hv) h) hd
theorem qjv {x:Str}{v:V}{u:Value}{pos:Pos}(hg:Gl X x)(hm:X.mg x=some u)(r:RelV v u)(hd:(x == ("__debug__":Str))=false:=by decide):PE X (.Name x pos) (tC v) :=
 fun _ _ _ H _ I h=>qeG I hg hm ⟨v,H,I,r,h⟩ hd
theorem qmz {x:Str}{v:V}{u:Value}{pos:Pos}(hg:Gl X x)(hm:X.mg x=none)(hv:bootBuiltins x=some u)(r:RelV v u)(hn:x≠"__name__":=by decide)(hd:(x == ("__debug__":Str))=false:=by decide):PE X (.Name x pos) (tC v) :=
 fun _ _ _ H _ I h=>qgR I hg hm hv ⟨v,H,I,r,h⟩ hn hd
variable {a b : Expr} {ta tb : TE} {pos : Pos}
def PC (X:Cx)(op:CmpOp)(a b:Expr)(t:TE):Prop :=
 ∀ (pins:List (Addr × Obj)) (s:Shared) (σ:St) (H:Hp) (Q:VK),Inv X pins σ H s→t σ H Q →
  wpAny (model X.prog X.w) X.A (eval a X.env) (fun v s₁=>wpAny (model X.prog X.w) X.A (eval b X.env) (fun u s₂=>wpAny (model X.prog X.w) X.A (compareOp op v u) (EP X pins σ Q) X.xe s₂) X.xe s₁) X.xe s
def tB (t:TE):TT:=fun σ H Q=>t σ H fun x H1=>∃ c,x=.bl c∧Q c H1
theorem qgx {op:CmpOp}{t:TE}(h:PC X op a b t)(h1:behindInMarks op b=false:=by first | exact nobehind _ (by decide) (by decide) | rfl):PT X (.Compare a [op] [b] pos) (tB t):=by
 intro pins s σ H Q I hw
 refine wpAny_isTrue_Compare1 (thn (h pins s σ H _ I hw) fun v s1 h1=>thn h1 fun u s2 h2=>thn h2 fun c s3 hq0=>?_) h1
 obtain⟨x,H1,I1,r1,q1⟩:=hq0
 obtain⟨d,rfl,q⟩:=q1
 cases r1
 exact wpAny_truthy_bool ⟨H1,I1,q⟩
variable {tA tB' : TT} {rest : List Expr}
def qrE (t u:TT):TT:=fun σ H Q=>t σ H fun c H1=>if c=true then u σ H1 Q else Q false H1
def tOr (t u:TT):TT:=fun σ H Q=>t σ H fun c H1=>if c=true then Q true H1 else u σ H1 Q
theorem qi0 (ha:PT X a tA):PW X (.BoolOp .And [a] pos) tA:=by
 intro wh pins s σ H Q I h
 refine isTrue_and (thn (ha pins s σ H Q I h) fun c s1 e=>?_)
 cases c with
 | true=>exact isTrue_and_nil e
 | false=>exact e
theorem qlT (ha:PT X a tA):PW X (.BoolOp .Or [a] pos) tA:=by
 intro wh pins s σ H Q I h
 refine isTrue_or (thn (ha pins s σ H Q I h) fun c s1 e=>?_)
 cases c with
 | false=>exact isTrue_or_nil e
 | true=>exact e
theorem ql2 (ha:PT X a tA)(hb:PW X (.BoolOp .And (b::rest) pos) tB'):PW X (.BoolOp .And (a::b::rest) pos) (qrE tA tB'):=by
 intro wh pins s σ H Q I h
 refine isTrue_and (thn (ha pins s σ H _ I h) fun c s1 hq0=>?_)
 obtain⟨H1,I1,q1⟩:=hq0
 cases c with
 | true=>exact hb wh pins s1 σ H1 Q I1 q1
 | false=>exact⟨H1,I1,q1⟩
theorem qn1 (ha:PT X a tA)(hb:PW X (.BoolOp .Or (b::rest) pos) tB'):PW X (.BoolOp .Or (a::b::rest) pos) (tOr tA tB'):=by
 intro wh pins s σ H Q I h
 refine isTrue_or (thn (ha pins s σ H _ I h) fun c s1 hq0=>?_)
 obtain⟨H1,I1,q1⟩:=hq0
 cases c with
 | true=>exact⟨H1,I1,q1⟩
 | false=>exact hb wh pins s1 σ H1 Q I1 q1
def tIf (t:TT)(ta tb:TE):TE:=fun σ H Q=>t σ H fun c H1=>if c=true then ta σ H1 Q else tb σ H1 Q
theorem qkT {c:Expr}(hc:PT X c tA)(ha:PE X a ta)(hb:PE X b tb):PE X (.IfExp c a b pos) (tIf tA ta tb):=by
 intro pins s σ H Q I h
 refine wpAny_IfExp (thn (hc pins s σ H _ I h) fun d s1 hq0=>?_)
 obtain⟨H1,I1,q1⟩:=hq0
 cases d with
 | true=>exact ha pins s1 σ H1 Q I1 q1
 | false=>exact hb pins s1 σ H1 Q I1 q1
end
def SqL (K:PySem.W.Frag)(H:Hp)(a:Addr)(xs:List V):Prop :=
 Rd H a (.lst xs) ∨
  ∃ (o:Obj) (its:Array Value) (n:Nat),K.lookup a=some o∧o.cls=.type "list"∧o.dict=none∧o.data=.seq its n∧its.size≤sizeLine∧Vals xs its.toList
def SqT (K:PySem.W.Frag)(H:Hp)(a:Addr)(xs:List V):Prop :=
 Rd H a (.tup xs) ∨
  ∃ (o:Obj) (its:Array Value) (n:Nat),K.lookup a=some o∧o.cls=.type "tuple"∧o.data=.seq its n∧its.size≤sizeLine∧Vals xs its.toList
def qr2:Value→Option V
 | .none=>some .non
 | .bool b=>some (.bl b)
 | .int i _=>some (.int i)
 | .str x _=>some (.str x)
 | .bytes b _=>some (.byt b)
 | .float b _=>some (.flt b)
 | .ref a=>some (.ref a)
 | .type n=>some (.ty n)
 | _=>none
theorem RelV.abs {x:V}{u:Value}(r:RelV x u):qr2 u=some x:=by
 cases x with
 | non=>cases r;rfl
 | bl _=>cases r;rfl
 | int _=>obtain⟨t,rfl⟩:=r;rfl
 | str _=>obtain⟨t,rfl⟩:=r;rfl
 | byt _=>obtain⟨t,rfl⟩:=r;rfl
 | flt _=>obtain⟨t,rfl⟩:=r;rfl
 | ref _=>cases r;rfl
 | ty _=>cases r;rfl
theorem RelV.inj {x y:V}{u:Value}(r:RelV x u)(q:RelV y u):x=y:=Option.some.inj (r.abs.symm.trans q.abs)
theorem Vals.inj:∀ {xs ys:List V} {us:List Value},Vals xs us→Vals ys us→xs=ys
 | _,_,_,.nil,.nil=>rfl
 | _,_,_,.cons r t,.cons r' t'=>by rw[r.inj r',Vals.inj t t']
section
variable {X : Cx} {pins : List (Addr × Obj)} {σ : St} {H : Hp} {s : Shared} {a : Addr} {xs ys : List V}
theorem SqL.of {K:PySem.W.Frag}(h:H a=some (.lst xs)):SqL K H a xs:=.inl (.inl h)
theorem SqT.of {K:PySem.W.Frag}(h:H a=some (.tup xs)):SqT K H a xs:=.inl (.inl h)
theorem Inv.list (I:Inv X pins σ H s)(h:SqL X.K H a xs):∃ its:List Value,Vals xs its∧PlainL s.heap a its.toArray∧xs.length≤sizeLine:=by
 rcases h with h | ⟨o,its,n,hk,hc,hd,hs,hz,r⟩
 ·obtain⟨z,its,n,r,e⟩:=h.ok I.hok
  exact⟨its,r,⟨_,n,e,rfl,rfl,rfl⟩,z⟩
 ·refine⟨its.toList,r,⟨o,n,I.kIn a o hk,hc,hd,by simpa using hs⟩,?_⟩
  have e:=r.length
  simp only [Array.length_toList] at e
  omega
theorem Inv.tuple (I:Inv X pins σ H s)(h:SqT X.K H a xs):∃ its:List Value,Vals xs its∧IsTup s.heap a its.toArray∧xs.length≤sizeLine:=by
 rcases h with h | ⟨o,its,n,hk,hc,hs,hz,r⟩
 ·obtain⟨z,its,r,p⟩:=h.ok I.hok
  exact⟨its,r,p.tup,z⟩
 ·refine⟨its.toList,r,⟨o,I.kIn a o hk,hc,n,by simpa using hs⟩,?_⟩
  have e:=r.length
  simp only [Array.length_toList] at e
  omega
theorem Inv.list_inj (I:Inv X pins σ H s)(h:SqL X.K H a xs)(h':SqL X.K H a ys):xs=ys:=by
 obtain⟨its,r,⟨o,n,e,_,_,d⟩,_⟩:=I.list h
 obtain⟨its',r',⟨o',n',e',_,_,d'⟩,_⟩:=I.list h'
 rw[e] at e';cases e'
 rw[d] at d'
 injection d' with d1 _
 have:its=its':=by simpa using congrArg Array.toList d1
 subst this
 exact r.inj r'
theorem Inv.tuple_inj (I:Inv X pins σ H s)(h:SqT X.K H a xs)(h':SqT X.K H a ys):xs=ys:=by
 obtain⟨its,r,⟨o,e,_,n,d⟩,_⟩:=I.tuple h
 obtain⟨its',r',⟨o',e',_,n',d'⟩,_⟩:=I.tuple h'
 rw[e] at e';cases e'
 rw[d] at d'
 injection d' with d1 _
 have:its=its':=by simpa using congrArg Array.toList d1
 subst this
 exact r.inj r'
end
abbrev Cx.wish (X:Cx)(E:Value→Shared→Prop):Cx:={ X with xe:=E }
abbrev Cx.nox (X:Cx):Cx:=X.wish fun _ _=>False
theorem Cx.Ok.wish {X:Cx}(ok:X.Ok)(E:Value→Shared→Prop):(X.wish E).Ok :=
 ⟨ok.mod,ok.kind,ok.glob,ok.blt,ok.above,ok.inj,ok.has,ok.cab,ok.hd,ok.frames,ok.stk,ok.exf,ok.bs,ok.bsz,ok.noex,ok.exfs,ok.funs,ok.frf⟩
theorem Cx.Ok.unwish {X:Cx}{E:Value→Shared→Prop}(ok:(X.wish E).Ok):X.Ok :=
 ⟨ok.mod,ok.kind,ok.glob,ok.blt,ok.above,ok.inj,ok.has,ok.cab,ok.hd,ok.frames,ok.stk,ok.exf,ok.bs,ok.bsz,ok.noex,ok.exfs,ok.funs,ok.frf⟩
section
variable {X : Cx} {pins : List (Addr × Obj)} {σ : St} {H : Hp} {s : Shared} {E : Value → Shared → Prop}
theorem Inv.wish (I:Inv X pins σ H s)(E:Value→Shared→Prop):Inv (X.wish E) pins σ H s:=⟨I.ok.wish E,I.os,I.bare,I.base,I.loc,I.cell,I.free,I.freeC,I.pin,I.hok,I.len⟩
theorem Inv.unwish (I:Inv (X.wish E) pins σ H s):Inv X pins σ H s:=⟨I.ok.unwish,I.os,I.bare,I.base,I.loc,I.cell,I.free,I.freeC,I.pin,I.hok,I.len⟩
theorem SP.unwish {D:Ends}{f:Flow}{s':Shared}(h:SP (X.wish E) pins D f s'):SP X pins D f s':=by
 cases f with
 | next=>obtain⟨σ',H',I,q⟩:=h;exact⟨σ',H',I.unwish,q⟩
 | brk=>obtain⟨σ',H',I,q⟩:=h;exact⟨σ',H',I.unwish,q⟩
 | cont=>obtain⟨σ',H',I,q⟩:=h;exact⟨σ',H',I.unwish,q⟩
 | ret u=>obtain⟨v,σ',H',I,r,q⟩:=h;exact⟨v,σ',H',I.unwish,r,q⟩
theorem PSs.nox {st:List Stmt}{t:TS}(h:PSs X.nox st t):PSs X st t:=fun pins s σ H D I hw =>
 wpAny_mono (h pins s σ H D (I.wish _) hw) (fun _ _ q=>q.unwish) fun _ _ z=>False.elim z
end
section
variable {X : Cx} {st : Stmt} {rest : List Stmt} {t u : TS} {e : Expr} {te : TE} {pos : Pos}
def qqK:TS:=fun D σ H=>D.nx σ H
def qrK (t u:TS):TS:=fun D σ H=>t { D with nx:=u D } σ H
theorem pss_nil:PSs X [] qqK:=fun _ _ σ H _ I h=>wpAny_execs_nil ⟨σ,H,I,h⟩
theorem qd4 (h1:PS X st t)(h2:PSs X rest u):PSs X (st::rest) (qrK t u):=by
 intro pins s σ H D I h
 refine wpAny_execs_cons (thn (h1 pins s σ H { D with nx:=u D } I h) fun f s1 q=>?_)
 cases f with
 | next =>
  obtain⟨σ',H',I',q⟩:=q
  exact h2 pins s1 σ' H' D I' q
 | ret v=>exact q
 | brk=>exact q
 | cont=>exact q
theorem qg8 (h1:PS X st t):PSs X [st] t:=by
 intro pins s σ H D I h
 refine wpAny_execs_cons (thn (h1 pins s σ H D I h) fun f s1 q=>?_)
 cases f with
 | next=>exact wpAny_execs_nil q
 | ret v=>exact q
 | brk=>exact q
 | cont=>exact q
theorem Inv.quiet {pins:List (Addr × Obj)}{σ:St}{H:Hp}{s:Shared}(I:Inv X pins σ H s):interactive X.env=false:=by simp [interactive,I.ok.kind]
def qqu (te:TE):TS:=fun D σ H=>te σ H fun _ H1=>D.nx σ H1
theorem qeE (he:PE X e te)(hs:swapsWith e none pos.line X.env=pure false:=by rfl):PS X (.Expr e pos) (qqu te):=by
 intro pins s σ H D I h
 exact wpAny_Expr_any (thn (he pins s σ H _ I h) fun v s1 hq0=>by obtain⟨x,H1,I1,r1,q1⟩:=hq0;exact⟨σ,H1,I1,q1⟩) I.quiet hs
def qrj (te:TE):TS:=fun D σ H=>te σ H D.rt
theorem qmf (he:PE X e te):PS X (.Return (some e) pos) (qrj te):=by
 intro pins s σ H D I h
 exact wpAny_Return_some (thn (he pins s σ H _ I h) fun v s1 hq0=>by obtain⟨x,H1,I1,r1,q1⟩:=hq0;exact⟨x,σ,H1,I1,r1,q1⟩)
def qrg (c:TT)(t u:TS):TS:=fun D σ H=>c σ H fun b H1=>if b=true then t D σ H1 else u D σ H1
theorem qpt {c:Expr}{a b:List Stmt}{tc:TT}(hc:PT X c tc)(ha:PSs X a t)(hb:PSs X b u):PS X (.If c a b pos) (qrg tc t u):=by
 intro pins s σ H D I h
 refine wpAny_If (thn (hc pins s σ H _ I h) fun d s1 hq0=>?_)
 obtain⟨H1,I1,q1⟩:=hq0
 cases d with
 | true=>exact ha pins s1 σ H1 D I1 q1
 | false=>exact hb pins s1 σ H1 D I1 q1
def qoq:TS:=fun _ _ _=>False
theorem ps_never:PS X st qoq:=fun _ _ _ _ _ _ h=>h.elim
end
abbrev TG:=V→St→Hp→(St→Hp→Prop)→Prop
abbrev TGs:=List V→St→Hp→(St→Hp→Prop)→Prop
def PG (X:Cx)(target:Expr)(t:TG):Prop :=
 ∀ (pins:List (Addr × Obj)) (s:Shared) (σ:St) (H:Hp) (v:V) (u:Value) (Q:St→Hp→Prop),Inv X pins σ H s→RelV v u→t v σ H Q →
  wpAny (model X.prog X.w) X.A (assign target X.env u) (fun _ s'=>∃ σ' H',Inv X pins σ' H' s'∧Q σ' H') X.xe s
def PGs (X:Cx)(ts:List Expr)(t:TGs):Prop :=
 ∀ (pins:List (Addr × Obj)) (s:Shared) (σ:St) (H:Hp) (vs:List V) (us:List Value) (Q:St→Hp→Prop),Inv X pins σ H s→Vals vs us→t vs σ H Q →
  wpAny (model X.prog X.w) X.A (assignInOrder ((assignEach ts X.env).map (·.2)) us) (fun _ s'=>∃ σ' H',Inv X pins σ' H' s'∧Q σ' H') X.xe s
abbrev qpc:=V→V→V→Hp→(Hp→Prop)→Prop
def qpI (X:Cx)(t:qpc):Prop :=
 ∀ (pins:List (Addr × Obj)) (s:Shared) (σ:St) (H:Hp) (o i v:V) (ov iv u:Value) (Q:Hp→Prop),Inv X pins σ H s→RelV o ov→RelV i iv→RelV v u→t o i v H Q →
  wpAny (model X.prog X.w) X.A (setItem ov iv u) (fun _ s'=>∃ H',Inv X pins σ H' s'∧Q H') X.xe s
abbrev TIp:=V→V→Hp→VK→Prop
def PIp (X:Cx)(op:Operator)(t:TIp):Prop :=
 ∀ (pins:List (Addr × Obj)) (s:Shared) (σ:St) (H:Hp) (x y:V) (v u:Value) (Q:VK),Inv X pins σ H s→RelV x v→RelV y u→t x y H Q →
  wpAny (model X.prog X.w) X.A (inplaceOp op v u) (EP X pins σ Q) X.xe s
section
variable {X : Cx} {pos : Pos}
def qjt (i:Nat):TG:=fun v σ H Q=>Q (σ.set i (some v)) H
theorem qee {i:Nat}{x:Str}(hN:X.N.Nodup)(hi:X.N[i]?=some x)(hx:Loc X.env.scope x)(hf:X.fn x=true∨X.env.scope.names.lookup x=some .local:=by first | exact .inl rfl | exact .inr rfl | assumption):PG X (.Name x pos) (qjt i):=by
 intro pins s σ H v u Q I r h
 exact wpAny_assign_Name (qfG I hN hi hx r (fun s' I'=>⟨_,H,I',h⟩) hf)
def qrP:TGs:=fun vs σ H Q=>vs=[]∧Q σ H
def qpM (t:TG)(u:TGs):TGs:=fun vs σ H Q=>∃ v r,vs=v::r∧t v σ H fun σ' H'=>u r σ' H' Q
theorem pgs_nil:PGs X [] qrP:=by
 intro pins s σ H vs us Q I r h
 obtain⟨e,h⟩:=h
 subst e
 cases r
 exact assignInOrder_nil ⟨σ,H,I,h⟩
theorem qdx {e:Expr}{es:List Expr}{t:TG}{u:TGs}(h1:PG X e t)(h2:PGs X es u)
  (hs:(assignEach (e::es) X.env).map (·.2)=assign e X.env::(assignEach es X.env).map (·.2):=by rfl):PGs X (e::es) (qpM t u):=by
 intro pins s σ H vs us Q I r h
 obtain⟨v,vr,e1,h⟩:=h
 subst e1
 cases r with
 | cons r rr =>
  rw[hs]
  refine assignInOrder_cons (thn (h1 pins s σ H _ _ _ I r h) fun _ s1 hq0=>?_)
  obtain⟨σ1,H1,I1,q1⟩:=hq0
  exact h2 pins s1 σ1 H1 _ _ Q I1 rr q1
def qqq (K:PySem.W.Frag)(n:Nat)(t:TGs):TG:=fun v σ H Q=>∃ a xs,v=.ref a∧SqT K H a xs∧xs.length=n∧t xs σ H Q
theorem qlW {es:List Expr}{k:Nat}{t:TGs}{n:Nat}(hc:X.calm=true)(h:PGs X es t)
  (hn:(assignEach es X.env).length=n:=by rfl) (hst:(assignEach es X.env).findIdx? (·.1)=none:=by rfl):PG X (.Tuple es k pos) (qqq X.K n t):=by
 intro pins s σ H v u Q I r hw
 obtain⟨a,xs,e1,hq,hl,hw⟩:=hw
 subst e1
 cases r
 obtain⟨its,rv,ht,hz⟩:=I.tuple hq
 refine assign_Tuple_tuple (I.ok.hd hc) ht (by simp [hn,← hl,rv.length]) hst fun h' hx=>?_
 have I1:Inv X pins σ H { s with heap:=h' }:=I.kept (t':=s.toks) fun b o e=>hx b o (Nat.ne_of_lt (Heap.lt_size e)) e
 exact h pins _ σ H xs _ Q I1 (by simpa using rv) hw
def qrq (to ti:TE)(t:qpc):TG:=fun v σ H Q=>to σ H fun o H1=>ti σ H1 fun i H2=>t o i v H2 fun H3=>Q σ H3
theorem qpu {o i:Expr}{to ti:TE}{t:qpc}(ho:PE X o to)(hi:PE X i ti)(hs:qpI X t)
  (ha:∀ v,assign (.Subscript o i pos) X.env v=(do
   let ov ← holding [v] (eval o X.env)
   let iv ← holding [v,ov] (eval i X.env)
   standAt pos
   holding [v,ov,iv] (setItem ov iv v)
   release [v,ov,iv] []):=by intro _;rfl):PG X (.Subscript o i pos) (qrq to ti t):=by
 intro pins s σ H v u Q I r h
 rw[ha]
 refine wpAny_bind (wpAny_holding (thn (ho pins s σ H _ I h) fun ov s1 hq0=>?_))
 obtain⟨x,H1,I1,r1,q1⟩:=hq0
 refine wpAny_bind (wpAny_holding (thn (hi pins s1 σ H1 _ I1 q1) fun iv s2 hq1=>?_))
 obtain⟨y,H2,I2,r2,q2⟩:=hq1
 refine wpAny_bind (wpAny_standAt (wpAny_bind (wpAny_holding (thn (hs pins s2 σ H2 x y v ov iv u _ I2 r1 r2 r q2) fun _ s3 hq2=>?_))))
 obtain⟨H3,I3,q3⟩:=hq2
 exact wpAny_release ⟨σ,H3,I3,q3⟩
def qpw (te:TE)(g:TG):TS:=fun D σ H=>te σ H fun x H1=>g x σ H1 D.nx
theorem qmd {tg e:Expr}{te:TE}{g:TG}(he:PE X e te)(hg:PG X tg g)(hs:swapsWithSole [tg] e pos.line X.env=pure false:=by rfl)(hw:swappedStores [tg] e X.env=pure none:=by rfl)
  (h1:(assignEach [tg] X.env).map (·.2)=[assign tg X.env]:=by rfl):PS X (.Assign [tg] e pos) (qpw te g):=by
 intro pins s σ H D I h
 refine wpAny_Assign_stores (thn (he pins s σ H _ I h) fun v s1 hq0=>?_) hs hw
 obtain⟨x,H1,I1,r1,q1⟩:=hq0
 rw[h1]
 exact thn (hg pins s1 σ H1 x v _ I1 r1 q1) fun _ s2 q=>q
theorem qkv {i:Nat}{x:Str}{e:Expr}{te:TE}{pos':Pos}(hN:X.N.Nodup)(hi:X.N[i]?=some x)(hx:Loc X.env.scope x)(he:PE X e te)(hs:swapsWith e (some (.Name x pos')) pos.line X.env=pure false:=by rfl)(hf:X.fn x=true∨X.env.scope.names.lookup x=some .local:=by first | exact .inl rfl | exact .inr rfl | assumption) :
  PS X (.Assign [.Name x pos'] e pos) (qpw te (qjt i)):=by
 intro pins s σ H D I h
 refine wpAny_Assign_Name (thn (he pins s σ H _ I h) fun v s1 hq0=>?_) hs
 obtain⟨y,H1,I1,r1,q1⟩:=hq0
 exact qfG I1 hN hi hx r1 (fun s2 I2=>⟨_,H1,I2,q1⟩) hf
def qqh (to ti te:TE)(tget:V→V→Hp→VK→Prop)(tip:TIp)(tset:qpc):TS:=fun D σ H=>to σ H fun o H1=>ti σ H1 fun i H2=>tget o i H2 fun x H3=>te σ H3 fun y H4=>tip x y H4 fun z H5=>tset o i z H5 fun H6=>D.nx σ H6
def qqn (X:Cx)(t:V→V→Hp→VK→Prop):Prop :=
 ∀ (pins:List (Addr × Obj)) (s:Shared) (σ:St) (H:Hp) (o i:V) (ov iv:Value) (Q:VK),Inv X pins σ H s→RelV o ov→RelV i iv→t o i H Q →
  wpAny (model X.prog X.w) X.A (getItem ov iv) (EP X pins σ Q) X.xe s
theorem qm3 {o i e:Expr}{to ti te:TE}{tget:V→V→Hp→VK→Prop}{tip:TIp}{tset:qpc}{op:Operator}{tpos:Pos}(ho:PE X o to)(hi:PE X i ti)(hg:qqn X tget)(he:PE X e te)(hp:PIp X op tip)(hs:qpI X tset)
  (ha:∀ ov iv new,augStore i ov iv new=(do holding [new,ov,iv] (setItem ov iv new);release [new,ov,iv] [];pure .next):=by intros;rfl):PS X (.AugAssign (.Subscript o i tpos) op e pos) (qqh to ti te tget tip tset):=by
 intro pins s σ H D I h
 refine wpAny_AugAssign_SubscriptAny (thn (ho pins s σ H _ I h) fun ov s1 hq0=>?_) ha
 obtain⟨x1,H1,I1,r1,q1⟩:=hq0
 refine thn (hi pins s1 σ H1 _ I1 q1) fun iv s2 hq1=>?_
 obtain⟨x2,H2,I2,r2,q2⟩:=hq1
 refine thn (hg pins s2 σ H2 x1 x2 ov iv _ I2 r1 r2 q2) fun old s3 hq2=>?_
 obtain⟨x3,H3,I3,r3,q3⟩:=hq2
 refine thn (he pins s3 σ H3 _ I3 q3) fun v s4 hq3=>?_
 obtain⟨x4,H4,I4,r4,q4⟩:=hq3
 refine thn (hp pins s4 σ H4 x3 x4 old v _ I4 r3 r4 q4) fun new s5 hq4=>?_
 obtain⟨x5,H5,I5,r5,q5⟩:=hq4
 exact thn (hs pins s5 σ H5 x1 x2 x5 ov iv new _ I5 r1 r2 r5 q5) fun _ s6 hq5=>by obtain⟨H6,I6,q6⟩:=hq5;exact⟨σ,H6,I6,q6⟩
def ipI (f:Int→Int→Int):TIp:=fun x y H Q=>∃ i j,x=.int i∧y=.int j∧Q (.int (f i j)) H
theorem qn9:PIp X .Add (ipI fun i j=>i+j):=by
 intro pins s σ H x y v u Q I r1 r2 h
 obtain⟨i,j,e1,e2,q⟩:=h
 subst e1;subst e2
 obtain⟨t,rfl⟩:=r1
 obtain⟨t',rfl⟩:=r2
 exact iadd_int ⟨.int _,H,I.tok _,⟨_,rfl⟩,q⟩
end
section
variable {X : Cx} {pos : Pos}
def qoF (c:TT)(tb:TS):TS:=fun D σ H=>∃ W:Nat→St→Hp→Prop,(∃ m,W m σ H)∧∀ m σ H,W m σ H →
 c σ H fun b H1=>if b=true then ∃ N:St→Hp→Prop,(∀ σ' H',N σ' H'→∃ m',m'<m∧W m' σ' H')∧tb { D with nx:=N,ct:=N,bk:=D.nx } σ H1 else D.nx σ H1
theorem qlg {c:Expr}{body:List Stmt}{tc:TT}{tb:TS}(hp:PassesOwn (model X.prog X.w) X.A X.env X.xe)(hc:PT X c tc)(hb:PSs X body tb):PS X (.While c body [] pos) (qoF tc tb):=by
 intro pins s σ H D I h
 obtain⟨W,⟨m0,w0⟩,turn⟩:=h
 refine wpAny_While (codeAny_whileLoop (fun n s'=>∃ σ' H',Inv X pins σ' H' s'∧W n σ' H') ?_ m0 ⟨σ,H,I,w0⟩)
 rintro n s1 ⟨σ1,H1,I1,w1⟩
 refine wpAny_passesOwn hp (thn (hc pins s1 σ1 H1 _ I1 (turn n σ1 H1 w1)) fun b s2 hq0=>?_)
 obtain⟨H2,I2,q2⟩:=hq0
 cases b with
 | true =>
  obtain⟨N,hN,q2⟩:=q2
  rw[if_pos rfl]
  refine wpAny_passesOwn hp (thn (hb pins s2 σ1 H2 _ I2 q2) fun f s3 q3=>?_)
  cases f with
  | next =>
   obtain⟨σ3,H3,I3,n3⟩:=q3
   obtain⟨m',hm,w3⟩:=hN σ3 H3 n3
   exact⟨m',hm,σ3,H3,I3,w3⟩
  | cont =>
   obtain⟨σ3,H3,I3,n3⟩:=q3
   obtain⟨m',hm,w3⟩:=hN σ3 H3 n3
   exact⟨m',hm,σ3,H3,I3,w3⟩
  | brk=>exact q3
  | ret v=>exact q3
 | false =>
  rw[if_neg Bool.false_ne_true]
  exact wpAny_execs_nil ⟨σ1,H2,I2,q2⟩
end
structure It where
 go:Nat→Hp→Prop
 yld:Nat→Hp→V→Hp→Prop
 stop:Nat→Hp→Prop
def qhx (X:Cx)(pins:List (Addr × Obj))(H:Hp)(b:Addr):Prop :=
 H b=none∧b≠X.env.locals∧b∉X.fs∧(b∈X.ex∨X.s₀.heap.objs.size≤b)∧(∀ x c,X.env.cells.lookup x=some c→c≠b)∧∀ p∈X.pn++pins,p.1≠b
theorem Inv.fpOk {X:Cx}{pins:List (Addr × Obj)}{σ:St}{H H':Hp}{s:Shared}{b:Addr}(I:Inv X pins σ H s)(hb:s.heap.objs.size≤b)(hn:H' b=none):qhx X pins H' b:=by
 refine⟨hn,Nat.ne_of_gt (Nat.lt_of_lt_of_le I.lt hb),I.nofs hb,.inr (Nat.le_trans I.sz hb),fun x c e z=>?_,fun p hp z=>?_⟩
 ·obtain⟨v,q⟩:=I.cell x c e
  exact absurd (Nat.lt_of_lt_of_le q.lt (by rw[z];exact hb)) (Nat.lt_irrefl _)
 ·exact absurd (Nat.lt_of_lt_of_le (Heap.lt_size (I.pin p hp).1) (by rw[z];exact hb)) (Nat.lt_irrefl _)
structure Turn (P:Program)(w:World)(K:PySem.W.Frag)(tg:Expr)(J:It)(fp:List Addr)(it:Addr)(tn:Nat→Heap→Prop):Prop where
 mem:it∈fp
 obj:∀ i h,tn i h→∀ b∈fp,∃ o,h.get? b=some o∧∀ v,o.data≠.cell v
 keep:∀ i h h',tn i h→(∀ b∈fp,∀ o,h.get? b=some o→h'.get? b=some o)→tn i h'
 item:∀ (X:Cx),X.prog=P→X.w=w→X.K=K→X.calm=true→∀ (i:Nat) (pins:List (Addr × Obj)) (s:Shared) (σ:St) (H:Hp) (E:Value→Shared→Prop),Inv X pins σ H s→(∀ b∈fp,qhx X pins H b)→tn i s.heap→J.go i H →
  wpAny (model P w) X.A (pyNext (.ref it)) (fun r s1=>∃ u,r=some u ∧
   wpAny (model P w) X.A (letOwnedTupleGo tg (.ref it) u) (fun _ s2=>∃ x H',Inv X pins σ H' s2∧RelV x u∧J.yld i H x H'∧tn (i+1) s2.heap∧∀ b∈fp,H' b=none) E s1) E s
 done:∀ (X:Cx),X.prog=P→X.w=w→X.K=K→X.calm=true→∀ (i:Nat) (pins:List (Addr × Obj)) (s:Shared) (σ:St) (H:Hp) (E:Value→Shared→Prop),Inv X pins σ H s→(∀ b∈fp,qhx X pins H b)→tn i s.heap→J.stop i H →
  wpAny (model P w) X.A (pyNext (.ref it)) (fun r s1=>r=none∧Inv X pins σ H s1) E s
 self:∀ (A:Around) (i:Nat) (s:Shared) (Q:Value→Shared→Prop) (E:Value→Shared→Prop),tn i s.heap→Q (.ref it) s→wpAny (model P w) A (pyIter (.ref it)) Q E s
abbrev TI:=St→Hp→(It→Hp→Prop)→Prop
def PIE (X:Cx)(pins:List (Addr × Obj))(σ:St)(tg:Expr)(R:It→Hp→Prop)(itv:Value)(s2:Shared):Prop :=
 ∃ (it:Addr) (fp:List Addr) (tn:Nat→Heap→Prop) (J:It) (H':Hp),itv=.ref it∧Inv X pins σ H' s2∧Turn X.prog X.w X.K tg J fp it tn∧tn 0 s2.heap∧(∀ b∈fp,qhx X pins H' b)∧R J H'
def PI (X:Cx)(tg iter:Expr)(wi:TI):Prop :=
 ∀ (pins:List (Addr × Obj)) (s:Shared) (σ:St) (H:Hp) (R:It→Hp→Prop),Inv X pins σ H s→wi σ H R →
  wpAny (model X.prog X.w) X.A (eval iter X.env) (fun v s1=>wpAny (model X.prog X.w) X.A (pyIter v) (PIE X pins σ tg R) X.xe s1) X.xe s
theorem qnh {M:Model}{A:Around}{E:Value→Shared→Prop}{s:Shared}{tg:Expr}{it:Addr}{u:Value}{o:Obj}{n:String}{vs:Array Value}{Q:Unit→Shared→Prop}(ho:s.heap.get? it=some o)(hc:o.cls=.type n)(hd:o.data=.fields vs)
  (hn:["enumerate","zip","dict_itemiterator","dict_reverseitemiterator","odict_iterator","itertools.zip_longest","itertools.pairwise"].contains n=false) (hQ:Q () s):wpAny M A (letOwnedTupleGo tg (.ref it) u) Q E s:=by
 unfold letOwnedTupleGo
 cases tg <;> first
  | exact wpAny_pure hQ
  | (cases u <;> first
    | exact wpAny_pure hQ
    | (refine wpAny_bind (wpAny_load ho ?_)
       rw [hc, hd]
       show wpAny M A (if (["enumerate", "zip", "dict_itemiterator", "dict_reverseitemiterator", "odict_iterator", "itertools.zip_longest", "itertools.pairwise"].contains n && vs[0]? == some (rawInt _)) = true then _ else _) Q E s
       rw [if_neg (by intro h; rw [hn, Bool.false_and] at h; cases h)]
       exact wpAny_pure hQ))
def Itl (K:PySem.W.Frag)(a:Addr):It :=
 ⟨fun i H=>∃ xs x,SqL K H a xs∧xs[i]?=some x,fun i H x H'=>H'=H∧∀ xs,SqL K H a xs→xs[i]?=some x,fun i H=>∃ xs,SqL K H a xs∧xs.length≤i⟩
def Itt (K:PySem.W.Frag)(a:Addr):It :=
 ⟨fun i H=>∃ xs x,SqT K H a xs∧xs[i]?=some x,fun i H x H'=>H'=H∧∀ xs,SqT K H a xs→xs[i]?=some x,fun i H=>∃ xs,SqT K H a xs∧xs.length≤i⟩
def Itr (lo:Int)(n:Nat):It:=⟨fun i _=>i<n,fun i H x H'=>H'=H∧x=.int (lo+i),fun i _=>n≤i⟩
theorem qj7 {P:Program}{w:World}{K:PySem.W.Frag}{tg:Expr}(a it:Addr):Turn P w K tg (Itl K a) [it] it (fun i h=>h.IsListIter it a i) where
 mem:=by simp
 obj:=fun i h st b hb=>by
  have e:b=it:=by simpa using hb
  subst e
  obtain⟨o,e,c,d⟩:=st
  exact⟨o,e,fun v z=>by rw[d] at z;cases z⟩
 keep:=fun i h h' st k=>st.at fun o e=>k it (by simp) o e
 item:=by
  intro X hP hw hK hc i pins s σ H E I hf st hg
  subst hP hw hK
  obtain⟨xs,x,hq,hx⟩:=hg
  obtain⟨its,rv,p,hz⟩:=I.list hq
  obtain⟨u,hu,ru⟩:=rv.get hx
  obtain⟨f0,f1,f2,f3,f4,f5⟩:=hf it (by simp)
  refine wpAny_pyNext_list_item st p.isList (x:=u) (by simpa using hu) fun h' st' sb=>?_
  have I1:Inv X pins σ H { s with heap:=h' }:=I.turned (t':=s.toks) (fun b o hb e=>(sb.2 b hb).trans e) f0 f1 f3 f4 f5
  obtain⟨o,e,c,d⟩:=id st'
  exact⟨u,rfl,qnh (s:={ s with heap:=h' }) e c d (by decide) ⟨x,H,I1,ru,⟨rfl,fun ys hy=>by rw[I.list_inj hy hq];exact hx⟩,st',fun b hb=>(hf b hb).1⟩⟩
 done:=by
  intro X hP hw hK hc i pins s σ H E I hf st hg
  subst hP hw hK
  obtain⟨xs,hq,hx⟩:=hg
  obtain⟨its,rv,p,hz⟩:=I.list hq
  obtain⟨f0,f1,f2,f3,f4,f5⟩:=hf it (by simp)
  have hl:=rv.length
  exact wpAny_pyNext_list_end (I.ok.hd hc) st p.isList (by simp;omega) fun h' eb=>⟨rfl,I.turned (t':=s.toks) (fun b o hb e=>eb b o hb e) f0 f1 f3 f4 f5⟩
 self:=fun _ _ _ _ _ st h=>wpAny_pyIter_listiter st h
theorem qiB {P:Program}{w:World}{K:PySem.W.Frag}{tg:Expr}(a it:Addr):Turn P w K tg (Itt K a) [it] it (fun i h=>h.IsTupleIter it a i) where
 mem:=by simp
 obj:=fun i h st b hb=>by
  have e:b=it:=by simpa using hb
  subst e
  obtain⟨o,e,c,d⟩:=st
  exact⟨o,e,fun v z=>by rw[d] at z;cases z⟩
 keep:=fun i h h' st k=>st.at fun o e=>k it (by simp) o e
 item:=by
  intro X hP hw hK hc i pins s σ H E I hf st hg
  subst hP hw hK
  obtain⟨xs,x,hq,hx⟩:=hg
  obtain⟨its,rv,p,hz⟩:=I.tuple hq
  obtain⟨u,hu,ru⟩:=rv.get hx
  obtain⟨f0,f1,f2,f3,f4,f5⟩:=hf it (by simp)
  refine wpAny_pyNext_tuple_item st (show s.heap.IsTuple a its.toArray from p) (x:=u) (by simpa using hu) fun h' st' sb=>?_
  have I1:Inv X pins σ H { s with heap:=h' }:=I.turned (t':=s.toks) (fun b o hb e=>(sb.2 b hb).trans e) f0 f1 f3 f4 f5
  obtain⟨o,e,c,d⟩:=id st'
  exact⟨u,rfl,qnh (s:={ s with heap:=h' }) e c d (by decide) ⟨x,H,I1,ru,⟨rfl,fun ys hy=>by rw[I.tuple_inj hy hq];exact hx⟩,st',fun b hb=>(hf b hb).1⟩⟩
 done:=by
  intro X hP hw hK hc i pins s σ H E I hf st hg
  subst hP hw hK
  obtain⟨xs,hq,hx⟩:=hg
  obtain⟨its,rv,p,hz⟩:=I.tuple hq
  obtain⟨f0,f1,f2,f3,f4,f5⟩:=hf it (by simp)
  have hl:=rv.length
  exact wpAny_pyNext_tuple_end (I.ok.hd hc) st (show s.heap.IsTuple a its.toArray from p) (by simp;omega) fun h' eb=>⟨rfl,I.turned (t':=s.toks) (fun b o hb e=>eb b o hb e) f0 f1 f3 f4 f5⟩
 self:=fun _ _ _ _ _ st h=>wpAny_pyIter_tupleiter st h
theorem qip {P:Program}{w:World}{K:PySem.W.Frag}{tg:Expr}(it:Addr)(lo:Int)(n:Nat):Turn P w K tg (Itr lo n) [it] it (fun i h=>IsRangeIter h it (lo+(i:Nat)*1) ((n:Int) - (i:Nat)) 1) where
 mem:=by simp
 obj:=fun i h st b hb=>by
  have e:b=it:=by simpa using hb
  subst e
  exact⟨_,st,fun v z=>by
   have z':Data.fields _=Data.cell v:=z
   cases z'⟩
 keep:=fun i h h' st k=>k it (by simp) _ st
 item:=by
  intro X hP hw hK hc i pins s σ H E I hf st hg
  subst hP hw hK
  obtain⟨f0,f1,f2,f3,f4,f5⟩:=hf it (by simp)
  have W:=Walks.range (prog:=X.prog) (w:=X.w) (I.ok.hd hc) it lo 1 n
  refine W.item i s _ _ hg st fun v h' tk hv st' kk=>?_
  obtain⟨t,rfl⟩:=hv
  have I1:Inv X pins σ H { s with heap:=h',toks:=tk }:=I.turned (fun b o hb e=>kk b o (by simpa using hb) e) f0 f1 f3 f4 f5
  refine⟨_,rfl,qnh (s:={ s with heap:=h',toks:=tk }) (n:="range_iterator") st' rfl rfl (by decide) ⟨.int (lo+i),H,I1,⟨t,?_⟩,⟨rfl,rfl⟩,st',fun b hb=>(hf b hb).1⟩⟩
  rw[Int.mul_one]
 done:=by
  intro X hP hw hK hc i pins s σ H E I hf st hg
  subst hP hw hK
  obtain⟨f0,f1,f2,f3,f4,f5⟩:=hf it (by simp)
  exact wpAny_pyNext_range_end (I.ok.hd hc) st (by have:n≤i:=hg;omega) fun h' eb=>⟨rfl,I.turned (t':=s.toks) (fun b o hb e=>eb b o hb e) f0 f1 f3 f4 f5⟩
 self:=fun _ _ _ _ _ st h=>wpAny_pyIter_rangeiter st h
section
variable {X : Cx} {tg : Expr}
theorem qly {pins:List (Addr × Obj)}{σ:St}{H:Hp}{s:Shared}{R:It→Hp→Prop}{E:Value→Shared→Prop}{lo hi:Int}{t u v:Tok}{tk:Nat}(I:Inv X pins σ H s)(h1:-(2 ^ 62)≤lo)(h2:lo<2 ^ 62)(h3:-(2 ^ 62)≤hi)(h4:hi<2 ^ 62)
  (q:R (Itr lo (hi - lo).toNat) H):wpAny (model X.prog X.w) X.A (pyIter (.ref s.heap.objs.size)) (PIE X pins σ tg R) E { s with heap:=s.heap.push { cls:=.type "range",data:=.fields #[.int lo t,.int hi u,.int 1 v] },toks:=tk }:=by
 refine wpAny_pyIter_range (IsRange.new ..) (small_one h1 h2 h3 h4) ?_
 have I1:Inv X pins σ H { s with heap:=s.heap.push { cls:=.type "range",data:=.fields #[.int lo t,.int hi u,.int 1 v] },toks:=tk }:=I.kept fun b o e=>Heap.get?_push_of_some _ e
 refine⟨(s.heap.push { cls:=.type "range",data:=.fields #[.int lo t,.int hi u,.int 1 v] }).objs.size,[(s.heap.push { cls:=.type "range",data:=.fields #[.int lo t,.int hi u,.int 1 v] }).objs.size],_,_,H,rfl,
  I1.kept (t':=tk) fun b o e=>Heap.get?_push_of_some _ e,qip _ lo (hi - lo).toNat,?_,fun b hb=>?_,q⟩
 ·have e1:lo+((0:Nat):Int)*1=lo:=by simp
  have e2:(((hi - lo).toNat:Nat):Int) - ((0:Nat):Int)=Builtin.Range.rangeSize lo hi 1:=by rw[rangeSize_one];split <;> omega
  show IsRangeIter _ _ (lo+((0:Nat):Int)*1) ((((hi - lo).toNat:Nat):Int) - ((0:Nat):Int)) 1
  rw[e1,e2]
  exact Heap.get?_push_size _ rfl
 ·have e:b=(s.heap.push { cls:=.type "range",data:=.fields #[.int lo t,.int hi u,.int 1 v] }).objs.size:=by simpa using hb
  subst e
  exact I1.fpOk (Nat.le_refl _) (I1.hok.fresh (Nat.le_refl _))
def qqe (ta:TA):TI:=fun σ H R=>ta σ H fun vs H1=>∃ j:Int,vs=[.int j]∧-(2 ^ 62)≤j∧j<2 ^ 62∧R (Itr 0 j.toNat) H1
theorem qf6 {a:Expr}{ta:TA}{p pos:Pos}(hg:Gl X "range")(hm:X.mg "range"=none)(ha:PA X [a] ta)(hs:starEach [a] X.env=[(false,eval a X.env)]:=by rfl):PI X tg (.Call (.Name "range" p) [a] [] pos) (qqe ta):=by
 intro pins s σ H R I h
 refine Call_ (qgR I hg hm boot_range (PyProof.Rows.callWith_type1 (thn (ha pos pins s σ H _ I h) fun us s1 hq0=>?_) hs rfl))
 obtain⟨vs,H1,I1,r1,q1⟩:=hq0
 obtain⟨j,e,q1,q2,q⟩:=q1
 subst e
 cases r1 with
 | cons r rr =>
  cases rr
  obtain⟨t,rfl⟩:=r
  exact call_range_1 (qly I1 (by omega) (by omega) q1 q2 (by simpa using q))
def qro (wi:TI)(g:TG)(tb:TS):TS:=fun D σ H=>wi σ H fun J H1=>∃ W:Nat→Nat→St→Hp→Prop,(∃ m,W 0 m σ H1)∧∀ i m σ H,W i m σ H →
 (J.stop i H∧D.nx σ H)∨(J.go i H∧∃ N:St→Hp→Prop,(∀ σ' H',N σ' H'→∃ m',m'<m∧W (i+1) m' σ' H')∧∀ x H',J.yld i H x H'→g x σ H' fun σ2 H2=>tb { D with nx:=N,ct:=N,bk:=D.nx } σ2 H2)
def qgy (fp:List Addr)(h:Heap):List (Addr × Obj):=fp.filterMap fun b=>(h.get? b).map fun o=>(b,o)
theorem qcS {fp:List Addr}{h:Heap}{b:Addr}{o:Obj}(hb:b∈fp)(e:h.get? b=some o):(b,o)∈qgy fp h:=List.mem_filterMap.mpr ⟨b,hb,by rw[e];rfl⟩
theorem qjg {fp:List Addr}{h:Heap}{p:Addr × Obj}(hp:p∈qgy fp h):p.1∈fp∧h.get? p.1=some p.2:=by
 obtain⟨b,hb,e⟩:=List.mem_filterMap.mp hp
 cases q:h.get? b with
 | none=>rw[q] at e;cases e
 | some o =>
  rw[q] at e
  have e':(b,o)=p:=Option.some.inj e
  subst e'
  exact⟨hb,q⟩
theorem Inv.pinned {pins:List (Addr × Obj)}{σ:St}{H:Hp}{s:Shared}{fp:List Addr}(I:Inv X pins σ H s)(hf:∀ b∈fp,qhx X pins H b)(ho:∀ b∈fp,∃ o,s.heap.get? b=some o∧∀ v,o.data≠.cell v):Inv X (pins++qgy fp s.heap) σ H s :=
 I.pins_of fun p hp=>(List.mem_append.mp hp).elim (fun z=>I.pin p (List.mem_append_right _ z)) fun z=>by
  obtain⟨hb,e⟩:=qjg z
  obtain⟨f0,f1,f2,_⟩:=hf p.1 hb
  obtain⟨o,e',d⟩:=ho p.1 hb
  rw[e] at e';cases e'
  exact⟨e,f0,f1,f2,d⟩
theorem Inv.unpinned {pins pl:List (Addr × Obj)}{σ:St}{H:Hp}{s:Shared}(I:Inv X (pins++pl) σ H s):Inv X pins σ H s:=I.pins_of fun p hp=>I.pin p (List.mem_append_right _ (List.mem_append_left _ hp))
theorem ql3 {iter:Expr}{body:List Stmt}{wi:TI}{g:TG}{tb:TS}{pos:Pos}(hp:PassesOwn (model X.prog X.w) X.A X.env X.xe)(hc:X.calm=true)(hi:PI X tg iter wi)(hg:PG X tg g)(hb:PSs X body tb)
  (hs:∀ x,foldedSetIterable iter X.env x=pure x:=by intro _;rfl):PS X (.For tg iter body [] pos) (qro wi g tb):=by
 intro pins s σ H D I h
 refine wpAny_For (thn (hi pins s σ H _ I h) fun v s1 h1=>thn h1 fun itv s2 h2=>?_) hs
 obtain⟨it,fp,tn,J,H2,e,I2,T,st2,f2,W,⟨m0,w0⟩,turn⟩:=h2
 subst e
 have stat:∀ {H':Hp},(∀ b∈fp,H' b=none)→∀ b∈fp,qhx X pins H' b:=fun hn b hb=>⟨hn b hb,(f2 b hb).2⟩
 refine codeAny_forLoop_any (fun n s'=>∃ i σ' H',Inv X pins σ' H' s'∧tn i s'.heap∧(∀ b∈fp,H' b=none)∧W i n σ' H') ?_ m0 ⟨0,σ,H2,I2,st2,fun b hb=>(f2 b hb).1,w0⟩
 rintro n s3 ⟨i,σ3,H3,I3,st3,fr3,w3⟩
 rcases turn i n σ3 H3 w3 with⟨stop,qn⟩ | ⟨go,N,hN,step⟩
 ·refine wpAny_passesOwn hp (thn (T.done X rfl rfl rfl hc i pins s3 σ3 H3 X.xe I3 (stat fr3) st3 stop) fun r s4 hq0=>?_)
  obtain⟨hr,I4⟩:=hq0
  subst hr
  exact wpAny_execs_nil ⟨σ3,H3,I4,qn⟩
 ·refine wpAny_passesOwn hp (thn (T.item X rfl rfl rfl hc i pins s3 σ3 H3 X.xe I3 (stat fr3) st3 go) fun r s4 hq1=>?_)
  obtain⟨u,hr,h4⟩:=hq1
  subst hr
  refine wpAny_passesOwn hp (thn h4 fun _ s5 hq2=>?_)
  obtain⟨x,H5,I5,r5,y5,st5,fr5⟩:=hq2
  have I5':=I5.pinned (stat fr5) (T.obj _ _ st5)
  refine wpAny_passesOwn hp (thn (hg _ s5 σ3 H5 x u _ I5' r5 (step x H5 y5)) fun _ s6 hq3=>?_)
  obtain⟨σ6,H6,I6,q6⟩:=hq3
  refine wpAny_passesOwn hp (thn (hb _ s6 σ6 H6 _ I6 q6) fun f s7 q7=>?_)
  have again:∀ {σ7:St} {H7:Hp},Inv X (pins++qgy fp s5.heap) σ7 H7 s7→N σ7 H7→∃ m,m<n∧∃ i σ' H',Inv X pins σ' H' s7∧tn i s7.heap∧(∀ b∈fp,H' b=none)∧W i m σ' H':=fun {σ7 H7} I7 n7=>by
   obtain⟨m',hm,w7⟩:=hN σ7 H7 n7
   refine⟨m',hm,i+1,σ7,H7,I7.unpinned,T.keep _ _ _ st5 fun b hb o e=>(I7.pin (b,o) (List.mem_append_right _ (List.mem_append_right _ (qcS hb e)))).1,fun b hb=>?_,w7⟩
   obtain⟨o,e,d⟩:=T.obj _ _ st5 b hb
   exact (I7.pin (b,o) (List.mem_append_right _ (List.mem_append_right _ (qcS hb e)))).2.1
  cases f with
  | next=>obtain⟨σ7,H7,I7,n7⟩:=q7;exact again I7 n7
  | cont=>obtain⟨σ7,H7,I7,n7⟩:=q7;exact again I7 n7
  | brk=>obtain⟨σ7,H7,I7,q7⟩:=q7;exact⟨σ7,H7,I7.unpinned,q7⟩
  | ret v=>obtain⟨x7,σ7,H7,I7,r7,q7⟩:=q7;exact⟨x7,σ7,H7,I7.unpinned,r7,q7⟩
end
abbrev R2:=V→V→Hp→VK→Prop
def OpR (X:Cx)(f:Value→Value→Sem Value)(r:R2):Prop :=
 ∀ (pins:List (Addr × Obj)) (s:Shared) (σ:St) (H:Hp) (x y:V) (v u:Value) (Q:VK),Inv X pins σ H s→RelV x v→RelV y u→r x y H Q →
  wpAny (model X.prog X.w) X.A (f v u) (EP X pins σ Q) X.xe s
def UnR (X:Cx)(f:Value→Sem Value)(r:V→Hp→VK→Prop):Prop :=
 ∀ (pins:List (Addr × Obj)) (s:Shared) (σ:St) (H:Hp) (x:V) (v:Value) (Q:VK),Inv X pins σ H s→RelV x v→r x H Q →
  wpAny (model X.prog X.w) X.A (f v) (EP X pins σ Q) X.xe s
def qfm (X:Cx)(f:Value)(r:List V→Hp→VK→Prop):Prop :=
 ∀ (pins:List (Addr × Obj)) (s:Shared) (σ:St) (H:Hp) (xs:List V) (us:List Value) (Q:VK),Inv X pins σ H s→Vals xs us→r xs H Q →
  wpAny (model X.prog X.w) X.A (call f us) (EP X pins σ Q) X.xe s
def tOp (r:R2)(ta tb:TE):TE:=fun σ H Q=>ta σ H fun x H1=>tb σ H1 fun y H2=>r x y H2 Q
def tUn (r:V→Hp→VK→Prop)(ta:TE):TE:=fun σ H Q=>ta σ H fun x H1=>r x H1 Q
def rI (C:Int→Int→Prop)(g:Int→Int→V):R2:=fun x y H Q=>∃ i j,x=.int i∧y=.int j∧C i j∧Q (g i j) H
def rI0 (g:Int→Int→V):R2:=fun x y H Q=>∃ i j,x=.int i∧y=.int j∧Q (g i j) H
def rU (g:Int→V):V→Hp→VK→Prop:=fun x H Q=>∃ i,x=.int i∧Q (g i) H
section
variable {X : Cx} {a b c : Expr} {ta tb tc : TE} {pos : Pos}
theorem qpO (ha:PE X a ta)(hb:PE X b tb){pins:List (Addr × Obj)}{s:Shared}{σ:St}{H:Hp}{R:V→V→Hp→Prop}(I:Inv X pins σ H s)
  (h:ta σ H fun x H1=>tb σ H1 fun y H2=>R x y H2) {Q:Value→Shared→Prop} {f:Value→Value→Sem Value}
  (hf:∀ v u s2 x y H2,Inv X pins σ H2 s2→RelV x v→RelV y u→R x y H2→wpAny (model X.prog X.w) X.A (f v u) Q X.xe s2) :
  wpAny (model X.prog X.w) X.A (eval a X.env) (fun v s₁=>wpAny (model X.prog X.w) X.A (eval b X.env) (fun u s₂=>wpAny (model X.prog X.w) X.A (f v u) Q X.xe s₂) X.xe s₁) X.xe s:=by
 refine thn (ha pins s σ H _ I h) fun v s1 hq0=>?_
 obtain⟨x,H1,I1,r1,q1⟩:=hq0
 refine thn (hb pins s1 σ H1 _ I1 q1) fun u s2 hq1=>?_
 obtain⟨y,H2,I2,r2,q2⟩:=hq1
 exact hf v u s2 x y H2 I2 r1 r2 q2
theorem qow {op:Operator}{r:R2}(ho:OpR X (binaryOp op) r)(ha:PE X a ta)(hb:PE X b tb):PE X (.BinOp a op b pos) (tOp r ta tb):=by
 intro pins s σ H Q I h
 exact wpAny_BinOp (qpO ha hb I h fun v u s2 x y H2 I2 rx ry q=>ho pins s2 σ H2 x y v u Q I2 rx ry q)
theorem qqs {op:UnaryOp}{r:V→Hp→VK→Prop}(ho:UnR X (unaryOp op) r)(ha:PE X a ta):PE X (.UnaryOp op a pos) (tUn r ta):=by
 intro pins s σ H Q I h
 exact UnaryOp_ (thn (ha pins s σ H _ I h) fun v s1 hq0=>by obtain⟨x,H1,I1,r1,q1⟩:=hq0;exact ho pins s1 σ H1 x v Q I1 r1 q1)
theorem opI {f:Value→Value→Sem Value}{C:Int→Int→Prop}{g:Int→Int→Int}
  (rule:∀ (i j:Int) (t u:Tok) (s:Shared) (Q:Value→Shared→Prop) (E:Value→Shared→Prop),C i j→Q (.int (g i j) s.toks) { s with toks:=s.toks+1 }→wpAny (model X.prog X.w) X.A (f (.int i t) (.int j u)) Q E s) :
  OpR X f (rI C fun i j=>.int (g i j)):=by
 intro pins s σ H x y v u Q I rx ry h
 obtain⟨i,j,rfl,rfl,hc,q⟩:=h
 obtain⟨t,rfl⟩:=rx
 obtain⟨t',rfl⟩:=ry
 exact rule i j t t' s _ _ hc ⟨.int (g i j),H,I.tok _,⟨_,rfl⟩,q⟩
theorem qqV {f:Value→Value→Sem Value}{g:Int→Int→Int}
  (rule:∀ (i j:Int) (t u:Tok) (s:Shared) (Q:Value→Shared→Prop) (E:Value→Shared→Prop),Q (.int (g i j) s.toks) { s with toks:=s.toks+1 }→wpAny (model X.prog X.w) X.A (f (.int i t) (.int j u)) Q E s) :
  OpR X f (rI0 fun i j=>.int (g i j)):=by
 intro pins s σ H x y v u Q I rx ry h
 obtain⟨i,j,rfl,rfl,q⟩:=h
 obtain⟨t,rfl⟩:=rx
 obtain⟨t',rfl⟩:=ry
 exact rule i j t t' s _ _ ⟨.int (g i j),H,I.tok _,⟨_,rfl⟩,q⟩
theorem qp6 {f:Value→Value→Sem Value}{g:Int→Int→Bool}
  (rule:∀ (i j:Int) (t u:Tok) (s:Shared) (Q:Value→Shared→Prop) (E:Value→Shared→Prop),Q (.bool (g i j)) s→wpAny (model X.prog X.w) X.A (f (.int i t) (.int j u)) Q E s) :
  OpR X f (rI0 fun i j=>.bl (g i j)):=by
 intro pins s σ H x y v u Q I rx ry h
 obtain⟨i,j,rfl,rfl,q⟩:=h
 obtain⟨t,rfl⟩:=rx
 obtain⟨t',rfl⟩:=ry
 exact rule i j t t' s _ _ ⟨.bl (g i j),H,I,rfl,q⟩
def qq4 (i j:Int):Prop:=0≤j∧j≤1000000∧i.natAbs<2 ^ 64
theorem qpq:OpR X (binaryOp .Add) (rI0 fun i j=>.int (i+j)):=qqV fun _ _ _ _ _ _ _ q=>add_int q
theorem qpd:OpR X (binaryOp .Sub) (rI0 fun i j=>.int (i - j)):=qqV fun _ _ _ _ _ _ _ q=>sub_int q
theorem qoK:OpR X (binaryOp .Mod) (rI (fun _ j=>0<j) fun i j=>.int (i % j)):=opI fun i j _ _ _ _ _ hc q=>by
 have h1:(0:Int)<j:=hc
 exact mod_int' (by omega) (by rw[Int.fmod_eq_emod_of_nonneg i (by omega)];exact q)
theorem qo4:OpR X (binaryOp .Pow) (rI qq4 fun i j=>.int (i ^ j.toNat)):=opI fun _ _ _ _ _ _ _ hc q=>pow_int_small hc.1 hc.2.1 hc.2.2 q
theorem unI {f:Value→Sem Value}{g:Int→Int}
  (rule:∀ (i:Int) (t:Tok) (s:Shared) (Q:Value→Shared→Prop) (E:Value→Shared→Prop),Q (.int (g i) s.toks) { s with toks:=s.toks+1 }→wpAny (model X.prog X.w) X.A (f (.int i t)) Q E s) :
  UnR X f (rU fun i=>.int (g i)):=by
 intro pins s σ H x v Q I rx h
 obtain⟨i,rfl,q⟩:=h
 obtain⟨t,rfl⟩:=rx
 exact rule i t s _ _ ⟨.int (g i),H,I.tok _,⟨_,rfl⟩,q⟩
theorem qoh:UnR X (unaryOp .USub) (rU fun i=>.int (-i)):=unI fun _ _ _ _ _ q=>neg_int q
end
section
variable {X : Cx} {a b c : Expr} {ta tb tc : TE} {pos : Pos}
theorem qme {pins:List (Addr × Obj)}{σ:St}{H:Hp}{s:Shared}{Q:VK}{k k':Bool}(I:Inv X pins σ H s)(q:Q (.bl k) H)(e:k=k'):EP X pins σ Q (.bool k') s:=by
 subst e
 exact⟨.bl k,H,I,rfl,q⟩
theorem qql:OpR X (compareOp .Lt) (rI0 fun i j=>.bl (decide (i<j))):=qp6 fun _ _ _ _ _ _ _ q=>lt_int q
theorem qqv:OpR X (compareOp .Gt) (rI0 fun i j=>.bl (decide (j<i))):=qp6 fun _ _ _ _ _ _ _ q=>gt_int q
theorem qpP:OpR X (compareOp .GtE) (rI0 fun i j=>.bl (decide (j≤i))):=qp6 fun _ _ _ _ _ _ _ q=>ge_int q
theorem qmU:OpR X (compareOp .IsNot) (fun x y H Q=>y=.non∧Q (.bl (!decide (x=.non))) H):=by
 intro pins s σ H x y v u Q I rx ry h
 obtain⟨rfl,q⟩:=h
 cases ry
 refine isnot_none_gen (qme I q ?_)
 cases x <;> first
  | (cases rx;rfl)
  | (obtain⟨t,rfl⟩:=rx;rfl)
theorem qaI (b:Expr){op:CmpOp}(h:op≠.In:=by decide)(h2:op≠.NotIn:=by decide):behindInMarks op b=false:=by
 have e1:(op == CmpOp.In)=false:=by cases op <;> first | rfl | exact absurd rfl h
 have e2:(op == CmpOp.NotIn)=false:=by cases op <;> first | rfl | exact absurd rfl h2
 cases b <;> simp [behindInMarks,e1,e2]
theorem qmy {op:CmpOp}{r:R2}(ho:OpR X (compareOp op) r)(ha:PE X a ta)(hb:PE X b tb)(hm:behindInMarks op b=false):PE X (.Compare a [op] [b] pos) (tOp r ta tb):=by
 intro pins s σ H Q I h
 exact wpAny_Compare1 (qpO ha hb I h fun v u s2 x y H2 I2 rx ry q=>ho pins s2 σ H2 x y v u Q I2 rx ry q) hm
def qna (t:TE):TT:=fun σ H Q=>t σ H fun x H'=>∃ k,x=.bl k∧Q k H'
theorem qjf {op:CmpOp}{r:R2}(ho:OpR X (compareOp op) r)(ha:PE X a ta)(hb:PE X b tb)(hm:behindInMarks op b=false):PT X (.Compare a [op] [b] pos) (qna (tOp r ta tb)):=by
 intro pins s σ H Q I h
 refine wpAny_isTrue_Compare1 (thn (ha pins s σ H _ I h) fun v s1 ⟨x,H1,I1,r1,q1⟩=>thn (hb pins s1 σ H1 _ I1 q1) fun u s2 ⟨y,H2,I2,r2,q2⟩ =>
  thn (ho pins s2 σ H2 x y v u _ I2 r1 r2 q2) fun c s3 ⟨z,H3,I3,r3,k,e,q3⟩=>?_) hm
 subst e
 cases r3
 exact wpAny_truthy_bool ⟨H3,I3,q3⟩
theorem qez:(sizeLine:Nat)<2 ^ 63:=by rw[sizeLine_eq];decide
theorem qiS:OpR X (binaryOp .Add) (fun x y H Q=>∃ i j,x=.str i∧y=.str j∧i.length+j.length≤sizeLine∧Q (.str (i++j)) H):=by
 intro pins s σ H x y v u Q I rx ry h
 obtain⟨i,j,rfl,rfl,hz,q⟩:=h
 obtain⟨t,rfl⟩:=rx
 obtain⟨t',rfl⟩:=ry
 exact add_str (fun t' tk=>⟨.str (i++j),H,I.tok _,⟨_,rfl⟩,q⟩) hz
theorem qi2 {x:V}{us:List Value}(r:Vals [x] us):∃ u,us=[u]∧RelV x u:=by
 cases r with
 | cons r1 r2=>cases r2;exact⟨_,rfl,r1⟩
end
section
variable {prog : Program} {w : World} {A : Around} {E : Value → Shared → Prop} {s : Shared} {K : PySem.W.Frag} {x dx C f : Addr} {mA : Str → Option Value} {name : Str} {v : Value}
end
theorem RelO.some_of {v:V}{o:Option Value}(r:RelO (some v) o):∃ u,o=some u∧RelV v u:=by
 cases o with
 | none=>exact (show False from r).elim
 | some u=>exact⟨u,rfl,r⟩
section
variable {P : Program} {w : World} {H H' : Hp} {h h' : Heap} {a C dx : Addr} {fs fs' : List (Str × V)}
end
structure Cls (K:PySem.W.Frag)(C:Addr):Prop where
 pg:PySem.W.plainGet K C Str.empty=true
 hd:PySem.W.hasDictIn K C=true
 po:PySem.W.plainOver K C=true
 sa:PySem.W.findIn K (.ref C) "__setattr__"=some (some (.builtin "object.__setattr__"))
section
variable {X : Cx} {pins : List (Addr × Obj)} {σ : St} {H : Hp} {s : Shared} {a C dx : Addr} {fs : List (Str × V)} {f : Str} {v : V} {A : Around} {E : Value → Shared → Prop}
theorem qnv {prog:Program}{w:World}{env:Env}{e:Expr}{f:Str}{pos:Pos}{s:Shared}{Q:Value→Shared→Prop}(hb:attributeBase e f env (eval e env)=eval e env)
  (h:wpAny (model prog w) A (eval e env) (fun o s₁=>wpAny (model prog w) A (getAttr o f true) Q E s₁) E s):wpAny (model prog w) A (eval (.Attribute e f pos) env) Q E s :=
 Attribute_any_ h (by rw[arm_eval_Attribute,hb])
end
section
variable {X : Cx} {o e value : Expr} {f : Str} {pos pos' tpos : Pos} {ta tv : TE}
end
section
variable {X : Cx} {pins : List (Addr × Obj)} {σ : St} {H : Hp} {s : Shared} {A : Around} {E : Value → Shared → Prop} {Q : Value → Shared → Prop} {c : Value} {b : Bool}
inductive TyOf (K:PySem.W.Frag) (H:Hp):V→Value→Prop where
 | non:TyOf K H .non (.type "NoneType")
 | bl (x:Bool):TyOf K H (.bl x) (.type "bool")
 | int (i:Int):TyOf K H (.int i) (.type "int")
 | str (x:Str):TyOf K H (.str x) (.type "str")
 | flt (x:UInt64):TyOf K H (.flt x) (.type "float")
 | lst {a:Addr} {xs:List V} (e:H a=some (.lst xs)):TyOf K H (.ref a) (.type "list")
 | frz {a:Addr} {o:Obj} {xs:List V} (e:H a=some (.frz o (.lst xs))):TyOf K H (.ref a) (.type "list")
 | tup {a:Addr} {xs:List V} (e:H a=some (.tup xs)):TyOf K H (.ref a) (.type "tuple")
 | dK {a:Addr} {kvs:List (Key × V)} (e:H a=some (.dK kvs)):TyOf K H (.ref a) (.type "dict")
 | dT {a:Addr} {kvs:List (List Key × V)} (e:H a=some (.dT kvs)):TyOf K H (.ref a) (.type "dict")
 | ins {a C dx:Addr} {fs:List (Str × V)} (e:H a=some (.ins C dx fs)) (cl:Cls K C) (ha:PySem.W.findIn K (.ref C) "__class__"=some (some (.builtin "object.__class__")))
   (hn:PySem.W.specialIn K (.builtin "object.__class__") "__get__"=some (some (.builtin "getset_descriptor.__get__"))) (htk:PySem.W.takesIn K (.builtin "object.__class__")=some true)
   (hm:PySem.W.mroIn K C (.type "object")=some true):TyOf K H (.ref a) (.ref C)
end
structure Room (k:Nat)(A:Around):Prop where
 hd:A.handled=none
 dp:A.depth+3*k+5<recursionLimit
 un:A.units+16*k+200<cLine
theorem Room.mono {j k:Nat}{A:Around}(r:Room k A)(h:j≤k):Room j A:=⟨r.hd,by have:=r.dp;omega,by have:=r.un;omega⟩
theorem Room.deeper {k:Nat}{A:Around}(r:Room (k+1) A)(env:Env):Room k (A.deeper env) :=
 ⟨r.hd,by have:=r.dp;show A.depth+1+3*k+5<_;omega,by have:=r.un;show A.units+3+16*k+200<_;omega⟩
theorem qit {A:Around}{C:Addr}{us:List Value}{kw:List (Str × Value)}:(A.under (.builtin "type.__call__" ⟨.ref C::us,kw⟩)).depth=A.depth+1:=by
 first | rfl | simp [Around.under,Code.weight,Code.isCreation,Code.isGuard,Code.isCaller,Code.frames,Code.isFrame,guardIds]
theorem qik {A:Around}{C:Addr}{us:List Value}{kw:List (Str × Value)}:(A.under (.builtin "type.__call__" ⟨.ref C::us,kw⟩)).units=A.units+1:=by
 first | rfl | simp [Around.under,Code.cUnits,Code.frames,Code.isFrame]
theorem Room.make {k:Nat}{A:Around}(r:Room (k+1) A)(C:Addr)(us:List Value)(kw:List (Str × Value)):Room k (A.under (.builtin "type.__call__" ⟨.ref C::us,kw⟩)) :=
 ⟨r.hd,by have:=r.dp;rw[qit];omega,by have:=r.un;rw[qik];omega⟩
theorem Room.depth {k:Nat}{A:Around}(r:Room k A):A.depth<recursionLimit:=by have:=r.dp;omega
theorem Room.units {k:Nat}{A:Around}(r:Room k A):A.units+64<cLine:=by have:=r.un;omega
def qrv:TA:=fun _ H Q=>Q [] H
def qqi (ta:TE)(tr:TA):TA:=fun σ H Q=>ta σ H fun x H1=>tr σ H1 fun xs H2=>Q (x::xs) H2
section
variable {X : Cx} {e : Expr} {es : List Expr} {te : TE} {t : TA} {pos : Pos}
theorem pa_nil:PA X [] qrv:=fun _ _ _ _ H Q I h=>Calls.spliced_nil ⟨[],H,I,.nil,h⟩
theorem qbg (ha:PE X e te)(hr:PA X es t)(hs:starEach (e::es) X.env=(false,eval e X.env)::starEach es X.env:=by rfl):PA X (e::es) (qqi te t):=by
 intro pos pins s σ H Q I h
 rw[hs]
 show wpAny _ _ (spliced ((false,eval e X.env)::backTo pos (starEach es X.env))) _ _ s
 refine Calls.spliced_cons (thn (ha pins s σ H _ I h) fun u s1 hq0=>?_)
 obtain⟨x,H1,I1,r1,q1⟩:=hq0
 exact thn (hr pos pins s1 σ H1 _ I1 q1) fun us s2 hq1=>by obtain⟨xs,H2,I2,r2,q2⟩:=hq1;exact⟨x::xs,H2,I2,.cons r1 r2,q2⟩
def qr6 (t:TA):TE:=fun σ H Q=>t σ H fun xs H1=>xs.length≤sizeLine∧∀ p,H1 p=none→Q (.ref p) (upd H1 p (.tup xs))
def qrl (t:TA):TE:=fun σ H Q=>t σ H fun xs H1=>xs.length≤sizeLine∧∀ p,H1 p=none→Q (.ref p) (upd H1 p (.lst xs))
theorem qku {x1}(h:PA X es t):PE X (.Tuple es x1 pos) (qr6 t):=by
 intro pins s σ H Q I hq
 refine wpAny_Tuple_spliced (thn (h pos pins s σ H _ I hq) fun us s1 ⟨xs,H1,I1,r,z,q⟩=>⟨by rw[← r.length];exact z,?_⟩)
 have hf:H1 s1.heap.objs.size=none:=I1.hok.fresh (Nat.le_refl _)
 refine⟨.ref s1.heap.objs.size,upd H1 s1.heap.objs.size (.tup xs),I1.laid (t':=s1.toks) (fun b u e=>Heap.get?_push_of_some _ e) (Nat.le_refl _) ?_,rfl,q _ hf⟩
 exact⟨z,us,r,⟨_,Heap.get?_push_size _ rfl,⟨rfl,rfl⟩,_,rfl⟩⟩
theorem qmb (h:PA X es t):PE X (.List es pos) (qrl t):=by
 intro pins s σ H Q I hq
 refine wpAny_List_spliced (thn (h pos pins s σ H _ I hq) fun us s1 ⟨xs,H1,I1,r,z,q⟩=>⟨by rw[← r.length];exact z,?_⟩)
 have hf:H1 s1.heap.objs.size=none:=I1.hok.fresh (Nat.le_refl _)
 refine⟨.ref s1.heap.objs.size,upd H1 s1.heap.objs.size (.lst xs),I1.laid (t':=s1.toks) (fun b u e=>Heap.get?_push_of_some _ e) (Nat.le_refl _) ?_,rfl,q _ hf⟩
 exact⟨z,us,0,r,Heap.get?_push_size _ rfl⟩
end
abbrev Sp:=List V→Hp→VK→XK→Prop
abbrev CXT:=List Env→Hp→Shared→XK→Value→Shared→Prop
structure Env0 (P:Program)(w:World)(K:PySem.W.Frag)(mg:Str→Option Value)(base:Heap)(A:Around)(outer:List Env)(s:Shared)(H:Hp):Prop where
 frames:A.frames=some outer
 mod:Mod K mg base
 bs:∀ b o,base.get? b=some o→s.heap.get? b=some o∧H b=none
 bsz:base.objs.size≤s.heap.objs.size
 funs:s.heap.FunFrames base outer
 frf:∀ b∈frs outer,H b=none
 hok:HOk P w H s.heap
 bare:AllBare s.gens
def CE (outer:List Env)(P:Program)(w:World)(H:Hp)(s:Shared)(Q:VK)(u:Value)(s':Shared):Prop :=
 ∃ v H',s'.os=s.os∧AllBare s'.gens∧Un (frs outer) [] H H' s.heap s'.heap∧HOk P w H' s'.heap∧RelV v u∧Q v H'
def CR (CX:CXT)(outer:List Env)(P:Program)(w:World)(H:Hp)(s:Shared)(Q:VK)(E:XK)(r:Result)(s':Shared):Prop :=
 match r with
 | .ok (.ret u)=>CE outer P w H s Q u s'
 | .ok _=>False
 | .error e=>CX outer H s E e s'
structure FnOk (P:Program)(w:World)(K:PySem.W.Frag)(mg:Str→Option Value)(base:Heap)(CX:CXT)(k:Nat)(f:Addr)(fd:FuncData)(ps:List Str)(sp:Sp):Prop where
 len:∀ vs H Q E,sp vs H Q E→vs.length=ps.length
 run:∀ (A:Around) (outer:List Env) (s:Shared) (H:Hp) (args:Args) (us:List Value) (vs:List V) (Q:VK) (E:XK),Room k A→Env0 P w K mg base A outer s H→BindsTo s fd args (ps.zip us)→Vals vs us→sp vs H Q E →
  codeAny (model P w) A (.call (.ref f) args) (CR CX outer P w H s Q E) s
theorem FnOk.mono {P:Program}{w:World}{K:PySem.W.Frag}{mg:Str→Option Value}{base:Heap}{CX:CXT}{j k:Nat}{f:Addr}{fd:FuncData}{ps:List Str}{sp:Sp}(F:FnOk P w K mg base CX j f fd ps sp)(h:j≤k) :
  FnOk P w K mg base CX k f fd ps sp:=⟨F.len,fun A outer s H args us vs Q E hr=>F.run A outer s H args us vs Q E (hr.mono h)⟩
theorem FnOk.imp {P:Program}{w:World}{K:PySem.W.Frag}{mg:Str→Option Value}{base:Heap}{CX:CXT}{k:Nat}{f:Addr}{fd:FuncData}{ps:List Str}{sp sp':Sp}(F:FnOk P w K mg base CX k f fd ps sp)
  (h:∀ vs H Q E,sp' vs H Q E→sp vs H Q E):FnOk P w K mg base CX k f fd ps sp' :=
 ⟨fun vs H Q E q=>F.len vs H Q E (h _ _ _ _ q),fun A outer s H args us vs Q E hr he hb hv hs=>F.run A outer s H args us vs Q E hr he hb hv (h _ _ _ _ hs)⟩
theorem Env0.make {P:Program}{w:World}{K:PySem.W.Frag}{mg:Str→Option Value}{base:Heap}{A:Around}{outer:List Env}{s:Shared}{H:Hp}(e:Env0 P w K mg base A outer s H)(C:Addr)(us:List Value)(kw:List (Str × Value)) :
  Env0 P w K mg base (A.under (.builtin "type.__call__" ⟨.ref C::us,kw⟩)) outer s H:=⟨by first | exact e.frames | (simpa [Around.under,Code.envs,Code.isFrame,pushEnvs] using e.frames),e.mod,e.bs,e.bsz,e.funs,e.frf,e.hok,e.bare⟩
section
variable {X : Cx} {pins : List (Addr × Obj)} {σ : St} {H : Hp} {s s' : Shared}
theorem Inv.env0 (I:Inv X pins σ H s):Env0 X.prog X.w X.K X.mg X.base X.A X.stack s H :=
 ⟨I.ok.frames,I.ok.mod,I.bs,Nat.le_trans I.ok.bsz I.sz,I.stack,I.stkFree,I.hok,I.bare⟩
theorem Inv.after {Q:VK}{u:Value}(I:Inv X pins σ H s)(h:CE X.stack X.prog X.w H s Q u s'):EP X pins σ Q u s':=by
 obtain⟨v,H',os,bare,un,hok,r,q⟩:=h
 obtain⟨hh,g,d,t,os'⟩:=s'
 obtain rfl:os'=s.os:=os
 exact⟨v,H',I.call (h':=hh) (g':=g) (d':=d) (t':=t) (ch:=[]) un hok bare (fun b z=>absurd z (by simp)),r,q⟩
end
def qp1 (sp:Sp)(dvs:List V)(E:XK)(t:TA):TE:=fun σ H Q=>t σ H fun vs H1=>sp (vs++dvs) H1 Q E
def Binds (K:PySem.W.Frag)(fd:FuncData)(ps:List Str)(ds:List Value):Prop :=
 ∀ (s:Shared) (us:List Value),K.In s.heap→(us++ds).length=ps.length→BindsTo s fd ⟨us,[]⟩ (ps.zip (us++ds))
theorem Binds.all {K:PySem.W.Frag}{fd:FuncData}{ps:List Str}(h:∀ us:List Value,us.length=ps.length→bindArgs fd ⟨us,[]⟩=pure (ps.zip us)):Binds K fd ps []:=fun s us _ hl=>by
 rw[List.append_nil] at hl ⊢
 exact .of_eq (h us hl)
def qhW (CX:CXT)(X:Cx)(E:XK):Prop:=∀ (pins:List (Addr × Obj)) (σ:St) (H:Hp) (s:Shared) (e:Value) (s':Shared),Inv X pins σ H s→CX X.stack H s E e s'→X.xe e s'
section
variable {X : Cx} {CX : CXT} {k : Nat} {f C : Addr} {fd : FuncData} {ps : List Str} {sp : Sp} {dvs : List V} {ds : List Value} {E : XK} {x m : Str} {p pos apos : Pos} {e o : Expr} {es : List Expr} {ta : TE} {t : TA}
theorem qom {pins:List (Addr × Obj)}{σ:St}{H:Hp}{s:Shared}{Q:VK}{us:List Value}{vs:List V}(F:FnOk X.prog X.w X.K X.mg X.base CX k f fd ps sp)(hr:Room k X.A)(hb:Binds X.K fd ps ds)(hd:Vals dvs ds)(hx:qhW CX X E)
  (I:Inv X pins σ H s) (r:Vals vs us) (h:sp (vs++dvs) H Q E):wpAny (model X.prog X.w) X.A (call (.ref f) us) (EP X pins σ Q) X.xe s:=by
 have r2:Vals (vs++dvs) (us++ds):=r.append hd
 have hl:(us++ds).length=ps.length:=by rw[← r2.length];exact F.len _ _ _ _ h
 refine wpAny_call (codeAny_mono (F.run X.A X.stack s H ⟨us,[]⟩ (us++ds) (vs++dvs) Q E hr I.env0 (hb s us I.kIn hl) r2 h) fun r s' hq=>?_)
 cases r with
 | error e=>exact hx pins σ H s e s' I hq
 | ok fl =>
  cases fl with
  | ret u=>exact I.after hq
  | next=>exact False.elim hq
  | brk=>exact False.elim hq
  | cont=>exact False.elim hq
theorem qhd (F:FnOk X.prog X.w X.K X.mg X.base CX k f fd ps sp)(hr:Room k X.A)(hg:Gl X x)(hm:X.mg x=some (.ref f))(hk:PySem.W.keepIn X.K (.ref f)=true)(hb:Binds X.K fd ps ds)(hd:Vals dvs ds)(hx:qhW CX X E)
  (ha:PA X (e::es) t) (hdb:(x == ("__debug__":Str))=false:=by decide) (he:starEach (e::es) X.env=(false,eval e X.env)::starEach es X.env:=by rfl) (hpl:(backTo pos (starEach es X.env)).any (·.1)=false:=by rfl) :
  PE X (.Call (.Name x p) (e::es) [] pos) (qp1 sp dvs E t):=by
 intro pins s σ H Q I h
 refine wpAny_Call_Name_kw (qeG I hg hm ?_ hdb)
 refine PySem.W.callWith_K (h₀:=X.base) I.ok.mod.kin hk (thn (ha pos pins s σ H _ I h) fun us s1 ⟨vs,H1,I1,r,q⟩=>⟨I1.kIn,?_⟩) he hpl
 exact qom F hr hb hd hx I1 r q
end
section
variable {X : Cx} {CX : CXT} {k : Nat} {f C : Addr} {fd : FuncData} {ps ks : List Str} {sp : Sp} {E : XK} {x m : Str} {p pos apos kpos : Pos} {e o : Expr} {es : List Expr} {kws : List Keyword} {te ta : TE} {t tk : TA} {nm : Option Str}
variable {g : List Value → List Value → List Value} {gV : List V → List V → List V}
end
structure FnScope (N P:List Str)(sc:Scope):Prop where
 kind:sc.kind=.function
 co:sc.isCoroutine=false
 gen:sc.isGenerator=false
 nd:N.Nodup
 pre:N.take P.length=P
 par:∀ x∈P,sc.names.lookup x=some .local∨sc.names.lookup x=some .cell
 nofree:∀ y∈sc.names,y.2≠.free
theorem qgB {kindOf:Str→Option NameKind}{x:Str}:∀ {binds:List (Str × Value)} {m:Str→Option Value},(∀ v,(x,v)∉binds)→bindL kindOf binds m x=m x
 | [],_,_=>rfl
 | (n,v)::r,m,h=>by
  unfold bindL
  rw[qgB fun w hw=>h w (List.mem_cons_of_mem _ hw)]
  split
  ·have:x≠n:=by rintro rfl;exact h v List.mem_cons_self
   simp [this]
  ·rfl
theorem qgF {kindOf:Str→Option NameKind}{x:Str}:∀ {binds:List (Str × Value)} {m:Str→Option Value},(∀ v,(x,v)∉binds)→bindC kindOf binds m x=m x
 | [],_,_=>rfl
 | (n,v)::r,m,h=>by
  unfold bindC
  rw[qgF fun w hw=>h w (List.mem_cons_of_mem _ hw)]
  split
  ·rfl
  ·have:x≠n:=by rintro rfl;exact h v List.mem_cons_self
   simp [this]
theorem qgz {kindOf:Str→Option NameKind}{x:Str}{v:Value}:∀ {P:List Str} {vs:List Value} {i:Nat} {m:Str→Option Value},P.Nodup→P[i]?=some x→vs[i]?=some v→kindOf x=some .local →
  bindL kindOf (P.zip vs) m x=some v
 | [],_,_,_,_,h,_,_=>by simp at h
 | _::_,[],_,_,_,_,h,_=>by simp at h
 | p::P,w::vs,0,m,nd,h1,h2,hk=>by
  simp at h1 h2;subst h1;subst h2
  show bindL kindOf ((p,w)::P.zip vs) m p=_
  unfold bindL
  rw[qgB fun v hv=>(List.nodup_cons.mp nd).1 (List.of_mem_zip hv).1,if_pos hk]
  simp
 | p::P,w::vs,i+1,m,nd,h1,h2,hk=>by
  show bindL kindOf ((p,w)::P.zip vs) m x=_
  unfold bindL
  exact qgz (i:=i) (List.nodup_cons.mp nd).2 (by simpa using h1) (by simpa using h2) hk
theorem qgQ {kindOf:Str→Option NameKind}{x:Str}{v:Value}:∀ {P:List Str} {vs:List Value} {i:Nat} {m:Str→Option Value},P.Nodup→P[i]?=some x→vs[i]?=some v→kindOf x≠some .local →
  bindC kindOf (P.zip vs) m x=some v
 | [],_,_,_,_,h,_,_=>by simp at h
 | _::_,[],_,_,_,_,h,_=>by simp at h
 | p::P,w::vs,0,m,nd,h1,h2,hk=>by
  simp at h1 h2;subst h1;subst h2
  show bindC kindOf ((p,w)::P.zip vs) m p=_
  unfold bindC
  rw[qgF fun v hv=>(List.nodup_cons.mp nd).1 (List.of_mem_zip hv).1,if_neg hk]
  simp
 | p::P,w::vs,i+1,m,nd,h1,h2,hk=>by
  show bindC kindOf ((p,w)::P.zip vs) m x=_
  unfold bindC
  exact qgQ (i:=i) (List.nodup_cons.mp nd).2 (by simpa using h1) (by simpa using h2) hk
def qcY (N:List Str)(vs:List V):St:=vs.map some++List.replicate (N.length - vs.length) none
def qiV (CX:CXT)(P:Program)(w:World)(K:PySem.W.Frag)(mg:Str→Option Value)(base:Heap)(N:List Str)(qual:Str)(scope:Scope)(f:Addr)(cd:Value)(A:Around)(outer:List Env)(s:Shared)(H:Hp)(E:XK):Cx where
 prog:=P
 w:=w
 K:=K
 mg:=mg
 base:=base
 A:=A.deeper (envOfC qual scope s.heap.objs.size f cd)
 N:=N
 s₀:=s
 H₀:=H
 env:=envOfC qual scope s.heap.objs.size f cd
 outer:=outer
 stack:=envOfC qual scope s.heap.objs.size f cd::outer
 ex:=[]
 calm:=true
 fn:=fun _=>true
 pn:=[]
 xe:=fun e s'=>wpAny (model P w) (A.deeper (envOfC qual scope s.heap.objs.size f cd)) (leaving (envOfC qual scope s.heap.objs.size f cd) e) (fun _ s''=>CX outer H s E e s'') (fun e' s''=>CX outer H s E e' s'') s'
theorem qfu {sc:Scope}{n:Nat}{x:Str}(h:sc.names.lookup x=some .cell):∃ c,(cellsFrom n sc.names []).lookup x=some c:=by
 have q:=PySem.W.cellsFrom_some sc.names n [] (.inl h)
 exact Option.isSome_iff_exists.mp q
theorem qkH {CX:CXT}{P:Program}{w:World}{K:PySem.W.Frag}{mg:Str→Option Value}{base:Heap}{N ps:List Str}{qual:Str}{scope:Scope}{f:Addr}{cd:Value}{A:Around}{outer:List Env}{s s1:Shared}{H:Hp}{E:XK}{us:List Value}{vs:List V}
  (S:FnScope N ps scope) (hd:A.handled=none) (e0:Env0 P w K mg base A outer s H) (hl:vs.length=ps.length) (r:Vals vs us)
  (x:InCallC s s.heap.objs.size (bindL (envOfC qual scope s.heap.objs.size f cd).kindOf (ps.zip us) fun _=>none) (cellsFrom (s.heap.objs.size+1) scope.names []) (bindC (envOfC qual scope s.heap.objs.size f cd).kindOf (ps.zip us) fun _=>none) s1) :
  Inv (qiV CX P w K mg base N qual scope f cd A outer s H E) [] (qcY N vs) H s1:=by
 have hpl:ps.length≤N.length:=by have:=congrArg List.length S.pre;rw[List.length_take] at this;omega
 obtain⟨h1,tk,rfl,hk⟩:=x.done
 have noA:∀ b:Addr,b∉(qiV CX P w K mg base N qual scope f cd A outer s H E).ex:=fun b z=>absurd (show b∈([]:List Addr) from z) (by simp)
 refine⟨⟨e0.mod,S.kind,rfl,rfl,Nat.le_refl _,fun y z c h1 h2=>?_,fun y hy=>?_,fun y c _ h=>?_,fun _=>hd,Around.frames_deeper e0.frames,.inr ⟨rfl,rfl⟩,fun b z=>absurd z (noA b),e0.bs,e0.bsz,fun b _ _=>noA b,fun b z=>absurd z (noA b),e0.funs,e0.frf⟩,
  rfl,e0.bare,Un.kept hk,⟨_,x.toInCall.ns,fun i y v h1 h2 h3=>?_⟩,fun y c h=>⟨_,x.cell y c h⟩,e0.hok.fresh (Nat.le_refl _),fun y c h=>?_,fun p hp=>absurd (show p∈([]:List (Addr × Obj)) from hp) (by simp),e0.hok.kept hk,?_⟩
 ·exact name_of_addr x.apart (PySem.mem_of_lookup h1) (PySem.mem_of_lookup h2)
 ·have hy:scope.names.lookup y=some .cell∨scope.names.lookup y=some .free:=hy
  rcases hy with hy | hy
  ·exact qfu hy
  ·exact absurd rfl (S.nofree _ (PySem.mem_of_lookup hy))
 ·exact Nat.le_of_lt (x.above y c (PySem.mem_of_lookup h))
 ·have hi:i<vs.length:=by
   unfold qcY at h2
   by_cases hi:i<vs.length
   ·exact hi
   ·rw[List.getElem?_append_right (by simpa using hi)] at h2
    rw[List.getElem?_replicate] at h2
    split at h2 <;> cases h2
  have ha:vs[i]?=some v:=by
   unfold qcY at h2
   rw[List.getElem?_append_left (by simpa using hi),List.getElem?_map] at h2
   cases e:vs[i]? with
   | none=>rw[e] at h2;cases h2
   | some a=>rw[e] at h2;cases h2;rfl
  obtain⟨u,hu,rv⟩:=r.get ha
  have hp:ps[i]?=some y:=by
   rw[← S.pre,List.getElem?_take_of_lt (by omega)];exact h1
  have ndP:ps.Nodup:=by rw[← S.pre];exact S.nd.sublist (List.take_sublist _ _)
  refine⟨u,rv,?_⟩
  rcases S.par y (List.mem_of_getElem? hp) with k | k
  ·exact .inl ⟨k,qgz ndP hp hu k⟩
  ·obtain⟨c,e⟩:=qfu (n:=s.heap.objs.size+1) k
   refine .inr ⟨.inl k,c,e,?_⟩
   have q:=x.cell y c e
   rw[qgQ ndP hp hu (by show scope.names.lookup y≠_;rw[k];decide)] at q
   exact q
 ·exact e0.hok.fresh (Nat.le_of_lt (x.above y c (PySem.mem_of_lookup h)))
 ·unfold qcY
  show _=N.length
  rw[List.length_append,List.length_map,List.length_replicate]
  omega
theorem qkQ {CX:CXT}{P:Program}{w:World}{K:PySem.W.Frag}{mg:Str→Option Value}{base:Heap}{k:Nat}{f:Addr}{name qual:Str}{params:Arguments}{body:List Stmt}{scope:Scope}{dV kV doc pm cdv ct oc:Value}{an od:Option Addr}
  {osl:Array (Option Value)} {N ps:List Str} {sp:Sp} (lk:K.lookup f=some ⟨oc,od,.func (PySem.W.fnOf name qual params body scope dV kV doc pm an cdv ct),osl⟩) (hcd:PySem.W.codeIn K cdv qual=true) (S:FnScope N ps scope)
  (len:∀ vs H Q E,sp vs H Q E→vs.length=ps.length)
  (hbody:∀ (A:Around) (outer:List Env) (s:Shared) (H:Hp) (vs:List V) (Q:VK) (E:XK),Room k (A.deeper (envOfC qual scope s.heap.objs.size f cdv))→sp vs H Q E →
   ∃ t,PSs (qiV CX P w K mg base N qual scope f cdv A outer s H E) body t∧t { nx:=fun _ H'=>Q .non H',rt:=Q } (qcY N vs) H) :
  FnOk P w K mg base CX (k+1) f (PySem.W.fnOf name qual params body scope dV kV doc pm an cdv ct) ps sp:=by
 refine⟨len,fun A outer s H args us vs Q E hr e0 hb r hsp=>?_⟩
 have hl:=len _ _ _ _ hsp
 have KX:K.In s.heap:=e0.mod.kin.keeps fun b o e=>(e0.bs b o e).1
 have lim:s.heap.NoLimit:=e0.mod.nolimit.keeps fun b o e=>(e0.bs b o e).1
 have hkind:∀ y∈ps.zip us,scope.names.lookup y.1=some .local∨(scope.names.lookup y.1=some .cell∧((cellsFrom (s.heap.objs.size+1) scope.names []).lookup y.1).isSome=true):=fun hq0 hy=>by
  obtain⟨n,v⟩:=hq0
  rcases S.par n (List.of_mem_zip hy).1 with q | q
  ·exact .inl q
  ·exact .inr ⟨q,PySem.W.cellsFrom_some _ _ _ (.inl q)⟩
 refine codeAny_call_function hr.depth (KX _ _ lk) rfl S.co S.gen rfl (PySem.W.codeRec_of KX hcd) (hb _ _ _ _ ?_)
 refine wpAny_newFunctionEnv_cells S.kind hkind fun env he s1 x=>?_
 subst he
 refine⟨lim.keeps x.toInCall.keep,codeAny_func ?_⟩
 obtain⟨t,ht,hq⟩:=hbody A outer s H vs Q E (hr.deeper _) hsp
 have I:Inv (qiV CX P w K mg base N qual scope f cdv A outer s H E) [] (qcY N vs) H s1:=qkH S hr.hd e0 hl r x
 refine wpAny_mono (ht [] s1 (qcY N vs) H _ I hq) (fun fl s' hs=>?_) fun e s' hs=>hs
 have fin:∀ {σ':St} {H':Hp} {v:V} {u:Value},Inv (qiV CX P w K mg base N qual scope f cdv A outer s H E) [] σ' H' s'→RelV v u→Q v H'→CE outer P w H s Q u s' :=
  fun {σ' H' v u} J rv q=>⟨v,H',J.os,J.bare,J.base,J.hok,rv,q⟩
 cases fl with
 | ret u =>
  obtain⟨v,σ',H',J,rv,q⟩:=hs
  exact fin J rv q
 | next =>
  obtain⟨σ',H',J,q⟩:=hs
  exact fin (v:=V.non) (u:=Value.none) J rfl q
 | brk =>
  obtain⟨_,_,_,q⟩:=hs
  exact False.elim q
 | cont =>
  obtain⟨_,_,_,q⟩:=hs
  exact False.elim q
section
variable {X : Cx} {x : Str} {p pos : Pos} {e : Expr} {es : List Expr} {t : TA} {id T : String} {r : List V → Hp → VK → Prop}
def tCB (r:List V→Hp→VK→Prop)(t:TA):TE:=fun σ H Q=>t σ H fun vs H1=>r vs H1 Q
theorem qfM (hc:qfm X (.builtin id) r)(hg:Gl X x)(hm:X.mg x=none)(hv:bootBuiltins x=some (.builtin id))(ha:PA X (e::es) t)(hn:x≠"__name__":=by decide)(hdb:(x == ("__debug__":Str))=false:=by decide)
  (he:starEach (e::es) X.env=(false,eval e X.env)::starEach es X.env:=by rfl) (hpl:(backTo pos (starEach es X.env)).any (·.1)=false:=by rfl):PE X (.Call (.Name x p) (e::es) [] pos) (tCB r t):=by
 intro pins s σ H Q I h
 refine wpAny_Call_Name_kw (qgR I hg hm hv ?_ hn hdb)
 exact PyProof.Rows.callWith_builtin1 (thn (ha pos pins s σ H _ I h) fun us s1 hq0=>by obtain⟨vs,H1,I1,r1,q1⟩:=hq0;exact hc pins s1 σ H1 vs us Q I1 r1 q1) he hpl
theorem qgL (hc:qfm X (.type T) r)(hg:Gl X x)(hm:X.mg x=none)(hv:bootBuiltins x=some (.type T))(ha:PA X (e::es) t)(hn:x≠"__name__":=by decide)(hdb:(x == ("__debug__":Str))=false:=by decide)
  (he:starEach (e::es) X.env=(false,eval e X.env)::starEach es X.env:=by rfl) (hpl:(backTo pos (starEach es X.env)).any (·.1)=false:=by rfl):PE X (.Call (.Name x p) (e::es) [] pos) (tCB r t):=by
 intro pins s σ H Q I h
 refine wpAny_Call_Name_kw (qgR I hg hm hv ?_ hn hdb)
 exact PyProof.Rows.callWith_type1 (thn (ha pos pins s σ H _ I h) fun us s1 hq0=>by obtain⟨vs,H1,I1,r1,q1⟩:=hq0;exact hc pins s1 σ H1 vs us Q I1 r1 q1) he hpl
end
end L2
namespace HT
open PySem PyProof.Rows
section
open PySem.SeqAt
open PySem.AutoSeq1 (wpAny_loadPart')
open PySem.MeetsSeq PySem.MeetsSeq2 PySem.MeetsSeq3
end
section
variable {prog : Program} {w : World} {A : Around} {E : Value → Shared → Prop} {s : Shared}
theorem cat_tup {t b:Addr}{vs ws:List Value}{Q:Value→Shared→Prop}(ht:IsTup s.heap t vs.toArray)(hb:IsTup s.heap b ws.toArray)(hv:vs≠[])
  (h1:ws=[]→Q (.ref t) s) (h2:ws≠[]→Q (.ref s.heap.objs.size) { s with heap:=s.heap.push { cls:=.type "tuple",data:=.seq (vs++ws).toArray } })
  (hsz:vs.length+ws.length≤sizeLine):wpAny (model prog w) A (binaryOp .Add (.ref t) (.ref b)) Q E s:=by
 obtain⟨⟨cls,dd,data,sl⟩,ho,hc,n,hd⟩:=id ht
 obtain⟨⟨cls2,dd2,data2,sl2⟩,ho2,hc2,n2,hd2⟩:=id hb
 simp only at hc hd hc2 hd2
 subst hc hd hc2 hd2
 have e:vs.toArray++ws.toArray=(vs++ws).toArray:=by simp
 by_cases hw:ws=[]
 ·exact concat_meets ⟨_,ho,rfl⟩ ⟨_,ho2,rfl⟩ noFill_tuple_add seq_tuple_add PySem.F.slot_tuple_add PySem.F.entry_tuple_add (PySem.F.args_tuple_add_2 _ _)
   (tuple_addW1 t b vs.toArray ws.toArray n n2 dd dd2 sl sl2 (by simpa using hv) (by simp [hw])) ⟨ho,ho2,h1 hw⟩
 ·refine concat_meets ⟨_,ho,rfl⟩ ⟨_,ho2,rfl⟩ noFill_tuple_add seq_tuple_add PySem.F.slot_tuple_add PySem.F.entry_tuple_add (PySem.F.args_tuple_add_2 _ _)
   (tuple_addW2 t b vs.toArray ws.toArray n n2 dd dd2 sl sl2 (by simpa using hv) (by simpa using hw) (by rw[List.size_toArray,List.size_toArray];exact hsz)) ⟨ho,ho2,?_⟩
  rw[e]
  exact h2 hw
def sIx (n d:Nat):Option Int→Nat
 | none=>d
 | some v=>if v<0 then (v+(n:Int)).toNat else min v.toNat n
theorem sIx_none (n d:Nat):sIx n d none=d:=rfl
theorem sIx_nat (n d k:Nat):sIx n d (some (k:Int))=min k n:=by
 show (if (k:Int)<0 then ((k:Int)+(n:Int)).toNat else min (k:Int).toNat n)=min k n
 rw[if_neg (by omega),Int.toNat_natCast]
theorem qot (n d:Nat)(hd:d≤n)(o:Option Int):sIx n d o≤n:=by
 cases o with
 | none=>exact hd
 | some v =>
  show (if v<0 then (v+(n:Int)).toNat else min v.toNat n)≤n
  by_cases hv:v<0
  ·rw[if_pos hv];omega
  ·rw[if_neg hv];exact Nat.min_le_right _ _
theorem qkN (v:Int)(n d:Nat):(if v<0 then max (v+(n:Int)) 0 else min v (n:Int))=((sIx n d (some v):Nat):Int):=by
 show (if v<0 then max (v+(n:Int)) 0 else min v (n:Int))=(((if v<0 then (v+(n:Int)).toNat else min v.toNat n):Nat):Int)
 by_cases hv:v<0
 ·simp only [if_pos hv];omega
 ·simp only [if_neg hv];omega
theorem qiv (lo hi:Option Int)(n:Nat):Builtin.Slice.sliceAdjust lo hi 1 (n:Int)=(((sIx n 0 lo:Nat):Int),((sIx n n hi:Nat):Int)):=by
 have h1:¬ ((1:Int)<0):=by omega
 unfold Builtin.Slice.sliceAdjust
 simp only [h1,if_false]
 refine Prod.ext ?_ ?_
 ·cases lo with
  | none=>rfl
  | some v=>exact qkN v n 0
 ·cases hi with
  | none=>rfl
  | some v=>exact qkN v n n
theorem qiD (i j:Nat):Builtin.Slice.slicePlaces (i:Int) (j:Int) 1=j - i:=by
 unfold Builtin.Slice.slicePlaces
 have h1:(1:Int)>0:=by omega
 simp only [h1,if_true,Int.ediv_one]
 split <;> omega
theorem qe7 {v:Value}{o:Option Int}{Q:Option Int→Shared→Prop}(p:IsPart v o)(h:Q o s):wpAny (model prog w) A (Builtin.Slice.slicePartIndex v) Q E s:=by
 cases p with
 | none=>exact slicePart_none h
 | int i t=>exact slicePart_int h
theorem qcB {sl:Addr}{vl vu:Value}{lo hi:Option Int}{n:Nat}{Q:Int × Int × Nat→Shared→Prop}(hs:s.heap.IsSliceOf sl vl vu .none)(pl:IsPart vl lo)(pu:IsPart vu hi)
  (h:Q (((sIx n 0 lo:Nat):Int),1,sIx n n hi - sIx n 0 lo) s):wpAny (model prog w) A (Builtin.Slice.sliceApplied (.ref sl) (pure (n:Int))) Q E s:=by
 obtain⟨os,hos,hcs,hds⟩:=id hs
 unfold Builtin.Slice.sliceApplied Builtin.Slice.sliceFields
 refine wpAny_bind (wpAny_bind (wpAny_field hos hds (x:=vl) rfl (wpAny_bind (wpAny_field hos hds (x:=vu) rfl (wpAny_bind (wpAny_field hos hds (x:=.none) rfl (wpAny_pure ?_)))))))
 refine wpAny_bind (slicePart_none ?_)
 show wpAny _ _ (if ((1:Int) == 0)=true then _ else _) _ _ s
 rw[if_neg (by decide)]
 refine wpAny_bind (qe7 pl (wpAny_bind (qe7 pu (wpAny_bind (wpAny_pure ?_)))))
 show wpAny _ _ (match Builtin.Slice.sliceAdjust lo hi 1 (n:Int) with | (lo,hi)=>pure (lo,(1:Int),Builtin.Slice.slicePlaces lo hi 1)) _ _ s
 rw[qiv lo hi n]
 show wpAny _ _ (pure (((sIx n 0 lo:Nat):Int),(1:Int),Builtin.Slice.slicePlaces ((sIx n 0 lo:Nat):Int) ((sIx n n hi:Nat):Int) 1)) _ _ s
 rw[qiD]
 exact wpAny_pure h
theorem qlz (xs:Array Value)(i k:Nat):((List.range k).filterMap fun (m:Nat)=>xs[((i:Int)+(m:Int)*1).toNat]?).toArray=((xs.toList.drop i).take k).toArray:=by
 have e:(fun (m:Nat)=>xs[((i:Int)+(m:Int)*1).toNat]?)=fun m=>xs[i+m]?:=by
  funext m
  have:((i:Int)+(m:Int)*1).toNat=i+m:=by omega
  rw[this]
 rw[e]
 have:=pick_run xs i k
 rw[List.filterMap_map] at this
 have e2:((fun x=>xs[x]?) ∘ fun x=>i+x)=fun m=>xs[i+m]?:=rfl
 rw[e2] at this
 rw[this]
theorem getItem_tuple_cut {t sl:Addr}{items:Array Value}{vl vu:Value}{lo hi:Option Int}{Q:Value→Shared→Prop}(ht:IsTup s.heap t items)(hs:s.heap.IsSliceOf sl vl vu .none)(pl:IsPart vl lo)(pu:IsPart vu hi)
  (hw:¬ (sIx items.size 0 lo=0∧sIx items.size items.size hi=items.size))
  (h:Q (.ref s.heap.objs.size) { s with heap:=s.heap.push { cls:=.type "tuple",data:=.seq ((items.toList.drop (sIx items.size 0 lo)).take (sIx items.size items.size hi - sIx items.size 0 lo)).toArray } })
  (hsz:items.size≤sizeLine):wpAny (model prog w) A (getItem (.ref t) (.ref sl)) Q E s:=by
 have htake:sizeOk (.seq ((items.toList.drop (sIx items.size 0 lo)).take (sIx items.size items.size hi - sIx items.size 0 lo)).toArray):=by
  show ((items.toList.drop (sIx items.size 0 lo)).take (sIx items.size items.size hi - sIx items.size 0 lo)).toArray.size≤sizeLine
  rw[List.size_toArray,List.length_take,List.length_drop,Array.length_toList]
  omega
 have hj:sIx items.size items.size hi≤items.size:=qot _ _ (Nat.le_refl _) hi
 obtain⟨os,hos,hcs,hds⟩:=id hs
 have hTs:s.TypeIs (.ref sl) "slice":=⟨os,hos,hcs⟩
 unfold getItem
 try with_reducible refine wpAny_holding ?_
 first | refine wpAny_bind (wpAny_pure ?_) | skip
 refine wpAny_bind (wpAny_sequenceKey ht.typeIs (by decide) ?_)
 refine wpAny_bind (wpAny_callSpecial?_slot (name:=Str.ofString "__getitem__") ht.typeIs PyProof.Rows.slot_tuple_getitem
  (wpAny_call_entry PyProof.Rows.slot_tuple_getitem ht.typeIs entry_tuple_getitem ?_ (args_tuple_getitem _ _)))
 show wpAny _ _ (Builtin.Tuple.tupleItemsOf (.ref t) >>= _) _ _ s
 refine wpAny_bind (tupleItemsOf_ ht ?_)
 refine wpAny_bind (wpAny_typeOf hTs ?_)
 rw[if_pos (by decide)]
 refine wpAny_bind (qcB hs pl pu ?_)
 have hno:¬ ((((sIx items.size 0 lo:Nat):Int) == 0 && (1:Int) == 1 && (sIx items.size items.size hi - sIx items.size 0 lo) == items.size)=true):=by
  intro q
  rw[Bool.and_eq_true,Bool.and_eq_true] at q
  have q1:((sIx items.size 0 lo:Nat):Int)=0:=eq_of_beq q.1.1
  have q2:sIx items.size items.size hi - sIx items.size 0 lo=items.size:=eq_of_beq q.2
  exact hw ⟨by omega,by omega⟩
 show wpAny _ _ (if (((sIx items.size 0 lo:Nat):Int) == 0 && (1:Int) == 1 && (sIx items.size items.size hi - sIx items.size 0 lo) == items.size)=true then _ else _) _ _ s
 rw[if_neg hno,qlz]
 first
  | exact wpAny_bind (m:=Builtin.Tuple.tupleExact _) (wpAny_newObj_type (wpAny_pure ⟨_,rfl,wpAny_pure h⟩) htake)
  | exact wpAny_bind (m:=Builtin.Tuple.tupleExact _) (wpAny_newObj_type (wpAny_bind (wpAny_pure (wpAny_pure ⟨_,rfl,wpAny_pure h⟩))) htake)
  | exact wpAny_bind (wpAny_bind (m:=Builtin.Tuple.tupleExact _) (wpAny_newObj_type (wpAny_pure (wpAny_pure ⟨_,rfl,wpAny_pure h⟩)) htake))
  | exact wpAny_bind (wpAny_bind (m:=Builtin.Tuple.tupleExact _) (wpAny_newObj_type (wpAny_pure ⟨_,rfl,wpAny_pure h⟩) htake))
end
end HT
namespace L2
open PySem PySem.Spec PyProof.Rows
abbrev TO:=St→Hp→(Option Int→Hp→Prop)→Prop
def PO (X:Cx)(e:Option Expr)(t:TO):Prop :=
 ∀ (pins:List (Addr × Obj)) (s:Shared) (σ:St) (H:Hp) (Q:Option Int→Hp→Prop),Inv X pins σ H s→t σ H Q →
  wpAny (model X.prog X.w) X.A (evalPart e X.env) (fun u s'=>∃ o H',Inv X pins σ H' s'∧IsPart u o∧Q o H') X.xe s
def qmV:TO:=fun _ H Q=>Q none H
def qqz (t:TE):TO:=fun σ H Q=>t σ H fun x H1=>∃ i,x=.int i∧Q (some i) H1
section
variable {X : Cx} {e : Expr} {te : TE} {lo hi : Option Expr} {tl th : TO} {pos p2 : Pos}
theorem po_none:PO X none qmV:=by
 intro pins s σ H Q I h
 rw[evalPart_none]
 exact wpAny_pure ⟨none,H,I,.none,h⟩
theorem qnF (h:PE X e te):PO X (some e) (qqz te):=by
 intro pins s σ H Q I hw
 rw[evalPart_some]
 refine thn (h pins s σ H _ I hw) fun u s1 hq0=>?_
 obtain⟨x,H1,I1,r1,q1⟩:=hq0
 obtain⟨i,rfl,q⟩:=q1
 obtain⟨t,rfl⟩:=r1
 exact⟨some i,H1,I1,.int i t,q⟩
def SlR (X:Cx)(r:V→Option Int→Option Int→Hp→VK→Prop):Prop :=
 ∀ (pins:List (Addr × Obj)) (s:Shared) (σ:St) (H:Hp) (x:V) (v vl vu:Value) (lo hi:Option Int) (sl:Addr) (Q:VK),Inv X pins σ H s→RelV x v→s.heap.IsSliceOf sl vl vu .none→IsPart vl lo→IsPart vu hi→r x lo hi H Q →
  ∃ T id,typeLookup (.type T) "__getitem__"=pure (some (.builtin id))∧s.TypeIs v T∧wpAny (model X.prog X.w) X.A (getItem v (.ref sl)) (EP X pins σ Q) X.xe s
theorem SlR.or {r r':V→Option Int→Option Int→Hp→VK→Prop}(h:SlR X r)(h':SlR X r'):SlR X (fun x lo hi H Q=>r x lo hi H Q∨r' x lo hi H Q):=by
 intro pins s σ H x v vl vu lo hi sl Q I rx hs pl pu q
 rcases q with q | q
 ·exact h pins s σ H x v vl vu lo hi sl Q I rx hs pl pu q
 ·exact h' pins s σ H x v vl vu lo hi sl Q I rx hs pl pu q
def tSl (r:V→Option Int→Option Int→Hp→VK→Prop)(te:TE)(tl th:TO):TE:=fun σ H Q=>te σ H fun x H1=>tl σ H1 fun l H2=>th σ H2 fun u H3=>r x l u H3 Q
theorem qlP {r:V→Option Int→Option Int→Hp→VK→Prop}(hr:SlR X r)(he:PE X e te)(hl:PO X lo tl)(hu:PO X hi th):PE X (.Subscript e (.Slice lo hi none p2) pos) (tSl r te tl th):=by
 intro pins s σ H Q I h
 refine Subscript_ (thn (he pins s σ H _ I h) fun v s1 ⟨x,H1,I1,r1,q1⟩=>?_)
 refine wpAny_Slice (thn (hl pins s1 σ H1 _ I1 q1) fun vl s2 ⟨l,H2,I2,pl,q2⟩=>thn (hu pins s2 σ H2 _ I2 q2) fun vu s3 ⟨u,H3,I3,pu,q3⟩=>?_)
 rw[evalPart_none]
 refine wpAny_pure ?_
 have I4:Inv X pins σ H3 { s3 with heap:=s3.heap.push { cls:=.type "slice",data:=.fields #[vl,vu,.none] } }:=I3.kept (t':=s3.toks) fun b ob q=>Heap.get?_push_of_some _ q
 obtain⟨T,id,hT,ht,hg⟩:=hr pins { s3 with heap:=s3.heap.push { cls:=.type "slice",data:=.fields #[vl,vu,.none] } } σ H3 x v vl vu l u s3.heap.objs.size Q I4 r1 (Heap.IsSliceOf.new ..) pl pu q3
 show wpAny (model X.prog X.w) X.A (subscriptTail e (.Slice lo hi none p2) v (.ref s3.heap.objs.size)) (EP X pins σ Q) X.xe { s3 with heap:=s3.heap.push { cls:=.type "slice",data:=.fields #[vl,vu,.none] } }
 exact tail_any (ops:=[.ref s3.heap.objs.size,v]) ht hT hg (by with_unfolding_all rfl)
def ql0 (xs:List V)(lo hi:Option Int):List V:=(xs.drop (HT.sIx xs.length 0 lo)).take (HT.sIx xs.length xs.length hi - HT.sIx xs.length 0 lo)
theorem qem (xs:List V)(lo hi:Option Int):(ql0 xs lo hi).length≤xs.length:=by
 unfold ql0
 rw[List.length_take,List.length_drop]
 omega
def qqT (K:PySem.W.Frag):V→Option Int→Option Int→Hp→VK→Prop:=fun x lo hi H Q=>∃ a xs,x=.ref a∧SqT K H a xs ∧
 ¬ (HT.sIx xs.length 0 lo=0∧HT.sIx xs.length xs.length hi=xs.length)∧∀ p,H p=none→Q (.ref p) (upd H p (.tup (ql0 xs lo hi)))
theorem sl_tup:SlR X (qqT X.K):=by
 intro pins s σ H x v vl vu lo hi sl Q I rx hs pl pu h
 obtain⟨a,xs,rfl,hx,hw,q⟩:=h
 cases rx
 obtain⟨its,r,ht,hz⟩:=I.tuple hx
 have hlen:its.toArray.size=xs.length:=by rw[List.size_toArray];exact r.length.symm
 refine⟨"tuple",_,PyProof.Rows.slot_tuple_getitem.lookup,ht.typeIs,?_⟩
 refine HT.getItem_tuple_cut ht hs pl pu (by rw[hlen];exact hw) ?_ (by rw[hlen];exact hz)
 rw[hlen]
 refine⟨.ref s.heap.objs.size,_,I.laid (t':=s.toks) (o:=.tup (ql0 xs lo hi)) (fun b ob q=>Heap.get?_push_of_some _ q) (Nat.le_refl _) ?_,rfl,q _ (I.hok.fresh (Nat.le_refl _))⟩
 exact⟨Nat.le_trans (qem xs lo hi) hz,_,(r.drop (HT.sIx xs.length 0 lo)).take (HT.sIx xs.length xs.length hi - HT.sIx xs.length 0 lo),IsTupD.new _ _⟩
def qpN (K:PySem.W.Frag):R2:=fun x y H Q=>∃ a b xs ys,x=.ref a∧y=.ref b∧SqT K H a xs∧SqT K H b ys∧xs≠[]∧xs.length+ys.length≤sizeLine ∧
 (ys=[]→Q (.ref a) H)∧(ys≠[]→∀ p,H p=none→Q (.ref p) (upd H p (.tup (xs++ys))))
theorem Vals.nil_iff {xs:List V}{us:List Value}(r:Vals xs us):us=[]↔xs=[]:=by
 cases r with
 | nil=>simp
 | cons _ _=>simp
theorem qnt:OpR X (binaryOp .Add) (qpN X.K):=by
 intro pins s σ H x y v u Q I rx ry h
 obtain⟨a,b,xs,ys,rfl,rfl,ha,hb,hx,hz,q1,q2⟩:=h
 cases rx
 cases ry
 obtain⟨its,r1,p1,_⟩:=I.tuple ha
 obtain⟨its2,r2,p2,_⟩:=I.tuple hb
 refine HT.cat_tup p1 p2 (fun z=>hx (r1.nil_iff.mp z)) (fun z=>⟨.ref a,H,I,rfl,q1 (r2.nil_iff.mp z)⟩) (fun z=>?_) (by rw[← r1.length,← r2.length];exact hz)
 refine⟨.ref s.heap.objs.size,_,I.laid (t':=s.toks) (o:=.tup (xs++ys)) (fun b ob q=>Heap.get?_push_of_some _ q) (Nat.le_refl _) ?_,rfl,q2 (fun w=>z (r2.nil_iff.mpr w)) _ (I.hok.fresh (Nat.le_refl _))⟩
 exact⟨by rw[List.length_append];exact hz,_,r1.append r2,IsTupD.new _ _⟩
end
def ixN (n:Nat)(i:Int):Option Nat:=if 0≤i then (if i<n then some i.toNat else none) else if -(n:Int)≤i then some (i+n).toNat else none
def atI {α:Type}(xs:List α)(i:Int):Option α:=(ixN xs.length i).bind fun j=>xs[j]?
theorem qjy {n:Nat}{i:Int}{j:Nat}(h:ixN n i=some j):seqIndex? i n=some j∧j<n∧-(n:Int)≤i∧i<n:=by
 unfold ixN at h
 by_cases h0:0≤i
 ·rw[if_pos h0] at h
  by_cases h1:i<n
  ·rw[if_pos h1] at h
   have e:i.toNat=j:=Option.some.inj h
   exact⟨by rw[seqIndex_of h0 h1,e],by omega,by omega,h1⟩
  ·rw[if_neg h1] at h;cases h
 ·rw[if_neg h0] at h
  by_cases h1:-(n:Int)≤i
  ·rw[if_pos h1] at h
   have e:(i+n).toNat=j:=Option.some.inj h
   exact⟨by rw[seqIndex_neg (by omega) h1,e],by omega,h1,by omega⟩
  ·rw[if_neg h1] at h;cases h
theorem qhc {α:Type}{xs:List α}{i:Int}{v:α}(h:atI xs i=some v):∃ j,seqIndex? i xs.length=some j∧xs[j]?=some v∧j<xs.length∧-(xs.length:Int)≤i∧i<xs.length:=by
 unfold atI at h
 cases e:ixN xs.length i with
 | none=>rw[e] at h;cases h
 | some j =>
  rw[e] at h
  obtain⟨h1,h2,h3,h4⟩:=qjy e
  exact⟨j,h1,h,h2,h3,h4⟩
theorem qnn {α:Type}{xs:List α}{j:Nat}{v:α}(h:xs[j]?=some v):atI xs (j:Int)=some v:=by
 have hj:j<xs.length:=(List.getElem?_eq_some_iff.mp h).1
 have e:ixN xs.length (j:Int)=some j:=by
  unfold ixN
  rw[if_pos (by omega),if_pos (by omega)];simp
 unfold atI;rw[e];exact h
def qeq (b:Expr):Prop:=∀ o i,subscripted b false o i=operate [o,i] (getItem o i)
def IxR (X:Cx)(r:R2):Prop :=
 ∀ (value slice:Expr) (pins:List (Addr × Obj)) (s:Shared) (σ:St) (H:Hp) (x y:V) (v u:Value) (Q:VK),Inv X pins σ H s→RelV x v→RelV y u→r x y H Q →
  subscripted slice false v u=operate [v,u] (getItem v u)→wpAny (model X.prog X.w) X.A (subscriptTail value slice v u) (EP X pins σ Q) X.xe s
def MtR (X:Cx)(id:String)(r:V→List V→Hp→VK→Prop):Prop :=
 ∀ (pins:List (Addr × Obj)) (s:Shared) (σ:St) (H:Hp) (x:V) (xs:List V) (v:Value) (us:List Value) (Q:VK),Inv X pins σ H s→RelV x v→Vals xs us→r x xs H Q →
  wpAny (model X.prog X.w) X.A (call (.builtin id) (v::us)) (EP X pins σ Q) X.xe s
section
variable {X : Cx} {a b : Expr} {ta tb : TE} {pos : Pos}
theorem qlO {r:R2}(hr:IxR X r)(ha:PE X a ta)(hb:PE X b tb)(hs:qeq b):PE X (.Subscript a b pos) (tOp r ta tb):=by
 intro pins s σ H Q I h
 exact Subscript_ (qpO ha hb I h fun v u s2 x y H2 I2 rx ry q=>hr a b pins s2 σ H2 x y v u Q I2 rx ry q (hs _ _))
def qrc (K:PySem.W.Frag):R2:=fun x y H Q=>∃ p xs i v,x=.ref p∧y=.int i∧SqL K H p xs∧atI xs i=some v∧Q v H
def qq1 (K:PySem.W.Frag):R2:=fun x y H Q=>∃ p xs i v,x=.ref p∧y=.int i∧SqT K H p xs∧atI xs i=some v∧Q v H
def qrY:R2:=fun x y H Q=>∃ z i c,x=.str z∧y=.int i∧z.length≤sizeLine∧atI z.cps.toList i=some c∧Q (.str ⟨#[c]⟩) H
theorem qhr:IxR X (qrc X.K):=by
 intro value slice pins s σ H x y v u Q I rx ry h hs
 obtain⟨p,xs,i,z,rfl,rfl,hq,he,q⟩:=h
 cases rx
 obtain⟨t,rfl⟩:=ry
 obtain⟨its,r,pl,hz⟩:=I.list hq
 obtain⟨j,h1,h2,h3,h4,h5⟩:=qhc he
 obtain⟨w,ew,rw'⟩:=r.get h2
 have hl:=r.length
 have hn:=qez
 have fin:EP X pins σ Q w s:=⟨z,H,I,rw',q⟩
 by_cases h0:0≤i
 ·have hj:i.toNat=j:=by
   rw[seqIndex_of h0 h5] at h1
   exact Option.some.inj h1
  exact item_listR pl.isList h0 (by omega) (by rw[hj];simpa using ew) fin hs
 ·have hj:(i+(its.toArray.size:Int)).toNat=j:=by
   rw[seqIndex_neg (by omega) h4] at h1
   rw[List.size_toArray,← hl]
   exact Option.some.inj h1
  exact subscriptTail_builtinR (x:=w) pl.isList.typeIs slot_list_getitem.lookup
   (wpAny_getItem_list_neg (Q:=fun r s'=>r=w∧EP X pins σ Q r s') pl.isList (by omega) (by rw[List.size_toArray] <;> omega) (by omega) (by rw[hj];simpa using ew) ⟨rfl,fin⟩) hs
theorem qlX:IxR X (qq1 X.K):=by
 intro value slice pins s σ H x y v u Q I rx ry h hs
 obtain⟨p,xs,i,z,rfl,rfl,hq,he,q⟩:=h
 cases rx
 obtain⟨t,rfl⟩:=ry
 obtain⟨its,r,pl,hz⟩:=I.tuple hq
 obtain⟨j,h1,h2,h3,h4,h5⟩:=qhc he
 obtain⟨w,ew,rw'⟩:=r.get h2
 have hl:=r.length
 have hn:=qez
 have fin:EP X pins σ Q w s:=⟨z,H,I,rw',q⟩
 exact subscriptTail_builtinR (x:=w) pl.typeIs slot_tuple_getitem.lookup
  (getItem_tuple (j:=j) (Q:=fun r s'=>r=w∧EP X pins σ Q r s') pl (by omega) (by omega) (by rw[List.size_toArray,← hl];exact h1) (by simpa using ew) ⟨rfl,fin⟩) hs
theorem qoB:IxR X qrY:=by
 intro value slice pins s σ H x y v u Q I rx ry h hs
 obtain⟨z,i,c,rfl,rfl,hz,he,q⟩:=h
 obtain⟨t,rfl⟩:=rx
 obtain⟨t',rfl⟩:=ry
 obtain⟨j,h1,h2,h3,h4,h5⟩:=qhc he
 have hl:z.cps.toList.length=z.length:=by simp [Str.length]
 rw[hl] at h1 h4 h5
 have hn:=qez
 exact tail_any (typeIs_str s z t) slot_str_getitem.lookup (getItem_str (c:=c) (by
  have e1:decide (i < -(2 ^ 63:Int))=false:=decide_eq_false (by omega)
  have e2:decide (i≥2 ^ 63)=false:=decide_eq_false (by omega)
  rw[e1,e2,Bool.or_false]) (by rw[h1];simpa using h2) ⟨.str ⟨#[c]⟩,H,I.tok _,⟨_,rfl⟩,q⟩) hs
theorem qiN (its:List Value)(n j:Nat)(u:Value):Obj.mapSeq (·.setIfInBounds j u) { cls:=.type "list",data:=.seq its.toArray n }={ cls:=.type "list",data:=.seq (its.set j u).toArray n }:=by
 simp [Obj.mapSeq]
theorem Inv.lst {pins:List (Addr × Obj)}{σ:St}{H:Hp}{s:Shared}{p:Addr}{xs:List V}(I:Inv X pins σ H s)(h:H p=some (.lst xs)) :
  ∃ (its:List Value) (n:Nat),Vals xs its∧s.heap.get? p=some { cls:=.type "list",data:=.seq its.toArray n }∧xs.length≤sizeLine:=by
 obtain⟨z,its,n,r,e⟩:=I.hok p _ h
 exact⟨its,n,r,e,z⟩
theorem Inv.lstUpd {pins:List (Addr × Obj)}{σ:St}{H:Hp}{s:Shared}{p:Addr}{xs ys:List V}{its its':List Value}{n n':Nat}{f:Obj→Obj}(I:Inv X pins σ H s)(h:H p=some (.lst xs))
  (ho:s.heap.get? p=some { cls:=.type "list",data:=.seq its.toArray n }) (hf:f { cls:=.type "list",data:=.seq its.toArray n }={ cls:=.type "list",data:=.seq its'.toArray n' }) (r:Vals ys its') (hz:ys.length≤sizeLine) (t:Nat) :
  Inv X pins σ (upd H p (.lst ys)) { s with heap:=s.heap.update p f,toks:=t }:=by
 have e:(s.heap.update p f).get? p=some { cls:=.type "list",data:=.seq its'.toArray n' }:=by
  rw[Heap.get?_update_self f ho (by rw[hf] <;> rfl),hf]
 refine I.write (x:=p) (e:=p) (by rw[h];trivial) (.inl rfl) (fun b u hb q=>(Heap.get?_update_other _ _ (Ne.symm hb)).trans q) ⟨_,e⟩ ?_
 exact⟨hz,its',n',r,e⟩
def qqG:V→V→V→Hp→(Hp→Prop)→Prop:=fun o i v H Q=>∃ p xs k j,o=.ref p∧i=.int k∧H p=some (.lst xs)∧ixN xs.length k=some j∧Q (upd H p (.lst (xs.set j v)))
theorem qij:qpI X qqG:=by
 intro pins s σ H o i v ov iv u Q I ro ri rv h
 obtain⟨p,xs,k,j,rfl,rfl,hp,hj,q⟩:=h
 cases ro
 obtain⟨t,rfl⟩:=ri
 obtain⟨its,n,r,ho,hz⟩:=I.lst hp
 obtain⟨h1,h2,h3,h4⟩:=qjy hj
 have hl:=r.length
 have hn:=qez
 have I':Inv X pins σ (upd H p (.lst (xs.set j v))) { s with heap:=s.heap.update p (Obj.mapSeq (·.setIfInBounds j u)) } :=
  I.lstUpd hp ho (qiN its n j u) (r.set rv j) (by rw[List.length_set];exact hz) s.toks
 by_cases h0:0≤k
 ·have hk:k.toNat=j:=by
   rw[seqIndex_of h0 h4] at h1
   exact Option.some.inj h1
  exact PySem.W.ki_setAt ho h0 (by omega) (by rw[List.size_toArray,← hl];exact h4) (by rw[hk];exact⟨_,I',q⟩)
 ·have hk:(k+(its.toArray.size:Int)).toNat=j:=by
   rw[seqIndex_neg (by omega) h3] at h1
   rw[List.size_toArray,← hl]
   exact Option.some.inj h1
  exact PySem.W.ki_setBack ho (by omega) (by rw[List.size_toArray,← hl];exact h3) (by omega) (by rw[hk];exact⟨_,I',q⟩)
theorem qgs (lo hi:Option Int)(n:Nat):(sliceBounds lo hi none n).1=((HT.sIx n 0 lo:Nat):Int)∧(sliceBounds lo hi none n).2.1=((HT.sIx n n hi:Nat):Int)∧(sliceBounds lo hi none n).2.2=1:=by
 refine⟨?_,?_,rfl⟩
 ·cases lo with
  | none=>simp [sliceBounds,HT.sIx]
  | some i =>
   simp only [sliceBounds,HT.sIx,Option.getD_none,show (1:Int)>0 by decide,if_true]
   by_cases h:i<0
   ·simp only [h,if_true] <;> omega
   ·simp only [h,if_false] <;> omega
 ·cases hi with
  | none=>simp [sliceBounds,HT.sIx]
  | some i =>
   simp only [sliceBounds,HT.sIx,Option.getD_none,show (1:Int)>0 by decide,if_true]
   by_cases h:i<0
   ·simp only [h,if_true] <;> omega
   ·simp only [h,if_false] <;> omega
theorem qfK (its:List Value)(lo hi:Option Int):slicePick its.toArray lo hi none=((its.drop (HT.sIx its.length 0 lo)).take (HT.sIx its.length its.length hi - HT.sIx its.length 0 lo)).toArray:=by
 obtain⟨h1,h2,h3⟩:=qgs lo hi its.toArray.size
 unfold slicePick
 rw[h1,h2,h3]
 simp only [sliceRange_one,pick_run,List.size_toArray] <;> rfl
def qrd (K:PySem.W.Frag):V→Option Int→Option Int→Hp→VK→Prop:=fun x lo hi H Q=>∃ a xs,x=.ref a∧SqL K H a xs∧∀ p,H p=none→Q (.ref p) (upd H p (.lst (ql0 xs lo hi)))
theorem sl_list:SlR X (qrd X.K):=by
 intro pins s σ H x v vl vu lo hi sl Q I rx hs pl pu h
 obtain⟨a,xs,rfl,hx,q⟩:=h
 cases rx
 obtain⟨its,r,ht,hz⟩:=I.list hx
 have hlen:=r.length
 refine⟨"list",_,slot_list_getitem.lookup,ht.isList.typeIs,?_⟩
 refine wpAny_getItem_list_slice ht.isList hs pl pu .none (by simp) ?_ (by rw[List.size_toArray] <;> omega)
 rw[qfK,← hlen]
 refine⟨.ref s.heap.objs.size,_,I.laid (t':=s.toks) (o:=.lst (ql0 xs lo hi)) (fun b ob q=>Heap.get?_push_of_some _ q) (Nat.le_refl _) ?_,rfl,q _ (I.hok.fresh (Nat.le_refl _))⟩
 exact⟨Nat.le_trans (qem xs lo hi) hz,_,0,(r.drop (HT.sIx xs.length 0 lo)).take (HT.sIx xs.length xs.length hi - HT.sIx xs.length 0 lo),Heap.get?_push_size _ rfl⟩
def qfO:V→Bool
 | .non=>true
 | .bl _=>true
 | .int _=>true
 | .str _=>true
 | _=>false
def eqV:V→V→Bool
 | .non,.non=>true
 | .bl a,.bl b=>a == b
 | .bl a,.int b=>(if a then 1 else 0) == b
 | .int a,.bl b=>a == (if b then 1 else 0)
 | .int a,.int b=>a == b
 | .str a,.str b=>a == b
 | _,_=>false
theorem qoM {A:Around}{s:Shared}{y x:V}{u v:Value}(ry:RelV y u)(rx:RelV x v)(fy:qfO y=true)(fx:qfO x=true):SeqAt.EqAt A s u v (eqV y x):=by
 cases y with
 | non =>
  cases ry
  cases x with
  | non=>cases rx;exact SeqAt.EqAt.same _
  | bl b=>cases rx;exact SeqAt.EqAt.none_bool b
  | int b=>obtain⟨t,rfl⟩:=rx;exact SeqAt.EqAt.none_int b t
  | str b=>obtain⟨t,rfl⟩:=rx;exact SeqAt.EqAt.none_str b t
  | _=>exact absurd (show false=true from fx) Bool.false_ne_true
 | bl a =>
  cases ry
  cases x with
  | non=>cases rx;exact SeqAt.EqAt.bool_none a
  | bl b=>cases rx;exact SeqAt.EqAt.bool_bool a b
  | int b=>obtain⟨t,rfl⟩:=rx;exact SeqAt.EqAt.bool_int a b t
  | str b=>obtain⟨t,rfl⟩:=rx;exact SeqAt.EqAt.bool_str a b t
  | _=>exact absurd (show false=true from fx) Bool.false_ne_true
 | int a =>
  obtain⟨t',rfl⟩:=ry
  cases x with
  | non=>cases rx;exact SeqAt.EqAt.int_none a t'
  | bl b=>cases rx;exact SeqAt.EqAt.int_bool a t' b
  | int b=>obtain⟨t,rfl⟩:=rx;exact SeqAt.EqAt.int_int a t' b t
  | str b=>obtain⟨t,rfl⟩:=rx;exact SeqAt.EqAt.int_str a t' b t
  | _=>exact absurd (show false=true from fx) Bool.false_ne_true
 | str a =>
  obtain⟨t',rfl⟩:=ry
  cases x with
  | non=>cases rx;exact SeqAt.EqAt.str_none a t'
  | bl b=>cases rx;exact SeqAt.EqAt.str_bool a t' b
  | int b=>obtain⟨t,rfl⟩:=rx;exact SeqAt.EqAt.str_int a t' b t
  | str b=>obtain⟨t,rfl⟩:=rx;exact SeqAt.EqAt.str_str a t' b t
  | _=>exact absurd (show false=true from fx) Bool.false_ne_true
 | _=>exact absurd (show false=true from fy) Bool.false_ne_true
def eqU (x:V)(u:Value):Bool:=match u with
 | .none=>eqV .non x
 | .bool b=>eqV (.bl b) x
 | .int i _=>eqV (.int i) x
 | .str z _=>eqV (.str z) x
 | _=>false
theorem qlZ {x y:V}{u:Value}(r:RelV y u)(f:qfO y=true):eqU x u=eqV y x:=by
 cases y with
 | non=>cases r;rfl
 | bl b=>cases r;rfl
 | int i=>obtain⟨t,rfl⟩:=r;rfl
 | str z=>obtain⟨t,rfl⟩:=r;rfl
 | _=>exact absurd (show false=true from f) Bool.false_ne_true
theorem qef {x:V}:∀ {xs:List V} {us:List Value},Vals xs us→xs.all qfO=true→us.any (eqU x)=xs.any fun y=>eqV y x
 | _,_,.nil,_=>rfl
 | y::xs,u::us,.cons r t,f=>by
  rw[List.all_cons,Bool.and_eq_true] at f
  rw[List.any_cons,List.any_cons,qlZ r f.1,qef t f.2]
theorem qdw {A:Around}{s:Shared}{x:V}{v:Value}(rx:RelV x v)(fx:qfO x=true):∀ {xs:List V} {us:List Value},Vals xs us→xs.all qfO=true→∀ u∈us,SeqAt.EqAt A s u v (eqU x u)
 | _,_,.nil,_=>fun u hu=>by cases hu
 | y::xs,u::us,.cons r t,f=>fun u' hu=>by
  rw[List.all_cons,Bool.and_eq_true] at f
  rcases List.mem_cons.mp hu with rfl | hu
  ·rw[qlZ r f.1];exact qoM r rx f.1 fx
  ·exact qdw rx fx t f.2 u' hu
def inV (x:V)(xs:List V):Bool:=xs.any fun y=>eqV y x
def rIn (K:PySem.W.Frag)(neg:Bool):R2:=fun x y H Q=>∃ p xs,y=.ref p∧(SqL K H p xs∨SqT K H p xs)∧qfO x=true∧xs.all qfO=true∧Q (.bl (if neg then !inV x xs else inV x xs)) H
theorem qkl:OpR X (compareOp .In) (rIn X.K false):=by
 intro pins s σ H x y v u Q I rx ry h
 obtain⟨p,xs,rfl,hq,fx,fs,q⟩:=h
 cases ry
 rcases hq with hq | hq
 ·obtain⟨its,r,pl,hz⟩:=I.list hq
  refine SeqAt.in_listAt (eqU x) pl.isList (fun w hw=>qdw rx fx r fs w (by simpa using hw)) ⟨.bl _,H,I,rfl,?_⟩
  rw[show its.toArray.any (eqU x)=its.any (eqU x) by simp,qef r fs]
  exact q
 ·obtain⟨its,r,pl,hz⟩:=I.tuple hq
  refine SeqAt.in_tupleAt (eqU x) pl (fun w hw=>qdw rx fx r fs w (by simpa using hw)) ⟨.bl _,H,I,rfl,?_⟩
  rw[show its.toArray.any (eqU x)=its.any (eqU x) by simp,qef r fs]
  exact q
theorem qgf:OpR X (compareOp .NotIn) (rIn X.K true):=by
 intro pins s σ H x y v u Q I rx ry h
 obtain⟨p,xs,rfl,hq,fx,fs,q⟩:=h
 cases ry
 rcases hq with hq | hq
 ·obtain⟨its,r,pl,hz⟩:=I.list hq
  refine SeqAt.notIn_listAt (eqU x) pl.isList (fun w hw=>qdw rx fx r fs w (by simpa using hw)) ⟨.bl _,H,I,rfl,?_⟩
  rw[show its.toArray.any (eqU x)=its.any (eqU x) by simp,qef r fs]
  exact q
 ·obtain⟨its,r,pl,hz⟩:=I.tuple hq
  refine SeqAt.notIn_tupleAt (eqU x) pl (fun w hw=>qdw rx fx r fs w (by simpa using hw)) ⟨.bl _,H,I,rfl,?_⟩
  rw[show its.toArray.any (eqU x)=its.any (eqU x) by simp,qef r fs]
  exact q
theorem qcH:qfm X (.builtin "len") (fun xs H Q=>∃ p ys,xs=[.ref p]∧(SqL X.K H p ys∨SqT X.K H p ys)∧Q (.int ys.length) H):=by
 intro pins s σ H xs us Q I r h
 obtain⟨p,ys,rfl,hq,q⟩:=h
 obtain⟨u,rfl,rx⟩:=qi2 r
 cases rx
 have hn:=qez
 rcases hq with hq | hq
 ·obtain⟨its,r',pl,hz⟩:=I.list hq
  have hlen:=r'.length
  exact Calls.call_len_list pl.isList (by simp only [List.size_toArray] <;> omega) ⟨.int ys.length,H,I.tok _,⟨s.toks+1,by rw[List.size_toArray,hlen]⟩,q⟩
 ·obtain⟨its,r',pl,hz⟩:=I.tuple hq
  have hlen:=r'.length
  exact len_tuple pl (by simp only [List.size_toArray] <;> omega) ⟨.int ys.length,H,I.tok _,⟨s.toks+1,by rw[List.size_toArray,hlen]⟩,q⟩
theorem qgt:qfm X (.builtin "len") (fun xs H Q=>∃ z,xs=[.str z]∧z.length≤sizeLine∧Q (.int z.length) H):=by
 intro pins s σ H xs us Q I r h
 obtain⟨z,rfl,hz,q⟩:=h
 obtain⟨u,rfl,t,rfl⟩:=qi2 r
 have hn:=qez
 exact len_str (by omega) ⟨.int z.length,H,I.tok _,⟨_,rfl⟩,q⟩
theorem qcl:qfm X (.type "tuple") (fun xs H Q=>∃ p ys,xs=[.ref p]∧((SqL X.K H p ys∧∀ l,H l=none→Q (.ref l) (upd H l (.tup ys)))∨(SqT X.K H p ys∧Q (.ref p) H))):=by
 intro pins s σ H xs us Q I r h
 obtain⟨p,ys,rfl,h⟩:=h
 obtain⟨u,rfl,rx⟩:=qi2 r
 cases rx
 rcases h with⟨hq,q⟩ | ⟨hq,q⟩
 ·obtain⟨its,r',pl,hz⟩:=I.list hq
  have hlen:=r'.length
  refine call_tuple_list pl.isList (fun h' kp=>?_) (by simp only [List.size_toArray] <;> omega)
  have I1:Inv X pins σ H { s with heap:=h' }:=I.kept (t':=s.toks) kp
  have I2:Inv X pins σ (upd H h'.objs.size (.tup ys)) { s with heap:=h'.push { cls:=.type "tuple",data:=.seq its.toArray } } :=
   I1.laid (t':=s.toks) (fun b o e=>Heap.get?_push_of_some _ e) (Nat.le_refl _) (show ObjOk X.prog X.w _ _ _ (.tup ys) from ⟨hz,its,r',IsTupD.new _ _⟩)
  exact⟨.ref h'.objs.size,_,I2,rfl,q _ (I1.hok.fresh (Nat.le_refl _))⟩
 ·obtain⟨its,r',pl,hz⟩:=I.tuple hq
  exact call_tuple_same pl ⟨.ref p,H,I,rfl,q⟩
def tyV (K:PySem.W.Frag)(T:String)(x:V)(H:Hp):Prop:=match x with
 | .str _=>T="str"
 | .int _=>T="int"
 | .ref p=>(T="list"∧∃ xs,SqL K H p xs)∨(T="tuple"∧((∃ xs,H p=some (.tup xs))∨∃ o,K.lookup p=some o∧o.cls=.type "tuple"∧o.dict=none)) ∨
   (T="dict"∧((∃ kvs,H p=some (.dK kvs))∨∃ kvs,H p=some (.dT kvs)))∨(T="set"∧∃ S n,H p=some (.set S n))
 | _=>False
theorem qmj {pins:List (Addr × Obj)}{σ:St}{H:Hp}{s:Shared}{T:String}{x:V}{v:Value}(I:Inv X pins σ H s)(r:RelV x v)(ty:tyV X.K T x H) :
  s.TypeIs v T∧∀ a,v=.ref a→∃ ob,s.heap.get? a=some ob∧ob.dict=none:=by
 cases x with
 | str z =>
  obtain⟨t,rfl⟩:=r
  cases (show T="str" from ty)
  exact⟨typeIs_str s z t,fun _ e=>nomatch e⟩
 | int i =>
  obtain⟨t,rfl⟩:=r
  cases (show T="int" from ty)
  exact⟨typeIs_int s i t,fun _ e=>nomatch e⟩
 | ref p =>
  cases r
  rcases ty with⟨rfl,xs,hq⟩ | ⟨rfl,⟨xs,hk⟩ | ⟨o,hk,hc,hd⟩⟩ | ⟨rfl,hk⟩ | ⟨rfl,S,n,hk⟩
  ·obtain⟨its,_,pl,_⟩:=I.list hq
   refine⟨pl.isList.typeIs,fun a e=>?_⟩
   cases e
   obtain⟨o,n,e,c,hd,_⟩:=pl
   exact⟨o,e,hd⟩
  ·obtain⟨_,_,_,o,e,⟨c,hd⟩,_⟩:=I.hok p _ hk
   refine⟨⟨o,e,c⟩,fun a e2=>?_⟩
   cases e2
   exact⟨o,e,hd⟩
  ·refine⟨⟨o,I.kIn p o hk,hc⟩,fun a e=>?_⟩
   cases e
   exact⟨o,I.kIn _ o hk,hd⟩
  ·have z:∃ o,s.heap.get? p=some o∧o.ExactDict:=by
    rcases hk with⟨kvs,hk⟩ | ⟨kvs,hk⟩
    ·obtain⟨_,_,_,_,o,_,_,e,ex,_⟩:=I.hok p _ hk
     exact⟨o,e,ex⟩
    ·obtain⟨_,_,_,_,o,_,_,e,ex,_⟩:=I.hok p _ hk
     exact⟨o,e,ex⟩
   obtain⟨o,e,ex⟩:=z
   refine⟨⟨o,e,ex.1⟩,fun a e2=>?_⟩
   cases e2
   exact⟨o,e,ex.2.1⟩
  ·obtain⟨o,_,_,_,e,ex,_⟩:=I.hok p _ hk
   refine⟨⟨o,e,ex.1⟩,fun a e2=>?_⟩
   cases e2
   exact⟨o,e,ex.2.1⟩
 | _=>exact False.elim ty
def qr8 (K:PySem.W.Frag)(T:String)(r:V→List V→Hp→VK→Prop)(to:TE):TE:=fun σ H Q=>to σ H fun x H1=>tyV K T x H1∧r x [] H1 Q
def tBM (K:PySem.W.Frag)(T:String)(r:V→List V→Hp→VK→Prop)(to:TE)(t:TA):TE:=fun σ H Q=>to σ H fun x H1=>tyV K T x H1∧t σ H1 fun xs H2=>r x xs H2 Q
variable {o e : Expr} {es : List Expr} {to : TE} {t : TA} {name : Str} {apos cpos : Pos} {T id : String} {r : V → List V → Hp → VK → Prop}
theorem qo9 (pa:PlainAttrs T)(slot:Slot T name id)(hty:typeOf (.builtin id)=pure (.type "method_descriptor"))(hm:MtR X id r)(ho:PE X o to)
  (hbase:attributeBase o name X.env (eval o X.env)=eval o X.env:=by rfl) (hline:(apos.endLine == cpos.line)=true:=by rfl):PE X (.Call (.Attribute o name apos) [] [] cpos) (qr8 X.K T r to):=by
 intro pins s σ H Q I h
 refine wpAny_Call_method0_late hbase hline (thn (ho pins s σ H _ I h) fun v s1 hq0=>?_)
 obtain⟨x,H1,I1,r1,ty,q1⟩:=hq0
 obtain⟨h1,h2⟩:=qmj I1 r1 ty
 exact⟨T,id,pa,slot,hty,h1,h2,Calls.callWith_builtin rfl (PySem.evalArgs_none (hm pins s1 σ H1 x [] v [] Q I1 r1 .nil q1))⟩
theorem qlM (pa:PlainAttrs T)(slot:Slot T name id)(hty:typeOf (.builtin id)=pure (.type "method_descriptor"))(hm:MtR X id r)(ho:PE X o to)(ha:PA X (e::es) t)
  (hbase:attributeBase o name X.env (eval o X.env)=eval o X.env:=by rfl)
  (hfew:((backTo cpos (starEach (e::es) X.env)).all (fun x=>!x.1) && (backToKw cpos (keywordEach [] X.env)).all (fun x=>x.1.isSome)
   && decide ((e::es).length+([]:List Keyword).length+(if ([]:List Keyword).isEmpty then 0 else 1)<30))=true:=by rfl)
  (hline:(apos.endLine == cpos.line)=true:=by rfl) (hs:starEach (e::es) X.env=(false,eval e X.env)::starEach es X.env:=by rfl) (hplain:(backTo cpos (starEach es X.env)).any (·.1)=false:=by rfl) :
  PE X (.Call (.Attribute o name apos) (e::es) [] cpos) (tBM X.K T r to t):=by
 intro pins s σ H Q I h
 refine wpAny_Call_method_late hbase hfew hline rfl (thn (ho pins s σ H _ I h) fun v s1 hq0=>?_)
 obtain⟨x,H1,I1,r1,ty,q1⟩:=hq0
 obtain⟨h1,h2⟩:=qmj I1 r1 ty
 refine⟨T,id,pa,slot,hty,h1,h2,?_⟩
 have hA:=ha cpos pins s1 σ H1 _ I1 q1
 rw[hs] at hA ⊢
 refine Calls.callWith_builtin (by show (false || (backTo cpos (starEach es X.env)).any (·.1))=false;rw[hplain] <;> rfl) (Calls.evalArgs_plain ?_)
 exact thn hA fun us s2 hq1=>by obtain⟨vs,H2,I2,r2,q2⟩:=hq1;exact hm pins s2 σ H2 x vs v us Q I2 r1 r2 q2
end
def MtM (X:Cx)(id:String)(r:V→List V→Hp→VK→Prop):Prop :=
 ∀ (pins:List (Addr × Obj)) (s:Shared) (σ:St) (H:Hp) (x:V) (xs:List V) (v:Value) (us:List Value) (Q:VK),Inv X pins σ H s→RelV x v→Vals xs us→r x xs H Q →
  wpAny (model X.prog X.w) X.A (call (.builtin id) (v::us)) (EP X pins σ Q) X.xe s
theorem Vals.one:∀ {x:V} {us:List Value},Vals [x] us→∃ u,us=[u]∧RelV x u
 | _,_,.cons r .nil=>⟨_,rfl,r⟩
theorem Vals.zero:∀ {us:List Value},Vals [] us→us=[]
 | _,.nil=>rfl
theorem Vals.dropLast {xs:List V}{us:List Value}(h:Vals xs us):Vals xs.dropLast us.dropLast:=by
 induction h with
 | nil=>exact .nil
 | cons r t ih =>
  cases t with
  | nil=>exact .nil
  | cons q t'=>exact .cons r ih
theorem Vals.eraseIdx:∀ {xs:List V} {us:List Value} (i:Nat),Vals xs us→Vals (xs.eraseIdx i) (us.eraseIdx i)
 | _,_,_,.nil=>.nil
 | _,_,0,.cons _ t=>t
 | _,_,i+1,.cons r t=>.cons r (Vals.eraseIdx i t)
theorem Vals.rep {xs:List V}{us:List Value}(h:Vals xs us):∀ k:Nat,Vals (List.replicate k xs).flatten (List.replicate k us).flatten
 | 0=>.nil
 | k+1=>by
  rw[List.replicate_succ,List.replicate_succ,List.flatten_cons,List.flatten_cons]
  exact Vals.append h (Vals.rep h k)
theorem qiy {α:Type}(l:List α):l.eraseIdx (l.length - 1)=l.dropLast:=by
 induction l with
 | nil=>rfl
 | cons a r ih =>
  cases r with
  | nil=>rfl
  | cons b r =>
   have e:(a::b::r).length - 1=((b::r).length - 1)+1:=by
    have h1:(a::b::r).length=r.length+2:=rfl
    have h2:(b::r).length=r.length+1:=rfl
    omega
   rw[e,List.eraseIdx_cons_succ,ih]
   all_goals rfl
theorem qgP {α:Type}:∀ (l:List α) (i:Nat),(l.eraseIdx i).length≤l.length
 | [],_=>Nat.le_refl _
 | _::_,0=>Nat.le_succ _
 | _::r,i+1=>Nat.succ_le_succ (qgP r i)
theorem qeh (its:List Value):∀ (k:Nat) (acc:List Value),
  List.foldl (fun x1 x2=>x1++x2) acc.toArray (List.replicate k its.toArray)=(acc++(List.replicate k its).flatten).toArray
 | 0,acc=>by simp
 | k+1,acc=>by
  have e:acc.toArray++its.toArray=(acc++its).toArray:=by simp
  have e2:(acc++its)++(List.replicate k its).flatten=acc++(List.replicate (k+1) its).flatten:=by
   rw[List.replicate_succ,List.flatten_cons,List.append_assoc]
  rw[← e2,← qeh its k (acc++its),← e,List.replicate_succ,List.foldl_cons]
section
variable {X : Cx} {pins : List (Addr × Obj)} {σ : St} {H : Hp} {s : Shared} {l b : Addr} {xs ys zs : List V}
theorem Inv.lset {its its':List Value}{n:Nat}{f:Array Value→Array Value}{t':Nat}(I:Inv X pins σ H s)(hH:H l=some (.lst xs))
  (e:s.heap.get? l=some { cls:=.type "list",data:=.seq its.toArray n }) (hf:f its.toArray=its'.toArray) (hv:Vals ys its') (hz:ys.length≤sizeLine) :
  Inv X pins σ (upd H l (.lst ys)) { s with heap:=s.heap.update l (Obj.mapSeq f),toks:=t' }:=by
 have q:=PySem.IsL.update e f
 rw[hf] at q
 refine I.write (x:=l) (e:=l) (by rw[hH];exact trivial) (.inl rfl) (fun b' u hb hu=>(Heap.get?_update_other s.heap (Obj.mapSeq f) (Ne.symm hb)).trans hu) ⟨_,q⟩ ?_
 exact⟨hz,its',_,hv,q⟩
theorem Inv.lnew {its:List Value}{t':Nat}(I:Inv X pins σ H s)(hv:Vals ys its)(hz:ys.length≤sizeLine) :
  Inv X pins σ (upd H s.heap.objs.size (.lst ys)) { s with heap:=s.heap.push { cls:=.type "list",data:=.seq its.toArray },toks:=t' } :=
 I.laid (fun _ _ q=>Heap.get?_push_of_some _ q) (Nat.le_refl _) ⟨hz,its,0,hv,Heap.get?_push_size _ rfl⟩
theorem Inv.fresh (I:Inv X pins σ H s):H s.heap.objs.size=none:=I.hok.fresh (Nat.le_refl _)
theorem Inv.lstM (I:Inv X pins σ H s)(hH:H l=some (.lst xs)):xs.length≤sizeLine∧∃ (its:List Value) (n:Nat),Vals xs its∧xs.length=its.length∧s.heap.get? l=some { cls:=.type "list",data:=.seq its.toArray n }:=by
 obtain⟨z,its,n,r,e⟩:=I.hok l _ hH
 exact⟨z,its,n,r,r.length,e⟩
theorem qlE {n:Nat}(h:n≤sizeLine):Builtin.List.listTooLong n=false:=by
 unfold Builtin.List.listTooLong
 exact decide_eq_false (by omega)
end
section
variable {X : Cx}
def qm5:V→List V→Hp→VK→Prop:=fun x vs H Q=>∃ l xs y,x=.ref l∧vs=[y]∧H l=some (.lst xs)∧xs.length<sizeLine∧Q .non (upd H l (.lst (xs++[y])))
theorem qeI:MtM X "list.append" qm5:=by
 intro pins s σ H x vs v us Q I rx rv h
 obtain⟨l,xs,y,rfl,rfl,hH,hz,q⟩:=h
 cases rx
 obtain⟨u,rfl,ru⟩:=rv.one
 obtain⟨z,its,n,r,hl,e⟩:=I.lstM hH
 refine call_meets F.slot_list_append ⟨_,e,rfl⟩ F.entry_list_append (F.args_list_append_2 _ _) (PySem.list_append l its.toArray n u (by rw[List.size_toArray];omega)) ⟨e,?_⟩
 refine⟨.non,_,I.lset (its':=its++[u]) hH e (by simp) (r.append (.cons ru .nil)) ?_,rfl,q⟩
 rw[List.length_append,List.length_singleton]
 omega
def qre:V→List V→Hp→VK→Prop:=fun x vs H Q=>∃ l xs y,x=.ref l∧vs=[]∧H l=some (.lst xs)∧xs[xs.length - 1]?=some y∧Q y (upd H l (.lst xs.dropLast))
theorem qov:MtM X "list.pop" qre:=by
 intro pins s σ H x vs v us Q I rx rv h
 obtain⟨l,xs,y,rfl,rfl,hH,hy,q⟩:=h
 cases rx
 have hus:=rv.zero
 subst hus
 obtain⟨z,its,n,r,hl,e⟩:=I.lstM hH
 obtain⟨u,hu,ru⟩:=r.get hy
 have hy':its.toArray[its.toArray.size - 1]?=some u:=by
  show its.toArray[its.length - 1]?=some u
  rw[← Array.getElem?_toList,← hl]
  exact hu
 refine call_meets F.slot_list_pop ⟨_,e,rfl⟩ F.entry_list_pop (F.args_list_pop_1 _) (MeetsSeq.list_pop_last l its.toArray n u hy' (by rw[List.size_toArray];omega)) ⟨e,?_⟩
 refine⟨y,_,I.lset (its':=its.dropLast) hH e ?_ r.dropLast ?_,ru,q⟩
 ·show its.toArray.eraseIdxIfInBounds (its.toArray.size - 1)=its.dropLast.toArray
  rw[List.size_toArray,List.eraseIdxIfInBounds_toArray,qiy]
 ·rw[List.length_dropLast]
  omega
def qo3:V→List V→Hp→VK→Prop:=fun x vs H Q=>∃ l xs i k y,x=.ref l∧vs=[.int i]∧H l=some (.lst xs)∧-(2 ^ 63)≤i∧i<2 ^ 63∧seqIndex? i xs.length=some k∧xs[k]?=some y∧Q y (upd H l (.lst (xs.eraseIdx k)))
theorem qlo:MtM X "list.pop" qo3:=by
 intro pins s σ H x vs v us Q I rx rv h
 obtain⟨l,xs,i,k,y,rfl,rfl,hH,h1,h2,hk,hy,q⟩:=h
 cases rx
 obtain⟨u,rfl,ru⟩:=rv.one
 obtain⟨t,rfl⟩:=ru
 obtain⟨z,its,n,r,hl,e⟩:=I.lstM hH
 obtain⟨w,hw,rw'⟩:=r.get hy
 refine call_meets F.slot_list_pop ⟨_,e,rfl⟩ F.entry_list_pop (F.args_list_pop_2 _ _)
  (MeetsSeq.list_pop_at l its.toArray n i t k w (fitsIndex_both h1 h2) (by rw[List.size_toArray,← hl];exact hk) (by rw[← Array.getElem?_toList];exact hw) (by rw[List.size_toArray];omega)) ⟨e,?_⟩
 refine⟨y,_,I.lset (its':=its.eraseIdx k) hH e ?_ (r.eraseIdx k) ?_,rw',q⟩
 ·show its.toArray.eraseIdxIfInBounds k=(its.eraseIdx k).toArray
  rw[List.eraseIdxIfInBounds_toArray]
 ·have:=qgP xs k
  omega
def qrn:R2:=fun x y H Q=>∃ l b xs zs,x=.ref l∧y=.ref b∧H l=some (.lst xs)∧H b=some (.lst zs)∧xs.length+zs.length≤sizeLine∧∀ p,H p=none→Q (.ref p) (upd H p (.lst (xs++zs)))
theorem qn5:OpR X (binaryOp .Add) qrn:=by
 intro pins s σ H x y v u Q I rx ry h
 obtain⟨l,b,xs,zs,rfl,rfl,hH,hB,hz,q⟩:=h
 cases rx
 cases ry
 obtain⟨z,its,n,r,hl,e⟩:=I.lstM hH
 obtain⟨z2,its2,n2,r2,hl2,e2⟩:=I.lstM hB
 refine PySem.P.add_list e e2 ?_ (by rw[List.size_toArray,List.size_toArray];omega)
 have ea:its.toArray++its2.toArray=(its++its2).toArray:=by simp
 rw[ea]
 exact⟨.ref _,_,I.lnew (t':=s.toks) (r.append r2) (by rw[List.length_append];omega),rfl,q _ I.fresh⟩
def qrN:R2:=fun x y H Q=>∃ l k xs,x=.ref l∧y=.int k∧H l=some (.lst xs)∧-(2 ^ 63)≤k∧k<2 ^ 63∧xs.length*k.toNat≤sizeLine ∧
 ∀ p,H p=none→Q (.ref p) (upd H p (.lst (List.replicate k.toNat xs).flatten))
theorem qhl {α:Type}(xs:List α)(k:Nat):(List.replicate k xs).flatten.length=k*xs.length:=by
 induction k with
 | zero=>simp
 | succ k ih=>rw[List.replicate_succ,List.flatten_cons,List.length_append,ih,Nat.succ_mul,Nat.add_comm]
theorem qn4:OpR X (binaryOp .Mult) qrN:=by
 intro pins s σ H x y v u Q I rx ry h
 obtain⟨l,k,xs,rfl,rfl,hH,h1,h2,hz,q⟩:=h
 cases rx
 obtain⟨t,rfl⟩:=ry
 obtain⟨z,its,n,r,hl,e⟩:=I.lstM hH
 have hlen:its.toArray.size*k.toNat≤sizeLine:=by rw[List.size_toArray,← hl];exact hz
 have hcap:¬ its.toArray.size*k.toNat>(2 ^ 63 - 1) / 8:=by
  have:(sizeLine:Nat)≤(2 ^ 63 - 1) / 8:=by decide
  omega
 have hfit:¬ (!Builtin.List.listFitsIndex k)=true:=by
  rw[fitsIndex_both h1 h2]
  exact Bool.false_ne_true
 have hlong:¬ Builtin.List.listTooLong (its.toArray.size*k.toNat)=true:=by
  rw[qlE hlen]
  exact Bool.false_ne_true
 have hnew:List.foldl (fun x1 x2=>x1++x2) #[] (List.replicate (if its.toArray.isEmpty=true then 0 else k.toNat) its.toArray)=(List.replicate k.toNat its).flatten.toArray:=by
  have f0:∀ m:Nat,List.foldl (fun x1 x2=>x1++x2) #[] (List.replicate m its.toArray)=(List.replicate m its).flatten.toArray:=fun m=>by
   have:=qeh its m []
   rw[List.nil_append] at this
   exact this
  rw[f0]
  cases its with
  | nil=>simp
  | cons a r'=>rw[if_neg (by simp)]
 refine wpAny_binaryOp_repeat_ref (T:="list") (U:="int") (by decide) ⟨_,e,rfl⟩ (fun s'=>typeIs_int s' k t) noFill_list_mul F.fills_int_mul F.slot_int_rmul repeat_list F.slot_int_index.lookup
  (call_meets F.slot_int_rmul (typeIs_int s k t) F.entry_int_rmul (F.args_int_rmul_2 _ _) (int___rmul___int_list k t l its.toArray n)
   ⟨e,rfl,⟨_,e,rfl⟩,call_meets F.slot_list_mul ⟨_,e,rfl⟩ F.entry_list_mul (F.args_list_mul_2 _ _) (AutoListH.list___mul___list_int_3 l its.toArray n k t hfit hcap hlong) ⟨e,?_⟩⟩)
 rw[hnew]
 exact⟨.ref _,_,I.lnew (t':=s.toks) (r.rep k.toNat) (by rw[qhl,Nat.mul_comm];exact hz),rfl,q _ I.fresh⟩
end
section
variable {prog : Program} {w : World} {A : Around} {E : Value → Shared → Prop} {s : Shared}
end
section
variable {X : Cx}
end
end L2
namespace Att
open PySem PySem.W PySem.Calls PyProof.Rows
theorem qek {P:Params}{h:Heap}:∀ (ns:List Int) (vs:List Value),WellAll P h vs (ns.map WData.int)→IntsAre vs ns:=by
 intro ns
 induction ns with
 | nil =>
  intro vs w
  rw[List.map_nil] at w
  cases w
  exact .nil
 | cons n ns ih =>
  intro vs w
  rw[List.map_cons] at w
  cases w with
  | cons a b =>
   cases a
   exact .cons _ _ (ih _ b)
theorem qkj {l:OpenLaw}{n:Nat}(hn:l.most=some n){P:Params}{h:Heap}{args:List WData}{vals:List Value}
  (hpre:l.row.toRowW.claim.pre args=true) (hwl:WellAll P h vals args) :
  ∃ a vs ns,vals=[Value.ref a]∧args=[WData.list (ns.map WData.int)]∧h.get? a=some { cls:=.type "list",data:=.seq vs.toArray }∧IntsAre vs ns∧ns.length≤n:=by
 have hsh:WShape.hasAll [] args [.list .int]=true:=(pre_splitW hpre).1
 have hc:l.pre.holds [] { args:=args }=true:=(pre_splitW hpre).2
 obtain⟨d,r,rfl,h1,h2⟩:=hasAllW_cons hsh
 obtain rfl:=hasAllW_nil h2
 obtain⟨xs,rfl,h3⟩:=hasW_list h1
 obtain⟨ns,rfl⟩:=items_int h3
 have hlen:ns.length≤n:=by
  unfold OpenLaw.pre at hc
  have h4:(WTm.not (.lt (.lit (.int (n:Int))) (.len (.arg 0)))).holds [] { args:=[.list (ns.map .int)] }=true:=by
   have h4:=(holds_andW hc).1
   rw[hn] at h4
   exact h4
  have h5:=condW_of h4 (w_not (w_lt w_lit (w_len_list (w_arg rfl))))
  rw[List.length_map] at h5
  refine Nat.le_of_not_lt fun q=>?_
  have q':(n:Int)<((ns.length:Nat):Int):=by omega
  first
   | (rw[decide_eq_true q'] at h5;exact absurd h5 (by decide))
   | (simp at h5;omega)
 cases hwl with
 | cons w1 w2 =>
  cases w2
  cases w1 with
  | list ho hall=>exact⟨_,_,ns,rfl,rfl,ho,qek ns _ hall,hlen⟩
theorem qj9 (l:OpenLaw)(args:List WData):l.row.toRowW.claim.post args (.bool true) args=true :=
 postW_of (r:=l.row.toRowW) (X:=(true == true))
  (show WShape.has [] (.bool true) .bool=true by first | rfl | decide | simp [WShape.has,WShape.arms,WShape.armsAll])
  (show (WTm.eq .res (.lit (.bool true))).value [] { args:=args,res:=some (.bool true),after:=args }=some (.bool (true == true)) from w_eq_bool (w_res rfl) w_lit) rfl
theorem attach_call {l:OpenLaw}{n:Nat}{q:Program}{loose:List Str}{XP:(Str→Option Value)→Heap→Prop}{YP:World→Heap→Prop}{d:DefRec}
  (hn:l.most=some n) (hdf:d.params.defaults=[])
  (call:∀ (w:World) (s₀ s₁:Shared) (mg mb:Str→Option Value) (fa:Addr) (o:Obj) (pm cd doc:Value) (a:Addr) (vs:List Value) (ns:List Int),
   Ground q loose [] XP w s₀ mg mb s₁.heap→YP w s₁.heap →
   s₁.heap.get? fa=some o→o.data=.func (docDef d.name d.params d.body d.scope pm cd doc)→s₁.heap.CodeRec cd d.name→mg d.name=some (.ref fa) →
   s₁.heap.get? a=some { cls:=.type "list",data:=.seq vs.toArray }→IntsAre vs ns→ns.length≤n→s₁.gens=#[] →
   codeAny (model l.prog w) callerA (.call (.ref fa) ⟨[.ref a],[]⟩) (fun r s'=>r=.ok (.ret (.bool true))∧OldK s₁.heap s'.heap∧s'.os=s₁.os∧AllBare s'.gens) s₁) :
  WalkO q loose XP YP l.row.toRowW d [] (fun f vs=>PySem.call f vs):=by
 intro w s₀ s₁ mg mb G Y fa o pm cd doc dV kV ho hd hcd hD hmg hg args vals as hpre hlay hrd hwl hlo
 obtain rfl:dV=.none:=Dflts.none hD hdf
 obtain rfl:kV=.none:=Dflts.noKw hD
 obtain⟨a,vs,ns,rfl,rfl,hobj,hints,hlen⟩:=qkj hn hpre hwl
 refine enter_call (codeAny_mono (call w s₀ s₁ mg mb fa o pm cd doc a vs ns G Y ho (fd_plain hd) hcd hmg hobj hints hlen hg) fun r s' hq=>?_)
 obtain⟨rfl,h2,h3,h4⟩:=hq
 exact⟨.inl ⟨.bool true,.bool true,[],rfl,fun _=>rfl,.bool true,qj9 l _,fun _=>⟨List.Pairwise.nil,fun _ hm=>(nomatch hm)⟩⟩,h2,h3,h4⟩
section
variable {prog : Program} {w : World} {A : Around} {E : Value → Shared → Prop} {s : Shared} {K : Frag}
end
end Att
namespace L2
open PySem PySem.Spec PyProof.Rows
theorem qgm:∀ {vs:List Value} {ns:List Int},IntsAre vs ns→Vals (ns.map V.int) vs
 | _,_,.nil=>.nil
 | _,_,.cons n t h=>.cons ⟨t,rfl⟩ (qgm h)
def qqD (H:Hp):Prop:=∀ b,H b=none∨∃ o xs,H b=some (.frz o (.lst xs))
theorem qlk {P:Program}{w:World}{K:PySem.W.Frag}{mg mb:Str→Option Value}{CX:CXT}{k:Nat}{fa a:Addr}{fd:FuncData}{x:Str}{sp:Sp}{s₁:Shared}{vs:List Value}{ns:List Int}
  (KX:K.In s₁.heap) (hns:s₁.heap.Ns mainGlobals mg) (hb:s₁.heap.Ns builtinsNs mb) (hbb:∀ x:Str,x≠"__name__"→mb x=bootBuiltins x) (hlim:s₁.heap.NoLimit)
  (hbm:∃ bm ob,mg "__builtins__"=some (.ref bm)∧bm≠builtinsNs∧s₁.heap.get? bm=some ob∧ob.cls=.type "module"∧ob.dict=some builtinsNs∧ob.data=.plain) (hse:s₁.heap.NoSeer) (hdg:∃ mc,s₁.heap.Ns cStatics mc∧mc "sys.int_max_str_digits"=none) (hg:s₁.gens=#[])
  (ha:s₁.heap.get? a=some { cls:=.type "list",data:=.seq vs.toArray }) (hi:IntsAre vs ns) (hl:ns.length≤sizeLine) (hr:Room k callerA)
  (F:∀ base:Heap,K.In base→base.Ns mainGlobals mg→FnOk P w K mg base CX k fa fd [x] sp) (hbind:∀ (s:Shared) (u:Value),BindsTo s fd ⟨[u],[]⟩ [(x,u)])
  (hsp:∀ H:Hp,qqD H→SqL K H a (ns.map V.int)→sp [.ref a] H (fun v _=>v=.bl true) fun _ _ _=>False)
  (hCX:∀ H e s',CX [] H s₁ (fun _ _ _=>False) e s'→False) :
  codeAny (model P w) callerA (.call (.ref fa) ⟨[.ref a],[]⟩) (fun r s'=>r=.ok (.ret (.bool true))∧OldK s₁.heap s'.heap∧s'.os=s₁.os∧AllBare s'.gens) s₁:=by
 have rv:=qgm hi
 have lenV:=hi.length
 have core:∀ H:Hp,qqD H→SqL K H a (ns.map V.int)→HOk P w H s₁.heap→(∀ b,H b≠none→b=a)→(H a≠none→K.lookup a=none) →
   codeAny (model P w) callerA (.call (.ref fa) ⟨[.ref a],[]⟩) (fun r s'=>r=.ok (.ret (.bool true))∧OldK s₁.heap s'.heap∧s'.os=s₁.os∧AllBare s'.gens) s₁:=by
  intro H hO hS hok hA hK
  have base_of:∀ {b:Addr} {o:Obj},s₁.heap.get? b=some o→H b=none→(qk1 s₁.heap H).get? b=some o:=fun e n=>qlu e n
  have noA:∀ {b:Addr} {o:Obj} {es:Array DictEntry} {ep:Nat},s₁.heap.get? b=some o→o.data=.dict es ep→H b=none:=fun {b o es ep} e d=>by
   cases q:H b with
   | none=>rfl
   | some u =>
    have e':b=a:=hA b (by rw[q];simp)
    subst e'
    rw[ha] at e;cases e
    have d':Data.seq vs.toArray _=Data.dict es ep:=d
    cases d'
  have nsK:∀ {b:Addr} {m:Str→Option Value},s₁.heap.Ns b m→(qk1 s₁.heap H).Ns b m:=fun {b m} hq0=>by obtain⟨o,es,ep,e,d,r⟩:=hq0;exact⟨o,es,ep,base_of e (noA e d),d,r⟩
  have hKb:K.In (qk1 s₁.heap H):=fun b o e=>base_of (KX b o e) (by
   cases q:H b with
   | none=>rfl
   | some u =>
    have e':b=a:=hA b (by rw[q];simp)
    subst e'
    rw[hK (by rw[q];simp)] at e;cases e)
  have hM:Mod K mg (qk1 s₁.heap H):=⟨hKb,nsK hns,⟨mb,nsK hb,hbb⟩,let ⟨mc,h1,h2⟩:=hlim;⟨mc,nsK h1,h2⟩,let ⟨bm,ob,b1,b2,b3,b4,b5,b6⟩:=hbm;⟨bm,ob,b1,b2,base_of b3 (by
   cases q:H bm with
   | none=>rfl
   | some u =>
    have e':bm=a:=hA bm (by rw[q];simp)
    rw[e',ha] at b3;cases b3;injection b4 with z;exact absurd z (by decide)),b4,b5,b6⟩,
   ⟨let ⟨mc,h1,h2⟩:=hse.statics;⟨mc,nsK h1,h2⟩,let ⟨mc,h1,h2⟩:=hse.mods;⟨mc,nsK h1,h2⟩,let ⟨mc,h1,h2⟩:=hse.imp;⟨mc,nsK h1,h2⟩,let ⟨m1,bm,ob,n1,b1,b3,b4,b5⟩:=hse.main;⟨m1,bm,ob,nsK n1,b1,base_of b3 (by
   cases q:H bm with
   | none=>rfl
   | some u =>
    have e':bm=a:=hA bm (by rw[q];simp)
    rw[e',ha] at b3;cases b3;injection b4 with z;exact absurd z (by decide)),b4,b5⟩⟩,let ⟨mc,h1,h2⟩:=hdg;⟨mc,nsK h1,h2⟩⟩
  have e0:Env0 P w K mg (qk1 s₁.heap H) callerA [] s₁ H:=⟨rfl,hM,fun b o e=>qns e,Nat.le_of_eq (qkn _ _),trivial,fun b hb=>absurd (show b∈([]:List Addr) from hb) (by simp),hok,.of_eq hg⟩
  refine codeAny_mono ((F _ hKb (nsK hns)).run callerA [] s₁ H ⟨[.ref a],[]⟩ [.ref a] [.ref a] _ _ hr e0 (hbind s₁ (.ref a)) (.cons rfl .nil) (hsp H hO hS)) fun r s' h=>?_
  cases r with
  | error e=>exact (hCX H e s' h).elim
  | ok fl =>
   cases fl with
   | next=>exact False.elim h
   | brk=>exact False.elim h
   | cont=>exact False.elim h
   | ret u =>
    obtain⟨v,H',os,bare,un,hok',r',q⟩:=h
    have q':v=.bl true:=q
    subst q'
    obtain rfl:u=Value.bool true:=r'
    refine⟨rfl,OldK.of_keep fun b o e=>?_,os,bare⟩
    cases q:H b with
    | none=>exact un.keep b o e q (by intro z;exact absurd (show b∈([]:List Addr) from z) (by simp)) (by simp)
    | some u =>
     rcases hO b with z | ⟨ob,xs,z⟩
     ·rw[q] at z;cases z
     ·have z2:=un.frzs b ob _ z
      obtain⟨e1,_⟩:=hok b _ z
      obtain⟨e2,_⟩:=hok' b _ z2
      rw[e] at e1;cases e1
      exact e2
 cases hk:K.lookup a with
 | some o =>
  have e:=KX a o hk
  rw[ha] at e
  cases e
  refine core (fun _=>none) (fun _=>.inl rfl) (.inr ⟨_,vs.toArray,_,hk,rfl,rfl,rfl,by rw[List.size_toArray,lenV];exact hl,by simpa using rv⟩) (fun b u z=>by have z':(none:Option HO)=some u:=z;cases z') (fun b z=>absurd rfl z) fun z=>absurd rfl z
 | none =>
  refine core (fun b=>if b=a then some (.frz { cls:=.type "list",data:=.seq vs.toArray } (.lst (ns.map V.int))) else none) (fun b=>?_) (.inl (.inr ⟨{ cls:=.type "list",data:=.seq vs.toArray },if_pos rfl⟩)) (fun b u z=>?_) (fun b z=>?_) fun _=>hk
  ·by_cases hb:b=a
   ·exact .inr ⟨_,_,if_pos hb⟩
   ·exact .inl (if_neg hb)
  ·by_cases hb:b=a
   ·have z':=(if_pos hb).symm.trans z
    cases z'
    subst hb
    exact⟨ha,by rw[List.length_map];exact hl,vs,_,rv,ha⟩
   ·have z':=(if_neg hb).symm.trans z
    cases z'
  ·by_cases hb:b=a
   ·exact hb
   ·exact absurd (if_neg hb) z
theorem walk_of {l:PySem.W.OpenLaw}{n k:Nat}{q:Program}{loose:List Str}{XP:(Str→Option Value)→Heap→Prop}{YP:World→Heap→Prop}{d:DefRec}{K:Params→PySem.W.Frag}{CX:World→CXT}{sp:World→Sp}{x:Str}
  (hn:l.most=some n) (hn2:n≤sizeLine) (hdf:d.params.defaults=[]) (hi:importsNone q=true) (hr:Room k callerA)
  (hY:∀ (w:World) (h:Heap),YP w h→(K w.params).In h)
  (F:∀ (w:World) (mg:Str→Option Value) (fa:Addr) (h:Heap),(K w.params).In h→h.Ns mainGlobals mg→mg d.name=some (.ref fa) →
   ∃ fd:FuncData,(∀ (s:Shared) (u:Value),BindsTo s fd ⟨[u],[]⟩ [(x,u)]) ∧
    ∀ base:Heap,(K w.params).In base→base.Ns mainGlobals mg→FnOk l.prog w (K w.params) mg base (CX w) k fa fd [x] (sp w))
  (hsp:∀ (w:World) (H:Hp) (a:Addr) (ns:List Int),ns.length≤n→qqD H→SqL (K w.params) H a (ns.map V.int)→sp w [.ref a] H (fun v _=>v=.bl true) fun _ _ _=>False)
  (hCX:∀ (w:World) (H:Hp) (s:Shared) (e:Value) (s':Shared),CX w [] H s (fun _ _ _=>False) e s'→False) :
  PySem.W.WalkO q loose XP YP l.row.toRowW d [] (fun f vs=>PySem.call f vs):=by
 refine Att.attach_call hn hdf fun w s₀ s₁ mg mb fa o pm cd doc a vs ns G Y ho hd hcd hmg hobj hints hlen hg=>?_
 have KX:=hY w _ Y
 obtain⟨fd,hb,hF⟩:=F w mg fa _ KX G.T.g hmg
 exact qlk KX G.T.g G.T.b G.T.builtins G.T.nolimit G.T.bmain (G.T.seer hi) G.T.nodigits hg hobj hints (Nat.le_trans hlen hn2) hr hF hb (fun H hO hS=>hsp w H a ns hlen hO hS) fun H e s'=>hCX w H s₁ e s'
end L2
/- THE LAST THEOREM (shape; LID, My.* are yours):
   My.Adr: a structure of the addresses that your layer names (classes, functions); My.Txt K t: a structure (Prop) of the equations over K;
   My.txt_mk : {K} {implicit addresses ..} (e1 : nsIn K mainGlobals "law" = some (some (.ref f))) (e2 : K.lookup f = some ⟨oc, od, .func (fnOf "law" "law" params body scope dV kV doc pm an cdv ct), sl⟩) (e3 : codeIn K cdv "law" = true) .. : ∃ t, My.Txt K t
set_option maxRecDepth 100000 in
set_option maxHeartbeats 0 in
theorem PySem.Challenge.cw_LID_holds : PySem.Challenge.rw_LID.Holds := by
 w_on;o_law;k_head;(case hw=>w_witness2)
 k_fill
 refine L2.walk_of (l:=PySem.Challenge.rw_LID) (n:=63) (k:=40) (x:="script") (CX:=fun w=>..) (sp:=fun _=>My.sp_law) rfl (by decide) rfl ⟨rfl,by decide,by decide⟩ (fun w h Y=>PySem.W.kIn_of Y) ?F ?S ?C
 case F =>
  intro w mg fa h KX G hmg
  have T:∃ t,My.Txt (L2.KOf KX) t:=by
   dsimp only [L2.KOf]                          -- K must stand as «<heap const> w.params» for k_is
   refine' My.txt_mk ?e1 ?e2 ?e3 ..
   (case e1=>PySem.W.k_is)                    -- in the order: a name -> its address -> its object -> its parts
   (case e2=>PySem.W.k_is)
   ..
  obtain⟨t,T⟩:=T
  have e0:=hmg.symm.trans (PySem.W.mg_of KX G T.law)
  cases e0                                       -- fa is the law's own address
  exact⟨_,fun s u=>.of_eq rfl,fun base kb nb=>My.law_fn T kb nb⟩     -- if «.of_eq rfl» comes too early: refine' ⟨_,?b,fun base kb nb=>My.law_fn T kb nb⟩;exact fun s u=>.of_eq rfl
 case S=>exact fun w H a ns hl hO hS=>..
 case C=>exact ..
(the tactic k_is has no namespace: write k_is) -/
namespace L2
open PySem PySem.Spec PyProof.Rows
def qfI (s:Stmt)(j:Nat):Stmt:=match s with
 | .ClassDef _ _ _ body _ _ _ _ _ _ _=>body.getD j (.Pass ⟨0,0,0,0⟩)
 | _=>.Pass ⟨0,0,0,0⟩
def qbk (s:Stmt):Arguments:=match s with
 | .FunctionDef _ a _ _ _ _ _ _ _ _=>a
 | _=>{ posonlyargs:=[],args:=[],vararg:=none,kwonlyargs:=[],kw_defaults:=[],kwarg:=none,defaults:=[] }
def qaV (s:Stmt):List Stmt:=match s with
 | .FunctionDef _ _ b _ _ _ _ _ _ _=>b
 | _=>[]
def qah (s:Stmt):Scope:=match s with
 | .FunctionDef _ _ _ _ _ _ sc _ _ _=>sc
 | _=>{ kind:=.function,names:=[],isGenerator:=false,isCoroutine:=false }
abbrev CX0:CXT:=fun _ _ _ _ _ _=>False
abbrev E0:XK:=fun _ _ _=>False
theorem qmG {X:Cx}:qhW CX0 X E0:=fun _ _ _ _ _ _ _ h=>h.elim
structure Fun (K:PySem.W.Frag)(x qual:Str)(st:Stmt)(f:Addr)(fd:FuncData):Prop where
 ex:∃ (oc:Value) (od:Option Addr) (kV doc pm:Value) (an:Option Addr) (cdv ct:Value) (osl:Array (Option Value)),
  fd=PySem.W.fnOf x qual (qbk st) (qaV st) (qah st) .none kV doc pm an cdv ct∧K.lookup f=some ⟨oc,od,.func fd,osl⟩∧PySem.W.codeIn K cdv qual=true
 kp:PySem.W.keepIn K (.ref f)=true
section
variable {P : Program} {w : World} {K : PySem.W.Frag} {mg : Str → Option Value} {base : Heap}
theorem Fun.ok {x qual:Str}{st:Stmt}{f:Addr}{fd:FuncData}{N ps:List Str}{k:Nat}{sp:Sp}(F:Fun K x qual st f fd)(S:FnScope N ps (qah st))(len:∀ vs H Q E,sp vs H Q E→vs.length=ps.length)
  (hbody:∀ (cdv:Value) (A:Around) (outer:List Env) (s:Shared) (H:Hp) (vs:List V) (Q:VK) (E:XK),Room k (A.deeper (envOfC qual (qah st) s.heap.objs.size f cdv))→sp vs H Q E →
   ∃ t,PSs (qiV CX0 P w K mg base N qual (qah st) f cdv A outer s H E).nox (qaV st) t∧t { nx:=fun _ H'=>Q .non H',rt:=Q } (qcY N vs) H):FnOk P w K mg base CX0 (k+1) f fd ps sp:=by
 obtain⟨oc,od,kV,doc,pm,an,cdv,ct,osl,rfl,lk,hcd⟩:=F.ex
 refine qkQ lk hcd S len fun A outer s H vs Q E hr hsp=>?_
 obtain⟨t,h,q⟩:=hbody cdv A outer s H vs Q E hr hsp
 exact⟨t,h.nox,q⟩
theorem Fun.binds {x qual:Str}{st:Stmt}{f:Addr}{fd:FuncData}{ps:List Str}(F:Fun K x qual st f fd)
  (h:∀ (kV doc pm:Value) (an:Option Addr) (cdv ct:Value) (us:List Value),us.length=ps.length→bindArgs (PySem.W.fnOf x qual (qbk st) (qaV st) (qah st) .none kV doc pm an cdv ct) ⟨us,[]⟩=pure (ps.zip us)):Binds K fd ps []:=by
 obtain⟨oc,od,kV,doc,pm,an,cdv,ct,osl,rfl,lk,hcd⟩:=F.ex
 exact .all (h kV doc pm an cdv ct)
theorem qo8 {x qual:Str}{st:Stmt}{f:Addr}{oc:Value}{od an:Option Addr}{osl:Array (Option Value)}{kV doc pm cdv ct:Value}(l:K.lookup f=some ⟨oc,od,.func (PySem.W.fnOf x qual (qbk st) (qaV st) (qah st) .none kV doc pm an cdv ct),osl⟩)
  (c:PySem.W.codeIn K cdv qual=true) (k:PySem.W.keepIn K (.ref f)=true):Fun K x qual st f (PySem.W.fnOf x qual (qbk st) (qaV st) (qah st) .none kV doc pm an cdv ct):=⟨⟨oc,od,kV,doc,pm,an,cdv,ct,osl,rfl,l,c⟩,k⟩
end
theorem qaA {n:Nat}(h:n≤1000):n<sizeLine:=Nat.lt_of_le_of_lt h (by decide)
section
variable {X : Cx}
theorem pv (i:Nat){x:Str}{pos:Pos}(hN:X.N[i]?=some x:=by rfl)(hv:Vis X.env.scope x:=by first | exact Or.inl rfl | exact Or.inr (Or.inl rfl) | exact Or.inr (Or.inr rfl))(hd:(x == ("__debug__":Str))=false:=by decide)
  (hcd:(x == ("__classdict__":Str))=false:=by decide):PE X (.Name x pos) (ql4 i):=qj0 hN hv hd hcd
end
theorem qpE {A B:Prop}(h:B):if false=true then A else B:=by
 rw[if_neg Bool.false_ne_true]
 exact h
theorem qpD {A B:Prop}(h:A):if true=true then A else B:=by
 rw[if_pos rfl]
 exact h
def Same (H H':Hp):Prop:=∀ b o,H b=some o→H' b=some o
theorem Same.refl (H:Hp):Same H H:=fun _ _ h=>h
theorem Same.trans {H H1 H2:Hp}(a:Same H H1)(b:Same H1 H2):Same H H2:=fun c o h=>b c o (a c o h)
theorem Same.free {H H':Hp}(e:Same H H'){l:Addr}(h:H' l=Option.none):H l=Option.none:=by
 cases q:H l with
 | none=>rfl
 | some o =>
  rw[e l o q] at h
  cases h
theorem Same.seq {K:PySem.W.Frag}{H H':Hp}{a:Addr}{xs:List V}(e:Same H H')(h:SqL K H a xs):SqL K H' a xs:=by
 rcases h with (h | ⟨o,h⟩) | h
 ·exact .inl (.inl (e _ _ h))
 ·exact .inl (.inr ⟨o,e _ _ h⟩)
 ·exact .inr h
section
variable {κ : Type} [DecidableEq κ]
def qgI (kvs:List (κ × V))(k:κ):Option V:=(kvs.find? fun kv=>decide (kv.1=k)).map (·.2)
def qf3 (kvs:List (κ × V))(k:κ)(v:V):List (κ × V) :=
 if (kvs.any fun kv=>decide (kv.1=k))=true then kvs.map (fun kv=>if kv.1=k then (kv.1,v) else kv) else kvs++[(k,v)]
theorem qd7 {p:κ × V}{r:List (κ × V)}{k:κ}(e:p.1=k):qgI (p::r) k=some p.2:=by simp [qgI,List.find?_cons,e]
theorem qd6 {p:κ × V}{r:List (κ × V)}{k:κ}(e:¬ p.1=k):qgI (p::r) k=qgI r k:=by simp [qgI,List.find?_cons,e]
theorem qh4 (k:κ):∀ kvs:List (κ × V),(kvs.any fun kv=>decide (kv.1=k))=(qgI kvs k).isSome
 | []=>rfl
 | p::r=>by
  rw[List.any_cons]
  by_cases e:p.1=k
  ·simp only [qd7 e,decide_eq_true e,Bool.true_or,Option.isSome_some]
  ·rw[qd6 e,decide_eq_false e,Bool.false_or];exact qh4 k r
theorem qc8 (kvs:List (κ × V))(k:κ)(v:V):(qf3 kvs k v).length≤kvs.length+1:=by
 unfold qf3
 split
 ·rw[List.length_map];omega
 ·rw[List.length_append,List.length_cons,List.length_nil];omega
theorem RelO.isSome_eq {o:Option V}{u:Option Value}(r:RelO o u):o.isSome=u.isSome:=by
 cases o with
 | none=>cases u with
  | none=>rfl
  | some _=>exact (show False from r).elim
 | some _=>cases u with
  | none=>exact (show False from r).elim
  | some _=>rfl
theorem KV.val {kvs:List (κ × V)}{vs:List (κ × Value)}(r:KV kvs vs)(k:κ):RelO (qgI kvs k) (valueAt vs k):=by
 unfold KV at r
 induction r with
 | nil=>exact True.intro
 | @cons p q ps qs h t ih =>
  obtain⟨h1,h2⟩:=h
  by_cases e:p.1=k
  ·have e':q.1=k:=h1.symm.trans e
   have b:valueAt (q::qs) k=some q.2:=by simp [valueAt,List.find?_cons,e']
   rw[qd7 e,b];exact h2
  ·have e':¬ q.1=k:=fun z=>e (h1.trans z)
   have b:valueAt (q::qs) k=valueAt qs k:=by simp [valueAt,List.find?_cons,e']
   rw[qd6 e,b];exact ih
theorem KV.any {kvs:List (κ × V)}{vs:List (κ × Value)}(r:KV kvs vs)(k:κ):(kvs.any fun kv=>decide (kv.1=k))=vs.any fun kv=>decide (kv.1=k):=by
 unfold KV at r
 induction r with
 | nil=>rfl
 | cons h t ih=>rw[List.any_cons,List.any_cons,ih,h.1]
theorem KV.repl {kvs:List (κ × V)}{vs:List (κ × Value)}(r:KV kvs vs)(k:κ){y:V}{u:Value}(ry:RelV y u) :
  KV (kvs.map fun kv=>if kv.1=k then (kv.1,y) else kv) (vs.map fun kv=>if kv.1=k then (kv.1,u) else kv):=by
 unfold KV at r ⊢
 induction r with
 | nil=>exact .nil
 | @cons p q ps qs h t ih =>
  rw[List.map_cons,List.map_cons]
  refine .cons ?_ ih
  obtain⟨h1,h2⟩:=h
  by_cases e:p.1=k
  ·rw[if_pos e,if_pos (h1.symm.trans e)];exact⟨h1,ry⟩
  ·rw[if_neg e,if_neg (fun z=>e (h1.trans z))];exact⟨h1,h2⟩
theorem KV.put {kvs:List (κ × V)}{vs:List (κ × Value)}(r:KV kvs vs)(k:κ){y:V}{u:Value}(ry:RelV y u):KV (qf3 kvs k y) (stored vs k u):=by
 unfold qf3 stored
 rw[r.any k]
 by_cases e:(vs.any fun kv=>decide (kv.1=k))=true
 ·rw[if_pos e,if_pos e];exact r.repl k ry
 ·rw[if_neg e,if_neg e];exact Paired.snoc r ⟨rfl,ry⟩
theorem KV.length {kvs:List (κ × V)}{vs:List (κ × Value)}(r:KV kvs vs):kvs.length=vs.length:=Paired.length r
end
theorem qiO {P:Program}{w:World}{k:Key}{u:Value}(r:RelV (kV k) u):(qbf P w).is k u=true:=by
 cases k with
 | inl i=>obtain⟨t,e⟩:=(show ∃ t,u=Value.int i t from r);subst e;exact qhs P w i t
 | inr x=>obtain⟨t,e⟩:=(show ∃ t,u=Value.str x t from r);subst e;exact qhp P w x t
theorem qgj {P:Program}{w:World}:∀ {ks:List Key} {us:List Value},Vals (ks.map kV) us→ItemsAre (qbf P w) ks us
 | [],_,r=>by rw[List.map_nil] at r;cases r;exact .nil
 | k::ks,_,r=>by
  rw[List.map_cons] at r
  cases r with
  | cons h t=>exact .cons (qiO h) (qgj t)
abbrev KT (H:Hp):List (List Key × V)→List (List Key × Addr × Value)→Prop:=Paired fun p q=>p.1=q.1∧H q.2.1=some (.tup (p.1.map kV))∧RelV p.2 q.2.2
theorem KT.val {H:Hp}{kvs:List (List Key × V)}{xs:List (List Key × Addr × Value)}(r:KT H kvs xs)(k:List Key):RelO (qgI kvs k) ((atKey xs k).map (·.2)):=by
 induction r with
 | nil=>exact True.intro
 | @cons p q ps qs h t ih =>
  obtain⟨h1,_,h2⟩:=h
  by_cases e:p.1=k
  ·have e':q.1=k:=h1.symm.trans e
   have b:atKey (q::qs) k=some q.2:=by simp [atKey,List.find?_cons,e']
   rw[qd7 e,b];exact h2
  ·have e':¬ q.1=k:=fun z=>e (h1.trans z)
   have b:atKey (q::qs) k=atKey qs k:=by simp [atKey,List.find?_cons,e']
   rw[qd6 e,b];exact ih
theorem KT.repl {H:Hp}{kvs:List (List Key × V)}{xs:List (List Key × Addr × Value)}(r:KT H kvs xs)(k:List Key){y:V}{u:Value}(ry:RelV y u) :
  KT H (kvs.map fun kv=>if kv.1=k then (kv.1,y) else kv) (xs.map (putAt k u)):=by
 induction r with
 | nil=>exact .nil
 | @cons p q ps qs h t ih =>
  rw[List.map_cons,List.map_cons]
  refine .cons ?_ ih
  obtain⟨h1,h2,h3⟩:=h
  unfold putAt
  by_cases e:p.1=k
  ·rw[if_pos e,if_pos (h1.symm.trans e)];exact⟨h1,h2,ry⟩
  ·rw[if_neg e,if_neg (fun z=>e (h1.trans z))];exact⟨h1,h2,h3⟩
theorem KT.put {H:Hp}{kvs:List (List Key × V)}{xs:List (List Key × Addr × Value)}(r:KT H kvs xs)(k:List Key){b:Addr}{y:V}{u:Value}(hb:H b=some (.tup (k.map kV)))(ry:RelV y u) :
  KT H (qf3 kvs k y) (storedH xs k b u):=by
 have e:(kvs.any fun kv=>decide (kv.1=k))=(atKey xs k).isSome:=by
  rw[qh4,(r.val k).isSome_eq,Option.isSome_map]
 unfold qf3 storedH
 rw[e]
 by_cases q:(atKey xs k).isSome=true
 ·rw[if_pos q,if_pos q];exact r.repl k ry
 ·rw[if_neg q,if_neg q];exact Paired.snoc r ⟨rfl,hb,ry⟩
theorem KT.keeps {H H':Hp}{kvs:List (List Key × V)}{xs:List (List Key × Addr × Value)}(r:KT H kvs xs)(ht:∀ b ys,H b=some (.tup ys)→H' b=some (.tup ys)):KT H' kvs xs :=
 Paired.mapP r fun _ _ z=>⟨z.1,ht _ _ z.2.1,z.2.2⟩
section
variable {P : Program} {w : World} {H : Hp} {h : Heap} {a : Addr}
theorem qoa {u:HO}(ok:HOk P w H h)(e:Rd H a u):ObjOk P w H h a u:=e.ok ok
theorem qjS {kvs:List (Key × V)}(ok:HOk P w H h)(e:Rd H a (.dK kvs)):kvs.length≤sizeLine∧(a == sysModules)=false∧∃ vs,KV kvs vs∧h.DictOf (qbf P w) a vs :=
 show ObjOk P w H h a (.dK kvs) from qoa ok e
theorem qms {kvs:List (Key × V)}(ok:HOk P w H h)(e:H a=some (.dK kvs)):kvs.length≤sizeLine∧(a == sysModules)=false∧∃ vs,KV kvs vs∧h.DictOf (qbf P w) a vs:=qjS ok (.inl e)
theorem qgD {ks:List Key}(ok:HOk P w H h)(e:H a=some (.tup (ks.map kV))):(tupleKind (qbf P w)).is h ks a:=by
 obtain⟨_,its,r,o,h1,⟨h2,_⟩,n,h3⟩:=(show ObjOk P w H h a (.tup (ks.map kV)) from ok a _ e)
 exact⟨o,its.toArray,n,h1,h2,h3,by simpa using qgj r⟩
theorem qko {kvs:List (List Key × V)}(ok:HOk P w H h)(e:Rd H a (.dT kvs)):kvs.length≤sizeLine∧(a == sysModules)=false ∧
  ∃ xs,KT H kvs xs∧h.DictOfH (tupleKind (qbf P w)) a xs:=by
 obtain⟨z,y,xs,r,o,es,ep,h1,h2,h3,h4,h5⟩:=(show ObjOk P w H h a (.dT kvs) from qoa ok e)
 refine⟨z,y,xs,r,o,es,ep,h1,h2,h3,h4,fun x hx=>?_,h5⟩
 have all:∀ {l:List (List Key × V)} {m:List (List Key × Addr × Value)},KT H l m→∀ x∈m,(tupleKind (qbf P w)).is h x.1 x.2.1:=by
  intro l m q
  induction q with
  | nil=>intro x hx;exact nomatch hx
  | @cons p q ps qs hq t ih =>
   intro x hx
   rcases List.mem_cons.mp hx with e | hx
   ·subst e
    exact qgD ok (by rw[← hq.1];exact hq.2.1)
   ·exact ih x hx
 exact all r x hx
theorem qqb {kvs:List (List Key × V)}(ok:HOk P w H h)(e:H a=some (.dT kvs)):kvs.length≤sizeLine∧(a == sysModules)=false ∧
  ∃ xs,KT H kvs xs∧h.DictOfH (tupleKind (qbf P w)) a xs:=qko ok (.inl e)
end
def DGet (H:Hp)(a:Addr)(y:V)(r:Option V):Prop :=
 (∃ kvs k,Rd H a (.dK kvs)∧y=kV k∧r=qgI kvs k)∨∃ kvs k b,Rd H a (.dT kvs)∧y=.ref b∧H b=some (.tup (k.map kV))∧r=qgI kvs k
def DPut (H:Hp)(a:Addr)(y v:V)(H':Hp):Prop :=
 (∃ kvs k,H a=some (.dK kvs)∧y=kV k∧kvs.length<sizeLine∧H'=upd H a (.dK (qf3 kvs k v))) ∨
 ∃ kvs k b,H a=some (.dT kvs)∧y=.ref b∧H b=some (.tup (k.map kV))∧kvs.length<sizeLine∧H'=upd H a (.dT (qf3 kvs k v))
theorem DGet.k {H:Hp}{a:Addr}{kvs:List (Key × V)}{k:Key}(e:H a=some (.dK kvs)):DGet H a (kV k) (qgI kvs k):=.inl ⟨kvs,k,.inl e,rfl,rfl⟩
theorem DGet.t {H:Hp}{a b:Addr}{kvs:List (List Key × V)}{k:List Key}(e:H a=some (.dT kvs))(eb:H b=some (.tup (k.map kV))):DGet H a (.ref b) (qgI kvs k):=.inr ⟨kvs,k,b,.inl e,rfl,eb,rfl⟩
theorem DPut.k {H:Hp}{a:Addr}{kvs:List (Key × V)}{k:Key}{v:V}(e:H a=some (.dK kvs))(hl:kvs.length<sizeLine):DPut H a (kV k) v (upd H a (.dK (qf3 kvs k v))):=.inl ⟨kvs,k,e,rfl,hl,rfl⟩
theorem DPut.t {H:Hp}{a b:Addr}{kvs:List (List Key × V)}{k:List Key}{v:V}(e:H a=some (.dT kvs))(eb:H b=some (.tup (k.map kV)))(hl:kvs.length<sizeLine) :
  DPut H a (.ref b) v (upd H a (.dT (qf3 kvs k v))):=.inr ⟨kvs,k,b,e,rfl,eb,hl,rfl⟩
section
variable {X : Cx} {pins : List (Addr × Obj)} {σ : St} {H : Hp} {s : Shared} {a : Addr} {y v : V} {u r : Value} {o : Option V} {A : Around} {E : Value → Shared → Prop}
theorem Inv.big (I:Inv X pins σ H s):sysModules<s.heap.objs.size:=by
 have h:mainGlobals<s.heap.objs.size:=(I.mod.glob.keeps I.bk).lt
 exact Nat.lt_trans (by decide) h
theorem qjC {Q:Value→Shared→Prop}(hu:A.units+1<cLine)(I:Inv X pins σ H s)(g:DGet H a y (some v))(ry:RelV y u)(h:∀ w' s',Inv X pins σ H s'→RelV v w'→Q w' s') :
  wpAny (model X.prog X.w) A (getItem (.ref a) u) Q E s:=by
 rcases g with⟨kvs,k,e,ey,l⟩ | ⟨kvs,k,b,e,ey,eb,l⟩
 ·subst ey
  obtain⟨z,hd,vs,rel,dd⟩:=qjS I.hok e
  obtain⟨w',hw,rw'⟩:=RelO.some_of (v:=v) (o:=valueAt vs k) (by rw[l];exact rel.val k)
  exact wpAny_getItem_of (qiO ry) dd.mapOf hw (h w' _ (I.tok _) rw')
 ·subst ey
  cases (show u=Value.ref b from ry)
  obtain⟨z,hd,xs,rel,dd⟩:=qko I.hok e
  obtain⟨w',hw,rw'⟩:=RelO.some_of (v:=v) (o:=(atKey xs k).map (·.2)) (by rw[l];exact rel.val k)
  obtain⟨p,hp,hp2⟩:=Option.map_eq_some_iff.mp hw
  refine wpAny_getItem_heap (tupleKind_room_in1 hu) (qgD I.hok eb) dd hp ?_
  rw[hp2]
  exact h w' _ (I.tok _) rw'
theorem qrf {Q:Value→Shared→Prop}(hu:A.units+1<cLine)(I:Inv X pins σ H s)(g:DGet H a y o)(ry:RelV y u)(h:∀ s',Inv X pins σ H s'→Q (.bool o.isSome) s') :
  wpAny (model X.prog X.w) A (compareOp .In u (.ref a)) Q E s:=by
 rcases g with⟨kvs,k,e,ey,l⟩ | ⟨kvs,k,b,e,ey,eb,l⟩
 ·subst ey
  obtain⟨z,hd,vs,rel,dd⟩:=qjS I.hok e
  refine wpAny_in_of (qiO ry) hd dd.mapOf ?_
  rw[← (rel.val k).isSome_eq,← l]
  exact h _ (I.tok _)
 ·subst ey
  cases (show u=Value.ref b from ry)
  obtain⟨z,hd,xs,rel,dd⟩:=qko I.hok e
  refine wpAny_in_heap (tupleKind_room_in1 hu) (qgD I.hok eb) hd dd ?_
  have q:=(rel.val k).isSome_eq
  rw[Option.isSome_map] at q
  rw[← q,← l]
  exact h _ (I.tok _)
theorem qmB {Q:Value→Shared→Prop}(hu:A.units+1<cLine)(I:Inv X pins σ H s)(g:DGet H a y o)(ry:RelV y u)(h:∀ s',Inv X pins σ H s'→Q (.bool (!o.isSome)) s') :
  wpAny (model X.prog X.w) A (compareOp .NotIn u (.ref a)) Q E s:=by
 rcases g with⟨kvs,k,e,ey,l⟩ | ⟨kvs,k,b,e,ey,eb,l⟩
 ·subst ey
  obtain⟨z,hd,vs,rel,dd⟩:=qjS I.hok e
  refine wpAny_notIn_of (qiO ry) hd dd.mapOf ?_
  rw[← (rel.val k).isSome_eq,← l]
  exact h _ (I.tok _)
 ·subst ey
  cases (show u=Value.ref b from ry)
  obtain⟨z,hd,xs,rel,dd⟩:=qko I.hok e
  refine wpAny_notIn_heap (tupleKind_room_in1 hu) (qgD I.hok eb) hd dd ?_
  have q:=(rel.val k).isSome_eq
  rw[Option.isSome_map] at q
  rw[← q,← l]
  exact h _ (I.tok _)
theorem qht {h':Heap}{t':Nat}{ob:HO}(I:Inv X pins σ H s)(mu:Mut (H a))(hs:Heap.SameBut a s.heap h')(he:∃ q,h'.get? a=some q)(new:ObjOk X.prog X.w (upd H a ob) h' a ob) :
  Inv X pins σ (upd H a ob) { s with heap:=h',toks:=t' } :=
 I.write (x:=a) (e:=a) mu (.inl rfl) (fun b q hb z=>(hs.2 b hb).trans z) he new
theorem ql8 {P:Program}{w:World}{H':Hp}{h':Heap}{kvs:List (Key × V)}{vs:List (Key × Value)}(z:kvs.length≤sizeLine)(hd:(a == sysModules)=false)(rel:KV kvs vs)(dd:h'.DictOf (qbf P w) a vs) :
  ObjOk P w H' h' a (.dK kvs):=⟨z,hd,vs,rel,dd⟩
theorem qi7 {H':Hp}{Q:Unit→Shared→Prop}(hu:A.units+1<cLine)(I:Inv X pins σ H s)(g:DPut H a y v H')(ry:RelV y u)(rv:RelV v r)(h:∀ s',Inv X pins σ H' s'→Q () s') :
  wpAny (model X.prog X.w) A (setItem (.ref a) u r) Q E s:=by
 rcases g with⟨kvs,k,e,ey,l,eH⟩ | ⟨kvs,k,b,e,ey,eb,l,eH⟩
 ·subst ey eH
  obtain⟨z,hd,vs,rel,dd⟩:=qms I.hok e
  have hz:vs.length≤sizeLine:=by rw[← rel.length];exact z
  have hl:(qf3 kvs k v).length≤sizeLine:=by have:=qc8 kvs k v;omega
  refine wpAny_setItem_pairs (hsz:=hz) (qiO ry) dd fun h' dd' hs=>h _ ?_
  have he:∃ q,h'.get? a=some q:=let ⟨q,_,_,hq,_⟩:=dd';⟨q,hq⟩
  exact qht I (by rw[e];exact True.intro) hs he (ql8 hl hd (rel.put k rv) dd')
 ·subst ey eH
  cases (show u=Value.ref b from ry)
  obtain⟨z,hd,xs,rel,dd⟩:=qqb I.hok e
  have hz:xs.length≤sizeLine:=by rw[← Paired.length rel];exact z
  have hl:(qf3 kvs k v).length≤sizeLine:=by have:=qc8 kvs k v;omega
  refine wpAny_setItem_heap (hsz:=hz) (tupleKind_room_in1 hu) (qgD I.hok eb) dd fun h' dd' hs=>h _ ?_
  obtain⟨q,es,ep,hq,h2,h3,h4,_,h5⟩:=dd'
  refine qht I (by rw[e];exact True.intro) hs ⟨q,hq⟩ ⟨hl,hd,_,(rel.put k eb rv).keeps fun c ys ec=>?_,q,es,ep,hq,h2,h3,h4,h5⟩
  rw[qal (qqH ec e (fun z=>nomatch z))]
  exact ec
end
section
variable {X : Cx} {pins : List (Addr × Obj)} {σ : St} {H : Hp} {s : Shared} {a : Addr} {kvs : List (Key × V)} {k : Key} {u : Value} {A : Around} {E : Value → Shared → Prop}
end
def qpy (i:Expr):Prop:=∀ ov iv,subscripted i false ov iv=operate [ov,iv] (getItem ov iv)
theorem qmR {prog:Program}{w:World}{A:Around}{E:Value→Shared→Prop}{s:Shared}{env:Env}{value slice:Expr}{pos:Pos}{T id:String}{Q:Value→Shared→Prop}
  (hl:typeLookup (.type T) "__getitem__"=pure (some (.builtin id))) (hs:qpy slice)
  (h:wpAny (model prog w) A (eval value env) (fun o s₁=>wpAny (model prog w) A (eval slice env) (fun i s₂=>s₂.TypeIs o T∧wpAny (model prog w) A (getItem o i) Q E s₂) E s₁) E s) :
  wpAny (model prog w) A (eval (.Subscript value slice pos) env) Q E s:=by
 refine Subscript_ (wpAny_mono h (fun o s₁ h₁=>wpAny_mono h₁ (fun i s₂ h₂=>?_) fun _ _ x=>x) fun _ _ x=>x)
 obtain⟨hT,h₂⟩:=h₂
 unfold subscriptTail
 refine wpAny_bind ?_
 rw[getitemInPython_of_ne hT.not_modules]
 refine wpAny_bind (wpAny_specialOf hT hl ?_)
 have fin:wpAny (model prog w) A (subscripted slice false o i) (fun r s₃=>wpAny (model prog w) A (letTemporaryGo value o r >>= fun _=>pure r) Q E s₃) E s₂:=by
  rw[hs o i]
  exact wpAny_operating (wpAny_mono h₂ (fun r s₃ h₃=>wpAny_bind (wpAny_letTemporaryGo (wpAny_pure h₃))) fun _ _ x=>x)
 first
  | exact wpAny_pure (wpAny_bind fin)
  | exact wpAny_bind (wpAny_pure (wpAny_bind fin))
  | exact wpAny_bind fin
theorem qha {X:Cx}{pins:List (Addr × Obj)}{σ:St}{H:Hp}{s:Shared}{a:Addr}{y:V}{o:Option V}(I:Inv X pins σ H s)(g:DGet H a y o):s.TypeIs (.ref a) "dict":=by
 rcases g with⟨kvs,k,e,_,_⟩ | ⟨kvs,k,b,e,_,_,_⟩
 ·obtain⟨_,_,vs,_,dd⟩:=qjS I.hok e
  exact dd.typeIs
 ·obtain⟨_,_,xs,_,dd⟩:=qko I.hok e
  exact dd.typeIs
def qqk (td ty:TE):TE:=fun σ H Q=>td σ H fun x H1=>ty σ H1 fun y H2=>∃ a v,x=.ref a∧DGet H2 a y (some v)∧Q v H2
def qrA (ty td:TE):TE:=fun σ H Q=>ty σ H fun y H1=>td σ H1 fun x H2=>∃ a o,x=.ref a∧DGet H2 a y o∧Q (.bl o.isSome) H2
def qmA (ty td:TE):TE:=fun σ H Q=>ty σ H fun y H1=>td σ H1 fun x H2=>∃ a o,x=.ref a∧DGet H2 a y o∧Q (.bl (!o.isSome)) H2
def qqt (td ty tv:TE):TS:=fun D σ H=>tv σ H fun v H1=>td σ H1 fun x H2=>ty σ H2 fun y H3=>∃ a H4,x=.ref a∧DPut H3 a y v H4∧D.nx σ H4
section
variable {X : Cx} {o i e value : Expr} {pos pos' tpos : Pos} {td ty tv : TE}
theorem qkF (hu:X.A.units+1<cLine)(ho:PE X o td)(hi:PE X i ty)(hs:qpy i):PE X (.Subscript o i pos) (qqk td ty):=by
 intro pins s σ H Q I h
 refine qmR PySem.F.slot_dict_getitem.lookup hs (thn (ho pins s σ H _ I h) fun u s1 ⟨x,H1,I1,rx,q1⟩=>thn (hi pins s1 σ H1 _ I1 q1) fun iv s2 ⟨y,H2,I2,ry,a,v,ex,g,q2⟩=>?_)
 subst ex
 obtain rfl:u=Value.ref a:=rx
 exact⟨qha I2 g,qjC hu I2 g ry fun w' s3 I3 rw'=>⟨v,H2,I3,rw',q2⟩⟩
theorem qj8 (hu:X.A.units+1<cLine)(hi:PE X i ty)(ho:PE X o td):PC X .In i o (qrA ty td):=by
 intro pins s σ H Q I h
 refine thn (hi pins s σ H _ I h) fun iv s1 ⟨y,H1,I1,ry,q1⟩=>thn (ho pins s1 σ H1 _ I1 q1) fun u s2 ⟨x,H2,I2,rx,a,ov,ex,g,q2⟩=>?_
 subst ex
 obtain rfl:u=Value.ref a:=rx
 exact qrf hu I2 g ry fun s3 I3=>⟨.bl ov.isSome,H2,I3,rfl,q2⟩
theorem qgo (hu:X.A.units+1<cLine)(hi:PE X i ty)(ho:PE X o td):PC X .NotIn i o (qmA ty td):=by
 intro pins s σ H Q I h
 refine thn (hi pins s σ H _ I h) fun iv s1 ⟨y,H1,I1,ry,q1⟩=>thn (ho pins s1 σ H1 _ I1 q1) fun u s2 ⟨x,H2,I2,rx,a,ov,ex,g,q2⟩=>?_
 subst ex
 obtain rfl:u=Value.ref a:=rx
 exact qmB hu I2 g ry fun s3 I3=>⟨.bl (!ov.isSome),H2,I3,rfl,q2⟩
theorem qhg (hu:X.A.units+1<cLine)(ho:PE X o td)(hi:PE X i ty)(hv:PE X value tv)(hs:swapsWith value (some (.Subscript o i pos')) pos.line X.env=pure false) :
  PS X (.Assign [.Subscript o i pos'] value pos) (qqt td ty tv):=by
 intro pins s σ H D I h
 refine wpAny_Assign_Subscript (thn (hv pins s σ H _ I h) fun r s1 ⟨v,H1,I1,rv,q1⟩=>thn (ho pins s1 σ H1 _ I1 q1) fun u s2 ⟨x,H2,I2,rx,q2⟩=>thn (hi pins s2 σ H2 _ I2 q2) fun iv s3 ⟨y,H3,I3,ry,a,H4,ex,g,q3⟩=>?_) hs
 subst ex
 obtain rfl:u=Value.ref a:=rx
 exact qi7 hu I3 g ry rv fun s4 I4=>⟨σ,H4,I4,q3⟩
end
theorem qhP {P:Program}{w:World}{H:Hp}(h:Heap)(hb:sysModules<h.objs.size):ObjOk P w H (h.push { cls:=.type "dict",data:=.dict #[] }) h.objs.size (.dK []) :=
 ⟨Nat.zero_le _,beq_eq_false_iff_ne.mpr (Ne.symm (Nat.ne_of_lt hb)),[],.nil,Heap.DictOf.new h⟩
theorem qk9 {P:Program}{w:World}{H:Hp}(h:Heap)(hb:sysModules<h.objs.size):ObjOk P w H (h.push { cls:=.type "dict",data:=.dict #[] }) h.objs.size (.dT []) :=
 ⟨Nat.zero_le _,beq_eq_false_iff_ne.mpr (Ne.symm (Nat.ne_of_lt hb)),[],.nil,_,#[],0,Heap.get?_push_size _ rfl,⟨rfl,rfl,rfl⟩,rfl,rfl,List.nodup_nil⟩
def qor:TE:=fun _ H Q=>∀ p,H p=none→Q (.ref p) (upd H p (.dK []))
def qoD:TE:=fun _ H Q=>∀ p,H p=none→Q (.ref p) (upd H p (.dT []))
section
variable {X : Cx} {pos : Pos}
theorem pe_dnewK:PE X (.Dict [] [] pos) qor:=fun pins s σ H Q I h =>
 wpAny_Dict_empty ⟨.ref s.heap.objs.size,_,I.laid (a:=s.heap.objs.size) (o:=.dK []) (t':=s.toks) (fun _ _ q=>Heap.get?_push_of_some _ q) (Nat.le_refl _) (qhP s.heap I.big),rfl,h _ (I.hok.fresh (Nat.le_refl _))⟩
theorem pe_dnewT:PE X (.Dict [] [] pos) qoD:=fun pins s σ H Q I h =>
 wpAny_Dict_empty ⟨.ref s.heap.objs.size,_,I.laid (a:=s.heap.objs.size) (o:=.dT []) (t':=s.toks) (fun _ _ q=>Heap.get?_push_of_some _ q) (Nat.le_refl _) (qk9 s.heap I.big),rfl,h _ (I.hok.fresh (Nat.le_refl _))⟩
end
def qkx:List (TE × TE)→St→Hp→(List (V × V)→Hp→Prop)→Prop
 | [],_,H,Q=>Q [] H
 | (tk,tv)::r,σ,H,Q=>tk σ H fun x H1=>tv σ H1 fun y H2=>qkx r σ H2 fun ps H3=>Q ((x,y)::ps) H3
abbrev VV:List (V × V)→List (Value × Value)→Prop:=Paired fun p q=>RelV p.1 q.1∧RelV p.2 q.2
def PPs (X:Cx)(pos:Pos)(keys:List (Option Expr))(values:List Expr)(trs:List (TE × TE)):Prop :=
 ∀ (pins:List (Addr × Obj)) (s:Shared) (σ:St) (H:Hp) (Q:List (V × V)→Hp→Prop),Inv X pins σ H s→qkx trs σ H Q →
  wpAny (model X.prog X.w) X.A (evalPairs (pairTrees keys values X.env pos)) (fun vs s'=>∃ ps H',Inv X pins σ H' s'∧VV ps vs∧Q ps H') X.xe s
theorem qjX {X:Cx}{pos:Pos}:PPs X pos [] [] []:=fun pins s σ H Q I h=>pairTrees_nil_walk ⟨[],H,I,.nil,h⟩
theorem qhH {X:Cx}{pos:Pos}{k v:Expr}{ks:List (Option Expr)}{vs:List Expr}{tk tv:TE}{trs:List (TE × TE)}(hk:PE X k tk)(hv:PE X v tv)(hr:PPs X pos ks vs trs) :
  PPs X pos (some k::ks) (v::vs) ((tk,tv)::trs):=fun pins s σ H Q I h =>
 pairTrees_cons_walk (thn (hk pins s σ H _ I h) fun u s1 ⟨x,H1,I1,rx,q1⟩=>thn (hv pins s1 σ H1 _ I1 q1) fun w2 s2 ⟨y,H2,I2,ry,q2⟩ =>
  thn (hr pins s2 σ H2 _ I2 q2) fun ws s3 ⟨ps,H3,I3,rel,q3⟩=>⟨(x,y)::ps,H3,I3,.cons ⟨rx,ry⟩ rel,q3⟩)
def qf8 (kvs more:List (Key × V)):List (Key × V):=more.foldl (fun acc kv=>qf3 acc kv.1 kv.2) kvs
theorem KV.merge:∀ {more:List (Key × V)} {rs:List (Key × Value)} {kvs:List (Key × V)} {vs:List (Key × Value)},KV more rs→KV kvs vs→KV (qf8 kvs more) (merged vs rs):=by
 intro more rs kvs vs r
 unfold KV at r
 induction r generalizing kvs vs with
 | nil=>intro q;exact q
 | @cons p q ps qs h t ih =>
  intro r0
  have e:KV (qf3 kvs p.1 p.2) (stored vs q.1 q.2):=by
   have:=r0.put p.1 h.2
   rw[← h.1];exact this
  exact ih e
theorem qds:∀ (more kvs:List (Key × V)),(qf8 kvs more).length≤kvs.length+more.length
 | [],kvs=>by show kvs.length≤kvs.length+0;omega
 | p::r,kvs=>by
  have h1:=qds r (qf3 kvs p.1 p.2)
  have h2:=qc8 kvs p.1 p.2
  show (qf8 (qf3 kvs p.1 p.2) r).length≤_
  rw[List.length_cons];omega
theorem qfh {P:Program}{w:World}:∀ {kvs:List (Key × V)} {ws:List (Value × Value)},VV (kvs.map fun kv=>(kV kv.1,kv.2)) ws→∃ rs,Carries (qbf P w) ws rs∧KV kvs rs
 | [],_,r=>by rw[List.map_nil] at r;cases r;exact⟨[],True.intro,.nil⟩
 | p::kvs,_,r=>by
  rw[List.map_cons] at r
  cases r with
  | @cons a b as bs h t =>
   obtain⟨rs,c,q⟩:=qfh (P:=P) (w:=w) t
   obtain⟨b1,b2⟩:=b
   exact⟨(p.1,b2)::rs,⟨qiO h.1,rfl,c⟩,.cons ⟨rfl,h.2⟩ q⟩
def qon (trs:List (TE × TE)):TE:=fun σ H Q=>∀ p,H p=none→qkx trs σ (upd H p (.dK [])) fun ps H2=>H2 p=some (.dK [])∧∃ kvs:List (Key × V),ps=kvs.map (fun kv=>(kV kv.1,kv.2))∧kvs.length≤15∧Q (.ref p) (upd H2 p (.dK (qf8 [] kvs)))
theorem qkh {X:Cx}{pos:Pos}{keys:List (Option Expr)}{values:List Expr}{trs:List (TE × TE)}(h:PPs X pos keys values trs)(hall:keys.all (·.isSome)=true)(hl:keys.length=values.length)(h0:keys≠[])
  (h15:keys.length≤15):PE X (.Dict keys values pos) (qon trs):=by
 intro pins s σ H Q I q
 have hn:=I.hok.fresh (Nat.le_refl s.heap.objs.size)
 have I1:=I.laid (a:=s.heap.objs.size) (o:=.dK []) (h':=s.heap.push { cls:=.type "dict",data:=.dict #[] }) (t':=s.toks) (fun _ _ q=>Heap.get?_push_of_some _ q) (Nat.le_refl _) (qhP s.heap I.big)
 refine wpAny_Dict_walk (knd:=qbf X.prog X.w) hall hl h0 h15 (thn (h pins _ σ _ _ I1 (q _ hn)) fun ws s2 ⟨ps,H2,I2,rel,e,kvs,ep,lk,q2⟩=>?_)
 subst ep
 obtain⟨rs,c,rk⟩:=qfh (P:=X.prog) (w:=X.w) rel
 obtain⟨z,hd,vs0,r0,dd⟩:=qms I2.hok e
 cases r0
 refine⟨rs,c,dd,fun h' dd' hs=>⟨.ref s.heap.objs.size,_,?_,rfl,q2⟩⟩
 have hz:(qf8 [] kvs).length≤sizeLine:=by
  have h1:=qds kvs []
  rw[List.length_nil] at h1
  rw[sizeLine_eq];omega
 have he:∃ q,h'.get? s.heap.objs.size=some q:=let ⟨q,_,_,hq,_⟩:=dd';⟨q,hq⟩
 exact qht I2 (by rw[e];exact True.intro) hs he (ql8 hz hd (rk.merge .nil) dd')
end L2
set_option maxHeartbeats 4000000
namespace L2
open PySem PySem.Spec PyProof.Rows
theorem qiC {env:Env}(names:List (Str × NameKind))(hf:∀ x∈names,x.2=.free→∃ c,env.cells.lookup x.1=some c):∀ acc:List (Str × Addr),
  ∃ cl:List (Str × Addr),(forIn names acc (fun (x:Str × NameKind) cs=>if (x.2 == .free)=true then do let a ← cellOf env x.1;pure (ForInStep.yield ((x.1,a)::cs)) else pure (ForInStep.yield cs)):Sem (List (Str × Addr)))=pure cl ∧
   (∀ p∈cl,p∈acc∨env.cells.lookup p.1=some p.2)∧(∀ p∈acc,p∈cl)∧∀ x,(x,NameKind.free)∈names→∃ c,(x,c)∈cl:=by
 induction names with
 | nil=>intro acc;exact⟨acc,rfl,fun p hp=>.inl hp,fun _ hp=>hp,fun x hx=>by simp at hx⟩
 | cons n r ih =>
  intro acc
  obtain⟨n,k⟩:=n
  have hr:∀ x∈r,x.2=.free→∃ c,env.cells.lookup x.1=some c:=fun x hx=>hf x (List.mem_cons_of_mem _ hx)
  by_cases hk:k=.free
  ·subst hk
   obtain⟨c,hc⟩:=hf (n,.free) List.mem_cons_self rfl
   obtain⟨cl,e,h1,h2,h3⟩:=ih hr ((n,c)::acc)
   refine⟨cl,?_,fun p hp=>?_,fun p hp=>h2 p (List.mem_cons_of_mem _ hp),fun x hx=>?_⟩
   ·rw[List.forIn_cons,← e]
    have q:cellOf env n=pure c:=by unfold cellOf;rw[hc]
    simp [q]
   ·rcases h1 p hp with z | z
    ·rcases List.mem_cons.mp z with rfl | z
     ·exact .inr hc
     ·exact .inl z
    ·exact .inr z
   ·rcases List.mem_cons.mp hx with z | z
    ·cases z;exact⟨c,h2 _ List.mem_cons_self⟩
    ·exact h3 x z
  ·obtain⟨cl,e,h1,h2,h3⟩:=ih hr acc
   refine⟨cl,?_,h1,h2,fun x hx=>?_⟩
   ·rw[List.forIn_cons,← e]
    have q:(k == NameKind.free)=false:=by simpa using hk
    simp [q]
   ·rcases List.mem_cons.mp hx with z | z
    ·cases z;exact absurd rfl hk
    ·exact h3 x z
theorem qfS {cl:List (Str × Addr)}{cells:List (Str × Addr)}(h:∀ p∈cl,cells.lookup p.1=some p.2):∀ x c,cl.lookup x=some c→cells.lookup x=some c:=fun x c e=>h (x,c) (PySem.mem_of_lookup e)
theorem qin {cl:List (Str × Addr)}{x:Str}{c:Addr}:(x,c)∈cl→∃ c',cl.lookup x=some c':=by
 induction cl with
 | nil=>intro h;simp at h
 | cons p r ih =>
  intro h
  rw[List.lookup_cons]
  cases e:x == p.1 with
  | true=>exact⟨_,rfl⟩
  | false =>
   rcases List.mem_cons.mp h with z | z
   ·subst z;simp at e
   ·exact ih z
theorem qfs {scope:Scope}{env:Env}(hf:∀ x∈scope.names,x.2=.free→∃ c,env.cells.lookup x.1=some c) :
  ∃ cl,closureFor scope env=pure cl∧(∀ x c,cl.lookup x=some c→env.cells.lookup x=some c)∧∀ x,(x,NameKind.free)∈scope.names→∃ c,cl.lookup x=some c:=by
 obtain⟨cl,e,h1,_,h3⟩:=qiC (env:=env) scope.names hf []
 refine⟨cl,?_,qfS fun p hp=>(h1 p hp).elim (fun z=>by simp at z) id,fun x hx=>?_⟩
 ·unfold closureFor
  simp only
  rw[← e]
  simp
 ·obtain⟨c,hc⟩:=h3 x hx
  exact qin hc
theorem qdc {env:Env}:∀ {names:List (Str × NameKind)} {x:Str} {k:NameKind},
  (names.map fun (n,k)=>if (k == NameKind.free && env.scope.kind == .function && env.kindOf n == some .cell) then (n,NameKind.cell) else (n,k)).lookup x=some k→(k=.cell∨k=.free)→(x,NameKind.free)∈names∨(x,NameKind.cell)∈names
 | [],_,_,h,_=>by simp at h
 | (n,k)::r,x,kk,h,hk=>by
  have ih:=@qdc env r x kk
  have h:List.lookup x ((if (k == NameKind.free && env.scope.kind == .function && env.kindOf n == some .cell)=true then (n,NameKind.cell) else (n,k))::_)=_:=h
  by_cases hb:(k == NameKind.free && env.scope.kind == .function && env.kindOf n == some .cell)=true
  ·rw[if_pos hb] at h
   have kf:k=.free:=by
    simp only [Bool.and_eq_true,beq_iff_eq] at hb
    exact hb.1.1
   rw[List.lookup_cons] at h
   cases e:x == n with
   | true =>
    have:x=n:=by simpa using e
    subst this;subst kf
    exact .inl List.mem_cons_self
   | false =>
    simp only [e] at h
    exact (ih h hk).imp (List.mem_cons_of_mem _) (List.mem_cons_of_mem _)
  ·rw[if_neg hb] at h
   rw[List.lookup_cons] at h
   cases e:x == n with
   | true =>
    have kk':k=kk:=by simpa [e] using h
    have:x=n:=by simpa using e
    subst this
    subst kk'
    rcases hk with rfl | rfl
    ·exact .inr List.mem_cons_self
    ·exact .inl List.mem_cons_self
   | false =>
    simp only [e] at h
    exact (ih h hk).imp (List.mem_cons_of_mem _) (List.mem_cons_of_mem _)
def qbl (X:Cx)(scope:Scope)(N':List Str)(cl:List (Str × Addr))(C:Addr)(s0:Shared)(H0:Hp)(fp:List Addr):Cx where
 prog:=X.prog
 w:=X.w
 K:=X.K
 mg:=X.mg
 base:=X.base
 A:=X.A
 N:=N'
 s₀:=s0
 H₀:=H0
 env:=compEnvC scope cl C X.env
 outer:=X.stack
 stack:=X.stack
 ex:=fp
 fn:=fun x=>scope.names.lookup x == some .cell
 calm:=X.calm
 pn:=[]
 xe:=fun _ _=>False
def qdB (cap:List (Option Nat))(σ:St):St:=cap.map fun o=>o.bind fun i=>(σ[i]?).join
structure CompScope (N:List Str)(sc scope:Scope)(N':List Str)(cap:List (Option Nat)):Prop where
 kind:scope.kind=.function
 cel:∀ x∈scope.names,x.2=.cell→scope.names.lookup x.1=some .cell
 names:∀ x∈scope.names,x.2=.local→scope.names.lookup x.1=some .local
 free:∀ x∈scope.names,x.2=.free→sc.names.lookup x.1=some .cell
 fst:∀ x∈scope.names,x.2=.free→scope.names.lookup x.1=some .free
 nd:N'.Nodup
 len:cap.length=N'.length
 at_:∀ p∈cap.zip N',∀ i,p.1=some i→N[i]?=some p.2∧(p.2,NameKind.free)∈scope.names
def qoA (X:Cx)(ifs:List Expr)(t:TT):Prop :=
 ∀ (pins:List (Addr × Obj)) (s:Shared) (σ:St) (H:Hp) (Q:Bool→Hp→Prop),Inv X pins σ H s→t σ H Q →
  wpAny (model X.prog X.w) X.A (forIn ifs true fun c r=>if r=true then do let ok ← isTrue c X.env (eval c X.env);pure (ForInStep.yield ok) else pure (ForInStep.yield r)) (TP X pins σ Q) X.xe s
def qrm:TT:=fun _ H Q=>Q true H
theorem qk0 {X:Cx}:qoA X [] qrm:=fun _ _ _ H _ I h=>wpAny_tests_nil ⟨H,I,h⟩
theorem qlm {X:Cx}{c:Expr}{t:TT}(h:PT X c t):qoA X [c] t:=fun pins s σ H Q I hw=>wpAny_tests_one (h pins s σ H Q I hw)
def qlQ (wi:TI)(cap:List (Option Nat))(g:TG)(tc:TT)(te:TE):TE:=fun σ H Q=>wi σ H fun J H1=>∀ D,H1 D=none→∃ W:Nat→Nat→St→Hp→Prop,(∃ m,W 0 m (qdB cap σ) (upd H1 D (.lst []))) ∧
 ∀ i m σ' H',W i m σ' H'→(J.stop i H'∧Q (.ref D) H')∨(J.go i H'∧∃ N:St→Hp→Prop,(∀ σ2 H2,N σ2 H2→∃ m',m'<m∧W (i+1) m' σ2 H2) ∧
  ∀ x H2,J.yld i H' x H2→g x σ' H2 fun σ3 H3=>tc σ3 H3 fun b H4=>if b=true then te σ3 H4 fun y H5=>∃ ys,H5 D=some (.lst ys)∧ys.length<sizeLine∧N σ3 (upd H5 D (.lst (ys++[y]))) else N σ3 H4)
theorem qg5 {prog:Program}{w:World}{A:Around}{R:Result→Shared→Prop}{s:Shared}{elt target iter:Expr}{ifs:List Expr}{scope:Scope}{pos:Pos}{it acc:Value}{env:Env}(I:Nat→Shared→Prop)
  (turn:∀ n s,I n s→wpAny (model prog w) A (pyNext it) (fun r s₁=>match r with
   | none=>R (.ok .next) s₁
   | some v=>wpAny (model prog w) A (letOwnedTupleGo target it v) (fun _ s₁'=>wpAny (model prog w) A (assign target env v) (fun _ s₂ =>
     wpAny (model prog w) A (forIn ifs true fun c r=>if r=true then do let ok ← isTrue c env (eval c env);pure (ForInStep.yield ok) else pure (ForInStep.yield r)) (fun ok s₃ =>
      if ok=true then wpAny (model prog w) A (eval elt env) (fun x s₄ =>
       wpAny (model prog w) A (call (.builtin "list.append") [acc,x]) (fun _ s₅=>∃ m,m<n∧I m s₅) (fun _ _=>False) s₄) (fun _ _=>False) s₃
      else ∃ m,m<n∧I m s₃) (fun _ _=>False) s₂) (fun _ _=>False) s₁') (fun _ _=>False) s₁) (fun _ _=>False) s)
  (n:Nat) (h:I n s):codeAny (model prog w) A (.compLoop (.ListComp elt [⟨target,iter,ifs,0⟩] scope pos) 0 it acc env) R s:=by
 refine codeAny_loop rfl I (fun n s hI=>?_) n h
 show wpAny _ A ((compTurn (.ListComp elt [⟨target,iter,ifs,0⟩] scope pos) 0 it acc env).onRaise (fun x=>do noteFrame x env;theTreesLotGoes x)) _ _ s
 refine wpAny_noted ?_
 rw[compTurn_list]
 refine wpAny_bind (wpAny_standAt (wpAny_bind (wpAny_mono (turn n s hI) (fun r s₁ h₁=>?_) fun _ _ h'=>h'.elim)))
 cases r with
 | none=>exact wpAny_pure h₁
 | some v =>
  refine wpAny_bind (wpAny_mono h₁ (fun _ s₁' h₁'=>?_) fun _ _ h'=>h'.elim)
  refine wpAny_bind (wpAny_mono h₁' (fun _ s₂ h₂=>wpAny_bind (wpAny_mono h₂ (fun ok s₃ h₃=>?_) fun _ _ h'=>h'.elim)) fun _ _ h'=>h'.elim)
  cases ok with
  | false=>exact wpAny_pure ⟨rfl,h₃⟩
  | true =>
   exact wpAny_bind (wpAny_bind (wpAny_mono h₃ (fun x s₄ h₄=>wpAny_bind (wpAny_mono h₄ (fun _ s₅ h₅=>wpAny_pure (wpAny_pure ⟨rfl,h₅⟩)) fun _ _ h'=>h'.elim)) fun _ _ h'=>h'.elim))
section
variable {X : Cx} {elt tg iter : Expr} {ifs : List Expr} {scope : Scope} {pos : Pos} {N' : List Str} {cap : List (Option Nat)} {wi : TI} {g : TG} {tc : TT} {te : TE}
theorem qbs:∀ (names:List (Str × NameKind)) (n:Nat) (acc:List (Str × Addr)),cellsFrom n names acc=cellsFrom n names []++acc
 | [],_,_=>rfl
 | (x,k)::r,n,acc=>by
  unfold cellsFrom
  split
  ·rw[qbs r (n+1) ((x,n)::acc),qbs r (n+1) [(x,n)],List.append_assoc];rfl
  ·exact qbs r n acc
theorem qcx:∀ (names:List (Str × NameKind)) (n:Nat) {x:Str} {c:Addr},(x,c)∈cellsFrom n names []→(x,NameKind.cell)∈names
 | [],_,_,_,h=>by simp [cellsFrom] at h
 | (y,k)::r,n,x,c,h=>by
  unfold cellsFrom at h
  split at h
  ·rename_i hk
   rw[qbs] at h
   rcases List.mem_append.mp h with h | h
   ·exact List.mem_cons_of_mem _ (qcx r _ h)
   ·have e:=List.mem_singleton.mp h
    cases e
    have:k=.cell:=by simpa using hk
    subst this
    exact List.mem_cons_self
  ·exact List.mem_cons_of_mem _ (qcx r _ h)
theorem qlN {M:Model}{A:Around}{E:Value→Shared→Prop}{s:Shared}{globals:Addr}{cl:List (Str × Addr)}{qual:Str}{outer:Env}{Q:Env→Shared→Prop}
  (hQ:∀ h',h'.Ns s.heap.objs.size (fun _=>none)→(∀ b o,s.heap.get? b=some o→h'.get? b=some o)→CellsOk h' (s.heap.objs.size+1) (cellsFrom (s.heap.objs.size+1) scope.names []) →
   Q { scope:=scope,locals:=s.heap.objs.size,globals:=globals,cells:=cellsFrom (s.heap.objs.size+1) scope.names []++cl,qual:=qual,func:=none,code:=outer.code,frame:=outer.frame,builtins:=outer.builtins } { s with heap:=h' }) :
  wpAny M A (newFunctionEnv scope globals cl [] qual none .none (some outer)) Q E s:=by
 simp only [newFunctionEnv,Option.isSome_some,if_true]
 refine wpAny_bind (wpAny_alloc ?_)
 refine wpAny_bind (wpAny_layCells _ (fun name kind cells=>by cases hkc:kind == NameKind.cell <;> simp [hkc]) _ _ _ _ ?_)
 have ok:=cellsFrom_ok scope.names (s.heap.push { cls:=.type "dict",data:=.dict #[] }) (s.heap.objs.size+1) [] ⟨fun _ _ hm=>(nomatch hm),List.Pairwise.nil⟩ (by rw[Heap.size_push];exact Nat.le_refl _)
 rw[Heap.size_push] at ok
 rw[show ({ s with heap:=s.heap.push { cls:=.type "dict",data:=.dict #[] } }:Shared).heap.objs.size=s.heap.objs.size+1 from Heap.size_push ..,qbs]
 refine wpAny_bind ?_
 rw[List.forIn_nil]
 exact wpAny_pure (wpAny_pure (hQ _ ((Heap.Ns.new s.heap (.type "dict")).keeps (pushCells_keeps _ _)) (fun b o e=>pushCells_keeps _ _ b o (Heap.get?_push_of_some _ e)) ok))
theorem qk7 {pins:List (Addr × Obj)}{σ:St}{H:Hp}{s s4:Shared}{cl nw:List (Str × Addr)}{C:Addr}{fp:List Addr}{m:Str→Option Value}(S:CompScope X.N X.env.scope scope N' cap)(I:Inv X pins σ H s)
  (hcl:∀ x c,cl.lookup x=some c→X.env.cells.lookup x=some c) (hfr:∀ x,(x,NameKind.free)∈scope.names→∃ c,cl.lookup x=some c) (hC:s.heap.objs.size≤C) (hos:s4.os=s.os) (hg:s4.gens=s.gens)
  (hk:∀ b o,s.heap.get? b=some o→s4.heap.get? b=some o) (hn:s4.heap.Ns C m) (hfp:∀ b∈fp,qhx X pins H b) (hfz:∀ b∈fp,b<s.heap.objs.size) (hw:CellsOk s4.heap (C+1) nw) (hwm:∀ x c,(x,c)∈nw→(x,NameKind.cell)∈scope.names) (hwl:∀ x,(x,NameKind.cell)∈scope.names→∃ c,nw.lookup x=some c) :
  Inv (qbl X scope N' (nw++cl) C s H fp) [] (qdB cap σ) H s4:=by
 have hlk:∀ x c,(nw++cl).lookup x=some c→((x,c)∈nw∧C<c)∨(nw.lookup x=none∧X.env.cells.lookup x=some c):=fun x c h=>by
  rw[List.lookup_append] at h
  cases e:nw.lookup x with
  | none=>rw[e] at h;exact .inr ⟨rfl,hcl x c (by simpa using h)⟩
  | some c' =>
   rw[e] at h
   have:c'=c:=by simpa using h
   subst this
   exact .inl ⟨PySem.mem_of_lookup e,(hw.empty _ _ (PySem.mem_of_lookup e)).2⟩
 have hold:∀ x c,X.env.cells.lookup x=some c→c<s.heap.objs.size:=fun x c h=>by obtain⟨v,q⟩:=I.cell x c h;exact q.lt
 have hfr':∀ x,(x,NameKind.free)∈scope.names→∃ c,(nw++cl).lookup x=some c∧X.env.cells.lookup x=some c:=fun x hx=>by
  obtain⟨c,hc⟩:=hfr x hx
  refine⟨c,?_,hcl x c hc⟩
  rw[List.lookup_append]
  cases e:nw.lookup x with
  | none=>simpa using hc
  | some c' =>
   have a1:=S.cel _ (hwm x c' (PySem.mem_of_lookup e)) rfl
   have a2:=S.fst _ hx rfl
   have a1:scope.names.lookup x=some .cell:=a1
   have a2:scope.names.lookup x=some .free:=a2
   rw[a1] at a2;cases a2
 refine⟨⟨I.ok.mod,S.kind,I.ok.glob,I.ok.blt,hC,fun x y c h1 h2=>?_,fun x hx=>?_,fun x c hx h=>?_,I.ok.hd,I.ok.frames,.inl rfl,
   fun b hb=>⟨Nat.ne_of_lt (Nat.lt_of_lt_of_le (hfz b hb) hC),fun x c e=>?_⟩,I.bs,Nat.le_trans I.ok.bsz I.sz,fun b o e hb=>?_,fun b hb hf=>?_,I.stack,I.stkFree⟩,
  hos,by rw[hg];exact I.bare,Un.kept hk,⟨m,hn,fun i x v h1 h2 h3=>?_⟩,fun x c e=>?_,I.hok.fresh hC,fun x c e=>?_,fun p hp=>absurd (show p∈([]:List (Addr × Obj)) from hp) (by simp),I.hok.kept hk,?_⟩
 ·rcases hlk x c h1 with⟨a1,a2⟩ | ⟨_,a2⟩ <;> rcases hlk y c h2 with⟨b1,b2⟩ | ⟨_,b2⟩
  ·exact name_of_addr hw.apart a1 b1
  ·exact absurd (hold y c b2) (Nat.not_lt.mpr (Nat.le_trans hC (Nat.le_of_lt a2)))
  ·exact absurd (hold x c a2) (Nat.not_lt.mpr (Nat.le_trans hC (Nat.le_of_lt b2)))
  ·exact I.ok.inj x y c a2 b2
 ·have q:(x,NameKind.free)∈scope.names∨(x,NameKind.cell)∈scope.names:=by
   rcases hx with hx | hx
   ·exact qdc hx (.inl rfl)
   ·exact qdc hx (.inr rfl)
  rcases q with q | q
  ·obtain⟨c,h,_⟩:=hfr' x q
   exact⟨c,h⟩
  ·obtain⟨c,h⟩:=hwl x q
   exact⟨c,by show (nw++cl).lookup x=_;rw[List.lookup_append,h];rfl⟩
 ·have hx:(scope.names.lookup x == some .cell)=true:=hx
  have hx:scope.names.lookup x=some .cell:=by simpa using hx
  obtain⟨c',h'⟩:=hwl x (PySem.mem_of_lookup hx)
  rcases hlk x c h with⟨_,a2⟩ | ⟨a1,_⟩
  ·exact Nat.le_trans hC (Nat.le_of_lt a2)
  ·rw[h'] at a1;cases a1
 ·rcases hlk x c e with⟨_,a2⟩ | ⟨_,a2⟩
  ·exact fun z=>absurd (hfz b hb) (Nat.not_lt.mpr (Nat.le_trans hC (by rw[← z];exact Nat.le_of_lt a2)))
  ·exact (hfp b hb).2.2.2.2.1 x c a2
 ·rcases (hfp b hb).2.2.2.1 with z | z
  ·exact I.ok.noex b o e z
  ·exact absurd (Nat.lt_of_lt_of_le (Heap.lt_size e) (Nat.le_trans I.ok.bsz z)) (Nat.lt_irrefl _)
 ·rcases List.mem_cons.mp (I.stkSub b hf) with z | z
  ·exact (hfp b hb).2.1 z
  ·exact (hfp b hb).2.2.1 z
 ·have h2:(cap.map fun o=>o.bind fun i=>(σ[i]?).join)[i]?=some (some v):=h2
  rw[List.getElem?_map] at h2
  cases ec:cap[i]? with
  | none=>rw[ec] at h2;cases h2
  | some o =>
   rw[ec] at h2
   have h2:(o.bind fun i=>(σ[i]?).join)=some v:=by simpa using h2
   cases o with
   | none=>cases h2
   | some j =>
    have h2:(σ[j]?).join=some v:=h2
    have hj:σ[j]?=some (some v):=by
     cases ej:σ[j]? with
     | none=>rw[ej] at h2;cases h2
     | some y=>rw[ej] at h2;exact congrArg some h2
    have hz:(cap.zip N')[i]?=some (some j,x):=by rw[List.getElem?_zip_eq_some];exact⟨ec,h1⟩
    obtain⟨q1,q2⟩:=S.at_ _ (List.mem_of_getElem? hz) j rfl
    obtain⟨mx,hnx,hl⟩:=I.loc
    have kc:=S.free _ q2 rfl
    obtain⟨u,r,lk⟩:=hl j x v q1 hj (.inr (.inl kc))
    refine⟨u,r,?_⟩
    rcases lk with⟨k1,_⟩ | ⟨_,c,e,z⟩
    ·have:X.env.scope.names.lookup x=some .local:=k1
     rw[kc] at this;cases this
    ·obtain⟨c',hc',hd'⟩:=hfr' x q2
     rw[e] at hd';cases hd'
     have kx:(compEnvC scope (nw++cl) C X.env).kindOf x=some .cell∨(compEnvC scope (nw++cl) C X.env).kindOf x=some .free∨(compEnvC scope (nw++cl) C X.env).kindOf x=some .local:=by
      rcases h3 with z | z | z
      ·exact .inr (.inr z)
      ·exact .inl z
      ·exact .inr (.inl z)
     rcases kx with kx | kx | kx
     ·exact .inr ⟨.inl kx,c,hc',let ⟨o,ho,hd⟩:=z;⟨o,hk c o ho,hd⟩⟩
     ·exact .inr ⟨.inr kx,c,hc',let ⟨o,ho,hd⟩:=z;⟨o,hk c o ho,hd⟩⟩
     ·exfalso
      have kl:(relabel scope X.env).names.lookup x=some .local:=kx
      have ml:=PySem.mem_of_lookup kl
      obtain⟨⟨n,k⟩,hm,e2⟩:=List.mem_map.mp ml
      have e2:(if (k == NameKind.free && X.env.scope.kind == .function && X.env.kindOf n == some .cell)=true then (n,NameKind.cell) else (n,k))=(x,NameKind.local):=e2
      split at e2
      ·cases e2
      ·cases e2
       have a1:=S.names _ hm rfl
       have a3:scope.names.lookup x=some .free:=S.fst _ q2 rfl
       have a1:scope.names.lookup x=some .local:=a1
       rw[a3] at a1;cases a1
 ·rcases hlk x c e with⟨a1,_⟩ | ⟨_,a2⟩
  ·exact⟨none,(hw.empty x c a1).1⟩
  ·obtain⟨v,o,ho,hd⟩:=I.cell x c a2
   exact⟨v,o,hk c o ho,hd⟩
 ·rcases hlk x c e with⟨_,a2⟩ | ⟨_,a2⟩
  ·exact I.hok.fresh (Nat.le_trans hC (Nat.le_of_lt a2))
  ·exact I.freeC x c a2
 ·show (qdB cap σ).length=N'.length
  unfold qdB
  rw[List.length_map,S.len]
theorem qiF {pins:List (Addr × Obj)}{σ:St}{H2:Hp}{s2:Shared}{it:Addr}{fp:List Addr}{tn:Nat→Heap→Prop}{J:It}{cl:List (Str × Addr)}{RR:Value→Addr→Result→Shared→Prop}{E:Value→Shared→Prop}(hcalm:X.calm=true)(S:CompScope X.N X.env.scope scope N' cap)
  (hg:∀ (cl:List (Str × Addr)) (C:Addr) (s0:Shared) (H0:Hp),PG (qbl X scope N' cl C s0 H0 fp) tg g) (ht:∀ (cl:List (Str × Addr)) (C:Addr) (s0:Shared) (H0:Hp),qoA (qbl X scope N' cl C s0 H0 fp) ifs tc) (he:∀ (cl:List (Str × Addr)) (C:Addr) (s0:Shared) (H0:Hp),PE (qbl X scope N' cl C s0 H0 fp) elt te)
  (I2:Inv X pins σ H2 s2) (T:Turn X.prog X.w X.K tg J fp it tn) (st2:tn 0 s2.heap) (f2:∀ b∈fp,qhx X pins H2 b)
  (hcl:∀ x c,cl.lookup x=some c→X.env.cells.lookup x=some c) (hfr:∀ x,(x,NameKind.free)∈scope.names→∃ c,cl.lookup x=some c)
  {P:V→Hp→Prop}
  (w:∀ D,H2 D=none→∃ W:Nat→Nat→St→Hp→Prop,(∃ m,W 0 m (qdB cap σ) (upd H2 D (.lst []))) ∧
   ∀ i m σ' H',W i m σ' H'→(J.stop i H'∧P (.ref D) H')∨(J.go i H'∧∃ N:St→Hp→Prop,(∀ σ2 H2,N σ2 H2→∃ m',m'<m∧W (i+1) m' σ2 H2) ∧
    ∀ x H2,J.yld i H' x H2→g x σ' H2 fun σ3 H3=>tc σ3 H3 fun b H4=>if b=true then te σ3 H4 fun y H5=>∃ ys,H5 D=some (.lst ys)∧ys.length<sizeLine∧N σ3 (upd H5 D (.lst (ys++[y]))) else N σ3 H4))
  (hRR:∀ D C H' s' m',X.env.locals≠C→X.s₀.heap.objs.size≤C→(∀ x c,X.env.cells.lookup x=some c→c≠C)→(∀ p∈X.pn++pins,p.1≠C)→H' C=none→s'.heap.Ns C m'→Inv X pins σ H' s'→P (.ref D) H'→RR (.ref D) C (.ok .next) s') :
  wpAny (model X.prog X.w) X.A (newList []) (fun acc s₃=>wpAny (model X.prog X.w) X.A (newFunctionEnv scope X.env.globals cl [] X.env.qual none .none (some X.env)) (fun cenv s₄ =>
   codeAny (model X.prog X.w) X.A (.compStart (.ListComp elt [⟨tg,iter,ifs,0⟩] scope pos) 0 (.ref it) acc { cenv with scope:=relabel scope X.env }) (RR acc cenv.locals) s₄) E s₃) E s2:=by
 refine wpAny_newObj_type ?_ (by show 0≤sizeLine;decide)
 have I3:Inv X pins σ (upd H2 s2.heap.objs.size (.lst [])) { s2 with heap:=s2.heap.push { cls:=.type "list",data:=.seq ([]:List Value).toArray } }:=I2.lnew (t':=s2.toks) .nil (by show 0≤sizeLine;decide)
 have k3:∀ b o,s2.heap.get? b=some o→(s2.heap.push { cls:=.type "list",data:=.seq ([]:List Value).toArray }).get? b=some o:=fun b o e=>Heap.get?_push_of_some _ e
 have z3:(s2.heap.push { cls:=.type "list",data:=.seq ([]:List Value).toArray }).objs.size=s2.heap.objs.size+1:=Heap.size_push ..
 have hD0:H2 s2.heap.objs.size=none:=I2.fresh
 generalize hs3:({ s2 with heap:=s2.heap.push { cls:=.type "list",data:=.seq ([]:List Value).toArray } }:Shared)=s3 at I3 ⊢
 have eh3:s3.heap=s2.heap.push { cls:=.type "list",data:=.seq ([]:List Value).toArray }:=by rw[← hs3]
 have eo3:s3.os=s2.os:=by rw[← hs3]
 generalize hDD:s2.heap.objs.size=D at I3 hD0 z3 ⊢
 rw[← eh3] at k3 z3
 have live:∀ b∈fp,∃ o,s2.heap.get? b=some o∧∀ v,o.data≠.cell v:=fun b hb=>T.obj 0 _ st2 b hb
 have ltD:∀ b∈fp,b<D:=fun b hb=>by obtain⟨o,e,_⟩:=live b hb;rw[← hDD];exact Heap.lt_size e
 have f3:∀ b∈fp,qhx X pins (upd H2 D (.lst [])) b:=fun b hb=>⟨by rw[qal (Nat.ne_of_lt (ltD b hb))];exact (f2 b hb).1,(f2 b hb).2⟩
 refine qlN fun h4 hn4 k4 ok4=>?_
 generalize hnw:cellsFrom (s3.heap.objs.size+1) scope.names []=nw at ok4 ⊢
 have st4:tn 0 h4:=T.keep 0 _ _ st2 fun b _ o e=>k4 b o (k3 b o e)
 have I4:Inv (qbl X scope N' (nw++cl) s3.heap.objs.size s3 (upd H2 D (.lst [])) fp) [] (qdB cap σ) (upd H2 D (.lst [])) { s3 with heap:=h4 } :=
  qk7 S I3 hcl hfr (Nat.le_refl _) rfl rfl k4 hn4 f3 (fun b hb=>by rw[z3];exact Nat.lt_succ_of_lt (ltD b hb)) ok4 (fun x c h=>qcx _ _ (hnw ▸ h)) fun x h=>hnw ▸ qfu (S.cel _ h rfl)
 obtain⟨W,⟨m0,w0⟩,turn⟩:=w D hD0
 have fpY:∀ {H':Hp},(∀ b∈fp,H' b=none)→∀ b∈fp,qhx (qbl X scope N' (nw++cl) s3.heap.objs.size s3 (upd H2 D (.lst [])) fp) [] H' b:=fun hn b hb =>
  ⟨hn b hb,Nat.ne_of_lt (by show b<s3.heap.objs.size;rw[z3];exact Nat.lt_succ_of_lt (ltD b hb)),fun hf=>I4.ok.exfs b hb hf,.inl hb,fun x c e=>(I4.ok.exf b hb).2 x c e,fun p hp=>absurd (show p∈([]:List (Addr × Obj)) from hp) (by simp)⟩
 have loop:∀ s₃:Shared,s₃={ s3 with heap:=h4 } →
   codeAny (model X.prog X.w) X.A (.compLoop (.ListComp elt [⟨tg,iter,ifs,0⟩] scope pos) 0 (.ref it) (.ref D) (compEnvC scope (nw++cl) s3.heap.objs.size X.env)) (RR (.ref D) s3.heap.objs.size) s₃:=by
  rintro s₃ rfl
  refine qg5 (fun n s'=>∃ i σ' H',Inv (qbl X scope N' (nw++cl) s3.heap.objs.size s3 (upd H2 D (.lst [])) fp) [] σ' H' s'∧tn i s'.heap∧(∀ b∈fp,H' b=none)∧W i n σ' H') ?_ m0
   ⟨0,qdB cap σ,upd H2 D (.lst []),I4,st4,fun b hb=>(f3 b hb).1,w0⟩
  rintro n s5 ⟨i,σ5,H5,I5,st5,fr5,w5⟩
  rcases turn i n σ5 H5 w5 with⟨stop,qn⟩ | ⟨go,N,hN,step⟩
  ·refine thn (T.done (qbl X scope N' (nw++cl) s3.heap.objs.size s3 (upd H2 D (.lst [])) fp) rfl rfl rfl hcalm i [] s5 σ5 H5 _ I5 (fpY fr5) st5 stop) fun r s6 hq0=>?_
   obtain⟨hr,I6⟩:=hq0
   subst hr
   obtain⟨m6,hn6,_⟩:=I6.loc
   have un:Un (frs X.stack) fp (upd H2 D (.lst [])) H5 s3.heap s6.heap:=I6.base
   refine hRR D s3.heap.objs.size H5 s6 m6 (Nat.ne_of_lt I3.lt) I3.sz (fun x c e=>?_) (fun p hp=>?_) I6.free hn6 ?_ qn
   ·obtain⟨v,q⟩:=I3.cell x c e
    exact Nat.ne_of_lt q.lt
   ·exact Nat.ne_of_lt (Heap.lt_size (I3.pin p hp).1)
   ·exact I3.call' I6.os un I6.hok I6.bare fun b hb=>⟨(f3 b hb).2.2.2.1,(f3 b hb).2.1,(f3 b hb).2.2.2.2.1,(f3 b hb).2.2.2.2.2⟩
  ·refine thn (T.item (qbl X scope N' (nw++cl) s3.heap.objs.size s3 (upd H2 D (.lst [])) fp) rfl rfl rfl hcalm i [] s5 σ5 H5 (fun _ _=>False) I5 (fpY fr5) st5 go) fun r s6 hq1=>?_
   obtain⟨u,hr,h6⟩:=hq1
   subst hr
   refine thn h6 fun _ s7 hq2=>?_
   obtain⟨x,H7,I7,r7,y7,st7,fr7⟩:=hq2
   have I7':=I7.pinned (fpY fr7) (T.obj _ _ st7)
   refine thn (hg _ _ _ _ _ s7 σ5 H7 x u _ I7' r7 (step x H7 y7)) fun _ s8 hq3=>?_
   obtain⟨σ8,H8,I8,q8⟩:=hq3
   refine thn (ht _ _ _ _ _ s8 σ8 H8 _ I8 q8) fun b s9 hq4=>?_
   obtain⟨H9,I9,q9⟩:=hq4
   have again:∀ {σ9:St} {H9:Hp} {s9:Shared},Inv (qbl X scope N' (nw++cl) s3.heap.objs.size s3 (upd H2 D (.lst [])) fp) ([]++qgy fp s7.heap) σ9 H9 s9→N σ9 H9→∃ m,m<n∧∃ i σ' H',Inv (qbl X scope N' (nw++cl) s3.heap.objs.size s3 (upd H2 D (.lst [])) fp) [] σ' H' s9∧tn i s9.heap∧(∀ b∈fp,H' b=none)∧W i m σ' H':=fun {σ9 H9 s9} I9 n9=>by
    obtain⟨m',hm,w9⟩:=hN σ9 H9 n9
    refine⟨m',hm,i+1,σ9,H9,I9.unpinned,T.keep _ _ _ st7 fun b hb o e=>(I9.pin (b,o) (List.mem_append_right _ (List.mem_append_right _ (qcS hb e)))).1,fun b hb=>?_,w9⟩
    obtain⟨o,e,d⟩:=T.obj _ _ st7 b hb
    exact (I9.pin (b,o) (List.mem_append_right _ (List.mem_append_right _ (qcS hb e)))).2.1
   cases b with
   | false =>
    rw[if_neg (by decide)] at q9 ⊢
    exact again I9 q9
   | true =>
    rw[if_pos rfl] at q9 ⊢
    refine thn (he _ _ _ _ _ s9 σ8 H9 _ I9 q9) fun yv s10 hq5=>?_
    obtain⟨y,H10,I10,r10,ys,hD10,hz10,q10⟩:=hq5
    refine thn (qeI _ s10 σ8 H10 (.ref D) [y] (.ref D) [yv] (fun _ H'=>N σ8 H') I10 rfl (.cons r10 .nil) ⟨D,ys,y,rfl,rfl,hD10,hz10,q10⟩) fun _ s11 hq6=>?_
    obtain⟨_,H11,I11,_,q11⟩:=hq6
    exact again I11 q11
 exact codeAny_compStart_list (loop _ rfl) (T.self _ 0 _ _ _ st4 (loop _ rfl))
theorem qjj (hcalm:X.calm=true)(S:CompScope X.N X.env.scope scope N' cap)(hi:PI X tg iter wi)
  (hg:∀ (cl:List (Str × Addr)) (fp:List Addr) (C:Addr) (s0:Shared) (H0:Hp),PG (qbl X scope N' cl C s0 H0 fp) tg g) (ht:∀ (cl:List (Str × Addr)) (fp:List Addr) (C:Addr) (s0:Shared) (H0:Hp),qoA (qbl X scope N' cl C s0 H0 fp) ifs tc)
  (he:∀ (cl:List (Str × Addr)) (fp:List Addr) (C:Addr) (s0:Shared) (H0:Hp),PE (qbl X scope N' cl C s0 H0 fp) elt te) (hs:∀ x,foldedSetIterable iter X.env x=pure x:=by intro _;rfl) :
  PE X (.ListComp elt [⟨tg,iter,ifs,0⟩] scope pos) (qlQ wi cap g tc te):=by
 intro pins s σ H Q I h
 obtain⟨cl,ecl,hcl,hfr⟩:=qfs (scope:=scope) (env:=X.env) fun x hx hf=>I.ok.has x.1 (.inl (S.free x hx hf))
 rw[eval_ListComp]
 refine wpAny_comprehension_free (use:=none) rfl hs ecl S.kind S.names (thn (hi pins s σ H _ I h) fun v s1 h1=>thn h1 fun itv s2 h2=>?_)
 obtain⟨it,fp,tn,J,H2,e,I2,T,st2,f2,w⟩:=h2
 subst e
 refine qiF (RR:=fun acc C=>compPost (model X.prog X.w) X.A X.xe none (EP X pins σ Q) acc C) hcalm S (fun cl=>hg cl fp) (fun cl=>ht cl fp) (fun cl=>he cl fp) I2 T st2 f2 hcl hfr (P:=Q) w ?_
 intro D C H' s' m' hL hz hcc hpp hC hn I' q
 refine⟨m',hn,fun h' hs'=>⟨.ref D,H',I'.turned (t':=s'.toks) (fun b o hb e=>(hs'.2 b hb).trans e) hC (Ne.symm hL) (.inr hz) hcc hpp,rfl,q⟩⟩
end
open AutoSeq1 (wpAny_loadPart')
theorem Inv.turnedL {X:Cx}{pins:List (Addr × Obj)}{σ:St}{H:Hp}{s:Shared}{h':Heap}{ch:List Addr}{t':Nat}(I:Inv X pins σ H s)(k:∀ b o,b∉ch→s.heap.get? b=some o→h'.get? b=some o)(hf:∀ b∈ch,qhx X pins H b) :
  Inv X pins σ H { s with heap:=h',toks:=t' }:=by
 have nit:∀ b u,H b=some u→b∉ch:=fun b u e z=>by rw[(hf b z).1] at e;cases e
 refine I.step (g':=s.gens) (d':=s.drawn) (ch:=ch) (fun b hb=>⟨(hf b hb).2.2.2.1,(hf b hb).2.1,(hf b hb).2.2.2.2.1,(hf b hb).2.2.2.2.2⟩) (fun b o _ _ hc e _=>k b o hc e) (fun b o _ _ hc e _=>⟨o.slots,k b o hc e⟩) (fun _ _ _ _ n=>n)
  (fun b o hc e=>⟨o,k b o hc e⟩) (fun _ _ e=>e) (fun _ _ _ e=>e) (fun b ps e=>e) (fun m hm=>?_) (fun b u e=>?_) I.bare
 ·obtain⟨o,es,ep,ho,r⟩:=hm
  exact⟨o,es,ep,k _ o (fun z=>(hf _ z).2.1 rfl) ho,r⟩
 ·refine (I.hok b u e).stay (fun c v hc q=>k c v ?_ q) (fun _ q=>q) (fun _ _ q=>q) fun _ _ _ q=>q
  rcases hc with z | z
  ·rw[z];exact nit b u e
  ·exact nit c _ z
def SqI (b:Bool)(h:Heap)(it a:Addr)(i:Nat):Prop:=match b with | true=>h.IsListIter it a i | false=>h.IsTupleIter it a i
def SqO (b:Bool)(h:Heap)(a:Addr)(its:Array Value):Prop:=match b with | true=>h.IsList a its | false=>h.IsTuple a its
def SqB (K:PySem.W.Frag)(b:Bool)(H:Hp)(a:Addr)(xs:List V):Prop:=match b with | true=>SqL K H a xs | false=>SqT K H a xs
def qgi (b:Bool)(a:Addr):Obj:=match b with
 | true=>{ cls:=.type "list_iterator",data:=.fields #[.ref a,.int 0 0] }
 | false=>{ cls:=.type "tuple_iterator",data:=.fields #[.ref a,.int 0 0] }
theorem SqI.at {b:Bool}{h h':Heap}{it a:Addr}{i:Nat}(x:SqI b h it a i)(k:∀ o,h.get? it=some o→h'.get? it=some o):SqI b h' it a i:=by
 cases b <;> (obtain⟨o,e,r⟩:=x;exact⟨o,k o e,r⟩)
theorem SqO.at {b:Bool}{h h':Heap}{a:Addr}{its:Array Value}(x:SqO b h a its)(k:∀ o,h.get? a=some o→h'.get? a=some o):SqO b h' a its:=by
 cases b <;> (obtain⟨o,e,r⟩:=x;exact⟨o,k o e,r⟩)
theorem SqI.obj {b:Bool}{h:Heap}{it a:Addr}{i:Nat}(x:SqI b h it a i):∃ o,h.get? it=some o∧∀ v,o.data≠.cell v:=by
 cases b <;> (obtain⟨o,e,_,d⟩:=x;exact⟨o,e,fun v z=>by rw[d] at z;cases z⟩)
theorem SqI.lt {b:Bool}{h:Heap}{it a:Addr}{i:Nat}(x:SqI b h it a i):it<h.objs.size:=by obtain⟨o,e,_⟩:=x.obj;exact Heap.lt_size e
theorem SqO.lt {b:Bool}{h:Heap}{a:Addr}{its:Array Value}(x:SqO b h a its):a<h.objs.size:=by
 cases b <;> (obtain⟨o,e,_⟩:=x;exact Heap.lt_size e)
theorem Inv.sqb {X:Cx}{pins:List (Addr × Obj)}{σ:St}{H:Hp}{s:Shared}{b:Bool}{a:Addr}{xs:List V}(I:Inv X pins σ H s)(h:SqB X.K b H a xs):∃ its:List Value,Vals xs its∧SqO b s.heap a its.toArray∧xs.length≤sizeLine:=by
 cases b with
 | true=>obtain⟨its,rv,p,hz⟩:=I.list h;exact⟨its,rv,p.isList,hz⟩
 | false=>obtain⟨its,rv,p,hz⟩:=I.tuple h;exact⟨its,rv,p,hz⟩
theorem Inv.sqb_inj {X:Cx}{pins:List (Addr × Obj)}{σ:St}{H:Hp}{s:Shared}{b:Bool}{a:Addr}{xs ys:List V}(I:Inv X pins σ H s)(h:SqB X.K b H a xs)(h':SqB X.K b H a ys):xs=ys:=by
 cases b with
 | true=>exact I.list_inj h h'
 | false=>exact I.tuple_inj h h'
theorem SqB.same {K:PySem.W.Frag}{b:Bool}{H H':Hp}{a:Addr}{xs:List V}(e:Same H H')(h:SqB K b H a xs):SqB K b H' a xs:=by
 cases b with
 | true=>exact e.seq h
 | false =>
  rcases h with (h | ⟨o,h⟩) | h
  ·exact .inl (.inl (e _ _ h))
  ·exact .inl (.inr ⟨o,e _ _ h⟩)
  ·exact .inr h
section
variable {prog : Program} {w : World} {A : Around} {E : Value → Shared → Prop} {s : Shared}
theorem qnd {b:Bool}{a:Addr}{its:Array Value}{Q:Value→Shared→Prop}(h:SqO b s.heap a its)(q:Q (.ref s.heap.objs.size) { s with heap:=s.heap.push (qgi b a) }):wpAny (model prog w) A (pyIter (.ref a)) Q E s:=by
 cases b with
 | true=>exact wpAny_pyIter_list h q
 | false=>exact wpAny_pyIter_tuple h q
theorem qhD {b:Bool}{h:Heap}{it a:Addr}(e:h.get? it=some (qgi b a)):SqI b h it a 0:=by
 cases b <;> exact⟨_,e,rfl,rfl⟩
theorem qnz {b:Bool}{it a:Addr}{i:Nat}{its:Array Value}{x:Value}{Q:Value→Shared→Prop}(hit:SqI b s.heap it a i)(hl:SqO b s.heap a its)(hx:its[i]?=some x)
  (hQ:∀ h',SqI b h' it a (i+1)→Heap.SameBut it s.heap h'→Q x { s with heap:=h' }):wpAny (model prog w) A (Builtin.SmallTypes.nextOf (.ref it)) Q E s:=by
 cases b with
 | true=>exact wpAny_nextOf_list_item hit hl hx hQ
 | false =>
  have hit:s.heap.IsTupleIter it a i:=hit
  obtain⟨o,ho,hc,hd⟩:=id hit
  obtain⟨ol,hol,_,nl,hdl⟩:=hl
  unfold Builtin.SmallTypes.nextOf
  refine wpAny_bind (wpAny_callSpecial?_slot (name:=Str.ofString "__next__") hit.typeIs F.slot_tuple_iterator_next (wpAny_call_entry F.slot_tuple_iterator_next hit.typeIs F.entry_tuple_iterator_next ?_ (F.args_tuple_iterator_next_1 _)))
  show wpAny _ _ (field (.ref it) 0 >>= _) _ _ s
  refine wpAny_bind (wpAny_field ho hd (x:=.ref a) rfl ?_)
  show wpAny _ _ (if (Value.ref a == Value.none)=true then _ else _) _ _ s
  rw[if_neg (show ¬ ((Value.ref a == Value.none)=true) from Bool.false_ne_true)]
  show wpAny _ _ (field (.ref it) 1 >>= _) _ _ s
  refine wpAny_bind (wpAny_field ho hd (x:=.int i 0) rfl ?_)
  show wpAny _ _ (seqItems? (.ref a) >>= _) _ _ s
  refine wpAny_bind (wpAny_seqItems hol hdl ?_)
  simp only [Int.toNat_natCast,hx]
  refine wpAny_bind (wpAny_setField ho hd (by simp) (wpAny_pure ⟨x,rfl,wpAny_pure (hQ _ ?_ (Heap.SameBut.update ..))⟩))
  exact⟨_,Heap.get?_update_self _ ho (Obj.isFreed_of_fields (Obj.data_mapFields hd _)),(Obj.cls_mapFields ..).trans hc,by rw[Obj.data_mapFields hd];simp [rawInt]⟩
theorem ql6 {b:Bool}{it a:Addr}{i:Nat}{its:Array Value}{Q:Value→Shared→Prop}(hh:A.handled=none)(hit:SqI b s.heap it a i)(hl:SqO b s.heap a its)(hx:its[i]?=none)
  (hE:∀ h' e,Heap.ExtBut it s.heap h'→(∃ o,h'.get? e=some o∧o.cls=.type "StopIteration")→E (.ref e) { s with heap:=h' }):wpAny (model prog w) A (Builtin.SmallTypes.nextOf (.ref it)) Q E s:=by
 cases b with
 | true=>exact wpAny_nextOf_list_end hh hit hl hx hE
 | false =>
  have hit:s.heap.IsTupleIter it a i:=hit
  obtain⟨o,ho,hc,hd⟩:=id hit
  obtain⟨ol,hol,_,nl,hdl⟩:=hl
  unfold Builtin.SmallTypes.nextOf
  refine wpAny_bind (wpAny_callSpecial?_slot (name:=Str.ofString "__next__") hit.typeIs F.slot_tuple_iterator_next (wpAny_call_entry F.slot_tuple_iterator_next hit.typeIs F.entry_tuple_iterator_next ?_ (F.args_tuple_iterator_next_1 _)))
  show wpAny _ _ (field (.ref it) 0 >>= _) _ _ s
  refine wpAny_bind (wpAny_field ho hd (x:=.ref a) rfl ?_)
  show wpAny _ _ (if (Value.ref a == Value.none)=true then _ else _) _ _ s
  rw[if_neg (show ¬ ((Value.ref a == Value.none)=true) from Bool.false_ne_true)]
  show wpAny _ _ (field (.ref it) 1 >>= _) _ _ s
  refine wpAny_bind (wpAny_field ho hd (x:=.int i 0) rfl ?_)
  show wpAny _ _ (seqItems? (.ref a) >>= _) _ _ s
  refine wpAny_bind (wpAny_seqItems hol hdl ?_)
  simp only [Int.toNat_natCast,hx]
  refine wpAny_bind (wpAny_rule (wpAny_bind (wpAny_setField ho hd (by simp) ?_)))
  show wpAny _ _ (newExc (.type "StopIteration") [] >>= _) _ _ _
  refine wpAny_bind ?_
  simp only [newExc,newTuple]
  refine wpAny_bind (wpAny_newObj_type ?_ (by size_fits))
  refine wpAny_bind (m:=firstArgMember _ _) (wpAny_of_eq (a:=Value.none) (by first | rfl | (simp only [firstArgMember];rfl)) ?_)
  refine wpAny_newObj_type ?_ (by size_fits)
  simp only [raiseNew]
  refine wpAny_bind (wpAny_handled ?_)
  first | rw[show A.in1.handled=none from hh] | rw[hh]
  refine wpAny_bind (wpAny_pure (wpAny_throw ?_))
  exact hE _ _ (((Heap.SameBut.update ..).extBut.push _).push _) ⟨_,Heap.get?_push_size _ rfl,rfl⟩
theorem qlA (hh:A.handled=none)(b:Bool)(it a:Addr)(hne:a≠it)(its:Array Value):Draws prog w A it [it,a] its.size (fun i v=>its[i]?=some v) (fun i h=>SqI b h it a i∧SqO b h a its) where
 live:=fun _ _ st=>let ⟨o,e,_⟩:=st.1.obj;⟨o,e⟩
 frame:=fun _ _ _ st k=>⟨st.1.at fun o e=>k it (by simp) o e,st.2.at fun o e=>k a (by simp) o e⟩
 item:=fun i s Q E hi st hQ=>qnz st.1 st.2 (x:=its[i]) (by simp [hi]) fun h' q sb=>hQ _ h' s.toks (by simp [hi]) ⟨q,st.2.at fun o e=>(sb.2 a hne).trans e⟩ sb
 done:=fun s Q E st hE=>ql6 hh st.1 st.2 (by simp) hE
theorem qi4 (l:Addr)(items:Array Value)(n:Nat)(dct:Option Addr)(sl:Array (Option Value)) :
  Meets (Builtin.«enumerate.__new__» ⟨[.type "enumerate",.ref l],[]⟩) (fun _ R s=>s.heap.get? l=some { cls:=.type "tuple",dict:=dct,data:=.seq items n,slots:=sl } ∧
   R (.ok (.ret (.ref (s.heap.push (qgi false l)).objs.size)))
    { s with heap:=(s.heap.push (qgi false l)).push { cls:=.type "enumerate",data:=.fields #[.none,.bool false,.ref s.heap.objs.size,rawInt 0,.none,.none] } }) :=
 .of_wp fun prog w A R s h=>by
  obtain⟨hp,g,d,tk,os⟩:=s;obtain⟨hl,h⟩:=h
  have hsub:=sub_enumerate
  have hL:Heap.IsTuple (Shared.heap ⟨hp,g,d,tk,os⟩) l items:=⟨_,hl,rfl,n,rfl⟩
  wp_walk using wpAny_loadPart' hl
  refine wpAny_stack_any fun st=>wpAny_pure ?_
  split
  ·rename_i c _ _ _ _ _
   cases (c == Value.type "enumerate")
   ·(wp_walk using wpAny_loadPart' hl,wpAny_pyIter_tuple hL);exact⟨_,rfl,h⟩
   ·(wp_walk using wpAny_loadPart' hl,wpAny_pyIter_tuple hL);exact⟨_,rfl,h⟩
  ·(wp_walk using wpAny_loadPart' hl,wpAny_pyIter_tuple hL);exact⟨_,rfl,h⟩
theorem qkp {b:Bool}{l:Addr}{items:Array Value}{Q:Value→Shared→Prop}(hL:SqO b s.heap l items)
  (h:∀ h',IsEnum h' (s.heap.objs.size+1) s.heap.objs.size 0 .none→SqI b h' s.heap.objs.size l 0→h'.objs.size=s.heap.objs.size+2→(∀ b o,s.heap.get? b=some o→h'.get? b=some o)→Q (.ref (s.heap.objs.size+1)) { s with heap:=h' }) :
  wpAny (model prog w) A (call (.type "enumerate") [.ref l]) Q E s:=by
 cases b with
 | true=>exact call_enumerate_list hL h
 | false =>
  obtain⟨⟨c,dct,dt,sl⟩,hl,hc,n,hd⟩:=hL
  replace hc:c=.type "tuple":=hc
  replace hd:dt=.seq items n:=hd
  subst hc hd
  refine callType_new F.called_enumerate (by decide) (F.typeCall_enumerate_1 _) (F.newCall_enumerate_1 _) (fun obj=>F.args_object_init_2 obj _) F.entry_enumerate_new (qi4 l items n dct sl) ⟨hl,?_⟩
  have hz:(s.heap.push (qgi false l)).objs.size=s.heap.objs.size+1:=Heap.size_push ..
  show _∧_
  rw[hz]
  have he:=Heap.get?_push_size (s.heap.push (qgi false l)) (o:={ cls:=.type "enumerate",data:=.fields #[.none,.bool false,.ref s.heap.objs.size,rawInt 0,.none,.none] }) rfl
  rw[hz] at he
  have hi:(s.heap.push (qgi false l)).get? s.heap.objs.size=some (qgi false l):=Heap.get?_push_size _ rfl
  exact⟨⟨_,he,rfl⟩,h _ he (qhD (Heap.get?_push_of_some _ hi)) (by rw[Heap.size_push,hz]) fun b o x=>Heap.get?_push_of_some _ (Heap.get?_push_of_some _ x)⟩
theorem qk5 {b:Bool}{e it a:Addr}{i:Nat}{j:Int}{its:Array Value}{old:Value}{Q:Option Value→Shared→Prop}(hh:A.handled=none)(he:IsEnum s.heap e it j old)(hit:SqI b s.heap it a i)(hl:SqO b s.heap a its)(hx:its[i]?=none)
  (hQ:∀ h',Heap.ExtBut it s.heap h'→Q none { s with heap:=h' }):wpAny (model prog w) A (pyNext (.ref e)) Q E s:=by
 have hT:s.TypeIs (.ref e) "enumerate":=⟨_,he,rfl⟩
 unfold pyNext
 refine wpAny_bind (wpAny_attempt (wpAny_callSpecial?_slot (name:=Str.ofString "__next__") hT F.slot_enumerate_next (wpAny_call_entry F.slot_enumerate_next hT F.entry_enumerate_next ?_ (F.args_enumerate_next_1 _))))
 show wpAny _ _ (field (.ref e) 2 >>= _) _ _ _
 refine wpAny_bind (wpAny_field he rfl (x:=.ref it) rfl (wpAny_bind (ql6 hh hit hl hx fun h' x he' hx'=>?_)))
 obtain⟨o,ho,hc⟩:=hx'
 exact wpAny_bind (wpAny_isInstance (T:="StopIteration") (b:=true) ⟨o,ho,hc⟩ isSubtype_stop (wpAny_pure (hQ _ he')))
end
def Ite (K:PySem.W.Frag)(b:Bool)(a:Addr):It :=
 ⟨fun i H=>∃ xs x,SqB K b H a xs∧xs[i]?=some x,fun i H x H'=>∃ t y,H t=none∧x=.ref t∧H'=upd H t (.tup [.int i,y])∧∀ xs,SqB K b H a xs→xs[i]?=some y,fun i H=>∃ xs,SqB K b H a xs∧xs.length≤i⟩
theorem qjA {P:Program}{w:World}{K:PySem.W.Frag}{es:List Expr}{k:Nat}{pos:Pos}(b:Bool)(a e it:Addr)(hei:e≠it):Turn P w K (.Tuple es k pos) (Ite K b a) [e,it] e (fun i h=>(∃ old,IsEnum h e it i old)∧SqI b h it a i) where
 mem:=by simp
 obj:=fun i h st c hc=>by
  obtain⟨⟨old,he⟩,hs⟩:=st
  rcases List.mem_cons.mp hc with rfl | hc
  ·exact⟨_,he,fun v z=>by have z':Data.fields _=Data.cell v:=z;cases z'⟩
  ·rw[List.mem_singleton.mp hc];exact hs.obj
 keep:=fun i h h' st k=>by
  obtain⟨⟨old,he⟩,hs⟩:=st
  exact⟨⟨old,k e (by simp) _ he⟩,hs.at fun o q=>k it (by simp) o q⟩
 item:=by
  intro X hP hw hK hc i pins s σ H E I hf st hg
  subst hP hw hK
  obtain⟨xs,x,hq,hx⟩:=hg
  obtain⟨⟨old,he⟩,hs⟩:=st
  obtain⟨its,rv,p,hz⟩:=I.sqb hq
  obtain⟨u,hu,ru⟩:=rv.get hx
  have hne:a≠it:=fun z=>by
   subst z
   have h1:=p;have h2:=hs
   cases b <;> (obtain⟨o1,e1,c1,_⟩:=h1;obtain⟨o2,e2,c2,_⟩:=h2;rw[e1] at e2;cases e2;rw[c1] at c2;exact absurd c2 (by simp))
  have hne2:a≠e:=fun z=>by
   subst z
   have h1:=p
   cases b <;> (obtain⟨o1,e1,c1,_⟩:=h1;rw[he] at e1;cases e1;exact absurd c1 (by simp))
  have hil:i<its.toArray.size:=by
   have:i<its.length:=(List.getElem?_eq_some_iff.mp hu).1
   simpa using this
  have hh:X.A.in1.handled=none:=I.ok.hd hc
  refine wpAny_pyNext_enum_itemD (qlA hh b it a hne its.toArray) he ⟨hs,p⟩ hil hei (by simp [hei,Ne.symm hne2]) fun y h' tk hP' ho hst hT hsz hk=>?_
  have hy:y=u:=by
   have:its.toArray[i]?=some u:=by simpa using hu
   rw[this] at hP';exact (Option.some.inj hP').symm
  subst hy
  refine⟨.ref s.heap.objs.size,rfl,wpAny_letOwnedTupleGo_enum ho fun h2 he2 hs2=>?_⟩
  have zn:H s.heap.objs.size=none:=I.fresh
  have I1:Inv X pins σ (upd H s.heap.objs.size (.tup [.int i,x])) { s with heap:=s.heap.push { cls:=.type "tuple",data:=.seq #[.int i tk,y] },toks:=tk } :=
   I.laid (fun c o q=>Heap.get?_push_of_some _ q) (Nat.le_refl _) ⟨by show 2≤sizeLine;decide,[.int i tk,y],.cons ⟨tk,rfl⟩ (.cons ru .nil),_,Heap.get?_push_size _ rfl,⟨rfl,rfl⟩,0,rfl⟩
  have lts:∀ c∈[e,it],c<s.heap.objs.size:=fun c hc=>by
   rcases List.mem_cons.mp hc with rfl | hc
   ·exact Heap.lt_size he
   ·rw[List.mem_singleton.mp hc];exact hs.lt
  have f1:∀ c∈[e,it],qhx X pins (upd H s.heap.objs.size (.tup [.int i,x])) c:=fun c hc=>⟨by rw[qal (Nat.ne_of_lt (lts c hc))];exact (hf c hc).1,(hf c hc).2⟩
  have I2:=I1.turnedL (h':=h2) (ch:=[e,it]) (t':=tk+1) (fun c o hc q=>?_) f1
  ·refine⟨.ref s.heap.objs.size,_,I2,rfl,⟨s.heap.objs.size,x,zn,rfl,rfl,fun ys hy=>by rw[I.sqb_inj hy hq];exact hx⟩,⟨⟨_,by simpa using he2⟩,hst.1.at fun o q=>(hs2.2 it (Ne.symm hei)).trans q⟩,fun c hc=>(f1 c hc).1⟩
  ·have hce:c≠e:=fun z=>hc (by simp [z])
   have hci:c≠it:=fun z=>hc (by simp [z])
   refine (hs2.2 c hce).trans ?_
   rcases Heap.get?_push_cases q with⟨z,z'⟩ | q'
   ·subst z;subst z';exact hT
   ·exact hk c o hce hci q'
 done:=by
  intro X hP hw hK hc i pins s σ H E I hf st hg
  subst hP hw hK
  obtain⟨xs,hq,hx⟩:=hg
  obtain⟨⟨old,he⟩,hs⟩:=st
  obtain⟨its,rv,p,hz⟩:=I.sqb hq
  have hl:=rv.length
  refine qk5 (I.ok.hd hc) he hs p (by simp;omega) fun h' eb=>⟨rfl,?_⟩
  exact I.turnedL (ch:=[e,it]) (t':=s.toks) (fun c o hc q=>eb c o (fun z=>hc (by simp [z])) q) hf
 self:=fun _ _ _ _ _ st h=>by obtain⟨⟨old,he⟩,_⟩:=st;exact wpAny_pyIter_enum he h
end L2
namespace L2
open PySem PySem.Spec PyProof.Rows
open AutoSeq1 (wpAny_loadPart')
section
variable {X : Cx}
end
section
variable {prog : Program} {w : World} {A : Around} {E : Value → Shared → Prop} {s : Shared}
end
section
variable {X : Cx}
end
end L2
namespace L2
open PySem PySem.Spec PyProof.Rows
section
variable {X : Cx}
theorem qnx:OpR X (binaryOp .Mult) (rI IntMulOk fun i j=>.int (i*j)):=opI fun _ _ _ _ _ _ _ hc q=>mul_int q hc
def CDivB (i j:Int):Prop:=0<j∧j.natAbs.log2<9000
theorem qlr:OpR X (binaryOp .FloorDiv) (rI CDivB fun i j=>.int (i / j)):=opI fun i j _ _ _ _ _ hc q=>by
 have h1:(0:Int)<j:=hc.1
 exact floordiv_int (by omega) (by rw[Int.fdiv_eq_ediv_of_nonneg i (by omega)];exact q) (.inl (PyProof.noPylong_of_log2 hc.2))
end
theorem qiu {n k:Nat}(hk:0<k)(h:n<2 ^ k):n.log2<k:=by
 rcases Nat.eq_zero_or_pos n with z | z
 ·subst z;simpa using hk
 ·exact (Nat.log2_lt (Nat.ne_of_gt z)).mpr h
theorem CDivB.of {i j:Int}(h0:0<j)(h:j<2 ^ 9000):CDivB i j:=⟨h0,qiu (by decide) (by
 have e:(j.natAbs:Int)=j:=Int.natAbs_of_nonneg (Int.le_of_lt h0)
 have:(j.natAbs:Int)<((2 ^ 9000:Nat):Int):=by rw[e];exact_mod_cast h
 exact_mod_cast this)⟩
theorem qjY {a b:Int}(h1:-(2 ^ 64)<a)(h2:a<2 ^ 64):IntMulOk a b:=.of_left (intBits_le_64 h1 h2)
theorem qg1 {a b:Int}(h1:-(2 ^ 64)<b)(h2:b<2 ^ 64):IntMulOk a b:=.of_right (intBits_le_64 h1 h2)
section
variable {prog : Program} {w : World} {A : Around} {E : Value → Shared → Prop} {s : Shared}
theorem qgG {it t:Addr}{items:Array Value}(hne:t≠it):∀ (n i:Nat) (s:Shared) (Q:List Value→Shared→Prop),s.heap.IsListIter it t i→s.heap.IsList t items→i+n≤items.size →
  (∀ h',h'.IsListIter it t (i+n)→Heap.SameBut it s.heap h'→Q ((items.toList.drop i).take n) { s with heap:=h' })→wpAny (model prog w) A (draw (.ref it) n) Q E s
 | 0,i,s,Q,hit,_,_,hQ=>by
  show wpAny _ _ (pure []) Q E s
  exact wpAny_pure (by simpa using hQ s.heap hit (Heap.SameBut.refl ..))
 | n+1,i,s,Q,hit,ht,hle,hQ=>by
  have hlt:i<items.size:=by omega
  show wpAny _ _ (pyNext (.ref it) >>= _) Q E s
  refine wpAny_bind (wpAny_pyNext_list_item hit ht (x:=items[i]) (by simp [hlt]) fun g1 hit1 s1=>?_)
  refine wpAny_bind (wpAny_holding (qgG hne n (i+1) _ _ hit1 (ht.extBut s1.extBut hne) (by omega) fun g2 hit2 s2=>wpAny_pure ?_))
  have hd:items.toList.drop i=items[i]::items.toList.drop (i+1):=by simp [List.drop_eq_getElem_cons,hlt]
  have:=hQ g2 (by rw[show i+(n+1)=i+1+n by omega];exact hit2) (s1.trans s2)
  rw[hd,List.take_succ_cons] at this
  exact this
theorem qdX {t:Addr}{items:Array Value}{Q:List Value→Shared→Prop}(hh:A.handled=none)(ht:s.heap.IsList t items)
  (hQ:∀ h',Heap.ExtBut s.heap.objs.size s.heap h'→Q items.toList { s with heap:=h' }):wpAny (model prog w) A (unpackItems (.ref t) items.size none) Q E s:=by
 have hlt:t≠s.heap.objs.size:=by obtain⟨o,ho,_⟩:=ht;exact Nat.ne_of_lt (Heap.lt_size ho)
 unfold unpackItems
 refine wpAny_bind ?_
 unfold notIterableAtAll
 refine wpAny_bind (wpAny_specialOf ht.typeIs slot_list_iter.lookup (wpAny_pure ?_))
 simp only [Bool.false_eq_true,if_false]
 refine wpAny_bind (wpAny_holding (wpAny_pyIter_list ht (wpAny_bind (wpAny_holding (qgG hlt items.size 0 _ _ ⟨_,Heap.get?_push_size _ rfl,rfl,rfl⟩ (ht.push _) (by omega) fun g1 hit1 s1=>?_)))))
 have hall:List.take items.size (List.drop 0 items.toList)=items.toList:=by
  rw[List.drop_zero];exact List.take_of_length_le (by simp)
 rw[hall,if_neg (by simp)]
 have ht1:g1.IsList t items:=(ht.push _).extBut s1.extBut hlt
 refine wpAny_bind (wpAny_holding (wpAny_pyNext_list_end hh hit1 ht1 (by simp) fun g2 e2=>?_))
 simp only [Option.isSome_none,Bool.false_eq_true,if_false]
 exact wpAny_pure (hQ g2 fun b o hb e=>e2 b o hb (s1.extBut b o hb (Heap.get?_push_of_some _ e)))
end
section
variable {X : Cx} {pos : Pos}
def qp9 (K:PySem.W.Frag)(n:Nat)(t:TGs):TG:=fun v σ H Q=>∃ a xs,v=.ref a∧SqL K H a xs∧xs.length=n∧t xs σ H Q
theorem qpb {es:List Expr}{k:Nat}{t:TGs}{n:Nat}(hc:X.calm=true)(h:PGs X es t)
  (hn:(assignEach es X.env).length=n:=by rfl) (hst:(assignEach es X.env).findIdx? (·.1)=none:=by rfl):PG X (.Tuple es k pos) (qp9 X.K n t):=by
 intro pins s σ H v u Q I r hw
 obtain⟨a,xs,e1,hq,hl,hw⟩:=hw
 subst e1
 cases r
 obtain⟨its,rv,ht,hz⟩:=I.list hq
 rw[assign_Tuple]
 refine wpAny_bind (wpAny_standAt ?_)
 unfold unpack
 have e0:(assignEach es X.env).length=its.toArray.size:=by simp [hn,← hl,rv.length]
 rw[e0,hst]
 refine wpAny_bind (wpAny_holding (qdX (I.ok.hd hc) ht.isList fun h' hx=>?_))
 have I1:Inv X pins σ H { s with heap:=h' }:=I.kept (t':=s.toks) fun b o e=>hx b o (Nat.ne_of_lt (Heap.lt_size e)) e
 exact h pins _ σ H xs _ Q I1 (by simpa using rv) hw
end
inductive IsiV (K:PySem.W.Frag) (H:Hp):V→String→Bool→Prop where
 | int_int (i):IsiV K H (.int i) "int" true
 | int_bool (i):IsiV K H (.int i) "bool" false
 | int_tuple (i):IsiV K H (.int i) "tuple" false
 | int_str (i):IsiV K H (.int i) "str" false
 | bl_int (b):IsiV K H (.bl b) "int" true
 | bl_bool (b):IsiV K H (.bl b) "bool" true
 | bl_tuple (b):IsiV K H (.bl b) "tuple" false
 | str_str (x):IsiV K H (.str x) "str" true
 | str_tuple (x):IsiV K H (.str x) "tuple" false
 | tup_tuple {a xs}:SqT K H a xs→IsiV K H (.ref a) "tuple" true
 | tup_int {a xs}:SqT K H a xs→IsiV K H (.ref a) "int" false
 | lst_tuple {a xs}:SqL K H a xs→IsiV K H (.ref a) "tuple" false
 | lst_list {a xs}:SqL K H a xs→IsiV K H (.ref a) "list" true
theorem qlJ {prog:Program}{w:World}{A:Around}(hh:A.handled=none)(b:Bool)(it a:Addr)(hne:a≠it)(its:Array Value):Walks prog w A it [it,a] [it] its.size (fun i v=>its[i]?=some v) (fun i h=>SqI b h it a i∧SqO b h a its) where
 sub:=fun c hc=>by rw[List.mem_singleton.mp hc];simp
 frame:=fun _ _ _ st k=>⟨st.1.at fun o e=>k it (by simp) o e,st.2.at fun o e=>k a (by simp) o e⟩
 item:=fun i s Q E hi st hQ=>by
  cases b with
  | true=>exact wpAny_pyNext_list_item st.1 st.2 (x:=its[i]) (by simp [hi]) fun h' q sb=>hQ _ h' s.toks (by simp [hi]) ⟨q,SqO.at (b:=true) st.2 fun o e=>(sb.2 a hne).trans e⟩ fun c o hc e=>(sb.2 c fun z=>hc (by simp [z])).trans e
  | false=>exact wpAny_pyNext_tuple_item st.1 st.2 (x:=its[i]) (by simp [hi]) fun h' q sb=>hQ _ h' s.toks (by simp [hi]) ⟨q,SqO.at (b:=false) st.2 fun o e=>(sb.2 a hne).trans e⟩ fun c o hc e=>(sb.2 c fun z=>hc (by simp [z])).trans e
 done:=fun s Q E st hQ=>by
  cases b with
  | true=>exact wpAny_pyNext_list_end hh st.1 st.2 (by simp) fun h' eb=>hQ h' s.toks fun c o hc e=>eb c o (fun z=>hc (by simp [z])) e
  | false=>exact wpAny_pyNext_tuple_end hh st.1 st.2 (by simp) fun h' eb=>hQ h' s.toks fun c o hc e=>eb c o (fun z=>hc (by simp [z])) e
 self:=fun i s Q E st hQ=>by
  cases b with
  | true=>exact wpAny_pyIter_listiter st.1 hQ
  | false=>exact wpAny_pyIter_tupleiter st.1 hQ
theorem qrt {x:V}{us:List Value}(r:Vals [x] us):∃ u,us=[u]∧RelV x u:=by
 cases r with
 | cons r rr=>cases rr;exact⟨_,rfl,r⟩
theorem qeN (val:Nat→Int)(ns:List Int)(h:∀ i n,ns[i]?=some n→val i=n):∀ k,k≤ns.length→preSum val k=(ns.take k).sum
 | 0,_=>by simp [preSum]
 | k+1,hk=>by
  have hlt:k<ns.length:=hk
  have e:=h k ns[k] (by simp [hlt])
  rw[preSum,qeN val ns h k (Nat.le_of_lt hlt),e,List.take_succ_eq_append_getElem hlt,List.sum_append]
  simp
def qrV (K:PySem.W.Frag)(b:Bool):List V→Hp→VK→Prop:=fun vs H Q=>∃ (a:Addr) (ns:List Int),vs=[.ref a]∧SqB K b H a (ns.map V.int)∧Q (.int ns.sum) H
theorem qk4 (b:Bool){X:Cx}(hc:X.calm=true):qfm X (.builtin "sum") (qrV X.K b):=by
 intro pins s σ H xs us Q I r h
 obtain⟨a,ns,rfl,hq,q⟩:=h
 obtain⟨u,rfl,ru⟩:=qrt r
 cases ru
 obtain⟨its,rv,p,hz⟩:=I.sqb hq
 refine call_sum_walkAnyS (qnd p ?_)
 have hne:a≠s.heap.objs.size:=Nat.ne_of_lt p.lt
 have W:=qlJ (prog:=X.prog) (w:=X.w) (A:=X.A.in1) (I.ok.hd hc) b s.heap.objs.size a hne its.toArray
 have hv:∀ (i:Nat) (v:Value),its.toArray[i]?=some v→∃ t,v=.int (ns.getD i 0) t:=fun i v e=>by
  have e':its[i]?=some v:=by simpa using e
  have hi:i<ns.length:=by
   have:=(List.getElem?_eq_some_iff.mp e').1
   have:=rv.length
   rw[List.length_map] at this
   omega
  obtain⟨v',h1,h2⟩:=rv.get (i:=i) (x:=V.int (ns.getD i 0)) (by simp [hi])
  rw[e'] at h1;cases h1
  exact h2
 have ln:its.toArray.size=ns.length:=by have:=rv.length;rw[List.length_map] at this;simp [this]
 refine⟨s.heap.objs.size,[s.heap.objs.size,a],[s.heap.objs.size],_,its.toArray.size,_,_,fun i=>ns.getD i 0,rfl,W.toS,⟨qhD (Heap.get?_push_size _ (by cases b <;> rfl)),p.at fun o e=>Heap.get?_push_of_some _ e⟩,fun c hcm=>?_,hv,fun s' t' hm=>?_⟩
 ·rw[Heap.size_push]
  rcases List.mem_cons.mp hcm with rfl | hcm
  ·exact Nat.lt_succ_self _
  ·rw[List.mem_singleton.mp hcm];exact Nat.lt_succ_of_lt p.lt
 ·obtain⟨hh,hg,hd,ho,_⟩:=hm
  obtain⟨h',g',d',tk',os'⟩:=s'
  have e1:g'=s.gens:=hg
  have e2:d'=s.drawn:=hd
  have e3:os'=s.os:=ho
  subst e1 e2 e3
  refine⟨.int ns.sum,H,I.kept (h':=h') (t':=tk') fun c o e=>hh c o (fun z=>?_) (Heap.get?_push_of_some _ e),⟨t',?_⟩,q⟩
  ·rw[List.mem_singleton.mp z] at e
   exact absurd (Heap.lt_size e) (Nat.lt_irrefl _)
  ·rw[ln,qeN (fun i=>ns.getD i 0) ns (fun i n e=>by
    show ns.getD i 0=n
    rw[List.getD_eq_getElem?_getD,e];rfl) ns.length (Nat.le_refl _),List.take_length]
theorem qoU (bs:List Bool):(List.range bs.length).all (fun i=>bs.getD i false)=bs.all id:=by
 rw[Bool.eq_iff_iff]
 simp only [List.all_eq_true,List.mem_range,id]
 constructor
 ·intro h x hx
  obtain⟨i,hi,rfl⟩:=List.mem_iff_getElem.mp hx
  have:=h i hi
  simpa [hi] using this
 ·intro h i hi
  have:=h bs[i] (List.getElem_mem hi)
  simpa [hi] using this
def qc2 (N:List Str)(sc scope:Scope)(N':List Str)(cap:List (Option Nat)):Bool :=
 decide (scope.kind=.function) && scope.names.all (fun x=>decide (x.2=.cell→scope.names.lookup x.1=some .cell)) && scope.names.all (fun x=>decide (x.2=.local→scope.names.lookup x.1=some .local)) &&
  scope.names.all (fun x=>decide (x.2=.free→sc.names.lookup x.1=some .cell∧scope.names.lookup x.1=some .free)) && decide N'.Nodup && decide (cap.length=N'.length) &&
  (cap.zip N').all fun p=>match p.1 with | none=>true | some i=>decide (N[i]?=some p.2∧(p.2,NameKind.free)∈scope.names)
theorem CompScope.ok {N:List Str}{sc scope:Scope}{N':List Str}{cap:List (Option Nat)}(h:qc2 N sc scope N' cap=true):CompScope N sc scope N' cap:=by
 unfold qc2 at h
 simp only [Bool.and_eq_true,decide_eq_true_eq,List.all_eq_true] at h
 obtain⟨⟨⟨⟨⟨⟨h1,h2⟩,h3⟩,h4⟩,h5⟩,h6⟩,h7⟩:=h
 refine⟨h1,h2,h3,fun x hx hf=>(h4 x hx hf).1,fun x hx hf=>(h4 x hx hf).2,h5,h6,fun p hp i hi=>?_⟩
 have:=h7 p hp
 rw[hi] at this
 simpa using this
section
variable {K : PySem.W.Frag} {B : V → St → Hp → (St → Hp → Prop) → Prop} {End : St → Hp → Prop} {σ : St} {H : Hp}
end
theorem qaK {H:Hp}{p:Addr}(h:H p=none)(o:HO):Same H (upd H p o):=fun b u q=>by rw[qal (qas q h)];exact q
theorem qhK {H H':Hp}{p:Addr}(s:Same H H')(h:H p=none)(o:HO):Same H (upd H' p o):=fun b u q=>by rw[qal (qas q h)];exact s b u q
theorem Same.sqt {K:PySem.W.Frag}{H H':Hp}{a:Addr}{xs:List V}(e:Same H H')(h:SqT K H a xs):SqT K H' a xs:=SqB.same (b:=false) e h
theorem qeo {n:Nat}(h:n≤1000):n≤sizeLine:=Nat.le_of_lt (qaA h)
theorem dP {p:Prop}[Decidable p](h:decide p=true):p:=of_decide_eq_true h
theorem qbB {α:Type}{xs:List α}{i:Nat}{x:α}(h:xs[i]?=some x):xs.take (i+1)=xs.take i++[x]:=by
 obtain⟨hi,e⟩:=List.getElem?_eq_some_iff.mp h
 rw[List.take_succ_eq_append_getElem hi,e]
theorem qak {α:Type}{xs:List α}{i:Nat}{x:α}(h:xs[i]?=some x):i<xs.length:=(List.getElem?_eq_some_iff.mp h).1
theorem qmi {α:Type}{xs:List α}{i:Nat}{x:α}{k:Int}(h:xs[i]?=some x)(e:k=(i:Int)):atI xs k=some x:=by
 subst e
 exact qnn h
def qeD {α:Type}(xs:List α)(lo hi:Option Int):List α:=(xs.drop (HT.sIx xs.length 0 lo)).take (HT.sIx xs.length xs.length hi - HT.sIx xs.length 0 lo)
inductive EqT (K:PySem.W.Frag) (H:Hp):Nat→V→V→Prop where
 | int {d:Nat} (i:Int):EqT K H d (.int i) (.int i)
 | bl {d:Nat} (b:Bool):EqT K H d (.bl b) (.bl b)
 | str {d:Nat} (x:Str):EqT K H d (.str x) (.str x)
 | non {d:Nat}:EqT K H d .non .non
 | sq {d:Nat} (q:Bool) {a b:Addr} {xs ys:List V}:SqB K q H a xs→SqB K q H b ys→xs.length=ys.length→(∀ (i:Nat) (x y:V),xs[i]?=some x→ys[i]?=some y→EqT K H d x y)→EqT K H (d+1) (.ref a) (.ref b)
theorem Vals.get' {xs:List V}{us:List Value}(r:Vals xs us){j:Nat}(h:j<us.length):∃ x,xs[j]?=some x∧RelV x us[j]:=by
 have hl:=Vals.length r
 have hj:j<xs.length:=by omega
 obtain⟨u,hu,ru⟩:=Vals.get (i:=j) (x:=xs[j]) r (by simp [hj])
 refine⟨xs[j],by simp [hj],?_⟩
 rw[List.getElem?_eq_getElem h] at hu
 cases hu
 exact ru
section
variable {prog : Program} {w : World} {A : Around} {E : Value → Shared → Prop} {s : Shared}
theorem qmP {t b:Addr}{vs ws:List Value}{Q:Value→Shared→Prop}(ht:IsTup s.heap t vs.toArray)(hb:IsTup s.heap b ws.toArray)(hv:vs=[])(h:Q (.ref b) s):wpAny (model prog w) A (binaryOp .Add (.ref t) (.ref b)) Q E s:=by
 obtain⟨⟨cls,dd,data,sl⟩,ho,hc,n,hd⟩:=id ht
 obtain⟨⟨cls2,dd2,data2,sl2⟩,ho2,hc2,n2,hd2⟩:=id hb
 simp only at hc hd hc2 hd2
 subst hc hd hc2 hd2
 exact concat_meets ⟨_,ho,rfl⟩ ⟨_,ho2,rfl⟩ noFill_tuple_add seq_tuple_add PySem.F.slot_tuple_add PySem.F.entry_tuple_add (PySem.F.args_tuple_add_2 _ _) (tuple_addW0 t b vs.toArray ws.toArray n n2 dd dd2 sl sl2 (by simp [hv])) ⟨ho,ho2,h⟩
end
section
variable {J : It} {B : V → St → Hp → (St → Hp → Prop) → Prop} {End : St → Hp → Prop} {σ : St} {H : Hp} {D : Addr} {n : Nat} {El : Nat → V → Hp → Prop}
end
section
variable {K : PySem.W.Frag} {B : V → St → Hp → (St → Hp → Prop) → Prop} {End : St → Hp → Prop} {σ : St} {H : Hp} {D a : Addr}
end
section
variable {α : Type} {R R' : V → α → Prop} {vs ws : List V} {rs ss : List α}
end
abbrev Row:=List Int × Int
def qnS (K:PySem.W.Frag):V→V→Hp→VK→Prop:=fun x y H Q=>∃ p xs i j v,x=.ref p∧y=.int i∧SqL K H p xs∧i=((j:Nat):Int)∧xs[j]?=some v∧Q v H
theorem qlx {X:Cx}:qqn X (qnS X.K):=by
 intro pins s σ H o i ov iv Q I ro ri h
 obtain⟨p,xs,i,j,v,rfl,rfl,hq,rfl,hv,q⟩:=h
 cases ro
 obtain⟨t,rfl⟩:=ri
 obtain⟨its,r,pl,hz⟩:=I.list hq
 obtain⟨w,ew,rw'⟩:=r.get hv
 have hl:=r.length
 have hn:=qez
 have hj:=qak hv
 exact wpAny_getItem_list pl.isList (by omega) (by omega) (by rw[Int.toNat_natCast];simpa using ew) ⟨v,H,I,rw',q⟩
theorem qmr (xs:List V)(lo hi:Option Int):ql0 xs lo hi=qeD xs lo hi:=rfl
section
variable {α : Type} {R : V → α → Prop} {vs : List V} {rs : List α}
end
theorem qnA {n j:Nat}(h:j<n):ixN n (j:Int)=some j:=by
 unfold ixN
 rw[if_pos (by omega),if_pos (by omega),Int.toNat_natCast]
theorem qaD {a0 a1 a2 a3}{rest:List Expr}{env:Env}:starEach (.BinOp a0 a1 a2 a3::rest) env=(false,eval (.BinOp a0 a1 a2 a3) env)::starEach rest env:=rfl
theorem qdz {a0 a1 a2}{rest:List Expr}{env:Env}:starEach (.UnaryOp a0 a1 a2::rest) env=(false,eval (.UnaryOp a0 a1 a2) env)::starEach rest env:=rfl
theorem qaC {a0 a1 a2 a3}{rest:List Expr}{env:Env}:starEach (.ListComp a0 a1 a2 a3::rest) env=(false,eval (.ListComp a0 a1 a2 a3) env)::starEach rest env:=rfl
theorem qdN {a0 a1 a2 a3}{rest:List Expr}{env:Env}:starEach (.Compare a0 a1 a2 a3::rest) env=(false,eval (.Compare a0 a1 a2 a3) env)::starEach rest env:=rfl
theorem qao {a0 a1 a2 a3}{rest:List Expr}{env:Env}:starEach (.Call a0 a1 a2 a3::rest) env=(false,eval (.Call a0 a1 a2 a3) env)::starEach rest env:=rfl
theorem qaf {a0 a1 a2}{rest:List Expr}{env:Env}:starEach (.Constant a0 a1 a2::rest) env=(false,eval (.Constant a0 a1 a2) env)::starEach rest env:=rfl
theorem qab {a0 a1 a2}{rest:List Expr}{env:Env}:starEach (.Subscript a0 a1 a2::rest) env=(false,eval (.Subscript a0 a1 a2) env)::starEach rest env:=rfl
theorem qaa {a0 a1}{rest:List Expr}{env:Env}:starEach (.Name a0 a1::rest) env=(false,eval (.Name a0 a1) env)::starEach rest env:=rfl
theorem qmZ {a0 a1}{rest:List Expr}{env:Env}:starEach (.List a0 a1::rest) env=(false,eval (.List a0 a1) env)::starEach rest env:=rfl
theorem qaF {a0 a1 a2}{rest:List Expr}{env:Env}:starEach (.Tuple a0 a1 a2::rest) env=(false,eval (.Tuple a0 a1 a2) env)::starEach rest env:=rfl
theorem qae {pos:Pos}{env:Env}:(backTo pos (starEach [] env)).any (·.1)=false:=rfl
theorem qac {pos:Pos}{e:Expr}{es:List Expr}{env:Env}(h:starEach (e::es) env=(false,eval e env)::starEach es env)(hr:(backTo pos (starEach es env)).any (·.1)=false):(backTo pos (starEach (e::es) env)).any (·.1)=false:=by
 rw[h]
 exact hr
theorem qc0 {pos : Pos} {e : Expr} {env : Env} (h : starEach [e] env = (false, eval e env) :: starEach [] env) : ((backTo pos (starEach [e] env)).all (fun x => !x.1) && (backToKw pos (keywordEach [] env)).all (fun x => x.1.isSome)
      && decide ([e].length + ([] : List Keyword).length + (if ([] : List Keyword).isEmpty then 0 else 1) < 30)) = true := by
 rw[h]
 rfl
section
variable {X : Cx} {K : PySem.W.Frag}
theorem qni (h:X.K=K):IxR X (qq1 K):=h ▸ qlX
theorem qhC (h:X.K=K):IxR X (qrc K):=h ▸ qhr
end
end L2
namespace L2
open PySem PySem.Spec PyProof.Rows
section
variable {X : Cx} {K : PySem.W.Frag}
theorem qmI:OpR X (compareOp .IsNot) (fun x y H Q=>∃ a b:Bool,x=.bl a∧y=.bl b∧Q (.bl (!(a == b))) H):=by
 intro pins s σ H x y v u Q I rx ry h
 obtain⟨a,b,rfl,rfl,q⟩:=h
 cases rx
 cases ry
 exact wpAny_isNot_plain rfl (qme I q (by cases a <;> cases b <;> rfl))
end
end L2
namespace PySem
open Sem (wp)
open Builtin
open AutoSeq1 (wpAny_loadPart')
theorem qdI:fillsNumberSlot (.type "tuple") "mul"=pure false :=
 fillsNumberSlot_seq (id:="tuple.__mul__") (r:=some (.builtin "tuple.__rmul__")) F.slot_tuple_mul.lookup (by decide +kernel) F.slot_tuple_rmul.lookup (by decide +kernel)
theorem qfB:seqRepeat? (.type "tuple")=pure (some (.builtin "tuple.__mul__")):=by
 unfold seqRepeat?
 rw[seqSlot_of (T:="tuple") (name:="__mul__") (id:="tuple.__mul__") F.slot_tuple_mul.lookup (by decide +kernel),seqSlot_of (T:="tuple") (name:="__rmul__") (id:="tuple.__rmul__") F.slot_tuple_rmul.lookup (by decide +kernel)]
 rfl
theorem qen (a:Int)(t:Tok)(l:Addr)(items:Array Value)(n:Nat)(dd:Option Addr)(sl:Array (Option Value)) :
  Meets (Builtin.«int.__rmul__» ⟨[.int a t,.ref l],[]⟩) (fun _ R s=>s.heap.get? l=some { cls:=.type "tuple",dict:=dd,data:=.seq items n,slots:=sl }∧R (.ok (.ret Value.notImplemented)) s) :=
 .of_wp fun prog w A R s h=>by obtain⟨hp,g,d,tk,os⟩:=s;obtain⟨hl,h⟩:=h;wp_walk;exact⟨_,rfl,h⟩
theorem qgW (l:Addr)(items:Array Value)(n:Nat)(dd:Option Addr)(sl:Array (Option Value))(u:Tok) :
  Meets (Builtin.«tuple.__mul__» ⟨[.ref l,.int 1 u],[]⟩) (fun _ R s=>s.heap.get? l=some { cls:=.type "tuple",dict:=dd,data:=.seq items n,slots:=sl }∧R (.ok (.ret (Value.ref l))) s) :=
 .of_wp fun prog w A R s h=>by obtain⟨hp,g,d,tk,os⟩:=s;obtain⟨hl,h⟩:=h;have f1:=AutoSeq1.idx_int;have f2:=AutoSeq1.sub_tuple_tuple;wp_walk using wpAny_loadPart' hl;exact⟨_,rfl,h⟩
theorem qhi (l:Addr)(items:Array Value)(n:Nat)(dd:Option Addr)(sl:Array (Option Value))(k:Int)(u:Tok)(hc0:¬ (decide (k < -(2 ^ 63)) || decide (k≥2 ^ 63))=true)(hc1:¬ (items.isEmpty || k == 1)=true)(hc2:(decide (k≤0) || items.isEmpty)=true) :
  Meets (Builtin.«tuple.__mul__» ⟨[.ref l,.int k u],[]⟩) (fun _ R s=>s.heap.get? l=some { cls:=.type "tuple",dict:=dd,data:=.seq items n,slots:=sl }∧R (.ok (.ret (Value.ref s.heap.objs.size))) { s with heap:=s.heap.push { cls:=Value.type "tuple",data:=Data.seq #[] },toks:=s.toks }) :=
 .of_wp fun prog w A R s h=>by obtain⟨hp,g,d,tk,os⟩:=s;obtain⟨hl,h⟩:=h;have f1:=AutoSeq1.idx_int;have f2:=AutoSeq1.sub_tuple_tuple;wp_walk using wpAny_loadPart' hl;refine wpAny_ite_false (decide_eq_false hc0) ?_;wp_walk using wpAny_loadPart' hl;exact⟨_,rfl,h⟩
theorem qg6 (l:Addr)(items:Array Value)(n:Nat)(dd:Option Addr)(sl:Array (Option Value))(k:Int)(u:Tok)(hc0:¬ (decide (k < -(2 ^ 63)) || decide (k≥2 ^ 63))=true)(hc1:¬ (items.isEmpty || k == 1)=true)(hc2:¬ (decide (k≤0) || items.isEmpty)=true)(hc3:¬ (items.size*k>(2 ^ 63 - 1) / 8))(hc4:¬ Builtin.Tuple.tupleTooMany (items.size*k)=true)(hsz:(List.foldl (fun x1 x2=>x1++x2) #[] (List.replicate k.toNat items)).size≤sizeLine) :
  Meets (Builtin.«tuple.__mul__» ⟨[.ref l,.int k u],[]⟩) (fun _ R s=>s.heap.get? l=some { cls:=.type "tuple",dict:=dd,data:=.seq items n,slots:=sl }∧R (.ok (.ret (Value.ref s.heap.objs.size))) { s with heap:=s.heap.push { cls:=Value.type "tuple",data:=Data.seq (List.foldl (fun x1 x2=>x1++x2) #[] (List.replicate k.toNat items)) },toks:=s.toks }) :=
 .of_wp fun prog w A R s h=>by obtain⟨hp,g,d,tk,os⟩:=s;obtain⟨hl,h⟩:=h;have f1:=AutoSeq1.idx_int;have f2:=AutoSeq1.sub_tuple_tuple;wp_walk using wpAny_loadPart' hl;refine wpAny_ite_false (decide_eq_false hc0) ?_;wp_walk using wpAny_loadPart' hl;refine wpAny_ite_false (decide_eq_false hc3) ?_;wp_walk using wpAny_loadPart' hl;exact⟨_,rfl,h⟩
end PySem
namespace L2
open PySem PySem.Spec PyProof.Rows
inductive D where
 | int (i:Int) | bl (b:Bool) | str (x:Str) | non | tup (xs:List D) | lst (xs:List D) | fzl (xs:List D) | obj (nm:Str) (fs:List (Str × D)) | map (kvs:List (Key × D)) | exc (nm:Str) (ats:List D)
def qiE (a C:Addr)(dx:Option Addr):Heap→Prop:=fun h=>∃ o vs,h.get? a=some o∧o.cls=.ref C∧o.dict=dx∧o.data=.fields vs
inductive Rp (K:PySem.W.Frag) (H:Hp):D→V→Prop where
 | int (i:Int):Rp K H (.int i) (.int i)
 | bl (b:Bool):Rp K H (.bl b) (.bl b)
 | str (x:Str):Rp K H (.str x) (.str x)
 | non:Rp K H .non .non
 | tup {a:Addr} {vs:List V} {ds:List D}:H a=some (.tup vs)→vs.length=ds.length→(∀ (i:Nat) (v:V) (d:D),vs[i]?=some v→ds[i]?=some d→Rp K H d v)→Rp K H (.tup ds) (.ref a)
 | lst {a:Addr} {vs:List V} {ds:List D}:H a=some (.lst vs)→vs.length=ds.length→(∀ (i:Nat) (v:V) (d:D),vs[i]?=some v→ds[i]?=some d→Rp K H d v)→Rp K H (.lst ds) (.ref a)
 | fzl {a:Addr} {vs:List V} {ds:List D}:SqL K H a vs→vs.length=ds.length→(∀ (i:Nat) (v:V) (d:D),vs[i]?=some v→ds[i]?=some d→Rp K H d v)→Rp K H (.fzl ds) (.ref a)
 | obj {a C dx:Addr} {nm:Str} {vs:List (Str × V)} {fs:List (Str × D)}:PySem.W.nsIn K mainGlobals nm=some (some (.ref C))→H a=some (.ins C dx vs)→vs.map (·.1)=fs.map (·.1)→(∀ (i:Nat) (v:Str × V) (d:Str × D),vs[i]?=some v→fs[i]?=some d→Rp K H d.2 v.2)→Rp K H (.obj nm fs) (.ref a)
 | map {a:Addr} {ws:List (Key × V)} {kvs:List (Key × D)}:H a=some (.dK ws)→ws.map (·.1)=kvs.map (·.1)→(∀ (i:Nat) (w:Key × V) (d:Key × D),ws[i]?=some w→kvs[i]?=some d→Rp K H d.2 w.2)→Rp K H (.map kvs) (.ref a)
 | exc0 {a C:Addr} {nm:Str}:PySem.W.nsIn K mainGlobals nm=some (some (.ref C))→H a=some (.ext (qiE a C none))→Rp K H (.exc nm []) (.ref a)
 | exc1 {a C p:Addr} {nm:Str} {v:V} {d:D}:PySem.W.nsIn K mainGlobals nm=some (some (.ref C))→H a=some (.ext (qiE a C (some p)))→H p=some (.xd [("at",v)])→Rp K H d v→Rp K H (.exc nm [d]) (.ref a)
def RpL (K:PySem.W.Frag)(H:Hp)(ds:List D)(vs:List V):Prop:=vs.length=ds.length∧∀ (i:Nat) (v:V) (d:D),vs[i]?=some v→ds[i]?=some d→Rp K H d v
section
variable {K : PySem.W.Frag} {H H' Φ Φ' Φ1 H1 Φ2 H2 : Hp} {d : D} {v : V} {ds es : List D} {vs ws : List V}
theorem Rp.same (s:Same H H')(h:Rp K H d v):Rp K H' d v:=by
 induction h with
 | int i=>exact .int i
 | bl b=>exact .bl b
 | str x=>exact .str x
 | non=>exact .non
 | tup h1 h2 _ ih=>exact .tup (s _ _ h1) h2 ih
 | lst h1 h2 _ ih=>exact .lst (s _ _ h1) h2 ih
 | fzl h1 h2 _ ih=>exact .fzl (s.seq h1) h2 ih
 | obj h0 h1 h2 _ ih=>exact .obj h0 (s _ _ h1) h2 ih
 | map h1 h2 _ ih=>exact .map (s _ _ h1) h2 ih
 | exc0 h0 h1=>exact .exc0 h0 (s _ _ h1)
 | exc1 h0 h1 h2 _ ih=>exact .exc1 h0 (s _ _ h1) (s _ _ h2) ih
theorem RpL.same (s:Same H H')(h:RpL K H ds vs):RpL K H' ds vs:=⟨h.1,fun i v d hv hd=>(h.2 i v d hv hd).same s⟩
theorem RpL.nil:RpL K H [] []:=⟨rfl,fun i v d hv _=>by simp at hv⟩
theorem RpL.cons (r:Rp K H d v)(h:RpL K H ds vs):RpL K H (d::ds) (v::vs):=⟨by simp [h.1],fun i u e hu he=>by
 cases i with
 | zero=>cases hu;cases he;exact r
 | succ i=>exact h.2 i u e hu he⟩
theorem RpL.append (h:RpL K H ds vs)(h':RpL K H es ws):RpL K H (ds++es) (vs++ws):=by
 refine⟨by rw[List.length_append,List.length_append,h.1,h'.1],fun i u e hu he=>?_⟩
 rcases Nat.lt_or_ge i vs.length with c | c
 ·rw[List.getElem?_append_left c] at hu
  rw[List.getElem?_append_left (by rw[← h.1];exact c)] at he
  exact h.2 i u e hu he
 ·rw[List.getElem?_append_right c] at hu
  rw[List.getElem?_append_right (by rw[← h.1];exact c),← h.1] at he
  exact h'.2 _ u e hu he
theorem RpL.one (r:Rp K H d v):RpL K H [d] [v]:=.cons r .nil
theorem RpL.take (h:RpL K H ds vs)(k:Nat):RpL K H (ds.take k) (vs.take k):=⟨by rw[List.length_take,List.length_take,h.1],fun i u e hu he=>by
 rcases Nat.lt_or_ge i k with c | c
 ·rw[List.getElem?_take_of_lt c] at hu he
  exact h.2 i u e hu he
 ·rw[List.getElem?_take_eq_none c] at hu
  cases hu⟩
theorem RpL.drop (h:RpL K H ds vs)(k:Nat):RpL K H (ds.drop k) (vs.drop k):=⟨by rw[List.length_drop,List.length_drop,h.1],fun i u e hu he=>by
 rw[List.getElem?_drop] at hu he
 exact h.2 _ u e hu he⟩
theorem RpL.set (h:RpL K H ds vs)(r:Rp K H d v)(k:Nat):RpL K H (ds.set k d) (vs.set k v):=⟨by rw[List.length_set,List.length_set,h.1],fun i u e hu he=>by
 by_cases c:k=i
 ·subst c
  have hk:k<vs.length:=by have:=qak hu;rwa [List.length_set] at this
  rw[List.getElem?_set_self hk] at hu
  rw[List.getElem?_set_self (by rw[← h.1];exact hk)] at he
  cases hu;cases he
  exact r
 ·rw[List.getElem?_set_ne c] at hu he
  exact h.2 i u e hu he⟩
theorem RpL.dropLast (h:RpL K H ds vs):RpL K H ds.dropLast vs.dropLast:=by
 rw[List.dropLast_eq_take,List.dropLast_eq_take,h.1]
 exact h.take _
theorem RpL.rep (h:RpL K H ds vs):∀ k:Nat,RpL K H (List.replicate k ds).flatten (List.replicate k vs).flatten
 | 0=>.nil
 | k+1=>by
  rw[List.replicate_succ,List.replicate_succ,List.flatten_cons,List.flatten_cons]
  exact h.append (RpL.rep h k)
theorem RpL.at (h:RpL K H ds vs){i:Nat}(e:ds[i]?=some d):∃ v,vs[i]?=some v∧Rp K H d v:=by
 have hi:i<vs.length:=by rw[h.1];exact qak e
 exact⟨vs[i],by simp [hi],h.2 i _ d (by simp [hi]) e⟩
theorem RpL.cut (h:RpL K H ds vs)(lo hi:Option Int):RpL K H (qeD ds lo hi) (ql0 vs lo hi):=by
 rw[qmr]
 unfold qeD
 rw[h.1]
 exact (h.drop _).take _
theorem RpL.tup {a:Addr}(h:RpL K H ds vs)(s:H a=some (.tup vs)):Rp K H (.tup ds) (.ref a):=.tup s h.1 h.2
theorem RpL.lst {a:Addr}(h:RpL K H ds vs)(s:H a=some (.lst vs)):Rp K H (.lst ds) (.ref a):=.lst s h.1 h.2
theorem RpL.fzl {a:Addr}(h:RpL K H ds vs)(s:SqL K H a vs):Rp K H (.fzl ds) (.ref a):=.fzl s h.1 h.2
theorem RpL.ints (ns:List Int):RpL K H (ns.map D.int) (ns.map V.int):=⟨by simp,fun i v d hv hd=>by
 rw[List.getElem?_map] at hv hd
 cases e:ns[i]? with
 | none=>rw[e] at hv;cases hv
 | some k=>rw[e] at hv hd;cases hv;cases hd;exact .int k⟩
def OwK:HO→Prop | .lst _=>True | .dK _=>True | .dT _=>True | .ins _ _ _=>True | _=>False
structure Gr (Φ H Φ' H':Hp):Prop where
 f:Same Φ Φ'
 h:Same H H'
 s:Same Φ' H'
 o:∀ p (u:HO),H p=some u→Φ p=none→(k:OwK u:=by trivial)→Φ' p=none
theorem Gr.refl (s:Same Φ H):Gr Φ H Φ H:=⟨Same.refl _,Same.refl _,s,fun _ _ _ h _=>h⟩
theorem Gr.trans (a:Gr Φ H Φ1 H1)(b:Gr Φ1 H1 Φ2 H2):Gr Φ H Φ2 H2:=⟨a.f.trans b.f,a.h.trans b.h,b.s,fun p u hp hn k=>b.o p u (a.h p _ hp) (a.o p u hp hn k) k⟩
theorem Gr.join (a:Gr Φ H Φ1 H1)(b:Gr Φ1 H Φ2 H2):Gr Φ H Φ2 H2:=⟨a.f.trans b.f,b.h,b.s,fun p u hp hn k=>b.o p u hp (a.o p u hp hn k) k⟩
theorem qkD (s:Same Φ H){p:Addr}(o:HO):Same (upd Φ p o) (upd H p o):=fun b u e=>by
 by_cases c:b=p
 ·subst c;rw[qaj] at e ⊢;exact e
 ·rw[qal c] at e ⊢;exact s b u e
theorem Gr.new (s:Same Φ H){p:Addr}(hp:H p=none)(o:HO):Gr Φ H (upd Φ p o) (upd H p o) :=
 ⟨qaK (s.free hp) o,qaK hp o,qkD s o,fun q u hq hn _=>by rw[qal (qas hq hp)];exact hn⟩
theorem Gr.fresh (s:Same Φ H){p:Addr}(hp:H p=none)(o:HO):Gr Φ H Φ (upd H p o) :=
 ⟨Same.refl _,qaK hp o,fun b u e=>qaK hp o b u (s b u e),fun _ _ _ h _=>h⟩
theorem Gr.freeze (g:Gr Φ H Φ' H'){p:Addr}{o:HO}(h0:H p=none)(hn:Φ' p=none)(hp:H' p=some o):Gr Φ H (upd Φ' p o) H' :=
 ⟨g.f.trans (qaK hn o),g.h,fun b u e=>by
  by_cases c:b=p
  ·subst c;rw[qaj] at e;cases e;exact hp
  ·rw[qal c] at e;exact g.s b u e,fun q u hq hqn k=>by rw[qal (qas hq h0)];exact g.o q u hq hqn k⟩
theorem Gr.adoptT {p:Addr}{xs:List V}(s:Same Φ H)(h:Same H H')(ho:H' p=some (.tup xs)):∃ Φ',Gr Φ H Φ' H'∧Φ' p=some (.tup xs):=by
 have e1:∀ u,Φ p=some u→u=.tup xs:=fun u e=>by have:=h _ _ (s _ _ e);rw[ho] at this;cases this;rfl
 refine⟨upd Φ p (.tup xs),⟨fun b u e=>?_,h,fun b u e=>?_,fun b u e n k=>?_⟩,qaj⟩
 ·by_cases c:b=p
  ·subst c;rw[qaj,e1 u e]
  ·rw[qal c];exact e
 ·by_cases c:b=p
  ·subst c;rw[qaj] at e;cases e;exact ho
  ·rw[qal c] at e;exact h _ _ (s _ _ e)
 ·by_cases c:b=p
  ·subst c
   have:=h _ _ e
   rw[ho] at this
   cases this
   exact k.elim
  ·rw[qal c];exact n
def RpQ (K:PySem.W.Frag)(Φ H:Hp)(d:D)(v:V):Prop:=Rp K Φ d v∨∃ a vs ds,d=.lst ds∧v=.ref a∧H a=some (.lst vs)∧RpL K Φ ds vs
theorem RpQ.gr (g:Gr Φ H Φ' H')(h:RpQ K Φ H d v):RpQ K Φ' H' d v:=by
 rcases h with h | ⟨a,vs,ds,e,e2,h1,h2⟩
 ·exact .inl (h.same g.f)
 ·exact .inr ⟨a,vs,ds,e,e2,g.h _ _ h1,h2.same g.f⟩
theorem RpQ.lst (s:Same Φ H)(h:RpQ K Φ H (.lst ds) v):∃ a vs,v=.ref a∧H a=some (.lst vs)∧RpL K Φ ds vs:=by
 rcases h with h | ⟨a,vs,ds,e,e2,h1,h2⟩
 ·cases h with | lst h1 h2 h3=>exact⟨_,_,rfl,s _ _ h1,h2,h3⟩
 ·cases e;exact⟨a,vs,e2,h1,h2⟩
theorem RpQ.fzl (s:Same Φ H)(h:RpQ K Φ H (.fzl ds) v):∃ a vs,v=.ref a∧SqL K H a vs∧RpL K Φ ds vs:=by
 rcases h with h | ⟨a,vs,ds,e,e2,h1,h2⟩
 ·cases h with | fzl h1 h2 h3=>exact⟨_,_,rfl,s.seq h1,h2,h3⟩
 ·cases e
theorem RpQ.tup (s:Same Φ H)(h:RpQ K Φ H (.tup ds) v):∃ a vs,v=.ref a∧SqT K H a vs∧Φ a=some (.tup vs)∧RpL K Φ ds vs:=by
 rcases h with h | ⟨a,vs,ds,e,e2,h1,h2⟩
 ·cases h with | tup h1 h2 h3=>exact⟨_,_,rfl,.of (s _ _ h1),h1,h2,h3⟩
 ·cases e
theorem RpQ.int {i:Int}(h:RpQ K Φ H (.int i) v):v=.int i:=by
 rcases h with h | ⟨a,vs,ds,e,_⟩
 ·cases h;rfl
 ·cases e
theorem RpQ.bl {i:Bool}(h:RpQ K Φ H (.bl i) v):v=.bl i:=by
 rcases h with h | ⟨a,vs,ds,e,_⟩
 ·cases h;rfl
 ·cases e
theorem RpQ.str {i:Str}(h:RpQ K Φ H (.str i) v):v=.str i:=by
 rcases h with h | ⟨a,vs,ds,e,_⟩
 ·cases h;rfl
 ·cases e
theorem RpQ.non (h:RpQ K Φ H .non v):v=.non:=by
 rcases h with h | ⟨a,vs,ds,e,_⟩
 ·cases h;rfl
 ·cases e
def qe1:D→Option (List D)
 | .lst ds=>some ds
 | .tup ds=>some ds
 | .fzl ds=>some ds
 | _=>none
theorem RpQ.seq (s:Same Φ H)(h:RpQ K Φ H d v)(e:qe1 d=some ds):∃ a vs,v=.ref a∧(SqL K H a vs∨SqT K H a vs)∧RpL K Φ ds vs:=by
 cases d with
 | lst ds=>cases e;obtain⟨a,vs,e,h1,h2⟩:=h.lst s;exact⟨a,vs,e,.inl (.of h1),h2⟩
 | tup ds=>cases e;obtain⟨a,vs,e,h1,_,h2⟩:=h.tup s;exact⟨a,vs,e,.inr h1,h2⟩
 | fzl ds=>cases e;obtain⟨a,vs,e,h1,h2⟩:=h.fzl s;exact⟨a,vs,e,.inl h1,h2⟩
 | _=>cases e
theorem Rp.seq (h:Rp K Φ d v)(e:qe1 d=some ds):∃ (b:Bool) (a:Addr) (vs:List V),v=.ref a∧SqB K b Φ a vs∧RpL K Φ ds vs:=by
 cases d with
 | lst ds=>cases e;cases h with | lst h1 h2 h3=>exact⟨true,_,_,rfl,SqL.of h1,h2,h3⟩
 | tup ds=>cases e;cases h with | tup h1 h2 h3=>exact⟨false,_,_,rfl,SqT.of h1,h2,h3⟩
 | fzl ds=>cases e;cases h with | fzl h1 h2 h3=>exact⟨true,_,_,rfl,h1,h2,h3⟩
 | _=>cases e
end
inductive Ow where | lst (xs:List D) | dct (ks:List Key) | dcT (ks:List (List Key))
inductive Sl where | v (d:D) | ob (o:Ow)
abbrev Sl.own (xs:List D):Sl:=.ob (.lst xs)
abbrev Sl.dct (ks:List Key):Sl:=.ob (.dct ks)
abbrev Sl.dcT (ks:List (List Key)):Sl:=.ob (.dcT ks)
def OwR (K:PySem.W.Frag)(Φ:Hp):Ow→HO→Prop
 | .lst ds,.lst vs=>RpL K Φ ds vs
 | .dct ks,.dK kvs=>kvs.map (·.1)=ks
 | .dcT ks,.dT kvs=>kvs.map (·.1)=ks
 | _,_=>False
theorem OwR.k {K:PySem.W.Frag}{Φ:Hp}{o:Ow}{u:HO}(r:OwR K Φ o u):OwK u:=by
 cases o with
 | lst ds =>
  cases u with
  | lst vs=>exact True.intro
  | _=>exact r.elim
 | dct ks =>
  cases u with
  | dK kvs=>exact True.intro
  | _=>exact r.elim
 | dcT ks =>
  cases u with
  | dT kvs=>exact True.intro
  | _=>exact r.elim
theorem OwR.same {K:PySem.W.Frag}{Φ Φ':Hp}{o:Ow}{u:HO}(r:OwR K Φ o u)(s:Same Φ Φ'):OwR K Φ' o u:=by
 cases o with
 | lst ds =>
  cases u with
  | lst vs=>exact (show RpL K Φ ds vs from r).same s
  | _=>exact r.elim
 | dct ks =>
  cases u with
  | dK kvs=>exact r
  | _=>exact r.elim
 | dcT ks =>
  cases u with
  | dT kvs=>exact r
  | _=>exact r.elim
abbrev Rho:=List (Option Sl)
def qnT:FuncBody→Option Pos
 | .stmts b=>(match b.getLast? with
  | some (.Return (some (.Call _ _ kws _)) _)=>kws.findSome? fun k=>(match k.value with | .Lambda _ _ _ pos=>some pos | _=>none)
  | _=>none)
 | _=>none
def qmL (K:PySem.W.Frag)(x:Str):Option (Addr × Array Value):=match PySem.W.nsIn K mainGlobals x with
 | some (some (.ref f))=>(match K.lookup f with
  | some ⟨_,_,.func fd,_⟩=>(match fd.code with
   | .ref c=>(match K.lookup c with
    | some ⟨_,_,.fields vs,_⟩=>(match (vs[11]?:Option Value),qnT fd.body with
     | some (.ref P),some pos=>some (P,#[rawInt pos.line,rawInt pos.col,.str (fd.qualname++".<locals>."++"<lambda>") 0])
     | _,_=>none)
    | _=>none)
   | _=>none)
  | _=>none)
 | _=>none
def qj3 (K:PySem.W.Frag):List (Addr × Array Value):=(["least_grown","greatest_first"]:List Str).filterMap (qmL K)
def TabF (K:PySem.W.Frag)(Φ:Hp):Prop:=∀ t∈qj3 K,Φ t.1=some (.tbl t.2)
theorem TabF.same {K:PySem.W.Frag}{Φ Φ':Hp}(h:TabF K Φ)(s:Same Φ Φ'):TabF K Φ':=fun t ht=>s _ _ (h t ht)
structure EnvD (K:PySem.W.Frag)(H0 Φ H:Hp)(σ:St)(ρ:Rho):Prop where
 fz:Same Φ H
 len:σ.length=ρ.length
 sl:∀ (i:Nat) (d:D),ρ[i]?=some (some (.v d))→∃ v,σ[i]?=some (some v)∧Rp K Φ d v
 ow:∀ (i:Nat) (o:Ow),ρ[i]?=some (some (.ob o))→∃ p u,σ[i]?=some (some (.ref p))∧H0 p=none∧Φ p=none∧H p=some u∧OwR K Φ o u
 ne:∀ (i j:Nat) (o w:Ow) (p:Addr),ρ[i]?=some (some (.ob o))→ρ[j]?=some (some (.ob w))→σ[i]?=some (some (.ref p))→σ[j]?=some (some (.ref p))→i=j
 tb:TabF K Φ
section
variable {K : PySem.W.Frag} {H0 H H' Φ Φ' Φ1 H1 Φ2 H2 : Hp} {σ : St} {ρ : Rho} {d : D} {v : V} {ds es : List D} {vs ws : List V}
theorem EnvD.owl (E:EnvD K H0 Φ H σ ρ)(i:Nat)(ds:List D)(h:ρ[i]?=some (some (.own ds))):∃ p vs,σ[i]?=some (some (.ref p))∧H0 p=none∧Φ p=none∧H p=some (.lst vs)∧RpL K Φ ds vs:=by
 obtain⟨p,u,e,h0,hn,hp,r⟩:=E.ow i _ h
 cases u with
 | lst vs=>exact⟨p,vs,e,h0,hn,hp,r⟩
 | _=>exact (show False from r).elim
theorem EnvD.gr (E:EnvD K H0 Φ H σ ρ)(g:Gr Φ H Φ' H'):EnvD K H0 Φ' H' σ ρ :=
 ⟨g.s,E.len,fun i d h=>let ⟨v,e,r⟩:=E.sl i d h;⟨v,e,r.same g.f⟩,
  fun i ds h=>let ⟨p,vs,e,h0,hn,hp,r⟩:=E.ow i ds h;⟨p,vs,e,h0,g.o p _ hp hn r.k,g.h _ _ hp,r.same g.f⟩,E.ne,E.tb.same g.f⟩
theorem qbi {α:Type}{l:List α}{i j:Nat}{x y:α}(h:(l.set i x)[j]?=some y):(j=i∧i<l.length∧y=x)∨(j≠i∧l[j]?=some y):=by
 by_cases c:i=j
 ·subst c
  have hi:i<l.length:=by have:=qak h;rwa [List.length_set] at this
  rw[List.getElem?_set_self hi] at h
  cases h
  exact .inl ⟨rfl,hi,rfl⟩
 ·rw[List.getElem?_set_ne c] at h
  exact .inr ⟨fun e=>c e.symm,h⟩
theorem EnvD.set (E:EnvD K H0 Φ H σ ρ)(r:Rp K Φ d v)(i:Nat):EnvD K H0 Φ H (σ.set i (some v)) (ρ.set i (some (.v d))):=by
 have nn:∀ {j:Nat} {x:Option V},j≠i→σ[j]?=some x→(σ.set i (some v))[j]?=some x:=fun c h=>by rw[List.getElem?_set_ne (Ne.symm c)];exact h
 refine⟨E.fz,by rw[List.length_set,List.length_set,E.len],fun j e h=>?_,fun j ds h=>?_,fun j k ds es p hj hk sj sk=>?_,E.tb⟩
 ·rcases qbi h with⟨rfl,hi,e1⟩ | ⟨c,h⟩
  ·cases e1
   exact⟨v,by rw[List.getElem?_set_self (by rw[E.len];exact hi)],r⟩
  ·obtain⟨u,hu,ru⟩:=E.sl j e h
   exact⟨u,nn c hu,ru⟩
 ·rcases qbi h with⟨rfl,hi,e1⟩ | ⟨c,h⟩
  ·cases e1
  ·obtain⟨p,vs,e,q⟩:=E.ow j ds h
   exact⟨p,vs,nn c e,q⟩
 ·rcases qbi hj with⟨rfl,_,e1⟩ | ⟨cj,hj⟩
  ·cases e1
  rcases qbi hk with⟨rfl,_,e1⟩ | ⟨ck,hk⟩
  ·cases e1
  rw[List.getElem?_set_ne (Ne.symm cj)] at sj
  rw[List.getElem?_set_ne (Ne.symm ck)] at sk
  exact E.ne j k ds es p hj hk sj sk
theorem EnvD.setOb (E:EnvD K H0 Φ H σ ρ){p:Addr}{o:Ow}{u:HO}(r:OwR K Φ o u)(h0:H0 p=none)(hn:Φ p=none)(hp:H p=some u)(hnew:∀ (j:Nat) (w:Ow),ρ[j]?=some (some (.ob w))→σ[j]?≠some (some (.ref p)))(i:Nat):EnvD K H0 Φ H (σ.set i (some (.ref p))) (ρ.set i (some (.ob o))):=by
 have nn:∀ {j:Nat} {x:Option V},j≠i→σ[j]?=some x→(σ.set i (some (.ref p)))[j]?=some x:=fun c h=>by rw[List.getElem?_set_ne (Ne.symm c)];exact h
 refine⟨E.fz,by rw[List.length_set,List.length_set,E.len],fun j e h=>?_,fun j ds h=>?_,fun j k ds es q hj hk sj sk=>?_,E.tb⟩
 ·rcases qbi h with⟨rfl,hi,e1⟩ | ⟨c,h⟩
  ·cases e1
  ·obtain⟨u,hu,ru⟩:=E.sl j e h
   exact⟨u,nn c hu,ru⟩
 ·rcases qbi h with⟨rfl,hi,e1⟩ | ⟨c,h⟩
  ·cases e1
   exact⟨p,u,by rw[List.getElem?_set_self (by rw[E.len];exact hi)],h0,hn,hp,r⟩
  ·obtain⟨p,vs,e,q⟩:=E.ow j ds h
   exact⟨p,vs,nn c e,q⟩
 ·rcases qbi hj with⟨e1,hl,_⟩ | ⟨cj,hj'⟩
  ·rcases qbi hk with⟨e2,_,_⟩ | ⟨ck,hk'⟩
   ·rw[e1,e2]
   ·rw[e1,List.getElem?_set_self (by rw[E.len];exact hl)] at sj
    cases sj
    rw[List.getElem?_set_ne (Ne.symm ck)] at sk
    exact absurd sk (hnew k _ hk')
  ·rw[List.getElem?_set_ne (Ne.symm cj)] at sj
   rcases qbi hk with⟨e2,hl,_⟩ | ⟨ck,hk'⟩
   ·rw[e2,List.getElem?_set_self (by rw[E.len];exact hl)] at sk
    cases sk
    exact absurd sj (hnew j _ hj')
   ·rw[List.getElem?_set_ne (Ne.symm ck)] at sk
    exact E.ne j k _ _ q hj' hk' sj sk
theorem EnvD.putOb (E:EnvD K H0 Φ H σ ρ){i:Nat}{p:Addr}{o o':Ow}{u:HO}(ho:ρ[i]?=some (some (.ob o)))(hs:σ[i]?=some (some (.ref p)))(r:OwR K Φ o' u):EnvD K H0 Φ (upd H p u) σ (ρ.set i (some (.ob o'))):=by
 obtain⟨p',vs,e,h0,hn,hp,_⟩:=E.ow i _ ho
 rw[hs] at e
 cases e
 have hi:=qak ho
 refine⟨fun b u e=>?_,by rw[List.length_set,E.len],fun j e h=>?_,fun j fs h=>?_,fun j k fs gs q hj hk sj sk=>?_,E.tb⟩
 ·rw[qal (qas e hn)]
  exact E.fz b u e
 ·rcases qbi h with⟨rfl,_,e1⟩ | ⟨c,h⟩
  ·cases e1
  ·exact E.sl j e h
 ·rcases qbi h with⟨rfl,_,e1⟩ | ⟨c,h⟩
  ·cases e1
   exact⟨p,u,hs,h0,hn,qaj,r⟩
  ·obtain⟨q,us,e,q0,qn,qp,qr⟩:=E.ow j fs h
   refine⟨q,us,e,q0,qn,?_,qr⟩
   rw[qal fun z=>c (E.ne j i fs o p h ho (by rw[e,z]) hs)]
   exact qp
 ·have old:∀ {j:Nat} {fs:Ow},(ρ.set i (some (.ob o')))[j]?=some (some (.ob fs))→∃ gs,ρ[j]?=some (some (.ob gs)):=fun {j fs} h=>by
   rcases qbi h with⟨rfl,_,_⟩ | ⟨_,h⟩
   ·exact⟨o,ho⟩
   ·exact⟨fs,h⟩
  obtain⟨fs',hj⟩:=old hj
  obtain⟨gs',hk⟩:=old hk
  exact E.ne j k fs' gs' q hj hk sj sk
theorem EnvD.setOwn (E:EnvD K H0 Φ H σ ρ){p:Addr}(r:RpL K Φ ds vs)(h0:H0 p=none)(hn:Φ p=none)(hp:H p=some (.lst vs))(hnew:∀ (j:Nat) (w:Ow),ρ[j]?=some (some (.ob w))→σ[j]?≠some (some (.ref p)))(i:Nat):EnvD K H0 Φ H (σ.set i (some (.ref p))) (ρ.set i (some (.own ds))):=E.setOb (o:=.lst ds) (u:=.lst vs) r h0 hn hp hnew i
theorem EnvD.put (E:EnvD K H0 Φ H σ ρ){i:Nat}{p:Addr}(ho:ρ[i]?=some (some (.own ds)))(hs:σ[i]?=some (some (.ref p)))(r:RpL K Φ es ws):EnvD K H0 Φ (upd H p (.lst ws)) σ (ρ.set i (some (.own es))):=E.putOb (o':=.lst es) (u:=.lst ws) ho hs r
theorem EnvD.weak {ρ':Rho}(E:EnvD K H0 Φ H σ ρ)(hl:ρ'.length=ρ.length)(hw:∀ (i:Nat) x,ρ'[i]?=some (some x)→ρ[i]?=some (some x)):EnvD K H0 Φ H σ ρ' :=
 ⟨E.fz,by rw[E.len,hl],fun i d h=>E.sl i d (hw i _ h),fun i ds h=>E.ow i ds (hw i _ h),fun i j ds es p hi hj=>E.ne i j ds es p (hw i _ hi) (hw j _ hj),E.tb⟩
end
def NF {α:Type}(x:α)(R:α→Prop):Prop:=∃ y,x=y∧R y
theorem NF.get {α:Type}{x:α}{R:α→Prop}(h:NF x R):R x:=by
 obtain⟨_,rfl,h⟩:=h
 exact h
abbrev TD:=Rho→(D→Prop)→Prop
abbrev TDL:=Rho→(List D→Prop)→Prop
abbrev TDB:=Rho→(Bool→Prop)→Prop
def lE (K:PySem.W.Frag)(t:TD):TE:=fun σ H Q=>∃ H0 Φ ρ R,EnvD K H0 Φ H σ ρ∧t ρ R∧∀ d Φ' H' v,R d→Gr Φ H Φ' H'→Rp K Φ' d v→Q v H'
def lQ (K:PySem.W.Frag)(t:TD):TE:=fun σ H Q=>∃ H0 Φ ρ R,EnvD K H0 Φ H σ ρ∧t ρ R∧∀ d Φ' H' v,R d→Gr Φ H Φ' H'→RpQ K Φ' H' d v→Q v H'
def lF (K:PySem.W.Frag)(t:TDL):TE:=fun σ H Q=>∃ H0 Φ ρ R,EnvD K H0 Φ H σ ρ∧t ρ R∧∀ ds Φ' H' p vs,R ds→Gr Φ H Φ' H'→H p=none→Φ' p=none→H' p=some (.lst vs)→RpL K Φ' ds vs→Q (.ref p) H'
def lA (K:PySem.W.Frag)(n:Nat)(t:TDL):TA:=fun σ H Q=>∃ H0 Φ ρ R,EnvD K H0 Φ H σ ρ∧t ρ R∧∀ ds Φ' H' vs,R ds→Gr Φ H Φ' H'→RpL K Φ' ds vs→ds.length=n→Q vs H'
def lT (K:PySem.W.Frag)(t:TDB):TT:=fun σ H Q=>∃ H0 Φ ρ R,EnvD K H0 Φ H σ ρ∧t ρ R∧∀ b Φ' H',R b→Gr Φ H Φ' H'→Q b H'
structure PD (K:PySem.W.Frag)(X:Cx)(e:Expr)(t:TD):Prop where pe:X.K=K→PE X e (lE K t)
structure PQ (K:PySem.W.Frag)(X:Cx)(e:Expr)(t:TD):Prop where pe:X.K=K→PE X e (lQ K t)
structure PF (K:PySem.W.Frag)(X:Cx)(e:Expr)(t:TDL):Prop where pe:X.K=K→PE X e (lF K t)
structure PAD (K:PySem.W.Frag)(X:Cx)(es:List Expr)(t:TDL):Prop where pa:X.K=K→PA X es (lA K es.length t)
structure PTD (K:PySem.W.Frag)(X:Cx)(e:Expr)(t:TDB):Prop where pt:X.K=K→PT X e (lT K t)
structure PWD (K:PySem.W.Frag)(X:Cx)(e:Expr)(t:TDB):Prop where pw:X.K=K→PW X e (lT K t)
theorem PE.imp {X:Cx}{e:Expr}{t t':TE}(h:PE X e t)(k:∀ σ H Q,t' σ H Q→t σ H Q):PE X e t':=fun pins s σ H Q I hw=>h pins s σ H Q I (k σ H Q hw)
theorem PT.imp {X:Cx}{e:Expr}{t t':TT}(h:PT X e t)(k:∀ σ H Q,t' σ H Q→t σ H Q):PT X e t':=fun pins s σ H Q I hw=>h pins s σ H Q I (k σ H Q hw)
theorem PW.imp {X:Cx}{e:Expr}{t t':TT}(h:PW X e t)(k:∀ σ H Q,t' σ H Q→t σ H Q):PW X e t':=fun wh pins s σ H Q I hw=>h wh pins s σ H Q I (k σ H Q hw)
theorem PA.imp {X:Cx}{e:List Expr}{t t':TA}(h:PA X e t)(k:∀ σ H Q,t' σ H Q→t σ H Q):PA X e t':=fun pos pins s σ H Q I hw=>h pos pins s σ H Q I (k σ H Q hw)
theorem PS.imp {X:Cx}{e:Stmt}{t t':TS}(h:PS X e t)(k:∀ D σ H,t' D σ H→t D σ H):PS X e t':=fun pins s σ H D I hw=>h pins s σ H D I (k D σ H hw)
theorem PSs.imp {X:Cx}{e:List Stmt}{t t':TS}(h:PSs X e t)(k:∀ D σ H,t' D σ H→t D σ H):PSs X e t':=fun pins s σ H D I hw=>h pins s σ H D I (k D σ H hw)
section
variable {K : PySem.W.Frag} {X : Cx} {e a b c : Expr} {es : List Expr} {pos : Pos} {t ta tb : TD} {tf : TDL} {tl : TDL} {tt tu : TDB}
theorem PD.q (h:PD K X e t):PQ K X e t:=⟨fun hK=>(h.pe hK).imp fun σ H Q hq0=>by obtain⟨H0,Φ,ρ,R,E,t,k⟩:=hq0;exact⟨H0,Φ,ρ,R,E,t,fun d Φ' H' v r g rr=>k d Φ' H' v r g (.inl rr)⟩⟩
def qrH (t:TDL):TD:=fun ρ R=>t ρ fun ds=>R (.lst ds)
theorem PF.d (h:PF K X e tf):PD K X e (qrH tf):=⟨fun hK=>(h.pe hK).imp fun σ H Q hq0=>by obtain⟨H0,Φ,ρ,R,E,t,k⟩:=hq0;exact⟨H0,Φ,ρ,_,E,t,fun ds Φ' H' p vs r g h0 hn hp rr =>
 k (.lst ds) _ H' _ r (g.freeze h0 hn hp) ((rr.same (qaK hn _)).lst qaj)⟩⟩
def qq0 (i:Nat):TD:=fun ρ R=>match ρ[i]? with | some (some (.v d))=>R d | _=>False
def qld (i:Nat):TD:=fun ρ R=>match ρ[i]? with | some (some (.v d))=>R d | some (some (.ob (.lst ds)))=>R (.lst ds) | _=>False
theorem dv (i:Nat){x:Str}(hN:X.N[i]?=some x:=by rfl)(hv:Vis X.env.scope x:=by first | exact Or.inl rfl | exact Or.inr (Or.inl rfl) | exact Or.inr (Or.inr rfl))(hd:(x == ("__debug__":Str))=false:=by decide)
  (hcd:(x == ("__classdict__":Str))=false:=by decide):PD K X (.Name x pos) (qq0 i):=⟨fun _=>(pv i hN hv hd hcd).imp fun σ H Q hq0=>by
 obtain⟨H0,Φ,ρ,R,E,t,k⟩:=hq0
 unfold qq0 at t
 split at t
 ·next d h =>
  obtain⟨v,e,r⟩:=E.sl i d h
  exact⟨v,e,k d Φ H v t (.refl E.fz) r⟩
 ·exact t.elim⟩
theorem dvq (i:Nat){x:Str}(hN:X.N[i]?=some x:=by rfl)(hv:Vis X.env.scope x:=by first | exact Or.inl rfl | exact Or.inr (Or.inl rfl) | exact Or.inr (Or.inr rfl))(hd:(x == ("__debug__":Str))=false:=by decide)
  (hcd:(x == ("__classdict__":Str))=false:=by decide):PQ K X (.Name x pos) (qld i):=⟨fun _=>(pv i hN hv hd hcd).imp fun σ H Q hq0=>by
 obtain⟨H0,Φ,ρ,R,E,t,k⟩:=hq0
 unfold qld at t
 split at t
 ·next d h =>
  obtain⟨v,e,r⟩:=E.sl i d h
  exact⟨v,e,k d Φ H v t (.refl E.fz) (.inl r)⟩
 ·next ds h =>
  obtain⟨p,vs,e,_,_,hp,r⟩:=E.owl i ds h
  exact⟨_,e,k _ Φ H _ t (.refl E.fz) (.inr ⟨p,vs,ds,rfl,rfl,hp,r⟩)⟩
 ·exact t.elim⟩
def dC (d:D):TD:=fun _ R=>R d
theorem qkR {v:V}{d:D}(h:PE X e (tC v))(r:∀ Φ,Rp K Φ d v):PD K X e (dC d):=⟨fun _=>h.imp fun σ H Q hq0=>by obtain⟨H0,Φ,ρ,R,E,t,k⟩:=hq0;exact k d Φ H v t (.refl E.fz) (r Φ)⟩
theorem qag {i j}:PD K X (.Constant (.int i) j pos) (dC (.int i)):=qkR qjR fun _=>.int i
theorem qd3 {i j}:PD K X (.Constant (.bool i) j pos) (dC (.bl i)):=qkR qqC fun _=>.bl i
theorem qaW {i j}:PD K X (.Constant (.str i) j pos) (dC (.str i)):=qkR qog fun _=>.str i
theorem qdv {j}:PD K X (.Constant .none j pos) (dC .non):=qkR qn7 fun _=>.non
abbrev RD2:=D→D→(D→Prop)→Prop
def lR2 (K:PySem.W.Frag)(r:RD2):R2:=fun x y H Q=>∃ Φ dx dy R,Same Φ H∧RpQ K Φ H dx x∧RpQ K Φ H dy y∧r dx dy R∧∀ d Φ' H' v,R d→Gr Φ H Φ' H'→Rp K Φ' d v→Q v H'
structure OpD (K:PySem.W.Frag)(X:Cx)(f:Value→Value→Sem Value)(r:RD2):Prop where o:X.K=K→OpR X f (lR2 K r)
def dOp (r:RD2)(ta tb:TD):TD:=fun ρ R=>ta ρ fun x=>tb ρ fun y=>r x y R
theorem qfk {r:RD2}{σ:St}{H:Hp}{Q:VK}(h:lE K (dOp r ta tb) σ H Q):tOp (lR2 K r) (lQ K ta) (lQ K tb) σ H Q:=by
 obtain⟨H0,Φ,ρ,R,E,t,k⟩:=h
 exact⟨H0,Φ,ρ,_,E,t,fun dx Φ1 H1 x t1 g1 rx=>⟨H0,Φ1,ρ,_,E.gr g1,t1,fun dy Φ2 H2 y t2 g2 ry=>⟨Φ2,dx,dy,R,g2.s,rx.gr g2,ry,t2,fun d Φ' H' v r g rr=>k d Φ' H' v r ((g1.trans g2).trans g) rr⟩⟩⟩
theorem qbS {op:Operator}{r:RD2}(ho:OpD K X (binaryOp op) r)(ha:PQ K X a ta)(hb:PQ K X b tb):PD K X (.BinOp a op b pos) (dOp r ta tb) :=
 ⟨fun hK=>(qow (ho.o hK) (ha.pe hK) (hb.pe hK)).imp fun _ _ _=>qfk⟩
theorem qne {op:CmpOp}{r:RD2}(ho:OpD K X (compareOp op) r)(ha:PQ K X a ta)(hb:PQ K X b tb)(hm:behindInMarks op b=false):PD K X (.Compare a [op] [b] pos) (dOp r ta tb) :=
 ⟨fun hK=>(qmy (ho.o hK) (ha.pe hK) (hb.pe hK) hm).imp fun _ _ _=>qfk⟩
def qoc (t:TD):TDB:=fun ρ R=>t ρ fun d=>match d with | .bl b=>R b | _=>False
theorem qj5 {r:RD2}{σ:St}{H:Hp}{Q:Bool→Hp→Prop}(h:lT K (qoc (dOp r ta tb)) σ H Q):qna (tOp (lR2 K r) (lQ K ta) (lQ K tb)) σ H Q:=by
 obtain⟨H0,Φ,ρ,R,E,t,k⟩:=h
 refine qfk ⟨H0,Φ,ρ,_,E,t,fun d Φ' H' v r g rr=>?_⟩
 cases d with
 | bl b=>cases rr;exact⟨b,rfl,k b Φ' H' r g⟩
 | _=>exact r.elim
theorem qaT {op:CmpOp}{r:RD2}(ho:OpD K X (compareOp op) r)(ha:PQ K X a ta)(hb:PQ K X b tb)(hm:behindInMarks op b=false):PTD K X (.Compare a [op] [b] pos) (qoc (dOp r ta tb)) :=
 ⟨fun hK=>(qjf (ho.o hK) (ha.pe hK) (hb.pe hK) hm).imp fun _ _ _=>qj5⟩
abbrev RD1:=D→(D→Prop)→Prop
def dUn (r:RD1)(ta:TD):TD:=fun ρ R=>ta ρ fun x=>r x R
def qsc:RD1:=fun x R=>match x with | .int i=>R (.int (-i)) | _=>False
theorem qm6 (ha:PQ K X a ta):PD K X (.UnaryOp .USub a pos) (dUn qsc ta):=⟨fun hK=>(qqs qoh (ha.pe hK)).imp fun σ H Q hq0=>by obtain⟨H0,Φ,ρ,R,E,t,k⟩:=hq0;exact⟨H0,Φ,ρ,_,E,t,fun dx Φ1 H1 x t1 g1 rx=>by
 cases dx with
 | int i=>exact⟨i,rx.int,k _ Φ1 H1 _ t1 g1 (.int _)⟩
 | _=>exact t1.elim⟩⟩
def qrM (t u:TDB):TDB:=fun ρ R=>t ρ fun c=>(c=true→u ρ R)∧(c=false→R false)
def zOr (t u:TDB):TDB:=fun ρ R=>t ρ fun c=>(c=true→R true)∧(c=false→u ρ R)
theorem PWD.td (h:PWD K X e tt):PTD K X e tt:=⟨fun hK=>(h.pw hK).pt⟩
theorem qic (ha:PTD K X a tt):PWD K X (.BoolOp .And [a] pos) tt:=⟨fun hK=>qi0 (ha.pt hK)⟩
theorem qlF (ha:PTD K X a tt):PWD K X (.BoolOp .Or [a] pos) tt:=⟨fun hK=>qlT (ha.pt hK)⟩
theorem qlH (ha:PTD K X a tt)(hb:PWD K X (.BoolOp .And (b::es) pos) tu):PWD K X (.BoolOp .And (a::b::es) pos) (qrM tt tu) :=
 ⟨fun hK=>(ql2 (ha.pt hK) (hb.pw hK)).imp fun σ H Q hq0=>by obtain⟨H0,Φ,ρ,R,E,t,k⟩:=hq0;exact⟨H0,Φ,ρ,_,E,t,fun c Φ1 H1 r g=>by
  cases c with
  | true=>rw[if_pos rfl];exact⟨H0,Φ1,ρ,R,E.gr g,r.1 rfl,fun b Φ' H' rb g'=>k b Φ' H' rb (g.trans g')⟩
  | false=>rw[if_neg (by decide)];exact k _ Φ1 H1 (r.2 rfl) g⟩⟩
theorem qpx (ha:PTD K X a tt)(hb:PWD K X (.BoolOp .Or (b::es) pos) tu):PWD K X (.BoolOp .Or (a::b::es) pos) (zOr tt tu) :=
 ⟨fun hK=>(qn1 (ha.pt hK) (hb.pw hK)).imp fun σ H Q hq0=>by obtain⟨H0,Φ,ρ,R,E,t,k⟩:=hq0;exact⟨H0,Φ,ρ,_,E,t,fun c Φ1 H1 r g=>by
  cases c with
  | true=>rw[if_pos rfl];exact k _ Φ1 H1 (r.1 rfl) g
  | false=>rw[if_neg (by decide)];exact⟨H0,Φ1,ρ,R,E.gr g,r.2 rfl,fun b Φ' H' rb g'=>k b Φ' H' rb (g.trans g')⟩⟩⟩
def dIf (t:TDB)(u v:TD):TD:=fun ρ R=>t ρ fun c=>(c=true→u ρ R)∧(c=false→v ρ R)
theorem qpv (hc:PTD K X c tt)(ha:PD K X a ta)(hb:PD K X b tb):PD K X (.IfExp c a b pos) (dIf tt ta tb) :=
 ⟨fun hK=>(qkT (hc.pt hK) (ha.pe hK) (hb.pe hK)).imp fun σ H Q hq0=>by obtain⟨H0,Φ,ρ,R,E,t,k⟩:=hq0;exact⟨H0,Φ,ρ,_,E,t,fun c Φ1 H1 r g=>by
  cases c with
  | true=>rw[if_pos rfl];exact⟨H0,Φ1,ρ,R,E.gr g,r.1 rfl,fun b Φ' H' v rb g' rr=>k b Φ' H' v rb (g.trans g') rr⟩
  | false=>rw[if_neg (by decide)];exact⟨H0,Φ1,ρ,R,E.gr g,r.2 rfl,fun b Φ' H' v rb g' rr=>k b Φ' H' v rb (g.trans g') rr⟩⟩⟩
def qqY:TDL:=fun _ R=>R []
def qoL (t:TD)(u:TDL):TDL:=fun ρ R=>t ρ fun d=>u ρ fun ds=>R (d::ds)
theorem qau:PAD K X [] qqY:=⟨fun _=>pa_nil.imp fun σ H Q hq0=>by obtain⟨H0,Φ,ρ,R,E,t,k⟩:=hq0;exact k [] Φ H [] t (.refl E.fz) .nil rfl⟩
theorem qad (ha:PD K X e t)(hr:PAD K X es tl)(hs:starEach (e::es) X.env=(false,eval e X.env)::starEach es X.env):PAD K X (e::es) (qoL t tl) :=
 ⟨fun hK=>(qbg (ha.pe hK) (hr.pa hK) hs).imp fun σ H Q hq0=>by obtain⟨H0,Φ,ρ,R,E,t,k⟩:=hq0;exact⟨H0,Φ,ρ,_,E,t,fun d Φ1 H1 v r g rv=>⟨H0,Φ1,ρ,_,E.gr g,r,fun ds Φ2 H2 vs r2 g2 rl hl =>
  k _ Φ2 H2 _ r2 (g.trans g2) (.cons (rv.same g2.f) rl) (by rw[List.length_cons,List.length_cons,hl])⟩⟩⟩
def qrX (t:TDL):TD:=fun ρ R=>t ρ fun ds=>R (.tup ds)
def qrT (t:TDL):TDL:=t
theorem qhQ {n:Nat}(h:Nat.ble n 1000=true):n≤sizeLine:=Nat.le_trans (Nat.le_of_ble_eq_true h) (by decide)
theorem qbt {x1}(h:PAD K X es tl)(hes:Nat.ble es.length 1000=true:=by rfl):PD K X (.Tuple es x1 pos) (qrX tl) :=
 ⟨fun hK=>(qku (h.pa hK)).imp fun σ H Q hq0=>by obtain⟨H0,Φ,ρ,R,E,t,k⟩:=hq0;exact⟨H0,Φ,ρ,_,E,t,fun ds Φ1 H1 vs r g rl hl=>⟨by rw[rl.1,hl];exact qhQ hes,fun p hp =>
  k _ _ _ _ r (g.trans (.new g.s hp _)) ((rl.same (qaK (g.s.free hp) _)).tup qaj)⟩⟩⟩
theorem qdM (h:PAD K X es tl)(hes:Nat.ble es.length 1000=true:=by rfl):PF K X (.List es pos) (qrT tl) :=
 ⟨fun hK=>(qmb (h.pa hK)).imp fun σ H Q hq0=>by obtain⟨H0,Φ,ρ,R,E,t,k⟩:=hq0;exact⟨H0,Φ,ρ,_,E,t,fun ds Φ1 H1 vs r g rl hl=>⟨by rw[rl.1,hl];exact qhQ hes,fun p hp =>
  k _ _ _ p vs r (g.trans (.fresh g.s hp _)) (g.h.free hp) (g.s.free hp) qaj rl⟩⟩⟩
end
end L2
namespace L2
open PySem PySem.Spec PyProof.Rows PySem.Builtin PySem.Builtin.Str
section
variable {K : PySem.W.Frag} {X : Cx}
def qjH (z:Str)(lo hi:Option Int):Str:=⟨(qeD z.cps.toList lo hi).toArray⟩
theorem qja (z:Str)(lo hi:Option Int):Txt.slice z lo hi=qjH z lo hi:=by
 have key:strSliceIndices lo hi 1 z.length=(List.range (HT.sIx z.length z.length hi - HT.sIx z.length 0 lo)).map fun k=>HT.sIx z.length 0 lo+k:=by
  have h1:∀ (i:Int) (d:Nat),max 0 (min (if i<0 then i+(z.length:Int) else i) (z.length:Int))=(HT.sIx z.length d (some i):Int):=fun i d=>by
   show max 0 (min (if i<0 then i+(z.length:Int) else i) (z.length:Int))=((if i<0 then (i+(z.length:Int)).toNat else min i.toNat z.length:Nat):Int)
   split <;> omega
  have e0:strSliceIndices lo hi 1 z.length=sliceRange (HT.sIx z.length 0 lo:Int) (HT.sIx z.length z.length hi:Int) 1:=by
   cases lo <;> cases hi <;> simp only [strSliceIndices,show (1:Int)>0 by decide,if_true,h1 _ 0,h1 _ z.length] <;> rfl
  rw[e0]
  unfold sliceRange
  simp only [show (1:Int)>0 by decide,if_true]
  have ec:(if (HT.sIx z.length 0 lo:Int)<(HT.sIx z.length z.length hi:Int) then ((HT.sIx z.length z.length hi:Int) - (HT.sIx z.length 0 lo:Int)+1 - 1) / 1 else 0).toNat=HT.sIx z.length z.length hi - HT.sIx z.length 0 lo:=by
   split
   ·rw[Int.ediv_one];omega
   ·omega
  rw[ec]
  refine List.map_congr_left fun k _=>?_
  omega
 have hb:HT.sIx z.length z.length hi≤z.length:=by
  cases hi with
  | none=>exact Nat.le_refl _
  | some i =>
   show (if i<0 then (i+(z.length:Int)).toNat else min i.toNat z.length)≤z.length
   split <;> omega
 have hb0:HT.sIx z.length 0 lo≤z.length:=by
  cases lo with
  | none=>exact Nat.zero_le _
  | some i =>
   show (if i<0 then (i+(z.length:Int)).toNat else min i.toNat z.length)≤z.length
   split <;> omega
 have pick:(strSliceIndices lo hi 1 z.length).filterMap (z.cps[·]?)=qeD z.cps.toList lo hi:=by
  rw[key]
  unfold qeD
  have el:z.cps.toList.length=z.length:=by rw[Array.length_toList];rfl
  rw[el]
  generalize HT.sIx z.length 0 lo=a
  generalize hbb:HT.sIx z.length z.length hi=b at hb
  refine List.ext_getElem? fun j=>?_
  rw[List.filterMap_map]
  have:∀ m,m≤b - a→((List.range m).filterMap ((fun x=>z.cps[x]?) ∘ fun k=>a+k))=(z.cps.toList.drop a).take m:=by
   intro m
   induction m with
   | zero=>intro _;simp
   | succ m ih =>
    intro hm
    rw[List.range_succ,List.filterMap_append,ih (by omega)]
    have hlt:a+m<z.cps.size:=by unfold Str.length at hb;omega
    have e1:z.cps.toList.drop a=z.cps.toList.drop a:=rfl
    have hl:m<(z.cps.toList.drop a).length:=by rw[List.length_drop,el];unfold Str.length;omega
    rw[List.take_add_one,List.getElem?_drop]
    congr 1
    simp [hlt]
  rw[this _ (Nat.le_refl _)]
 unfold Txt.slice qjH
 split
 ·next h =>
  have hl:(strSliceIndices lo hi 1 z.length).length=z.length:=by simpa using h
  have el:z.cps.toList.length=z.length:=by rw[Array.length_toList];rfl
  have:qeD z.cps.toList lo hi=z.cps.toList:=by
   rw[key,List.length_map,List.length_range] at hl
   unfold qeD
   rw[el]
   have:HT.sIx z.length 0 lo=0:=by omega
   rw[this,List.drop_zero,List.take_of_length_le (by rw[el];omega)]
  rw[this]
 ·rw[pick]
theorem qjV (z:Str)(lo hi:Option Int):(qjH z lo hi).length≤z.length:=by rw[← qja];exact Txt.slice_le z lo hi
def qrb:V→Option Int→Option Int→Hp→VK→Prop:=fun x lo hi H Q=>∃ z,x=.str z∧z.length≤sizeLine∧Q (.str (qjH z lo hi)) H
theorem qjG {v:Value}{o:Option Int}(h:IsPart v o):∃ p:Option (Int × Tok),v=partValue p∧p.map (·.1)=o:=by
 cases h with
 | none=>exact⟨none,rfl,rfl⟩
 | int i t=>exact⟨some (i,t),rfl,rfl⟩
theorem qnP:SlR X qrb:=by
 intro pins s σ H x v vl vu lo hi sl Q I rx hs pl pu h
 obtain⟨z,rfl,hz,q⟩:=h
 obtain⟨t,rfl⟩:=rx
 obtain⟨p1,rfl,rfl⟩:=qjG pl
 obtain⟨p2,rfl,rfl⟩:=qjG pu
 refine⟨"str",_,F.slot_str_getitem.lookup,typeIs_str _ _ _,?_⟩
 have hs':s.heap.IsSlice sl p1 p2 none:=by
  obtain⟨o,ho,h1,h2⟩:=hs
  exact⟨o,ho,h1,h2⟩
 refine wpAny_getItem_str_slice (l:=p1) (u:=p2) (st:=none) hs' rfl (post_val_or_str ⟨?_,fun t' k=>?_⟩)
 ·exact Nat.le_trans (Txt.slice_le z _ _) hz
 ·refine⟨.str (qjH z (p1.map (·.1)) (p2.map (·.1))),H,?_,⟨t',?_⟩,q⟩
  ·exact I.tok _
  ·rw[← qja];rfl
def qhn (z:Str)(n:Nat):Str:=⟨((List.replicate n z.cps.toList).flatten).toArray⟩
theorem qkU (z:Str):qhn z 1=z:=by
 unfold qhn
 simp
theorem qhN:∀ (n:Nat) (x acc:Array Nat),(List.replicate n x).foldl (·++·) acc=acc++((List.replicate n x.toList).flatten).toArray
 | 0,x,acc=>by simp
 | n+1,x,acc=>by
  rw[List.replicate_succ,List.foldl_cons,qhN n x (acc++x),List.replicate_succ,List.flatten_cons]
  apply Array.ext'
  simp
theorem qck (z:Str)(n:Nat):(qhn z n).length=z.length*n:=by
 unfold qhn Str.length
 simp [Nat.mul_comm]
def qp3:R2:=fun x y H Q=>∃ z k,x=.str z∧y=.int k∧-(2 ^ 62)≤k∧k<2 ^ 62∧z.length*k.toNat≤sizeLine∧z.length≤sizeLine∧Q (.str (qhn z k.toNat)) H
theorem qnD:OpR X (binaryOp .Mult) qp3:=by
 intro pins s σ H x y v u Q I rx ry h
 obtain⟨z,k,rfl,rfl,h1,h2,h3,h4,q⟩:=h
 obtain⟨t,rfl⟩:=rx
 obtain⟨t',rfl⟩:=ry
 refine P.mul_str (by rw[decide_eq_false (by omega),decide_eq_false (by omega)];rfl) (fun c1 c2=>?_) (fun c1 c2=>?_) ?_
 ·intro hc
  have hk:0<k:=by omega
  have h5:((z.length:Int))*k≤2 ^ 24:=by
   have:((z.length*k.toNat:Nat):Int)≤(sizeLine:Int):=Int.ofNat_le.mpr h3
   rw[Int.natCast_mul,Int.toNat_of_nonneg (by omega)] at this
   exact this
  have h6:(z.length:Int)≤(2 ^ 63 - 1) / k:=(Int.le_ediv_iff_mul_le hk).mpr (Int.le_trans h5 (by decide))
  omega
 ·unfold tooLong
  exact decide_eq_false (by omega)
 ·by_cases c:k<1
  ·rw[if_pos c]
   have e:k.toNat=0:=by omega
   rw[e] at q
   exact⟨by decide,.str Str.empty,H,I.tok _,⟨_,rfl⟩,q⟩
  ·rw[if_neg c]
   by_cases c2:(k == 1 || z.length == 0)=true
   ·rw[if_pos c2]
    have e:qhn z k.toNat=z:=by
     rw[Bool.or_eq_true] at c2
     rcases c2 with c2 | c2
     ·have:=eq_of_beq c2
      subst this
      exact qkU z
     ·have hz:z.cps.toList=[]:=by
       have:=eq_of_beq c2
       unfold Str.length at this
       exact List.length_eq_zero_iff.mp (by rw[Array.length_toList];exact this)
      unfold qhn
      rw[hz]
      have hz2:z.cps=#[]:=by
       apply Array.ext'
       rw[hz]
      apply Str.ext'
      rw[hz2]
      simp
    rw[e] at q
    exact⟨.str z,H,I,⟨t,rfl⟩,q⟩
   ·rw[if_neg c2]
    have e:(⟨(List.replicate k.toNat z.cps).foldl (·++·) #[]⟩:Str)=qhn z k.toNat:=by
     rw[qhN]
     unfold qhn
     simp
    rw[e]
    refine⟨by rw[qck];exact h3,.str (qhn z k.toNat),H,I.tok _,⟨_,rfl⟩,q⟩
end
def qqJ:R2:=fun x y H Q=>∃ a b xs ys,x=.ref a∧y=.ref b∧H a=some (.tup xs)∧H b=some (.tup ys)∧xs.length+ys.length≤sizeLine∧∀ p H',Same H H'→H' p=some (.tup (xs++ys))→Q (.ref p) H'
theorem qnl {X:Cx}:OpR X (binaryOp .Add) qqJ:=by
 intro pins s σ H x y v u Q I rx ry h
 obtain⟨a,b,xs,ys,rfl,rfl,ha,hb,hz,q⟩:=h
 by_cases hx:xs=[]
 ·subst hx
  cases rx
  cases ry
  obtain⟨its,r1,p1,_⟩:=I.tuple (SqT.of ha)
  obtain⟨its2,r2,p2,_⟩:=I.tuple (SqT.of hb)
  exact qmP p1 p2 (r1.nil_iff.mpr rfl) ⟨.ref b,H,I,rfl,q b H (Same.refl H) hb⟩
 ·refine qnt pins s σ H _ _ v u Q I rx ry ⟨a,b,xs,ys,rfl,rfl,SqT.of ha,SqT.of hb,hx,hz,fun e=>?_,fun _ p hp=>q p _ (qaK hp _) qaj⟩
  subst e
  exact q a H (Same.refl H) (by rw[List.append_nil];exact ha)
def qpF:R2:=fun x y H Q=>∃ (a:Addr) (k:Int) (xs:List V),x=.ref a∧y=.int k∧H a=some (.tup xs)∧xs≠[]∧0≤k∧k≤1000∧k.toNat*xs.length≤1000∧∀ p H',Same H H'→H' p=some (.tup (List.replicate k.toNat xs).flatten)→Q (.ref p) H'
theorem qmW {X:Cx}:OpR X (binaryOp .Mult) qpF:=by
 intro pins s σ H x y v u Q I rx ry h
 obtain⟨a,k,xs,rfl,rfl,ha,hx,h0,h1,hz,q⟩:=h
 cases rx
 obtain⟨t,rfl⟩:=ry
 obtain⟨its,r,p1,_⟩:=I.tuple (SqT.of ha)
 have hne:its≠[]:=fun z=>hx (r.nil_iff.mp z)
 have hl:=r.length
 have hits:its.toArray.isEmpty=false:=by cases its with | nil=>exact absurd rfl hne | cons _ _=>rfl
 obtain⟨⟨cls,dd,data,sl⟩,ho,hc,n,hd⟩:=id p1
 simp only at hc hd
 subst hc hd
 refine wpAny_binaryOp_repeat_ref (T:="tuple") (U:="int") (by decide) ⟨_,ho,rfl⟩ (fun s'=>typeIs_int s' k t) qdI F.fills_int_mul F.slot_int_rmul qfB F.slot_int_index.lookup
  (call_meets F.slot_int_rmul (typeIs_int s k t) F.entry_int_rmul (F.args_int_rmul_2 _ _) (qen k t a its.toArray n dd sl)
   ⟨ho,rfl,⟨_,ho,rfl⟩,?_⟩)
 have hnew:List.foldl (fun x1 x2=>x1++x2) #[] (List.replicate k.toNat its.toArray)=(List.replicate k.toNat its).flatten.toArray:=by
  have:=qeh its k.toNat []
  rw[List.nil_append] at this
  exact this
 have hc0:¬ (decide (k < -(2 ^ 63)) || decide (k≥2 ^ 63))=true:=by
  rw[decide_eq_false (by omega),decide_eq_false (by omega)]
  exact Bool.false_ne_true
 by_cases c1:k=1
 ·subst c1
  refine call_meets F.slot_tuple_mul ⟨_,ho,rfl⟩ F.entry_tuple_mul (F.args_tuple_mul_2 _ _) (qgW a its.toArray n dd sl t) ⟨ho,?_⟩
  refine⟨.ref a,H,I,rfl,q a H (Same.refl H) ?_⟩
  show H a=some (.tup (List.replicate 1 xs).flatten)
  rw[List.replicate_one,List.flatten_cons,List.flatten_nil,List.append_nil]
  exact ha
 ·have hc1:¬ (its.toArray.isEmpty || k == 1)=true:=by
   rw[hits,beq_eq_false_iff_ne.mpr c1]
   exact Bool.false_ne_true
  have lay:∀ ys:List V,∀ us:List Value,ys.length≤sizeLine→Vals ys us→EP X pins σ Q (.ref s.heap.objs.size) { s with heap:=s.heap.push { cls:=Value.type "tuple",data:=Data.seq us.toArray },toks:=s.toks }∨¬ (∀ p H',Same H H'→H' p=some (.tup ys)→Q (.ref p) H'):=fun ys us hzz rr=>by
   by_cases qq:∀ p H',Same H H'→H' p=some (.tup ys)→Q (.ref p) H'
   ·refine .inl ⟨.ref s.heap.objs.size,_,I.laid (t':=s.toks) (o:=.tup ys) (fun b ob z=>Heap.get?_push_of_some _ z) (Nat.le_refl _) ?_,rfl,qq _ _ (qaK (I.hok.fresh (Nat.le_refl _)) _) qaj⟩
    exact⟨hzz,_,rr,IsTupD.new _ _⟩
   ·exact .inr qq
  by_cases c0:k=0
  ·subst c0
   refine call_meets F.slot_tuple_mul ⟨_,ho,rfl⟩ F.entry_tuple_mul (F.args_tuple_mul_2 _ _) (qhi a its.toArray n dd sl 0 t hc0 hc1 rfl) ⟨ho,?_⟩
   rcases lay [] [] (Nat.zero_le _) .nil with z | z
   ·exact z
   ·exact absurd q z
  ·have hc2:¬ (decide (k≤0) || its.toArray.isEmpty)=true:=by
    rw[hits,decide_eq_false (by omega)]
    exact Bool.false_ne_true
   have hlen:its.length*k.toNat≤1000:=by rw[← hl,Nat.mul_comm];exact hz
   have hlenI:(its.toArray.size:Int)*k≤1000:=by
    rw[List.size_toArray]
    have e:k=((k.toNat:Nat):Int):=by omega
    rw[e]
    exact_mod_cast hlen
   have hs:(1000:Int)≤((sizeLine:Nat):Int):=by exact_mod_cast qeo (Nat.le_refl 1000)
   have hflat:(List.replicate k.toNat its).flatten.length≤1000:=by rw[qhl,Nat.mul_comm];exact hlen
   refine call_meets F.slot_tuple_mul ⟨_,ho,rfl⟩ F.entry_tuple_mul (F.args_tuple_mul_2 _ _) (qg6 a its.toArray n dd sl k t hc0 hc1 hc2 (by omega) (by unfold Builtin.Tuple.tupleTooMany;rw[decide_eq_false (by omega)];exact Bool.false_ne_true) (by rw[hnew,List.size_toArray];exact qeo hflat)) ⟨ho,?_⟩
   rw[hnew]
   rcases lay (List.replicate k.toNat xs).flatten (List.replicate k.toNat its).flatten (by rw[qhl];exact qeo hz) (r.rep k.toNat) with z | z
   ·exact z
   ·exact absurd q z
end L2
namespace L2
open PySem PySem.Spec PyProof.Rows
section
variable {K : PySem.W.Frag} {X : Cx} {e a b c : Expr} {es : List Expr} {pos : Pos} {t ta tb : TD} {tf : TDL} {tl : TDL} {tt tu : TDB}
def qrO:RD2:=fun x y R=>match x,y with
 | .int i,.int j=>R (.int (i+j))
 | .str i,.str j=>i.length+j.length≤sizeLine∧R (.str (i++j))
 | .lst xs,.lst ys=>xs.length+ys.length≤sizeLine∧NF (xs++ys) fun zs=>R (.lst zs)
 | .tup xs,.tup ys=>xs.length+ys.length≤sizeLine∧NF (xs++ys) fun zs=>R (.tup zs)
 | _,_=>False
theorem qbe:OpD K X (binaryOp .Add) qrO:=⟨fun hK pins s σ H x y v u Q I rx ry hq0=>by
 obtain⟨Φ,dx,dy,R,sm,hx,hy,h,k⟩:=hq0
 cases dx with
 | int i =>
  cases dy with
  | int j=>cases hx.int;cases hy.int;exact qpq pins s σ H _ _ v u Q I rx ry ⟨i,j,rfl,rfl,k _ Φ H _ h (.refl sm) (.int _)⟩
  | _=>exact h.elim
 | str i =>
  cases dy with
  | str j=>cases hx.str;cases hy.str;exact qiS pins s σ H _ _ v u Q I rx ry ⟨i,j,rfl,rfl,h.1,k _ Φ H _ h.2 (.refl sm) (.str _)⟩
  | _=>exact h.elim
 | lst xs =>
  cases dy with
  | lst ys =>
   obtain⟨a,vs,rfl,h1,h2⟩:=hx.lst sm
   obtain⟨b,ws,rfl,h3,h4⟩:=hy.lst sm
   exact qn5 pins s σ H _ _ v u Q I rx ry ⟨a,b,vs,ws,rfl,rfl,h1,h3,by rw[h2.1,h4.1];exact h.1,fun p hp=>k _ _ _ _ h.2.get (.new sm hp _) (((h2.append h4).same (qaK (sm.free hp) _)).lst qaj)⟩
  | _=>exact h.elim
 | tup xs =>
  cases dy with
  | tup ys =>
   obtain⟨a,vs,rfl,h1,h1',h2⟩:=hx.tup sm
   obtain⟨b,ws,rfl,h3,h3',h4⟩:=hy.tup sm
   exact qnl pins s σ H _ _ v u Q I rx ry ⟨a,b,vs,ws,rfl,rfl,sm _ _ h1',sm _ _ h3',by rw[h2.1,h4.1];exact h.1,fun p H' s' q=>by
    obtain⟨Φ',g,q'⟩:=Gr.adoptT sm s' q
    exact k _ Φ' H' _ h.2.get g (((h2.append h4).same g.f).tup q')⟩
  | _=>exact h.elim
 | _=>exact h.elim⟩
def zI (C:Int→Int→Prop)(g:Int→Int→D):RD2:=fun x y R=>match x,y with | .int i,.int j=>C i j∧R (g i j) | _,_=>False
def zI0 (g:Int→Int→D):RD2:=fun x y R=>match x,y with | .int i,.int j=>R (g i j) | _,_=>False
theorem qno {f:Value→Value→Sem Value}{C:Int→Int→Prop}{g:Int→Int→Int}(h:OpR X f (rI C fun i j=>.int (g i j))):OpD K X f (zI C fun i j=>.int (g i j)) :=
 ⟨fun hK pins s σ H x y v u Q I rx ry hq0=>by
  obtain⟨Φ,dx,dy,R,sm,hx,hy,q,k⟩:=hq0
  cases dx with
  | int i =>
   cases dy with
   | int j=>cases hx.int;cases hy.int;exact h pins s σ H _ _ v u Q I rx ry ⟨i,j,rfl,rfl,q.1,k _ Φ H _ q.2 (.refl sm) (.int _)⟩
   | _=>exact q.elim
  | _=>exact q.elim⟩
theorem qoI {f:Value→Value→Sem Value}{g:Int→Int→Int}(h:OpR X f (rI0 fun i j=>.int (g i j))):OpD K X f (zI0 fun i j=>.int (g i j)) :=
 ⟨fun hK pins s σ H x y v u Q I rx ry hq0=>by
  obtain⟨Φ,dx,dy,R,sm,hx,hy,q,k⟩:=hq0
  cases dx with
  | int i =>
   cases dy with
   | int j=>cases hx.int;cases hy.int;exact h pins s σ H _ _ v u Q I rx ry ⟨i,j,rfl,rfl,k _ Φ H _ q (.refl sm) (.int _)⟩
   | _=>exact q.elim
  | _=>exact q.elim⟩
theorem qjr {f:Value→Value→Sem Value}{g:Int→Int→Bool}(h:OpR X f (rI0 fun i j=>.bl (g i j))):OpD K X f (zI0 fun i j=>.bl (g i j)) :=
 ⟨fun hK pins s σ H x y v u Q I rx ry hq0=>by
  obtain⟨Φ,dx,dy,R,sm,hx,hy,q,k⟩:=hq0
  cases dx with
  | int i =>
   cases dy with
   | int j=>cases hx.int;cases hy.int;exact h pins s σ H _ _ v u Q I rx ry ⟨i,j,rfl,rfl,k _ Φ H _ q (.refl sm) (.bl _)⟩
   | _=>exact q.elim
  | _=>exact q.elim⟩
theorem qiX:OpD K X (binaryOp .Sub) (zI0 fun i j=>.int (i - j)):=qoI qpd
theorem qox:OpD K X (binaryOp .FloorDiv) (zI CDivB fun i j=>.int (i / j)):=qno qlr
theorem qg3:OpD K X (binaryOp .Mod) (zI (fun _ j=>0<j) fun i j=>.int (i % j)):=qno qoK
theorem qqB:OpD K X (binaryOp .Pow) (zI qq4 fun i j=>.int (i ^ j.toNat)):=qno qo4
theorem qpC:OpD K X (compareOp .Lt) (zI0 fun i j=>.bl (decide (i<j))):=qjr qql
theorem qkP:OpD K X (compareOp .Gt) (zI0 fun i j=>.bl (decide (j<i))):=qjr qqv
theorem qrw:OpD K X (compareOp .GtE) (zI0 fun i j=>.bl (decide (j≤i))):=qjr qpP
def qrJ:RD2:=fun x y R=>match x,y with
 | .int i,.int j=>IntMulOk i j∧R (.int (i*j))
 | .lst xs,.int k=>(-(2 ^ 63)≤k∧k<2 ^ 63∧xs.length*k.toNat≤sizeLine)∧NF (List.replicate k.toNat xs).flatten fun zs=>R (.lst zs)
 | .tup xs,.int k=>(xs≠[]∧0≤k∧k≤1000∧k.toNat*xs.length≤1000)∧NF (List.replicate k.toNat xs).flatten fun zs=>R (.tup zs)
 | .str z,.int k=>(-(2 ^ 62)≤k∧k<2 ^ 62∧z.length*k.toNat≤sizeLine∧z.length≤sizeLine)∧NF (qhn z k.toNat) fun y=>R (.str y)
 | _,_=>False
theorem qf1:OpD K X (binaryOp .Mult) qrJ:=⟨fun hK pins s σ H x y v u Q I rx ry hq0=>by
 obtain⟨Φ,dx,dy,R,sm,hx,hy,h,k⟩:=hq0
 cases dx with
 | int i =>
  cases dy with
  | int j=>cases hx.int;cases hy.int;exact qnx pins s σ H _ _ v u Q I rx ry ⟨i,j,rfl,rfl,h.1,k _ Φ H _ h.2 (.refl sm) (.int _)⟩
  | _=>exact h.elim
 | lst xs =>
  cases dy with
  | int j =>
   obtain⟨a,vs,rfl,h1,h2⟩:=hx.lst sm
   cases hy.int
   exact qn4 pins s σ H _ _ v u Q I rx ry ⟨a,j,vs,rfl,rfl,h1,h.1.1,h.1.2.1,by rw[h2.1];exact h.1.2.2,fun p hp=>k _ _ _ _ h.2.get (.new sm hp _) (((h2.rep _).same (qaK (sm.free hp) _)).lst qaj)⟩
  | _=>exact h.elim
 | tup xs =>
  cases dy with
  | int j =>
   obtain⟨a,vs,rfl,h1,h1',h2⟩:=hx.tup sm
   cases hy.int
   have hne:vs≠[]:=fun e=>h.1.1 (List.length_eq_zero_iff.mp (by rw[← h2.1,e];rfl))
   exact qmW pins s σ H _ _ v u Q I rx ry ⟨a,j,vs,rfl,rfl,sm _ _ h1',hne,h.1.2.1,h.1.2.2.1,by rw[h2.1];exact h.1.2.2.2,fun p H' s' q=>by
    obtain⟨Φ',g,q'⟩:=Gr.adoptT sm s' q
    exact k _ Φ' H' _ h.2.get g (((h2.rep _).same g.f).tup q')⟩
  | _=>exact h.elim
 | str z =>
  cases dy with
  | int j =>
   cases hx.str
   cases hy.int
   exact qnD pins s σ H _ _ v u Q I rx ry ⟨z,j,rfl,rfl,h.1.1,h.1.2.1,h.1.2.2.1,h.1.2.2.2,k _ Φ H _ h.2.get (.refl sm) (.str _)⟩
  | _=>exact h.elim
 | _=>exact h.elim⟩
end
def cmL (f:D→D→Option Bool):List D→List D→Option Bool
 | [],[]=>some true
 | x::xs,y::ys=>(f x y).bind fun b=>(cmL f xs ys).map (b && ·)
 | _,_=>some false
def cmB:Nat→D→D→Option Bool
 | _,.int i,.int j=>some (i == j)
 | _,.bl i,.bl j=>some (i == j)
 | _,.str i,.str j=>some (i == j)
 | _,.non,.non=>some true
 | n+1,.tup xs,.tup ys=>cmL (cmB n) xs ys
 | n+1,.lst xs,.lst ys=>if xs.length=ys.length then cmL (cmB n) xs ys else some false
 | _,_,_=>none
theorem qeg {f:D→D→Option Bool}:∀ {xs ys:List D} {b:Bool},cmL f xs ys=some b→∃ g:Nat→Bool,(∀ (j:Nat) (x y:D),xs[j]?=some x→ys[j]?=some y→f x y=some (g j))∧b=((List.range (min xs.length ys.length)).all g && xs.length == ys.length)
 | [],[],b,h=>by cases h;exact⟨fun _=>true,fun j x y hx=>by simp at hx,by simp⟩
 | [],_::_,b,h=>by cases h;exact⟨fun _=>true,fun j x y hx=>by simp at hx,by simp⟩
 | _::_,[],b,h=>by cases h;exact⟨fun _=>true,fun j x y _ hy=>by simp at hy,by simp⟩
 | x::xs,y::ys,b,h=>by
  unfold cmL at h
  cases e:f x y with
  | none=>rw[e] at h;cases h
  | some c =>
   cases e2:cmL f xs ys with
   | none=>rw[e,e2] at h;cases h
   | some c2 =>
    rw[e,e2] at h
    cases h
    obtain⟨g,h1,h2⟩:=qeg e2
    refine⟨fun j=>match j with | 0=>c | j+1=>g j,fun j u v hu hv=>?_,?_⟩
    ·cases j with
     | zero=>cases hu;cases hv;exact e
     | succ j=>exact h1 j u v hu hv
    ·have em:min (x::xs).length (y::ys).length=min xs.length ys.length+1:=by simp only [List.length_cons];omega
     have el:((x::xs).length == (y::ys).length)=(xs.length == ys.length):=by simp
     rw[em,el,List.range_succ_eq_map,List.all_cons,List.all_map,h2,Bool.and_assoc]
     rfl
section
variable {K : PySem.W.Frag} {X : Cx} {pins : List (Addr × Obj)} {σ : St} {Φ H : Hp} {s : Shared}
theorem qpg {n:Nat}{g:Nat→Bool}(h:∀ j,j<n→g j=true):(List.range n).all g=true:=by
 rw[List.all_eq_true]
 intro j hj
 exact h j (List.mem_range.mp hj)
theorem qaP {α:Type}{xs:List α}{j:Nat}(h:j<xs.length):xs[j]?=some xs[j]:=by simp [h]
theorem qjo (hK:X.K=K)(I:Inv X pins σ H s)(sm:Same Φ H):∀ (n:Nat) {d e:D} {b:Bool} {v:V},cmB n d e=some b→Rp K Φ d v→Rp K Φ e v→b=true:=by
 intro n
 induction n with
 | zero =>
  intro d e b v h r1 r2
  cases r1 with
  | int i=>cases r2;have h':some (i == i)=some b:=h;cases h';simp
  | bl i=>cases r2;have h':some (i == i)=some b:=h;cases h';simp
  | str i=>cases r2;have h':some (i == i)=some b:=h;cases h';simp
  | non=>cases r2;cases h;rfl
  | tup _ _ _=>cases r2 <;> cases h
  | lst _ _ _=>cases r2 <;> cases h
  | fzl _ _ _=>cases r2 <;> cases h
  | obj _ _ _ _=>cases r2 <;> cases h
  | map _ _ _=>cases r2 <;> cases h
  | exc0 _ _=>cases r2 <;> cases h
  | exc1 _ _ _ _=>cases r2 <;> cases h
 | succ n ih =>
  intro d e b v h r1 r2
  cases r1 with
  | int i=>cases r2;have h':some (i == i)=some b:=h;cases h';simp
  | bl i=>cases r2;have h':some (i == i)=some b:=h;cases h';simp
  | str i=>cases r2;have h':some (i == i)=some b:=h;cases h';simp
  | non=>cases r2;cases h;rfl
  | @tup a vs xs h1 h2 h3=>cases r2 with
   | @tup _ ws ys k1 k2 k3 =>
    have hvw:vs=ws:=I.tuple_inj (.of (sm _ _ h1)) (.of (sm _ _ k1))
    subst hvw
    obtain⟨g,hg,hb⟩:=qeg (show cmL (cmB n) xs ys=some b from h)
    rw[hb,qpg fun j hj=>?_]
    ·simp;omega
    ·have j0:j<vs.length:=by omega
     have j1:j<xs.length:=by omega
     have j2:j<ys.length:=by omega
     exact ih (hg j _ _ (qaP j1) (qaP j2)) (h3 j _ _ (qaP j0) (qaP j1)) (k3 j _ _ (qaP j0) (qaP j2))
   | _=>cases h
  | @lst a vs xs h1 h2 h3=>cases r2 with
   | @lst _ ws ys k1 k2 k3 =>
    have hvw:vs=ws:=by rw[h1] at k1;cases k1;rfl
    subst hvw
    have h':(if xs.length=ys.length then cmL (cmB n) xs ys else some false)=some b:=h
    rw[if_pos (by omega)] at h'
    obtain⟨g,hg,hb⟩:=qeg h'
    rw[hb,qpg fun j hj=>?_]
    ·simp;omega
    ·have j0:j<vs.length:=by omega
     have j1:j<xs.length:=by omega
     have j2:j<ys.length:=by omega
     exact ih (hg j _ _ (qaP j1) (qaP j2)) (h3 j _ _ (qaP j0) (qaP j1)) (k3 j _ _ (qaP j0) (qaP j2))
   | _=>cases h
  | fzl _ _ _=>cases r2 <;> cases h
  | obj _ _ _ _=>cases r2 <;> cases h
  | map _ _ _=>cases r2 <;> cases h
  | exc0 _ _=>cases r2 <;> cases h
  | exc1 _ _ _ _=>cases r2 <;> cases h
open PySem.SeqAt in
theorem qjP {n:Nat}{d e:D}{b:Bool}{x y:V}(h:cmB n d e=some b)(rx:Rp K Φ d x)(ry:Rp K Φ e y)(hf:(∀ a,x≠.ref a)){A:Around}{u v:Value}(ru:RelV x u)(rv:RelV y v):EqAt A s u v b∧RcAt A s u v b∧RcNeAt A s u v (!b):=by
 cases rx with
 | int i=>cases ry with
  | int j =>
   obtain⟨t,rfl⟩:=ru;obtain⟨t',rfl⟩:=rv
   have h':some (i == j)=some b:=by cases n <;> exact h
   cases h'
   exact⟨EqAt.int_int i t j t',RcAt.int_int i t j t',RcNeAt.int_int i t j t'⟩
  | _=>cases n <;> cases h
 | bl i=>cases ry with
  | bl j =>
   cases ru;cases rv
   have h':some (i == j)=some b:=by cases n <;> exact h
   cases h'
   exact⟨EqAt.bool_bool i j,RcAt.bool_bool i j,RcNeAt.bool_bool i j⟩
  | _=>cases n <;> cases h
 | str i=>cases ry with
  | str j =>
   obtain⟨t,rfl⟩:=ru;obtain⟨t',rfl⟩:=rv
   have h':some (i == j)=some b:=by cases n <;> exact h
   cases h'
   exact⟨EqAt.str_str i t j t',RcAt.str_str i t j t',RcNeAt.str_str i t j t'⟩
  | _=>cases n <;> cases h
 | non=>cases ry with
  | non =>
   cases ru;cases rv
   have h':some true=some b:=by cases n <;> exact h
   cases h'
   exact⟨EqAt.same _,RcAt.none_none,RcNeAt.none_none⟩
  | _=>cases n <;> cases h
 | tup _ _ _=>exact absurd rfl (hf _)
 | lst _ _ _=>exact absurd rfl (hf _)
 | fzl _ _ _=>exact absurd rfl (hf _)
 | obj _ _ _ _=>exact absurd rfl (hf _)
 | map _ _ _=>exact absurd rfl (hf _)
 | exc0 _ _=>exact absurd rfl (hf _)
 | exc1 _ _ _ _=>exact absurd rfl (hf _)
open PySem.SeqAt in
theorem qlV (hK:X.K=K)(I:Inv X pins σ H s)(sm:Same Φ H):∀ (n:Nat) {d e:D} {b:Bool} {x y:V},cmB n d e=some b→Rp K Φ d x→Rp K Φ e y →
  ∀ (A:Around) (u v:Value),A.units+n<cLine→RelV x u→RelV y v→EqAt A s u v b∧RcAt A s u v b∧RcNeAt A s u v (!b):=by
 intro n
 induction n with
 | zero =>
  intro d e b x y h rx ry A u v hu ru rv
  refine qjP h rx ry (fun a ea=>?_) ru rv
  subst ea
  cases rx <;> cases ry <;> cases h
 | succ n ih =>
  intro d e b x y h rx ry A u v hu ru rv
  by_cases hf:∀ a,x≠.ref a
  ·exact qjP h rx ry hf ru rv
  have hu':A.units<cLine:=by omega
  cases rx with
  | int i=>exact absurd (fun a e=>nomatch e) hf
  | bl i=>exact absurd (fun a e=>nomatch e) hf
  | str i=>exact absurd (fun a e=>nomatch e) hf
  | non=>exact absurd (fun a e=>nomatch e) hf
  | @tup a vs xs h1 h2 h3=>cases ry with
   | @tup c ws ys k1 k2 k3 =>
    cases ru;cases rv
    obtain⟨g,hg,hb⟩:=qeg (show cmL (cmB n) xs ys=some b from h)
    obtain⟨its,r1,p1,_⟩:=I.sqb (b:=false) (show SqT X.K H a vs from .of (sm _ _ h1))
    obtain⟨its',r2,p2,_⟩:=I.sqb (b:=false) (show SqT X.K H c ws from .of (sm _ _ k1))
    have l1:=Vals.length r1
    have l2:=Vals.length r2
    have he:∀ j (j1:j<its.toArray.size) (j2:j<its'.toArray.size),EqAt A.in1 s its.toArray[j] its'.toArray[j] (g j):=by
     intro j j1 j2
     simp only [List.size_toArray] at j1 j2
     obtain⟨x,hx,rx⟩:=Vals.get' r1 j1
     obtain⟨y,hy,ry⟩:=Vals.get' r2 j2
     have i1:j<xs.length:=by omega
     have i2:j<ys.length:=by omega
     exact (ih (hg j _ _ (qaP i1) (qaP i2)) (h3 j x _ hx (qaP i1)) (k3 j y _ hy (qaP i2)) A.in1 _ _ (by show A.units+1+n<cLine;omega) rx ry).1
    have R:=RcAt.tuples (e:=g) p1 p2 hu' he
    have R':=RcNeAt.tuples (e:=g) p1 p2 hu' he
    have et:((List.range (min its.toArray.size its'.toArray.size)).all g && its.toArray.size == its'.toArray.size)=b:=by
     rw[hb]
     simp only [List.size_toArray]
     rw[← l1,← l2,h2,k2]
    rw[et] at R R'
    refine⟨?_,R,R'⟩
    by_cases hab:a=c
    ·subst hab
     rw[qjo hK I sm (n+1) h (.tup h1 h2 h3) (.tup k1 k2 k3)];exact EqAt.same _
    ·exact EqAt.of_refs hab R
   | _=>cases h
  | @lst a vs xs h1 h2 h3=>cases ry with
   | @lst c ws ys k1 k2 k3 =>
    cases ru;cases rv
    have h':(if xs.length=ys.length then cmL (cmB n) xs ys else some false)=some b:=h
    obtain⟨its,r1,p1,_⟩:=I.sqb (b:=true) (show SqL X.K H a vs from SqL.of (sm _ _ h1))
    obtain⟨its',r2,p2,_⟩:=I.sqb (b:=true) (show SqL X.K H c ws from SqL.of (sm _ _ k1))
    have l1:=Vals.length r1
    have l2:=Vals.length r2
    have fin:RcAt A s (.ref a) (.ref c) b∧RcNeAt A s (.ref a) (.ref c) (!b):=by
     by_cases hl:xs.length=ys.length
     ·rw[if_pos hl] at h'
      obtain⟨g,hg,hb⟩:=qeg h'
      have he:∀ j (j1:j<its.toArray.size) (j2:j<its'.toArray.size),EqAt A.in1 s its.toArray[j] its'.toArray[j] (g j):=by
       intro j j1 j2
       simp only [List.size_toArray] at j1 j2
       obtain⟨x,hx,rx⟩:=Vals.get' r1 j1
       obtain⟨y,hy,ry⟩:=Vals.get' r2 j2
       have i1:j<xs.length:=by omega
       have i2:j<ys.length:=by omega
       exact (ih (hg j _ _ (qaP i1) (qaP i2)) (h3 j x _ hx (qaP i1)) (k3 j y _ hy (qaP i2)) A.in1 _ _ (by show A.units+1+n<cLine;omega) rx ry).1
      have hsz:its.toArray.size=its'.toArray.size:=by simp;omega
      have R:=RcAt.lists (e:=g) p1 p2 hsz hu' he
      have R':=RcNeAt.lists (e:=g) p1 p2 hsz hu' he
      have et:(List.range its.toArray.size).all g=b:=by
       have e1:min xs.length ys.length=its.length:=by omega
       have e2:(xs.length == ys.length)=true:=by simp [hl]
       rw[hb,e1,e2,Bool.and_true,List.size_toArray]
      rw[et] at R R'
      exact⟨R,R'⟩
     ·rw[if_neg hl] at h'
      cases h'
      have hsz:(its.toArray.size != its'.toArray.size)=true:=by simp;omega
      exact⟨RcAt.lists_lengths p1 p2 hsz hu',RcNeAt.lists_lengths p1 p2 hsz hu'⟩
    refine⟨?_,fin.1,fin.2⟩
    by_cases hab:a=c
    ·subst hab
     rw[qjo hK I sm (n+1) h (.lst h1 h2 h3) (.lst k1 k2 k3)];exact EqAt.same _
    ·exact EqAt.of_refs hab fin.1
   | _=>cases h
  | fzl _ _ _=>cases ry <;> cases h
  | obj _ _ _ _=>cases ry <;> cases h
  | map _ _ _=>cases ry <;> cases h
  | exc0 _ _=>cases ry <;> cases h
  | exc1 _ _ _ _=>cases ry <;> cases h
end
def zEq:RD2:=fun x y R=>match cmB 40 x y with | some b=>R (.bl b) | none=>False
def zNe:RD2:=fun x y R=>match cmB 40 x y with | some b=>R (.bl (!b)) | none=>False
section
variable {K : PySem.W.Frag} {X : Cx}
theorem RpQ.any {Φ H:Hp}{d:D}{v:V}(h:RpQ K Φ H d v)(s:Same Φ H):Rp K H d v:=by
 rcases h with h | ⟨a,vs,ds,e,e2,h1,h2⟩
 ·exact h.same s
 ·subst e e2;exact (h2.same s).lst h1
theorem qeY (hu:X.A.units+64<cLine):OpD K X (compareOp .Eq) zEq:=⟨fun hK pins s σ H x y u v Q I rx ry hq0=>by
 obtain⟨Φ,dx,dy,R,sm,hx,hy,h,k⟩:=hq0
 unfold zEq at h
 split at h
 ·next b hb=>exact (qlV hK I (Same.refl H) 40 hb (hx.any sm) (hy.any sm) X.A u v (by omega) rx ry).2.1 X.prog X.w _ _ ⟨.bl b,H,I,rfl,k _ Φ H _ h (.refl sm) (.bl b)⟩
 ·exact h.elim⟩
theorem qq2 (hu:X.A.units+64<cLine):OpD K X (compareOp .NotEq) zNe:=⟨fun hK pins s σ H x y u v Q I rx ry hq0=>by
 obtain⟨Φ,dx,dy,R,sm,hx,hy,h,k⟩:=hq0
 unfold zNe at h
 split at h
 ·next b hb=>exact (qlV hK I (Same.refl H) 40 hb (hx.any sm) (hy.any sm) X.A u v (by omega) rx ry).2.2 X.prog X.w _ _ ⟨.bl (!b),H,I,rfl,k _ Φ H _ h (.refl sm) (.bl _)⟩
 ·exact h.elim⟩
def qmK:D→Bool
 | .non=>true
 | _=>false
def zIs (neg:Bool):RD2:=fun x y R=>match y with | .non=>R (.bl (qmK x != neg)) | .bl b=>(match x with | .bl a=>R (.bl ((a == b) != neg)) | _=>False) | _=>False
theorem qnK {Φ H:Hp}{d:D}{v:V}(h:RpQ K Φ H d v):decide (v=V.non)=qmK d:=by
 cases d with
 | int i=>rw[h.int];rfl
 | bl i=>rw[h.bl];rfl
 | str i=>rw[h.str];rfl
 | non=>rw[h.non];rfl
 | tup ds => rcases h with h | ⟨a, vs, ds, e, _⟩
             · cases h; rfl
             · cases e
 | lst ds => rcases h with h | ⟨a, vs, ds, e, e2, _⟩
             · cases h; rfl
             · rw [e2]; rfl
 | fzl ds => rcases h with h | ⟨a, vs, ds, e, _⟩
             · cases h; rfl
             · cases e
 | obj C fs => rcases h with h | ⟨a, vs, ds, e, _⟩
               · cases h; rfl
               · cases e
 | map kvs => rcases h with h | ⟨a, vs, ds, e, _⟩
              · cases h; rfl
              · cases e
 | exc _ _ => rcases h with h | ⟨a, vs, ds, e, _⟩
              · cases h <;> rfl
              · cases e
theorem qm8:OpD K X (compareOp .IsNot) (zIs true):=⟨fun hK pins s σ H x y u v Q I rx ry hq0=>by
 obtain⟨Φ,dx,dy,R,sm,hx,hy,h,k⟩:=hq0
 cases dy with
 | non =>
  cases hy.non
  refine qmU pins s σ H _ _ u v Q I rx ry ⟨rfl,?_⟩
  rw[qnK hx]
  have h':R (.bl (qmK dx != true)):=h
  rw[Bool.bne_true] at h'
  exact k _ Φ H _ h' (.refl sm) (.bl _)
 | bl b =>
  cases hy.bl
  cases dx with
  | bl a =>
   cases hx.bl
   have h':R (.bl ((a == b) != true)):=h
   rw[Bool.bne_true] at h'
   exact qmI pins s σ H _ _ u v Q I rx ry ⟨a,b,rfl,rfl,k _ Φ H _ h' (.refl sm) (.bl _)⟩
  | _=>exact h.elim
 | _=>exact h.elim⟩
end
end L2
namespace HT
open PySem PySem.Spec PyProof.Rows
theorem getItem_tuple_all {prog:Program}{w:World}{A:Around}{E:Value→Shared→Prop}{s:Shared}{t sl:Addr}{items:Array Value}{vl vu:Value}{lo hi:Option Int}{Q:Value→Shared→Prop}(ht:IsTup s.heap t items)(hs:s.heap.IsSliceOf sl vl vu .none)(pl:IsPart vl lo)(pu:IsPart vu hi)
  (hw:sIx items.size 0 lo=0∧sIx items.size items.size hi=items.size) (h:Q (.ref t) s):wpAny (model prog w) A (getItem (.ref t) (.ref sl)) Q E s:=by
 obtain⟨os,hos,hcs,hds⟩:=id hs
 have hTs:s.TypeIs (.ref sl) "slice":=⟨os,hos,hcs⟩
 unfold getItem
 try with_reducible refine wpAny_holding ?_
 first | refine wpAny_bind (wpAny_pure ?_) | skip
 refine wpAny_bind (wpAny_sequenceKey ht.typeIs (by decide) ?_)
 refine wpAny_bind (wpAny_callSpecial?_slot (name:=Str.ofString "__getitem__") ht.typeIs PyProof.Rows.slot_tuple_getitem
  (wpAny_call_entry PyProof.Rows.slot_tuple_getitem ht.typeIs entry_tuple_getitem ?_ (args_tuple_getitem _ _)))
 show wpAny _ _ (Builtin.Tuple.tupleItemsOf (.ref t) >>= _) _ _ s
 refine wpAny_bind (tupleItemsOf_ ht ?_)
 refine wpAny_bind (wpAny_typeOf hTs ?_)
 rw[if_pos (by decide)]
 refine wpAny_bind (qcB hs pl pu ?_)
 have hyes:(((sIx items.size 0 lo:Nat):Int) == 0 && (1:Int) == 1 && (sIx items.size items.size hi - sIx items.size 0 lo) == items.size)=true:=by
  rw[hw.1,hw.2]
  simp
 show wpAny _ _ (if (((sIx items.size 0 lo:Nat):Int) == 0 && (1:Int) == 1 && (sIx items.size items.size hi - sIx items.size 0 lo) == items.size)=true then _ else _) _ _ s
 rw[if_pos hyes]
 refine wpAny_bind (show wpAny _ _ (typeOf (.ref t) >>= fun c=>pure (c == .type "tuple")) _ _ s from wpAny_bind (wpAny_typeOf ht.typeIs (wpAny_pure ?_)))
 rw[if_pos (by decide)]
 exact wpAny_bind (wpAny_rule (wpAny_pure ⟨_,rfl,wpAny_pure h⟩))
end HT
namespace L2
open PySem PySem.Spec PyProof.Rows
section
variable {K : PySem.W.Frag} {X : Cx} {e a b c : Expr} {es : List Expr} {pos p2 : Pos} {t ta tb : TD} {tf : TDL} {tl : TDL} {tt tu : TDB}
def zIx:RD2:=fun x y R=>match y with
 | .int i=>(match x with
  | .lst ds=>∃ d,atI ds i=some d∧R d
  | .tup ds=>∃ d,atI ds i=some d∧R d
  | .fzl ds=>∃ d,atI ds i=some d∧R d
  | .str z=>z.length≤sizeLine∧∃ c,atI z.cps.toList i=some c∧R (.str ⟨#[c]⟩)
  | _=>False)
 | _=>False
theorem qkB {Φ:Hp}{ds:List D}{vs:List V}{d:D}{i:Int}(h:RpL K Φ ds vs)(e:atI ds i=some d):∃ v,atI vs i=some v∧Rp K Φ d v:=by
 unfold atI at e ⊢
 rw[h.1]
 cases hj:ixN ds.length i with
 | none=>rw[hj] at e;cases e
 | some j =>
  rw[hj,Option.bind_some] at e
  rw[Option.bind_some]
  exact h.at e
theorem qr4 (hK:X.K=K):IxR X (lR2 K zIx):=by
 intro value slice pins s σ H x y v u Q I rx ry ⟨Φ,dx,dy,R,sm,hx,hy,h,k⟩ hs
 cases dy with
 | int i =>
  cases hy.int
  cases dx with
  | lst ds =>
   obtain⟨d,h1,h2⟩:=h
   obtain⟨a,vs,rfl,q1,q2⟩:=hx.lst sm
   obtain⟨w,hw,rw'⟩:=qkB q2 h1
   exact qhr value slice pins s σ H _ _ v u Q I rx ry ⟨a,vs,i,w,rfl,rfl,.of q1,hw,k _ Φ H _ h2 (.refl sm) rw'⟩ hs
  | tup ds =>
   obtain⟨d,h1,h2⟩:=h
   obtain⟨a,vs,rfl,q1,_,q2⟩:=hx.tup sm
   obtain⟨w,hw,rw'⟩:=qkB q2 h1
   exact qlX value slice pins s σ H _ _ v u Q I rx ry ⟨a,vs,i,w,rfl,rfl,hK ▸ q1,hw,k _ Φ H _ h2 (.refl sm) rw'⟩ hs
  | fzl ds =>
   obtain⟨d,h1,h2⟩:=h
   obtain⟨a,vs,rfl,q1,q2⟩:=hx.fzl sm
   obtain⟨w,hw,rw'⟩:=qkB q2 h1
   exact qhr value slice pins s σ H _ _ v u Q I rx ry ⟨a,vs,i,w,rfl,rfl,hK ▸ q1,hw,k _ Φ H _ h2 (.refl sm) rw'⟩ hs
  | str z =>
   obtain⟨h0,c,h1,h2⟩:=h
   cases hx.str
   exact qoB value slice pins s σ H _ _ v u Q I rx ry ⟨z,i,c,rfl,rfl,h0,h1,k _ Φ H _ h2 (.refl sm) (.str _)⟩ hs
  | _=>exact h.elim
 | _=>exact h.elim
theorem qaX (ha:PQ K X a ta)(hb:PQ K X b tb)(hs:qeq b):PD K X (.Subscript a b pos) (dOp zIx ta tb) :=
 ⟨fun hK=>(qlO (qr4 hK) (ha.pe hK) (hb.pe hK) hs).imp fun _ _ _=>qfk⟩
abbrev TOD:=Rho→(Option Int→Prop)→Prop
def lO (K:PySem.W.Frag)(t:TOD):TO:=fun σ H Q=>∃ H0 Φ ρ R,EnvD K H0 Φ H σ ρ∧t ρ R∧∀ o Φ' H',R o→Gr Φ H Φ' H'→Q o H'
structure POD (K:PySem.W.Frag)(X:Cx)(e:Option Expr)(t:TOD):Prop where po:X.K=K→PO X e (lO K t)
def qpV:TOD:=fun _ R=>R none
def qp2 (t:TD):TOD:=fun ρ R=>t ρ fun d=>match d with | .int i=>R (some i) | _=>False
theorem PO.imp {o:Option Expr}{t t':TO}(h:PO X o t)(k:∀ σ H Q,t' σ H Q→t σ H Q):PO X o t':=fun pins s σ H Q I hw=>h pins s σ H Q I (k σ H Q hw)
theorem qhM:POD K X none qpV:=⟨fun _=>po_none.imp fun σ H Q hq0=>by obtain⟨H0,Φ,ρ,R,E,t,k⟩:=hq0;exact k none Φ H t (.refl E.fz)⟩
theorem qff (h:PQ K X e t):POD K X (some e) (qp2 t):=⟨fun hK=>(qnF (h.pe hK)).imp fun σ H Q hq0=>by obtain⟨H0,Φ,ρ,R,E,t,k⟩:=hq0;exact⟨H0,Φ,ρ,_,E,t,fun d Φ1 H1 v r g rv=>by
 cases d with
 | int i=>exact⟨i,rv.int,k _ Φ1 H1 r g⟩
 | _=>exact r.elim⟩⟩
variable {lo hi : Option Expr} {to tp : TOD}
def qqZ (K:PySem.W.Frag):V→Option Int→Option Int→Hp→VK→Prop:=fun x lo hi H Q=>∃ a xs,x=.ref a∧SqT K H a xs∧(HT.sIx xs.length 0 lo=0∧HT.sIx xs.length xs.length hi=xs.length)∧Q (.ref a) H
theorem sl_all:SlR X (qqZ X.K):=by
 intro pins s σ H x v vl vu lo hi sl Q I rx hs pl pu h
 obtain⟨a,xs,rfl,hx,hw,q⟩:=h
 cases rx
 obtain⟨its,r,ht,hz⟩:=I.tuple hx
 have hlen:its.toArray.size=xs.length:=by rw[List.size_toArray];exact r.length.symm
 refine⟨"tuple",_,PyProof.Rows.slot_tuple_getitem.lookup,ht.typeIs,?_⟩
 exact HT.getItem_tuple_all ht hs pl pu (by rw[hlen];exact hw) ⟨.ref a,H,I,rfl,q⟩
theorem qnk {α:Type}{xs:List α}{l h:Option Int}(hw:HT.sIx xs.length 0 l=0∧HT.sIx xs.length xs.length h=xs.length):qeD xs l h=xs:=by
 unfold qeD
 rw[hw.1,hw.2,List.drop_zero,Nat.sub_zero,List.take_length]
def zSl (x:D)(l h:Option Int)(R:D→Prop):Prop:=match x with
 | .lst ds=>NF (qeD ds l h) fun zs=>R (.lst zs)
 | .fzl ds=>NF (qeD ds l h) fun zs=>R (.lst zs)
 | .tup ds=>NF (qeD ds l h) fun zs=>R (.tup zs)
 | .str z=>z.length≤sizeLine∧NF (qjH z l h) fun y=>R (.str y)
 | _=>False
def dSl (t:TD)(to tp:TOD):TD:=fun ρ R=>t ρ fun x=>to ρ fun l=>tp ρ fun h=>zSl x l h R
theorem qpr (ha:PQ K X a ta)(hl:POD K X lo to)(hh:POD K X hi tp):PD K X (.Subscript a (.Slice lo hi none p2) pos) (dSl ta to tp) :=
 ⟨fun hK=>(qlP (hK ▸ sl_list.or (sl_tup.or (sl_all.or qnP)):SlR X (fun x lo hi H Q=>qrd K x lo hi H Q∨qqT K x lo hi H Q∨qqZ K x lo hi H Q∨qrb x lo hi H Q)) (ha.pe hK) (hl.po hK) (hh.po hK)).imp fun σ H Q hq0=>by obtain⟨H0,Φ,ρ,R,E,t,k⟩:=hq0;exact
  ⟨H0,Φ,ρ,_,E,t,fun dx Φ1 H1 x t1 g1 rx=>⟨H0,Φ1,ρ,_,E.gr g1,t1,fun l Φ2 H2 t2 g2=>⟨H0,Φ2,ρ,_,(E.gr g1).gr g2,t2,fun h Φ3 H3 t3 g3=>by
   have g:=(g1.trans g2).trans g3
   have rx3:=rx.gr (g2.trans g3)
   cases dx with
   | lst ds =>
    obtain⟨a,vs,rfl,q1,q2⟩:=rx3.lst g.s
    exact .inl ⟨a,vs,rfl,.of q1,fun p hp=>k _ _ _ _ t3.get (g.trans (.new g.s hp _)) (((q2.cut l h).same (qaK (g.s.free hp) _)).lst qaj)⟩
   | fzl ds =>
    obtain⟨a,vs,rfl,q1,q2⟩:=rx3.fzl g.s
    exact .inl ⟨a,vs,rfl,q1,fun p hp=>k _ _ _ _ t3.get (g.trans (.new g.s hp _)) (((q2.cut l h).same (qaK (g.s.free hp) _)).lst qaj)⟩
   | tup ds =>
    obtain⟨a,vs,rfl,q1,q0,q2⟩:=rx3.tup g.s
    by_cases hw:HT.sIx vs.length 0 l=0∧HT.sIx vs.length vs.length h=vs.length
    ·refine .inr (.inr (.inl ⟨a,vs,rfl,q1,hw,?_⟩))
     have e:qeD ds l h=ds:=qnk (by rw[← q2.1];exact hw)
     have t4:=t3.get
     rw[e] at t4
     exact k _ _ _ _ t4 g (q2.tup q0)
    ·exact .inr (.inl ⟨a,vs,rfl,q1,hw,fun p hp=>k _ _ _ _ t3.get (g.trans (.new g.s hp _)) (((q2.cut l h).same (qaK (g.s.free hp) _)).tup qaj)⟩)
   | str z =>
    cases rx3.str
    exact .inr (.inr (.inr ⟨z,rfl,t3.1,k _ _ _ _ t3.2.get g (.str _)⟩))
   | _=>exact t3.elim⟩⟩⟩⟩
abbrev SpD:=List D→(D→Prop)→Prop
def lSp (K:PySem.W.Frag)(sp:SpD):Sp:=fun vs H Q _=>∃ Φ ds R,Same Φ H∧TabF K Φ∧RpL K Φ ds vs∧sp ds R∧∀ d Φ' H' v,R d→Gr Φ H Φ' H'→Rp K Φ' d v→Q v H'
def qlK (sp:SpD)(t:TDL):TD:=fun ρ R=>t ρ fun ds=>sp ds R
variable {CX : CXT} {k : Nat} {f : Addr} {fd : FuncData} {ps : List Str} {sp : SpD} {x : Str} {p : Pos} {E : XK}
theorem qoY (F:FnOk X.prog X.w X.K X.mg X.base CX k f fd ps (lSp K sp))(hr:Room k X.A)(hg:Gl X x)(hm:X.mg x=some (.ref f))(hk:PySem.W.keepIn X.K (.ref f)=true)(hb:Binds X.K fd ps [])(hx:qhW CX X E)
  (ha:PAD K X (e::es) tl) (he:starEach (e::es) X.env=(false,eval e X.env)::starEach es X.env) (hpl:(backTo pos (starEach es X.env)).any (·.1)=false) (hdb:(x == ("__debug__":Str))=false:=by decide) :
  PD K X (.Call (.Name x p) (e::es) [] pos) (qlK sp tl) :=
 ⟨fun hK=>(qhd F hr hg hm hk hb .nil hx (ha.pa hK) hdb he hpl).imp fun σ H Q hq0=>by obtain⟨H0,Φ,ρ,R,E,t,k⟩:=hq0;exact⟨H0,Φ,ρ,_,E,t,fun ds Φ1 H1 vs r g rl _=>⟨Φ1,ds,R,g.s,E.tb.same g.f,by rw[List.append_nil];exact rl,r,fun d Φ' H' v rd g' rv=>k d Φ' H' v rd (g.trans g') rv⟩⟩⟩
def qqL (K:PySem.W.Frag)(Φ H:Hp)(ds:List D)(vs:List V):Prop:=vs.length=ds.length∧∀ (i:Nat) (v:V) (d:D),vs[i]?=some v→ds[i]?=some d→RpQ K Φ H d v
def lAQ (K:PySem.W.Frag)(t:TDL):TA:=fun σ H Q=>∃ H0 Φ ρ R,EnvD K H0 Φ H σ ρ∧t ρ R∧∀ ds Φ' H' vs,R ds→Gr Φ H Φ' H'→qqL K Φ' H' ds vs→Q vs H'
structure PAQ (K:PySem.W.Frag)(X:Cx)(es:List Expr)(t:TDL):Prop where pa:X.K=K→PA X es (lAQ K t)
theorem qaQ:PAQ K X [] qqY:=⟨fun _=>pa_nil.imp fun σ H Q hq0=>by obtain⟨H0,Φ,ρ,R,E,t,k⟩:=hq0;exact k [] Φ H [] t (.refl E.fz) ⟨rfl,fun i v d hv _=>by simp at hv⟩⟩
theorem qaB (ha:PQ K X e t)(hr:PAQ K X es tl)(hs:starEach (e::es) X.env=(false,eval e X.env)::starEach es X.env):PAQ K X (e::es) (qoL t tl) :=
 ⟨fun hK=>(qbg (ha.pe hK) (hr.pa hK) hs).imp fun σ H Q hq0=>by obtain⟨H0,Φ,ρ,R,E,t,k⟩:=hq0;exact⟨H0,Φ,ρ,_,E,t,fun d Φ1 H1 v r g rv=>⟨H0,Φ1,ρ,_,E.gr g,r,fun ds Φ2 H2 vs r2 g2 rl =>
  k _ Φ2 H2 _ r2 (g.trans g2) ⟨by simp [rl.1],fun i u d hu hd=>by
   cases i with
   | zero=>cases hu;cases hd;exact rv.gr g2
   | succ i=>exact rl.2 i u d hu hd⟩⟩⟩⟩
def lC (K:PySem.W.Frag)(r:SpD):List V→Hp→VK→Prop:=fun vs H Q=>∃ Φ ds R,Same Φ H∧qqL K Φ H ds vs∧r ds R∧∀ d Φ' H' v,R d→Gr Φ H Φ' H'→Rp K Φ' d v→Q v H'
structure CallD (K:PySem.W.Frag)(X:Cx)(f:Value)(r:SpD):Prop where c:X.K=K→qfm X f (lC K r)
theorem qaR {id:String}{r:SpD}(hc:CallD K X (.builtin id) r)(hg:Gl X x)(hm:X.mg x=none)(hv:bootBuiltins x=some (.builtin id))(ha:PAQ K X (e::es) tl)
  (he:starEach (e::es) X.env=(false,eval e X.env)::starEach es X.env) (hpl:(backTo pos (starEach es X.env)).any (·.1)=false) (hn:x≠"__name__":=by decide) (hdb:(x == ("__debug__":Str))=false:=by decide):PD K X (.Call (.Name x p) (e::es) [] pos) (qlK r tl) :=
 ⟨fun hK=>(qfM (hc.c hK) hg hm hv (ha.pa hK) hn hdb he hpl).imp fun σ H Q hq0=>by obtain⟨H0,Φ,ρ,R,E,t,k⟩:=hq0;exact⟨H0,Φ,ρ,_,E,t,fun ds Φ1 H1 vs r g rl=>⟨Φ1,ds,R,g.s,rl,r,fun d Φ' H' v rd g' rv=>k d Φ' H' v rd (g.trans g') rv⟩⟩⟩
theorem qbo {T:String}{r:SpD}(hc:CallD K X (.type T) r)(hg:Gl X x)(hm:X.mg x=none)(hv:bootBuiltins x=some (.type T))(ha:PAQ K X (e::es) tl)
  (he:starEach (e::es) X.env=(false,eval e X.env)::starEach es X.env) (hpl:(backTo pos (starEach es X.env)).any (·.1)=false) (hn:x≠"__name__":=by decide) (hdb:(x == ("__debug__":Str))=false:=by decide):PD K X (.Call (.Name x p) (e::es) [] pos) (qlK r tl) :=
 ⟨fun hK=>(qgL (hc.c hK) hg hm hv (ha.pa hK) hn hdb he hpl).imp fun σ H Q hq0=>by obtain⟨H0,Φ,ρ,R,E,t,k⟩:=hq0;exact⟨H0,Φ,ρ,_,E,t,fun ds Φ1 H1 vs r g rl=>⟨Φ1,ds,R,g.s,rl,r,fun d Φ' H' v rd g' rv=>k d Φ' H' v rd (g.trans g') rv⟩⟩⟩
theorem qdV {Φ H:Hp}{d:D}{vs:List V}(h:qqL K Φ H [d] vs):∃ v,vs=[v]∧RpQ K Φ H d v:=by
 obtain⟨h1,h2⟩:=h
 match vs,h1,h2 with
 | [v],_,h2=>exact⟨v,rfl,h2 0 v d rfl rfl⟩
def qrF:SpD:=fun ds R=>match ds with | [.lst xs]=>R (.int xs.length) | [.tup xs]=>R (.int xs.length) | [.fzl xs]=>R (.int xs.length) | [.str z]=>z.length≤sizeLine∧R (.int z.length) | _=>False
theorem qb0:CallD K X (.builtin "len") qrF:=⟨fun hK pins s σ H xs us Q I rr hq0=>by
 obtain⟨Φ,ds,R,sm,hl,h,k⟩:=hq0
 match ds,h with
 | [.lst xs],h =>
  obtain⟨v,rfl,r⟩:=qdV hl
  obtain⟨a,vs,rfl,q1,q2⟩:=r.lst sm
  exact qcH pins s σ H _ us Q I rr ⟨a,vs,rfl,.inl (.of q1),by rw[q2.1];exact k _ Φ H _ h (.refl sm) (.int _)⟩
 | [.tup xs],h =>
  obtain⟨v,rfl,r⟩:=qdV hl
  obtain⟨a,vs,rfl,q1,_,q2⟩:=r.tup sm
  exact qcH pins s σ H _ us Q I rr ⟨a,vs,rfl,.inr (hK ▸ q1),by rw[q2.1];exact k _ Φ H _ h (.refl sm) (.int _)⟩
 | [.fzl xs],h =>
  obtain⟨v,rfl,r⟩:=qdV hl
  obtain⟨a,vs,rfl,q1,q2⟩:=r.fzl sm
  exact qcH pins s σ H _ us Q I rr ⟨a,vs,rfl,.inl (hK ▸ q1),by rw[q2.1];exact k _ Φ H _ h (.refl sm) (.int _)⟩
 | [.str z],h =>
  obtain⟨v,rfl,r⟩:=qdV hl
  cases r.str
  exact qgt pins s σ H _ us Q I rr ⟨z,rfl,h.1,k _ Φ H _ h.2 (.refl sm) (.int _)⟩⟩
theorem qnc {Φ:Hp}{ns:List Int}{vs:List V}(h:RpL K Φ (ns.map D.int) vs):vs=ns.map V.int:=by
 refine List.ext_getElem? fun i=>?_
 rw[List.getElem?_map]
 cases e:ns[i]? with
 | none =>
  have:=List.getElem?_eq_none_iff.mp e
  rw[List.getElem?_eq_none (by rw[h.1,List.length_map];exact this)]
  rfl
 | some n =>
  obtain⟨v,hv,r⟩:=h.at (i:=i) (d:=.int n) (by rw[List.getElem?_map,e];rfl)
  cases r
  rw[hv]
  rfl
theorem RpQ.sqb {Φ H:Hp}{d:D}{v:V}{ds:List D}(s:Same Φ H)(h:RpQ K Φ H d v)(e:qe1 d=some ds):∃ (q:Bool) (a:Addr) (vs:List V),v=.ref a∧SqB K q H a vs∧RpL K Φ ds vs:=by
 obtain⟨a,vs,e1,h1,h2⟩:=h.seq s e
 rcases h1 with h1 | h1
 ·exact⟨true,a,vs,e1,h1,h2⟩
 ·exact⟨false,a,vs,e1,h1,h2⟩
def qr5:SpD:=fun ds R=>match ds with | [d]=>∃ ns:List Int,qe1 d=some (ns.map D.int)∧R (.int ns.sum) | _=>False
theorem qqp (hc:X.calm=true):CallD K X (.builtin "sum") qr5:=⟨fun hK pins s σ H xs us Q I rr hq0=>by
 obtain⟨Φ,ds,R,sm,hl,h,k⟩:=hq0
 match ds,h with
 | [d],⟨ns,e,h⟩ =>
  obtain⟨v,rfl,r⟩:=qdV hl
  obtain⟨q,a,vs,rfl,q1,q2⟩:=r.sqb sm e
  rw[qnc q2] at q1
  exact qk4 q hc pins s σ H _ us Q I rr ⟨a,ns,rfl,hK ▸ q1,k _ Φ H _ h (.refl sm) (.int _)⟩⟩
def qoV:SpD:=fun ds R=>match ds with | [.lst xs]=>R (.tup xs) | [.tup xs]=>R (.tup xs) | [.fzl xs]=>R (.tup xs) | _=>False
theorem qbY:CallD K X (.type "tuple") qoV:=⟨fun hK pins s σ H xs us Q I rr hq0=>by
 obtain⟨Φ,ds,R,sm,hl,h,k⟩:=hq0
 match ds,h with
 | [.lst xs],h =>
  obtain⟨v,rfl,r⟩:=qdV hl
  obtain⟨a,vs,rfl,q1,q2⟩:=r.lst sm
  exact qcl pins s σ H _ us Q I rr ⟨a,vs,rfl,.inl ⟨.of q1,fun p hp=>k _ _ _ _ h (.new sm hp _) ((q2.same (qaK (sm.free hp) _)).tup qaj)⟩⟩
 | [.fzl xs],h =>
  obtain⟨v,rfl,r⟩:=qdV hl
  obtain⟨a,vs,rfl,q1,q2⟩:=r.fzl sm
  exact qcl pins s σ H _ us Q I rr ⟨a,vs,rfl,.inl ⟨hK ▸ q1,fun p hp=>k _ _ _ _ h (.new sm hp _) ((q2.same (qaK (sm.free hp) _)).tup qaj)⟩⟩
 | [.tup xs],h =>
  obtain⟨v,rfl,r⟩:=qdV hl
  obtain⟨a,vs,rfl,q1,q3,q2⟩:=r.tup sm
  exact qcl pins s σ H _ us Q I rr ⟨a,vs,rfl,.inr ⟨hK ▸ q1,k _ Φ H _ h (.refl sm) (q2.tup q3)⟩⟩⟩
end
structure SteadyD (K:PySem.W.Frag)(J:It)(Φ:Hp)(ds:List D):Prop where
 go:∀ i H,Same Φ H→i<ds.length→J.go i H
 yl:∀ i Φ2 H x H2 d,Same Φ Φ2→Same Φ2 H→ds[i]?=some d→J.yld i H x H2→∃ Φ3,Gr Φ2 H Φ3 H2∧Rp K Φ3 d x
 stop:∀ H,Same Φ H→J.stop ds.length H
section
variable {K : PySem.W.Frag} {Φ : Hp} {ds es : List D} {vs ws : List V} {a : Addr}
theorem qf4 (h:SqL K Φ a vs)(r:RpL K Φ ds vs):SteadyD K (Itl K a) Φ ds :=
 ⟨fun i H s hi=>⟨vs,vs[i]'(by rw[r.1];exact hi),s.seq h,qaP _⟩,fun i Φ2 H x H2 d s2 s hd y=>by
  obtain⟨e,y⟩:=y
  subst e
  exact⟨Φ2,.refl s,(r.2 i x d (y vs ((s2.trans s).seq h)) hd).same s2⟩,fun H s=>⟨vs,s.seq h,by rw[r.1];exact Nat.le_refl _⟩⟩
theorem qhe (h:SqT K Φ a vs)(r:RpL K Φ ds vs):SteadyD K (Itt K a) Φ ds :=
 ⟨fun i H s hi=>⟨vs,vs[i]'(by rw[r.1];exact hi),s.sqt h,qaP _⟩,fun i Φ2 H x H2 d s2 s hd y=>by
  obtain⟨e,y⟩:=y
  subst e
  exact⟨Φ2,.refl s,(r.2 i x d (y vs ((s2.trans s).sqt h)) hd).same s2⟩,fun H s=>⟨vs,s.sqt h,by rw[r.1];exact Nat.le_refl _⟩⟩
def qev (lo:Int)(n:Nat):List D:=(List.range n).map fun i=>D.int (lo+(i:Nat))
theorem qbx (lo:Int)(n:Nat):(qev lo n).length=n:=by unfold qev;simp
theorem qcJ {lo:Int}{n i:Nat}{d:D}(h:(qev lo n)[i]?=some d):i<n∧d=.int (lo+(i:Nat)):=by
 have hi:i<n:=by have:=qak h;rwa [qbx] at this
 unfold qev at h
 rw[List.getElem?_map,List.getElem?_range hi] at h
 cases h
 exact⟨hi,rfl⟩
theorem qdu {lo:Int}{n:Nat}:SteadyD K (Itr lo n) Φ (qev lo n) :=
 ⟨fun i H s hi=>by rw[qbx] at hi;exact hi,fun i Φ2 H x H2 d s2 s hd y=>by
  obtain⟨e,y⟩:=y
  subst e y
  rw[(qcJ hd).2]
  exact⟨Φ2,.refl s,.int _⟩,fun H s=>by rw[qbx];exact Nat.le_refl n⟩
def qdZ (ds:List D):List D:=ds.zipIdx.map fun p=>.tup [.int (p.2:Nat),p.1]
theorem qgb (ds:List D):(qdZ ds).length=ds.length:=by unfold qdZ;simp
theorem qfr {i:Nat}{d:D}(h:(qdZ ds)[i]?=some d):∃ e,ds[i]?=some e∧d=.tup [.int (i:Nat),e]:=by
 unfold qdZ at h
 rw[List.getElem?_map,List.getElem?_zipIdx] at h
 cases e:ds[i]? with
 | none=>rw[e] at h;cases h
 | some x=>rw[e] at h;cases h;exact⟨x,rfl,by simp⟩
theorem Rp.pair {H:Hp}{t:Addr}{d e:D}{x y:V}(h:H t=some (.tup [x,y]))(r1:Rp K H d x)(r2:Rp K H e y):Rp K H (.tup [d,e]) (.ref t):=(RpL.cons r1 (.one r2)).tup h
theorem qgp {b:Bool}(h:SqB K b Φ a vs)(r:RpL K Φ ds vs):SteadyD K (Ite K b a) Φ (qdZ ds) :=
 ⟨fun i H s hi=>by rw[qgb] at hi;exact⟨vs,vs[i]'(by rw[r.1];exact hi),SqB.same s h,qaP _⟩,fun i Φ2 H x H2 d s2 s hd y=>by
  obtain⟨t,v,hn,e,e',y⟩:=y
  subst e e'
  obtain⟨e,he,rfl⟩:=qfr hd
  have rv:=(r.2 i v e (y vs (SqB.same (s2.trans s) h)) he).same (s2.trans (qaK (s.free hn) (.tup [.int i,v])))
  exact⟨_,.new s hn _,.pair qaj (.int _) rv⟩,fun H s=>by rw[qgb];exact⟨vs,SqB.same s h,by rw[r.1];exact Nat.le_refl _⟩⟩
end
def lI (K:PySem.W.Frag)(t:TDL):TI:=fun σ H R'=>∃ H0 Φ ρ R,EnvD K H0 Φ H σ ρ∧t ρ R∧∀ ds Φ' H' J,R ds→Gr Φ H Φ' H'→SteadyD K J Φ' ds→R' J H'
structure PID (K:PySem.W.Frag)(X:Cx)(tg e:Expr)(t:TDL):Prop where pi:X.K=K→PI X tg e (lI K t)
theorem PI.imp {X:Cx}{tg e:Expr}{t t':TI}(h:PI X tg e t)(k:∀ σ H R,t' σ H R→t σ H R):PI X tg e t':=fun pins s σ H R I hw=>h pins s σ H R I (k σ H R hw)
section
variable {K : PySem.W.Frag} {X : Cx} {tg e a b : Expr} {es : List Expr} {pos p tp : Pos} {t ta tb : TD} {tl : TDL}
theorem qii {es:List Expr}{k:Nat}{t:TGs}{n:Nat}(hK:X.K=K)(hc:X.calm=true)(h:PGs X es t)(hn:(assignEach es X.env).length=n)(hst:(assignEach es X.env).findIdx? (·.1)=none):PG X (.Tuple es k pos) (qqq K n t):=hK ▸ qlW hc h hn hst
theorem qhE {es:List Expr}{k:Nat}{t:TGs}{n:Nat}(hK:X.K=K)(hc:X.calm=true)(h:PGs X es t)(hn:(assignEach es X.env).length=n)(hst:(assignEach es X.env).findIdx? (·.1)=none):PG X (.Tuple es k pos) (qp9 K n t):=hK ▸ qpb hc h hn hst
def qng (t:TDL):TDL:=fun ρ R=>t ρ fun ds=>match ds with | [.int j]=>(-(2 ^ 62)≤j∧j<2 ^ 62)∧R (qev 0 j.toNat) | _=>False
theorem RpL.one_inv {Φ:Hp}{d:D}{vs:List V}(h:RpL K Φ [d] vs):∃ v,vs=[v]∧Rp K Φ d v:=by
 obtain⟨h1,h2⟩:=h
 match vs,h1,h2 with
 | [v],_,h2=>exact⟨v,rfl,h2 0 v d rfl rfl⟩
theorem qfV (hg:Gl X "range")(hm:X.mg "range"=none)(ha:PAD K X [a] tl)(hs:starEach [a] X.env=[(false,eval a X.env)]:=by rfl):PID K X tg (.Call (.Name "range" p) [a] [] pos) (qng tl) :=
 ⟨fun hK=>(qf6 hg hm (ha.pa hK) hs).imp fun σ H R' hq0=>by obtain⟨H0,Φ,ρ,R,E,t,k⟩:=hq0;exact⟨H0,Φ,ρ,_,E,t,fun ds Φ1 H1 vs r g rv _=>by
  match ds,r with
  | [.int j],r =>
   obtain⟨v,rfl,r1⟩:=rv.one_inv
   cases r1
   exact⟨j,rfl,r.1.1,r.1.2,k _ Φ1 H1 _ r.2 g qdu⟩⟩⟩
end
abbrev TGD:=D→Rho→(Rho→Prop)→Prop
abbrev qis:=List D→Rho→(Rho→Prop)→Prop
def lG (K:PySem.W.Frag)(g:TGD):TG:=fun v σ H Q=>∃ H0 Φ ρ d R,EnvD K H0 Φ H σ ρ∧Rp K Φ d v∧g d ρ R∧∀ ρ' σ',R ρ'→EnvD K H0 Φ H σ' ρ'→Q σ' H
def lGs (K:PySem.W.Frag)(g:qis):TGs:=fun vs σ H Q=>∃ H0 Φ ρ ds R,EnvD K H0 Φ H σ ρ∧RpL K Φ ds vs∧g ds ρ R∧∀ ρ' σ',R ρ'→EnvD K H0 Φ H σ' ρ'→Q σ' H
structure PGD (K:PySem.W.Frag)(X:Cx)(e:Expr)(g:TGD):Prop where pg:X.K=K→PG X e (lG K g)
structure PGDs (K:PySem.W.Frag)(X:Cx)(es:List Expr)(g:qis):Prop where pg:X.K=K→PGs X es (lGs K g)
theorem PG.imp {X:Cx}{e:Expr}{t t':TG}(h:PG X e t)(k:∀ v σ H Q,t' v σ H Q→t v σ H Q):PG X e t':=fun pins s σ H v u Q I r hw=>h pins s σ H v u Q I r (k v σ H Q hw)
theorem PGs.imp {X:Cx}{e:List Expr}{t t':TGs}(h:PGs X e t)(k:∀ v σ H Q,t' v σ H Q→t v σ H Q):PGs X e t':=fun pins s σ H v u Q I r hw=>h pins s σ H v u Q I r (k v σ H Q hw)
section
variable {K : PySem.W.Frag} {X : Cx} {e : Expr} {es : List Expr} {pos : Pos} {g : TGD} {gs : qis}
def qp0 (i:Nat):TGD:=fun d ρ R=>R (ρ.set i (some (.v d)))
theorem qbG {i:Nat}{x:Str}(hN:X.N.Nodup)(hi:X.N[i]?=some x)(hx:Loc X.env.scope x)(hf:X.fn x=true∨X.env.scope.names.lookup x=some .local:=by first | exact .inl rfl | exact .inr rfl | assumption):PGD K X (.Name x pos) (qp0 i) :=
 ⟨fun _=>(qee hN hi hx hf).imp fun v σ H Q hq0=>by obtain⟨H0,Φ,ρ,d,R,E,r,g,k⟩:=hq0;exact k _ _ g (E.set r i)⟩
def qmS:qis:=fun ds ρ R=>match ds with | []=>R ρ | _=>False
def qhX (t:TGD)(u:qis):qis:=fun ds ρ R=>match ds with | d::r=>t d ρ fun ρ'=>u r ρ' R | []=>False
theorem qof:PGDs K X [] qmS:=⟨fun _=>pgs_nil.imp fun v σ H Q hq0=>by
 obtain⟨H0,Φ,ρ,ds,R,E,r,g,k⟩:=hq0
 cases ds with
 | nil=>exact⟨List.length_eq_zero_iff.mp r.1,k _ _ g E⟩
 | cons=>exact g.elim⟩
theorem qkk (h1:PGD K X e g)(h2:PGDs K X es gs)(hs:(assignEach (e::es) X.env).map (·.2)=assign e X.env::(assignEach es X.env).map (·.2):=by rfl):PGDs K X (e::es) (qhX g gs) :=
 ⟨fun hK=>(qdx (h1.pg hK) (h2.pg hK) hs).imp fun vs σ H Q hq0=>by
  obtain⟨H0,Φ,ρ,ds,R,E,r,g,k⟩:=hq0
  cases ds with
  | nil=>exact g.elim
  | cons d ds =>
   cases vs with
   | nil=>exact absurd r.1 (by simp)
   | cons v vs =>
    refine⟨v,vs,rfl,H0,Φ,ρ,d,_,E,r.2 0 v d rfl rfl,g,fun ρ' σ' g' E'=>⟨H0,Φ,ρ',ds,R,E',⟨by have:=r.1;simpa using this,fun i u f hu hf=>r.2 (i+1) u f hu hf⟩,g',k⟩⟩⟩
end
def qhS (cap:List (Option Nat))(ρ:Rho):Rho:=cap.map fun o=>o.bind fun i=>(ρ[i]?).join
theorem qky {α:Type}{o:Option (Option α)}{x:α}(h:o.join=some x):o=some (some x):=by
 cases o with
 | none=>cases h
 | some o=>cases o with
  | none=>cases h
  | some y=>cases h;rfl
theorem qfj {α:Type}{cap:List (Option Nat)}{l:List (Option α)}{i:Nat}{x:α}(h:(cap.map fun o=>o.bind fun i=>(l[i]?).join)[i]?=some (some x)):∃ j,cap[i]?=some (some j)∧l[j]?=some (some x):=by
 rw[List.getElem?_map] at h
 cases e:cap[i]? with
 | none=>rw[e] at h;cases h
 | some o =>
  rw[e] at h
  cases o with
  | none=>cases h
  | some j=>exact⟨j,rfl,qky (by simpa using h)⟩
theorem EnvD.cap {K:PySem.W.Frag}{H0 Φ H:Hp}{σ:St}{ρ:Rho}{cap:List (Option Nat)}(E:EnvD K H0 Φ H σ ρ)(inj:∀ i j k:Nat,cap[i]?=some (some k)→cap[j]?=some (some k)→i=j):EnvD K H0 Φ H (qdB cap σ) (qhS cap ρ):=by
 have st:∀ {i j:Nat} {v:V},cap[i]?=some (some j)→σ[j]?=some (some v)→(qdB cap σ)[i]?=some (some v):=fun hc hs=>by
  unfold qdB
  rw[List.getElem?_map,hc]
  simp [hs]
 have ts:∀ {i j:Nat} {v:V},cap[i]?=some (some j)→(qdB cap σ)[i]?=some (some v)→σ[j]?=some (some v):=fun hc hs=>by
  obtain⟨j',h1,h2⟩:=qfj hs
  rw[hc] at h1
  cases h1
  exact h2
 refine⟨E.fz,by unfold qdB qhS;simp,fun i d h=>?_,fun i ds h=>?_,fun i j ds es p hi hj si sj=>?_,E.tb⟩
 ·obtain⟨j,h1,h2⟩:=qfj h
  obtain⟨v,e,r⟩:=E.sl j d h2
  exact⟨v,st h1 e,r⟩
 ·obtain⟨j,h1,h2⟩:=qfj h
  obtain⟨p,vs,e,q⟩:=E.ow j ds h2
  exact⟨p,vs,st h1 e,q⟩
 ·obtain⟨i',h1,h2⟩:=qfj hi
  obtain⟨j',h3,h4⟩:=qfj hj
  have:=E.ne i' j' ds es p h2 h4 (ts h1 si) (ts h3 sj)
  subst this
  exact inj i j i' h1 h3
structure GK (k:Nat)(g:TGD):Prop where p:∀ d ρ R,g d ρ R→g d ρ fun ρ1=>ρ1.length=ρ.length∧ρ1.drop k=ρ.drop k∧R ρ1
structure GKs (k:Nat)(g:qis):Prop where p:∀ ds ρ R,g ds ρ R→g ds ρ fun ρ1=>ρ1.length=ρ.length∧ρ1.drop k=ρ.drop k∧R ρ1
theorem qnU {k i:Nat}(h:i<k):GK k (qp0 i):=⟨fun d ρ R r=>⟨by simp,by rw[List.drop_set_of_lt h],r⟩⟩
theorem qoP {k:Nat}:GKs k qmS:=⟨fun ds ρ R r=>by
 cases ds with
 | nil=>exact⟨rfl,rfl,r⟩
 | cons=>exact r⟩
theorem qhk {t:TGD}{u:qis}(ht:∀ d ρ R R',(∀ x,R x→R' x)→t d ρ R→t d ρ R')(hu:∀ d ρ R R',(∀ x,R x→R' x)→u d ρ R→u d ρ R'):∀ d ρ R R',(∀ x,R x→R' x)→qhX t u d ρ R→qhX t u d ρ R':=by
 intro ds ρ R R' h r
 cases ds with
 | nil=>exact r
 | cons d ds=>exact ht d ρ _ _ (fun x hx=>hu ds x _ _ h hx) r
structure GM (k:Nat)(g:TGD):Prop where
 k:GK k g
 m:∀ d ρ R R',(∀ x,R x→R' x)→g d ρ R→g d ρ R'
structure GMs (k:Nat)(g:qis):Prop where
 k:GKs k g
 m:∀ d ρ R R',(∀ x,R x→R' x)→g d ρ R→g d ρ R'
theorem qdt {k i:Nat}(h:i<k):GM k (qp0 i):=⟨qnU h,fun d ρ R R' h r=>h _ r⟩
theorem qoO {k:Nat}:GMs k qmS:=⟨qoP,fun ds ρ R R' h r=>by
 cases ds with
 | nil=>exact h _ r
 | cons=>exact r⟩
theorem qjO {k:Nat}{t:TGD}{u:qis}(h1:GM k t)(h2:GMs k u):GMs k (qhX t u):=⟨⟨fun ds ρ R r=>by
 cases ds with
 | nil=>exact r
 | cons d ds =>
  have r1:t d ρ fun ρ'=>u ds ρ' R:=r
  refine h1.m _ _ _ _ (fun ρ1 q=>?_) (h1.k.p d ρ _ r1)
  exact h2.m _ _ _ _ (fun ρ2 q2=>⟨q2.1.trans q.1,q2.2.1.trans q.2.1,q2.2.2⟩) (h2.k.p ds ρ1 R q.2.2)⟩,qhk h1.m h2.m⟩
def qmN:TDB:=fun _ R=>R true
structure PIfD (K:PySem.W.Frag)(X:Cx)(ifs:List Expr)(t:TDB):Prop where p:X.K=K→qoA X ifs (lT K t)
theorem qpi {K:PySem.W.Frag}{X:Cx}:PIfD K X [] qmN:=⟨fun _ pins s σ H Q I hq0=>by obtain⟨H0,Φ,ρ,R,E,t,k⟩:=hq0;exact qk0 pins s σ H Q I (k true Φ H t (.refl E.fz))⟩
theorem qh0 {K:PySem.W.Frag}{X:Cx}{c:Expr}{t:TDB}(h:PTD K X c t):PIfD K X [c] t:=⟨fun hK=>qlm (h.pt hK)⟩
theorem EnvD.side {K:PySem.W.Frag}{H0 Φ H:Hp}{σ:St}{ρ:Rho}{p:Addr}{o u:HO}(E:EnvD K H0 Φ H σ ρ)(h0:H0 p=some u)(hn:Φ p=none):EnvD K H0 Φ (upd H p o) σ ρ :=
 ⟨fun b w e=>by rw[qal (qas e hn)];exact E.fz b w e,E.len,E.sl,fun i ds h=>by
  obtain⟨q,vs,e,q0,qn,qp,qr⟩:=E.ow i ds h
  exact⟨q,vs,e,q0,qn,by rw[qal fun z=>by rw[z,h0] at q0;cases q0];exact qp,qr⟩,E.ne,E.tb⟩
theorem EnvD.base {K:PySem.W.Frag}{H0 Φ H:Hp}{σ:St}{ρ:Rho}{p:Addr}{u:HO}(E:EnvD K H0 Φ H σ ρ)(hp:H p=none):EnvD K (upd H0 p u) Φ H σ ρ :=
 ⟨E.fz,E.len,E.sl,fun i ds h=>by
  obtain⟨q,vs,e,q0,qn,qp,qr⟩:=E.ow i ds h
  exact⟨q,vs,e,by rw[qal (qas qp hp)];exact q0,qn,qp,qr⟩,E.ne,E.tb⟩
def qpn (ti:TDL)(cap:List (Option Nat))(g:TGD)(tc:TDB)(te:TD):TDL:=fun ρ R=>ti ρ fun ds=>ds.length<sizeLine∧∃ P:Nat→Option D→Prop,
 (∀ i d,ds[i]?=some d→g d (qhS cap ρ) fun ρ1=>tc ρ1 fun b=>(b=true→te ρ1 fun y=>P i (some y))∧(b=false→P i none))∧∀ ys:List (Option D),ys.length=ds.length→(∀ i y,ys[i]?=some y→P i y)→R (ys.filterMap id)
theorem qmx (ys:List (Option D))(y:D):(ys++[some y]).filterMap id=ys.filterMap id++[y]:=by simp
theorem qlc (ys:List (Option D)):(ys++[none]).filterMap id=ys.filterMap id:=by simp
theorem qod (ys:List (Option D)):(ys.filterMap id).length≤ys.length:=List.length_filterMap_le _ _
theorem qh6 {α:Type}{ys:List α}{y:α}{P:Nat→α→Prop}{n:Nat}(hl:ys.length=n)(h:∀ i z,ys[i]?=some z→P i z)(hy:P n y):∀ i z,(ys++[y])[i]?=some z→P i z:=by
 intro i z hz
 rcases Nat.lt_or_ge i ys.length with c | c
 ·rw[List.getElem?_append_left c] at hz
  exact h i z hz
 ·rw[List.getElem?_append_right c] at hz
  have h0:i - ys.length=0:=by
   rcases Nat.eq_zero_or_pos (i - ys.length) with e | e
   ·exact e
   ·rw[List.getElem?_eq_none (by simp only [List.length_cons,List.length_nil];omega)] at hz;cases hz
  rw[h0] at hz
  cases hz
  have:i=n:=by omega
  subst this
  exact hy
def qfo (k:Nat)(cap:List (Option Nat)):Bool:=(cap.take k).all (·.isNone) && decide ((cap.filterMap id).Nodup)
theorem qjc {k:Nat}{cap:List (Option Nat)}(h:qfo k cap=true){i:Nat}(hi:i<k){o:Option Nat}(e:cap[i]?=some o):o=none:=by
 unfold qfo at h
 rw[Bool.and_eq_true] at h
 have:=List.all_eq_true.mp h.1 o (List.mem_of_getElem? (i:=i) (by rw[List.getElem?_take_of_lt hi];exact e))
 cases o with
 | none=>rfl
 | some _=>cases this
theorem qjL {k:Nat}{cap:List (Option Nat)}(h:qfo k cap=true):∀ i j n:Nat,cap[i]?=some (some n)→cap[j]?=some (some n)→i=j:=by
 unfold qfo at h
 rw[Bool.and_eq_true] at h
 have nd:=of_decide_eq_true h.2
 clear h
 induction cap with
 | nil=>intro i j n hi;simp at hi
 | cons o cap ih =>
  intro i j n hi hj
  have nd':(cap.filterMap id).Nodup:=by
   cases o with
   | none=>simpa using nd
   | some m => have e : (some m :: cap).filterMap id = m :: cap.filterMap id := rfl
               rw [e] at nd; exact (List.nodup_cons.mp nd).2
  have one:∀ {i:Nat},o=some n→cap[i]?=some (some n)→False:=fun {i} ho hi'=>by
   subst ho
   have e:(some n::cap).filterMap id=n::cap.filterMap id:=rfl
   rw[e] at nd
   exact (List.nodup_cons.mp nd).1 (List.mem_filterMap.mpr ⟨some n,List.mem_of_getElem? hi',rfl⟩)
  cases i with
  | zero=>cases j with
   | zero=>rfl
   | succ j=>exact (one (by simpa using hi) (by simpa using hj)).elim
  | succ i=>cases j with
   | zero=>exact (one (by simpa using hj) (by simpa using hi)).elim
   | succ j=>exact congrArg Nat.succ (ih nd' i j n (by simpa using hi) (by simpa using hj))
section
variable {K : PySem.W.Frag} {X : Cx} {tg iter elt : Expr} {ifs : List Expr} {scope : Scope} {pos : Pos} {N' : List Str} {cap : List (Option Nat)} {ti : TDL} {g : TGD} {tc : TDB} {te : TD}
theorem qgJ {k:Nat}(hcap:qfo k cap=true)(hk:GM k g){σ:St}{H:Hp}{Q:VK}{H0 Φ:Hp}{ρ:Rho}{R W:List D→Prop}(E:EnvD K H0 Φ H σ ρ)(t:ti ρ W)
  (conv:∀ ds,W ds→ds.length<sizeLine∧∃ P:Nat→Option D→Prop,(∀ i d,ds[i]?=some d→g d (qhS cap ρ) fun ρ1=>tc ρ1 fun b=>(b=true→te ρ1 fun y=>P i (some y))∧(b=false→P i none))∧∀ ys:List (Option D),ys.length=ds.length→(∀ i y,ys[i]?=some y→P i y)→R (ys.filterMap id))
  (kk:∀ ds Φ' H' p vs,R ds→Gr Φ H Φ' H'→H p=none→Φ' p=none→H' p=some (.lst vs)→RpL K Φ' ds vs→Q (.ref p) H'):qlQ (lI K ti) cap (lG K g) (lT K tc) (lE K te) σ H Q:=by
 refine⟨H0,Φ,ρ,W,E,t,fun ds Φ1 H1 J hW g1 S Dd hD=>?_⟩
 obtain⟨hlen,P,hp,hr⟩:=conv ds hW
 have E1:=E.gr g1
 have hDΦ:Φ1 Dd=none:=g1.s.free hD
 have C0:EnvD K (upd H0 Dd (.lst [])) Φ1 (upd H1 Dd (.lst [])) (qdB cap σ) (qhS cap ρ):=((E1.base (u:=.lst []) hD).side (o:=.lst []) qaj hDΦ).cap (qjL hcap)
 refine⟨fun i m σ' H'=>m=ds.length - i∧i≤ds.length∧∃ (Φ':Hp) (vs:List V) (ys:List (Option D)),EnvD K (upd H0 Dd (.lst [])) Φ' H' σ' (qhS cap ρ)∧Gr Φ1 H1 Φ' H'∧Φ' Dd=none∧H' Dd=some (.lst vs)∧RpL K Φ' (ys.filterMap id) vs∧ys.length=i∧∀ j y,ys[j]?=some y→P j y,⟨ds.length,by simp,Nat.zero_le _,Φ1,[],[],C0,.fresh g1.s hD _,hDΦ,qaj,.nil,rfl,fun j y hj=>by simp at hj⟩,?_⟩
 rintro i m σ' H' ⟨rfl,hi,Φ',vs,ys,Ei,gi,hDi,hDl,hrl,hyl,hy⟩
 by_cases hlt:i<ds.length
 ·refine .inr ⟨S.go i H' (gi.f.trans gi.s) hlt,fun σ2 H2=>∃ (Φ':Hp) (vs:List V) (ys:List (Option D)),EnvD K (upd H0 Dd (.lst [])) Φ' H2 σ2 (qhS cap ρ)∧Gr Φ1 H1 Φ' H2∧Φ' Dd=none∧H2 Dd=some (.lst vs)∧RpL K Φ' (ys.filterMap id) vs∧ys.length=i+1∧∀ j y,ys[j]?=some y→P j y,fun σ2 H2 h2=>⟨ds.length - (i+1),by omega,rfl,hlt,h2⟩,fun x H2 y=>?_⟩
  obtain⟨Φ3,g3,rx⟩:=S.yl i Φ' H' x H2 _ gi.f gi.s (qaP hlt) y
  have E3:=Ei.gr g3
  refine⟨_,Φ3,qhS cap ρ,_,_,E3,rx,hk.k.p _ _ _ (hp i _ (qaP hlt)),fun ρ1 σ3 hq0 E4=>?_⟩
  obtain⟨hl1,hd1,t1⟩:=hq0
  have wk:∀ (j:Nat) x,(qhS cap ρ)[j]?=some (some x)→ρ1[j]?=some (some x):=fun j x hj=>by
   rcases Nat.lt_or_ge j k with c | c
   ·obtain⟨n,h1,_⟩:=qfj hj
    cases qjc hcap c h1
   ·have e1:(qhS cap ρ)[j]?=((qhS cap ρ).drop k)[j - k]?:=by rw[List.getElem?_drop];congr 1;omega
    have e2:ρ1[j]?=(ρ1.drop k)[j - k]?:=by rw[List.getElem?_drop];congr 1;omega
    rw[e2,hd1,← e1]
    exact hj
  have hD3:Φ3 Dd=none:=g3.o _ _ hDl hDi
  refine⟨_,Φ3,ρ1,_,E4,t1,fun b Φ4 H4 rb g4=>?_⟩
  have E5:=(E4.gr g4)
  have hDl4:=g4.h _ _ (g3.h _ _ hDl)
  have hD4:Φ4 Dd=none:=g4.o _ _ (g3.h _ _ hDl) hD3
  cases b with
  | false =>
   refine qpE ?_
   refine⟨Φ4,vs,ys++[none],E5.weak hl1.symm wk,(gi.trans g3).trans g4,hD4,hDl4,?_,by rw[List.length_append,hyl];rfl,qh6 hyl hy (rb.2 rfl)⟩
   rw[qlc]
   exact (hrl.same g3.f).same g4.f
  | true =>
   refine qpD ?_
   refine⟨_,Φ4,ρ1,_,E5,rb.1 rfl,fun d Φ5 H5 v rd g5 rv=>?_⟩
   have E6:=E5.gr g5
   have hDl5:=g5.h _ _ hDl4
   have hD5:Φ5 Dd=none:=g5.o _ _ hDl4 hD4
   have gg:=((gi.trans g3).trans g4).trans g5
   refine⟨vs,hDl5,?_,Φ5,vs++[v],ys++[some d],(E6.weak hl1.symm wk).side qaj hD5,?_,hD5,qaj,?_,by rw[List.length_append,hyl];rfl,qh6 hyl hy rd⟩
   ·have:=qod ys
    rw[hrl.1]
    omega
   ·exact⟨gg.f,qhK gg.h hD _,fun b u e=>by rw[qal (qas e hD5)];exact gg.s b u e,fun p u hp hn k=>gg.o p u hp hn k⟩
   ·rw[qmx]
    exact (((hrl.same g3.f).same g4.f).same g5.f).append (.one rv)
 ·have e:i=ds.length:=by omega
  subst e
  exact .inl ⟨S.stop H' (gi.f.trans gi.s),kk _ Φ' H' Dd vs (hr ys hyl hy) (g1.trans gi) (g1.h.free hD) hDi hDl hrl⟩
theorem qkw {k:Nat}(hcap:qfo k cap=true)(hk:GM k g){σ:St}{H:Hp}{Q:VK}(h:lF K (qpn ti cap g tc te) σ H Q):qlQ (lI K ti) cap (lG K g) (lT K tc) (lE K te) σ H Q:=by
 obtain⟨H0,Φ,ρ,R,E,t,kk⟩:=h
 exact qgJ hcap hk E t (fun ds h=>h) kk
theorem qih {k:Nat}(hcalm:X.calm=true)(S:CompScope X.N X.env.scope scope N' cap)(hcap:qfo k cap=true)(hk:GM k g)(hi:PID K X tg iter ti)
  (hg:∀ (cl:List (Str × Addr)) (fp:List Addr) (C:Addr) (s0:Shared) (H0:Hp),PGD K (qbl X scope N' cl C s0 H0 fp) tg g) (ht:∀ (cl:List (Str × Addr)) (fp:List Addr) (C:Addr) (s0:Shared) (H0:Hp),PIfD K (qbl X scope N' cl C s0 H0 fp) ifs tc)
  (he:∀ (cl:List (Str × Addr)) (fp:List Addr) (C:Addr) (s0:Shared) (H0:Hp),PD K (qbl X scope N' cl C s0 H0 fp) elt te) (hs:∀ x,foldedSetIterable iter X.env x=pure x:=by intro _;rfl):PF K X (.ListComp elt [⟨tg,iter,ifs,0⟩] scope pos) (qpn ti cap g tc te) :=
 ⟨fun hK=>(qjj hcalm S (hi.pi hK) (fun cl fp C s0 H0=>(hg cl fp C s0 H0).pg hK) (fun cl fp C s0 H0=>(ht cl fp C s0 H0).p hK) (fun cl fp C s0 H0=>(he cl fp C s0 H0).pe hK) hs).imp fun _ _ _=>qkw hcap hk⟩
def qlU (ti:TDL)(cap:List (Option Nat))(g:TGD)(te:TD):TDL:=fun ρ R=>ti ρ fun ds=>ds.length<sizeLine∧∃ P:Nat→D→Prop,
 (∀ i d,ds[i]?=some d→g d (qhS cap ρ) fun ρ1=>te ρ1 (P i))∧∀ ys:List D,ys.length=ds.length→(∀ i y,ys[i]?=some y→P i y)→R ys
def qsd (P:Nat→D→Prop):Nat→Option D→Prop:=fun i o=>match o with | some y=>P i y | none=>False
theorem qhG {P:Nat→D→Prop}:∀ (ys:List (Option D)),(∀ (i:Nat) y,ys[i]?=some y→∃ z,y=some z)→∃ zs:List D,ys=zs.map some
 | [],_=>⟨[],rfl⟩
 | y::ys,h=>by
  obtain⟨z,rfl⟩:=h 0 y rfl
  obtain⟨zs,rfl⟩:=qhG (P:=P) ys fun i y hy=>h (i+1) y hy
  exact⟨z::zs,rfl⟩
theorem qiQ {ds:List D}{ρ:Rho}{R:List D→Prop}(h:ds.length<sizeLine∧∃ P:Nat→D→Prop,(∀ i d,ds[i]?=some d→g d (qhS cap ρ) fun ρ1=>te ρ1 (P i))∧∀ ys:List D,ys.length=ds.length→(∀ i y,ys[i]?=some y→P i y)→R ys){k:Nat}(hk:GM k g) :
  ds.length<sizeLine∧∃ P:Nat→Option D→Prop,(∀ i d,ds[i]?=some d→g d (qhS cap ρ) fun ρ1=>qmN ρ1 fun b=>(b=true→te ρ1 fun y=>P i (some y))∧(b=false→P i none))∧∀ ys:List (Option D),ys.length=ds.length→(∀ i y,ys[i]?=some y→P i y)→R (ys.filterMap id):=by
 obtain⟨h0,P,h1,h2⟩:=h
 refine⟨h0,qsd P,fun i d hd=>hk.m _ _ _ _ (fun ρ1 q=>⟨fun _=>q,fun e=>by cases e⟩) (h1 i d hd),fun ys hl hy=>?_⟩
 obtain⟨zs,rfl⟩:=qhG (P:=P) ys fun i y e=>by
  have:=hy i y e
  cases y with
  | none=>exact this.elim
  | some z=>exact⟨z,rfl⟩
 rw[List.filterMap_map]
 have e:zs.filterMap (id ∘ some)=zs:=by simp
 rw[e]
 refine h2 zs (by simpa using hl) fun i y e=>?_
 exact hy i (some y) (by rw[List.getElem?_map,e];rfl)
theorem qiI {k:Nat}(hcap:qfo k cap=true)(hk:GM k g){σ:St}{H:Hp}{Q:VK}(h:lF K (qlU ti cap g te) σ H Q):qlQ (lI K ti) cap (lG K g) (lT K qmN) (lE K te) σ H Q:=by
 obtain⟨H0,Φ,ρ,R,E,t,kk⟩:=h
 exact qgJ hcap hk E t (fun ds h=>qiQ h hk) kk
theorem qfU {k:Nat}(hcalm:X.calm=true)(S:CompScope X.N X.env.scope scope N' cap)(hcap:qfo k cap=true)(hk:GM k g)(hi:PID K X tg iter ti)
  (hg:∀ (cl:List (Str × Addr)) (fp:List Addr) (C:Addr) (s0:Shared) (H0:Hp),PGD K (qbl X scope N' cl C s0 H0 fp) tg g)
  (he:∀ (cl:List (Str × Addr)) (fp:List Addr) (C:Addr) (s0:Shared) (H0:Hp),PD K (qbl X scope N' cl C s0 H0 fp) elt te) (hs:∀ x,foldedSetIterable iter X.env x=pure x:=by intro _;rfl):PF K X (.ListComp elt [⟨tg,iter,[],0⟩] scope pos) (qlU ti cap g te) :=
 ⟨fun hK=>(qjj hcalm S (hi.pi hK) (fun cl fp C s0 H0=>(hg cl fp C s0 H0).pg hK) (fun cl fp C s0 H0=>(qpi (K:=K)).p hK) (fun cl fp C s0 H0=>(he cl fp C s0 H0).pe hK) hs).imp fun _ _ _=>qiI hcap hk⟩
end
structure EndsD where
 nx:Rho→Prop
 rt:D→Prop
 bk:Rho→Prop:=fun _=>False
 ct:Rho→Prop:=fun _=>False
abbrev TSD:=EndsD→Rho→Prop
def EnK (K:PySem.W.Frag)(Φ0 H0:Hp)(P:Rho→Prop)(Q:St→Hp→Prop):Prop:=∀ ρ' Φ' H' σ',P ρ'→Gr Φ0 H0 Φ' H'→EnvD K H0 Φ' H' σ' ρ'→Q σ' H'
structure EndOk (K:PySem.W.Frag)(Φ0 H0:Hp)(De:EndsD)(E:Ends):Prop where
 nx:EnK K Φ0 H0 De.nx E.nx
 rt:∀ d Φ' H' v,De.rt d→Gr Φ0 H0 Φ' H'→Rp K Φ' d v→E.rt v H'
 bk:EnK K Φ0 H0 De.bk E.bk
 ct:EnK K Φ0 H0 De.ct E.ct
def lS (K:PySem.W.Frag)(t:TSD):TS:=fun E σ H=>∃ Φ0 H0 Φ ρ De,Gr Φ0 H0 Φ H∧EnvD K H0 Φ H σ ρ∧t De ρ∧EndOk K Φ0 H0 De E
structure PSD (K:PySem.W.Frag)(X:Cx)(st:Stmt)(t:TSD):Prop where ps:X.K=K→PS X st (lS K t)
structure PSsD (K:PySem.W.Frag)(X:Cx)(st:List Stmt)(t:TSD):Prop where ps:X.K=K→PSs X st (lS K t)
section
variable {K : PySem.W.Frag} {X : Cx} {st : Stmt} {rest : List Stmt} {t u : TSD} {e a : Expr} {te : TD} {tf : TDL} {pos : Pos} {tt : TDB}
def qpG:TSD:=fun De ρ=>De.nx ρ
def qrp (t u:TSD):TSD:=fun De ρ=>t { De with nx:=u De } ρ
def qr1 (t u:TSD):TSD:=fun De ρ=>∃ I:Rho→Prop,t { De with nx:=I } ρ∧∀ ρ',I ρ'→u De ρ'
theorem qfp:PSsD K X [] qpG:=⟨fun _=>pss_nil.imp fun E σ H hq0=>by obtain⟨Φ0,H0,Φ,ρ,De,g,V,t,k⟩:=hq0;exact k.nx ρ Φ H σ t g V⟩
theorem qa6 (h1:PSD K X st t)(h2:PSsD K X rest u):PSsD K X (st::rest) (qrp t u):=⟨fun hK=>(qd4 (h1.ps hK) (h2.ps hK)).imp fun E σ H hq0=>by obtain⟨Φ0,H0,Φ,ρ,De,g,V,t,k⟩:=hq0;exact
 ⟨Φ0,H0,Φ,ρ,_,g,V,t,⟨fun ρ' Φ' H' σ' t' g' V'=>⟨Φ0,H0,Φ',ρ',De,g',V',t',k⟩,k.rt,k.bk,k.ct⟩⟩⟩
theorem qlG (h1:PSD K X st t)(h2:PSsD K X rest u):PSsD K X (st::rest) (qr1 t u):=⟨fun hK=>(qd4 (h1.ps hK) (h2.ps hK)).imp fun E σ H hq0=>by obtain⟨Φ0,H0,Φ,ρ,De,g,V,⟨I,t,c⟩,k⟩:=hq0;exact
 ⟨Φ0,H0,Φ,ρ,_,g,V,t,⟨fun ρ' Φ' H' σ' t' g' V'=>⟨Φ0,H0,Φ',ρ',De,g',V',c ρ' t',k⟩,k.rt,k.bk,k.ct⟩⟩⟩
theorem qbw (h1:PSD K X st t):PSsD K X [st] t:=⟨fun hK=>qg8 (h1.ps hK)⟩
def qo1:TSD:=fun _ _=>False
theorem qkd:PSD K X st qo1:=⟨fun _=>ps_never.imp fun E σ H hq0=>by obtain⟨Φ0,H0,Φ,ρ,De,g,V,t,k⟩:=hq0;exact t⟩
def qra (i:Nat)(te:TD):TSD:=fun De ρ=>te ρ fun d=>De.nx (ρ.set i (some (.v d)))
theorem qlf {i:Nat}{E:Ends}{σ:St}{H:Hp}(h:lS K (qra i te) E σ H):qpw (lE K te) (qjt i) E σ H:=by
 obtain⟨Φ0,H0,Φ,ρ,De,g,V,t,k⟩:=h
 exact⟨H0,Φ,ρ,_,V,t,fun d Φ1 H1 v r g1 rv=>k.nx _ Φ1 H1 _ r (g.trans g1) ((V.gr g1).set rv i)⟩
theorem qdW {i:Nat}{x:Str}{pos':Pos}(hN:X.N.Nodup)(hi:X.N[i]?=some x)(hx:Loc X.env.scope x)(he:PD K X e te)(hs:swapsWith e (some (.Name x pos')) pos.line X.env=pure false:=by rfl)(hf:X.fn x=true∨X.env.scope.names.lookup x=some .local:=by first | exact .inl rfl | exact .inr rfl | assumption) :
  PSD K X (.Assign [.Name x pos'] e pos) (qra i te):=⟨fun hK=>(qkv hN hi hx (he.pe hK) hs hf).imp fun _ _ _=>qlf⟩
def qqW (i:Nat)(tf:TDL):TSD:=fun De ρ=>tf ρ fun ds=>De.nx (ρ.set i (some (.own ds)))
theorem qiY {i:Nat}{E:Ends}{σ:St}{H:Hp}(h:lS K (qqW i tf) E σ H):lF K tf σ H fun v H'=>qjt i v σ H' E.nx:=by
 obtain⟨Φ0,H0,Φ,ρ,De,g,V,t,k⟩:=h
 refine⟨H0,Φ,ρ,_,V,t,fun ds Φ1 H1 p vs r g1 hp hn hl rl=>k.nx _ Φ1 H1 _ r (g.trans g1) ((V.gr g1).setOwn rl (g.h.free hp) hn hl (fun j es hj z=>?_) i)⟩
 obtain⟨q,ws,e,_,_,hq,_⟩:=V.ow j _ hj
 rw[e] at z
 cases z
 rw[hp] at hq
 cases hq
theorem qpR {i:Nat}{x:Str}{pos':Pos}(hN:X.N.Nodup)(hi:X.N[i]?=some x)(hx:Loc X.env.scope x)(he:PF K X e tf)(hs:swapsWith e (some (.Name x pos')) pos.line X.env=pure false:=by rfl)(hf:X.fn x=true∨X.env.scope.names.lookup x=some .local:=by first | exact .inl rfl | exact .inr rfl | assumption) :
  PSD K X (.Assign [.Name x pos'] e pos) (qqW i tf):=⟨fun hK=>(qkv hN hi hx (he.pe hK) hs hf).imp fun _ _ _ h=>qiY h⟩
def qpT (te:TD):TSD:=fun De ρ=>te ρ fun _=>De.nx ρ
theorem qer (he:PD K X e te)(hs:swapsWith e none pos.line X.env=pure false:=by rfl):PSD K X (.Expr e pos) (qpT te) :=
 ⟨fun hK=>(qeE (he.pe hK) hs).imp fun E σ H hq0=>by obtain⟨Φ0,H0,Φ,ρ,De,g,V,t,k⟩:=hq0;exact⟨H0,Φ,ρ,_,V,t,fun d Φ1 H1 v r g1 rv=>k.nx _ Φ1 H1 σ r (g.trans g1) (V.gr g1)⟩⟩
def qrh (te:TD):TSD:=fun De ρ=>te ρ De.rt
theorem qc9 (he:PD K X e te):PSD K X (.Return (some e) pos) (qrh te) :=
 ⟨fun hK=>(qmf (he.pe hK)).imp fun E σ H hq0=>by obtain⟨Φ0,H0,Φ,ρ,De,g,V,t,k⟩:=hq0;exact⟨H0,Φ,ρ,_,V,t,fun d Φ1 H1 v r g1 rv=>k.rt d Φ1 H1 v r (g.trans g1) rv⟩⟩
def sIf (c:TDB)(t u:TSD):TSD:=fun De ρ=>c ρ fun b=>(b=true→t De ρ)∧(b=false→u De ρ)
theorem qkS {c:Expr}{a b:List Stmt}(hc:PTD K X c tt)(ha:PSsD K X a t)(hb:PSsD K X b u):PSD K X (.If c a b pos) (sIf tt t u) :=
 ⟨fun hK=>(qpt (hc.pt hK) (ha.ps hK) (hb.ps hK)).imp fun E σ H hq0=>by obtain⟨Φ0,H0,Φ,ρ,De,g,V,t,k⟩:=hq0;exact⟨H0,Φ,ρ,_,V,t,fun c Φ1 H1 r g1=>by
  cases c with
  | true=>refine qpD ?_;exact⟨Φ0,H0,Φ1,ρ,De,g.trans g1,V.gr g1,r.1 rfl,k⟩
  | false=>refine qpE ?_;exact⟨Φ0,H0,Φ1,ρ,De,g.trans g1,V.gr g1,r.2 rfl,k⟩⟩⟩
def qrC (ti:TDL)(gd:TGD)(tb:TSD):TSD:=fun De ρ=>ti ρ fun ds=>∃ I:Nat→Rho→Prop,I 0 ρ∧(∀ i d ρ',ds[i]?=some d→I i ρ'→gd d ρ' fun ρ2=>tb { De with nx:=I (i+1),ct:=I (i+1),bk:=De.nx } ρ2)∧∀ ρ',I ds.length ρ'→De.nx ρ'
theorem qhm {tg iter:Expr}{body:List Stmt}{ti:TDL}{gd:TGD}{tb:TSD}(hp:PassesOwn (model X.prog X.w) X.A X.env X.xe)(hc:X.calm=true)(hi:PID K X tg iter ti)(hg:PGD K X tg gd)(hb:PSsD K X body tb)
  (hs:∀ x,foldedSetIterable iter X.env x=pure x:=by intro _;rfl):PSD K X (.For tg iter body [] pos) (qrC ti gd tb) :=
 ⟨fun hK=>(ql3 hp hc (hi.pi hK) (hg.pg hK) (hb.ps hK) hs).imp fun E σ H hq0=>by
  obtain⟨Φ0,H0,Φ,ρ,De,g,V,t,k⟩:=hq0
  refine⟨H0,Φ,ρ,_,V,t,fun ds Φ1 H1 J hq1 g1 S=>?_⟩
  obtain⟨I,h0,hst,hend⟩:=hq1
  refine⟨fun i m σ H'=>m=ds.length - i∧i≤ds.length∧∃ Φ' ρ',Gr Φ0 H0 Φ' H'∧Same Φ1 Φ'∧EnvD K H0 Φ' H' σ ρ'∧I i ρ',⟨ds.length,by simp,Nat.zero_le _,Φ1,ρ,g.trans g1,Same.refl _,V.gr g1,h0⟩,?_⟩
  rintro i m σ' H' ⟨rfl,hi,Φ',ρ',g',s',V',hI⟩
  by_cases hlt:i<ds.length
  ·refine .inr ⟨S.go i H' (s'.trans V'.fz) hlt,fun σ2 H2=>∃ Φ' ρ',Gr Φ0 H0 Φ' H2∧Same Φ1 Φ'∧EnvD K H0 Φ' H2 σ2 ρ'∧I (i+1) ρ',fun σ2 H2 h2=>⟨ds.length - (i+1),by omega,rfl,hlt,h2⟩,fun x H2 y=>?_⟩
   obtain⟨Φ3,g3,rx⟩:=S.yl i Φ' H' x H2 _ s' V'.fz (qaP hlt) y
   refine⟨H0,Φ3,ρ',_,_,V'.gr g3,rx,hst i _ ρ' (qaP hlt) hI,fun ρ2 σ3 t2 V3=>?_⟩
   refine⟨Φ3,H0,Φ3,ρ2,_,?_,V3,t2,⟨?_,?_,?_,?_⟩⟩
   ·exact⟨Same.refl _,(g'.trans g3).h,g3.s,fun p u hp hn _=>hn⟩
   ·intro ρ4 Φ4 H4 σ4 t4 g4 V4
    exact⟨Φ4,ρ4,(g'.trans g3).join g4,(s'.trans g3.f).trans g4.f,V4,t4⟩
   ·intro d Φ4 H4 v r g4 rv
    exact k.rt d Φ4 H4 v r ((g'.trans g3).join g4) rv
   ·intro ρ4 Φ4 H4 σ4 t4 g4 V4
    exact k.nx ρ4 Φ4 H4 σ4 t4 ((g'.trans g3).join g4) V4
   ·intro ρ4 Φ4 H4 σ4 t4 g4 V4
    exact⟨Φ4,ρ4,(g'.trans g3).join g4,(s'.trans g3.f).trans g4.f,V4,t4⟩
  ·have e:i=ds.length:=by omega
   subst e
   exact .inl ⟨S.stop H' (s'.trans V'.fz),k.nx ρ' Φ' H' σ' (hend ρ' hI) g' V'⟩⟩
end
section
variable {K : PySem.W.Frag} {X : Cx} {tg iter elt e a : Expr} {ifs : List Expr} {scope : Scope} {pos py spos : Pos} {N' : List Str} {cap : List (Option Nat)} {ti : TDL} {g : TGD} {tc : TDB} {te ta tb : TD} {i : Nat} {y : Str}
theorem qoi {Φ0 H0 Φ H:Hp}{p:Addr}{o:HO}(g:Gr Φ0 H0 Φ H)(h0:H0 p=none)(hn:Φ p=none):Gr Φ0 H0 Φ (upd H p o) :=
 ⟨g.f,qhK g.h h0 _,fun b u e=>by rw[qal (qas e hn)];exact g.s b u e,fun p u hp hn k=>g.o p u hp hn k⟩
def qiW (i:Nat)(te:TD):TSD:=fun De ρ=>match ρ[i]? with | some (some (.ob (.lst ds)))=>te ρ fun d=>ds.length<sizeLine∧NF (ds++[d]) fun es=>De.nx (ρ.set i (some (.own es))) | _=>False
theorem qle {apos cpos npos:Pos}{x:Str}(i:Nat)(he:PD K X e te)(hfew:((backTo cpos (starEach [e] X.env)).all (fun x=>!x.1) && (backToKw cpos (keywordEach [] X.env)).all (fun x=>x.1.isSome) && decide (([e]:List Expr).length+([]:List Keyword).length+(if ([]:List Keyword).isEmpty then 0 else 1)<30))=true)
  (hse:starEach [e] X.env=(false,eval e X.env)::starEach [] X.env) (hN:X.N[i]?=some x:=by rfl) (hv:Vis X.env.scope x:=by first | exact Or.inl rfl | exact Or.inr (Or.inl rfl) | exact Or.inr (Or.inr rfl)) (hd:(x == ("__debug__":Str))=false:=by decide) (hcd:(x == ("__classdict__":Str))=false:=by decide)
  (hbase:attributeBase (.Name x npos) "append" X.env (eval (.Name x npos) X.env)=eval (.Name x npos) X.env:=by rfl) (hline:(apos.endLine == cpos.line)=true:=by rfl) (hs:swapsWith (.Call (.Attribute (.Name x npos) "append" apos) [e] [] cpos) none pos.line X.env=pure false:=by rfl) :
  PSD K X (.Expr (.Call (.Attribute (.Name x npos) "append" apos) [e] [] cpos) pos) (qiW i te) :=
 ⟨fun hK=>(qeE (qlM PySem.F.plainAttrs_list PySem.F.slot_list_append PySem.F.type_list_append qeI (pv i hN hv hd hcd) (qbg (he.pe hK) pa_nil hse) hbase hfew hline hse qae) hs).imp fun E σ H hq0=>by
  obtain⟨Φ0,H0,Φ,ρ,De,g,V,t,k⟩:=hq0
  unfold qiW at t
  split at t
  ·next ds ho =>
   obtain⟨p,vs,e1,h0,hn,hp,rl⟩:=V.owl i ds ho
   refine⟨_,e1,.inl ⟨rfl,vs,SqL.of hp⟩,H0,Φ,ρ,_,V,t,fun d Φ1 H1 v r g1 rv=>?_⟩
   have hp1:=g1.h _ _ hp
   have hn1:=g1.o _ _ hp hn
   refine⟨p,vs,v,rfl,rfl,hp1,by rw[rl.1];exact r.1,k.nx _ Φ1 _ σ r.2.get (qoi (g.trans g1) h0 hn1) ((V.gr g1).put ho e1 ((rl.same g1.f).append (.one rv)))⟩
  ·exact t.elim⟩
end
def qfd (N:List Str)(ds:List D):Rho:=ds.map (fun d=>some (.v d))++List.replicate (N.length - ds.length) none
theorem qiZ {K:PySem.W.Frag}{Φ H:Hp}{N:List Str}{ds:List D}{vs:List V}(sm:Same Φ H)(tb:TabF K Φ)(r:RpL K Φ ds vs):EnvD K H Φ H (qcY N vs) (qfd N ds):=by
 have own:∀ {i:Nat} {x:Sl},(qfd N ds)[i]?=some (some x)→∃ d,ds[i]?=some d∧x=.v d:=fun {i x} h=>by
  unfold qfd at h
  rcases Nat.lt_or_ge i (ds.map fun d=>some (Sl.v d)).length with c | c
  ·rw[List.getElem?_append_left c,List.getElem?_map] at h
   cases e:ds[i]? with
   | none=>rw[e] at h;cases h
   | some d=>rw[e] at h;cases h;exact⟨d,rfl,rfl⟩
  ·rw[List.getElem?_append_right c,List.getElem?_replicate] at h
   split at h
   ·cases h
   ·cases h
 refine⟨sm,by unfold qcY qfd;simp [r.1],fun i d h=>?_,fun i es h=>?_,fun i j es fs p h=>?_,tb⟩
 ·obtain⟨d',h1,h2⟩:=own h
  cases h2
  obtain⟨v,hv,rv⟩:=r.at h1
  refine⟨v,?_,rv⟩
  unfold qcY
  rw[List.getElem?_append_left (by rw[List.length_map];exact qak hv),List.getElem?_map,hv]
  rfl
 ·obtain⟨d',h1,h2⟩:=own h
  cases h2
 ·obtain⟨d',h1,h2⟩:=own h
  cases h2
section
variable {P : Program} {w : World} {K : PySem.W.Frag} {mg : Str → Option Value} {base : Heap}
theorem Fun.okD {x qual:Str}{st:Stmt}{f:Addr}{fd:FuncData}{N ps:List Str}{k:Nat}{sp:SpD}(F:Fun K x qual st f fd)(S:FnScope N ps (qah st))(len:∀ ds R,sp ds R→ds.length=ps.length)
  (hbody:∀ (cdv:Value) (A:Around) (outer:List Env) (s:Shared) (H:Hp) (E:XK) (ds:List D) (R:D→Prop),Room k (A.deeper (envOfC qual (qah st) s.heap.objs.size f cdv))→sp ds R →
   ∃ t,PSsD K (qiV CX0 P w K mg base N qual (qah st) f cdv A outer s H E).nox (qaV st) t∧t { nx:=fun _=>R .non,rt:=R } (qfd N ds)):FnOk P w K mg base CX0 (k+1) f fd ps (lSp K sp):=by
 refine F.ok S (fun vs H Q E ⟨Φ,ds,R,sm,tb,rl,h,_⟩=>by rw[rl.1];exact len ds R h) (fun cdv A outer s H vs Q E hr ⟨Φ,ds,R,sm,tb,rl,h,kk⟩=>?_)
 obtain⟨t,ht,hq⟩:=hbody cdv A outer s H E ds R hr h
 exact⟨lS K t,ht.ps rfl,Φ,H,Φ,qfd N ds,_,.refl sm,qiZ sm tb rl,hq,⟨fun ρ' Φ' H' σ' r g V=>kk .non Φ' H' .non r g .non,kk,fun _ _ _ _ h=>h.elim,fun _ _ _ _ h=>h.elim⟩⟩
end
def Itb (K:PySem.W.Frag)(b:Bool)(a:Addr):It:=match b with | true=>Itl K a | false=>Itt K a
section
variable {K : PySem.W.Frag} {X : Cx} {tg e a b : Expr} {es : List Expr} {pos p tp : Pos} {t ta tb : TD} {tl : TDL}
theorem qoe {l:Expr}{tl:TE}(hK:X.K=K)(hl:PE X l tl):PI X tg l (fun σ H R=>tl σ H fun x H1=>∃ q a,x=.ref a∧(∃ xs,SqB K q H1 a xs)∧R (Itb K q a) H1):=by
 subst hK
 intro pins s σ H R I h
 refine thn (hl pins s σ H _ I h) fun v s1 hq0=>?_
 obtain⟨x,H1,I1,r1,q1⟩:=hq0
 obtain⟨bb,a,e,⟨xs,hq⟩,q⟩:=q1
 subst e
 cases r1
 have fp:∀ b∈[s1.heap.objs.size],qhx X pins H1 b:=fun b hb=>by
  have e:b=s1.heap.objs.size:=by simpa using hb
  subst e
  exact I1.fpOk (Nat.le_refl _) (I1.hok.fresh (Nat.le_refl _))
 cases bb with
 | true =>
  obtain⟨its,rv,p,hz⟩:=I1.list hq
  refine wpAny_pyIter_list p.isList ?_
  exact⟨s1.heap.objs.size,[s1.heap.objs.size],_,_,H1,rfl,I1.kept (t':=s1.toks) fun b o e=>Heap.get?_push_of_some _ e,qj7 a _,⟨_,Heap.get?_push_size _ rfl,rfl,rfl⟩,fp,q⟩
 | false =>
  obtain⟨its,rv,p,hz⟩:=I1.tuple hq
  refine wpAny_pyIter_tuple (show s1.heap.IsTuple a its.toArray from p) ?_
  exact⟨s1.heap.objs.size,[s1.heap.objs.size],_,_,H1,rfl,I1.kept (t':=s1.toks) fun b o e=>Heap.get?_push_of_some _ e,qiB a _,⟨_,Heap.get?_push_size _ rfl,rfl,rfl⟩,fp,q⟩
theorem qhj {Φ:Hp}{ds:List D}{vs:List V}{a:Addr}{q:Bool}(h:SqB K q Φ a vs)(r:RpL K Φ ds vs):SteadyD K (Itb K q a) Φ ds:=by
 cases q with
 | true=>exact qf4 h r
 | false=>exact qhe h r
def qq3 (t:TD):TDL:=fun ρ R=>t ρ fun d=>match d with | .lst ds=>R ds | .tup ds=>R ds | .fzl ds=>R ds | _=>False
theorem qnu {d:D}{R:List D→Prop}(h:match d with | .lst ds=>R ds | .tup ds=>R ds | .fzl ds=>R ds | _=>False):∃ ds,qe1 d=some ds∧R ds:=by
 cases d with
 | lst ds=>exact⟨ds,rfl,h⟩
 | tup ds=>exact⟨ds,rfl,h⟩
 | fzl ds=>exact⟨ds,rfl,h⟩
 | _=>exact h.elim
theorem qcd (h:PD K X e t):PID K X tg e (qq3 t):=⟨fun hK=>(qoe hK (h.pe hK)).imp fun σ H R' hq0=>by obtain⟨H0,Φ,ρ,R,E,t,k⟩:=hq0;exact⟨H0,Φ,ρ,_,E,t,fun d Φ1 H1 v r g rv=>by
 obtain⟨ds,e1,r⟩:=qnu r
 obtain⟨q,a,vs,rfl,h1,h2⟩:=rv.seq e1
 exact⟨q,a,rfl,⟨vs,SqB.same g.s h1⟩,k _ Φ1 H1 _ r g (qhj h1 h2)⟩⟩⟩
theorem qkV {a:Expr}{ta:TA}{es:List Expr}{k:Nat}(hK:X.K=K)(hg:Gl X "enumerate")(hm:X.mg "enumerate"=none)(ha:PA X [a] ta)(hs:starEach [a] X.env=[(false,eval a X.env)]) :
  PI X (.Tuple es k tp) (.Call (.Name "enumerate" p) [a] [] pos) (fun σ H R=>ta σ H fun vs H1=>∃ b a xs,vs=[.ref a]∧SqB K b H1 a xs∧R (Ite K b a) H1):=by
 subst hK
 intro pins s σ H R I h
 refine Call_ (qgR I hg hm boot_enumerate (PyProof.Rows.callWith_type1 (thn (ha pos pins s σ H _ I h) fun us s1 hq0=>?_) hs rfl))
 obtain⟨vs,H1,I1,r1,q1⟩:=hq0
 obtain⟨b,l,xs,e,hq,q⟩:=q1
 subst e
 cases r1 with
 | cons r rr =>
  cases rr
  cases r
  obtain⟨its,rv,p,hz⟩:=I1.sqb hq
  refine qkp p fun h' he hi hsz hk=>wpAny_pyIter_enum he ?_
  have I2:Inv X pins σ H1 { s1 with heap:=h' }:=I1.kept (t':=s1.toks) hk
  have fr:∀ c,s1.heap.objs.size≤c→qhx X pins H1 c:=fun c hc=>I1.fpOk hc (I1.hok.fresh hc)
  exact⟨s1.heap.objs.size+1,[s1.heap.objs.size+1,s1.heap.objs.size],_,_,H1,rfl,I2,qjA b l _ _ (Nat.succ_ne_self _),⟨⟨_,he⟩,hi⟩,fun c hc=>by
   rcases List.mem_cons.mp hc with rfl | hc
   ·exact fr _ (Nat.le_succ _)
   ·rw[List.mem_singleton.mp hc];exact fr _ (Nat.le_refl _),q⟩
variable {gs : qis}
def qpp (n:Nat)(t:qis):TGD:=fun d ρ R=>match d with | .tup ds=>ds.length=n∧t ds ρ R | .lst ds=>ds.length=n∧t ds ρ R | _=>False
theorem PG.or {tg:Expr}{t t':TG}(h:PG X tg t)(h':PG X tg t'):PG X tg (fun v σ H Q=>t v σ H Q∨t' v σ H Q):=by
 intro pins s σ H v u Q I r hw
 rcases hw with hw | hw
 ·exact h pins s σ H v u Q I r hw
 ·exact h' pins s σ H v u Q I r hw
theorem qqy {k n:Nat}(hc:X.calm=true)(h:PGDs K X es gs)(hn:(assignEach es X.env).length=n:=by rfl)(hst:(assignEach es X.env).findIdx? (·.1)=none:=by rfl):PGD K X (.Tuple es k pos) (qpp n gs) :=
 ⟨fun hK=>((qii hK hc (h.pg hK) hn hst).or (qhE hK hc (h.pg hK) hn hst)).imp fun v σ H Q hq0=>by
  obtain⟨H0,Φ,ρ,d,R,E,r,g,k⟩:=hq0
  cases d with
  | tup ds=>cases r with | tup h1 h2 h3=>exact .inl ⟨_,_,rfl,.of (E.fz _ _ h1),by rw[h2];exact g.1,H0,Φ,ρ,ds,R,E,⟨h2,h3⟩,g.2,k⟩
  | lst ds=>cases r with | lst h1 h2 h3=>exact .inr ⟨_,_,rfl,.of (E.fz _ _ h1),by rw[h2];exact g.1,H0,Φ,ρ,ds,R,E,⟨h2,h3⟩,g.2,k⟩
  | _=>exact g.elim⟩
theorem qo6 {k n:Nat}{t:qis}(h:GMs k t):GM k (qpp n t):=⟨⟨fun d ρ R r=>by
 cases d with
 | tup ds=>exact⟨r.1,h.k.p ds ρ R r.2⟩
 | lst ds=>exact⟨r.1,h.k.p ds ρ R r.2⟩
 | _=>exact r⟩,fun d ρ R R' hr r=>by
 cases d with
 | tup ds=>exact⟨r.1,h.m ds ρ R R' hr r.2⟩
 | lst ds=>exact⟨r.1,h.m ds ρ R R' hr r.2⟩
 | _=>exact r⟩
end
theorem qbh {α:Type}{f:α→D}{ns:List α}{i:Nat}{x:D}(h:(ns.map f)[i]?=some x):∃ k,x=f k∧ns[i]?=some k:=by
 rw[List.getElem?_map] at h
 cases e:ns[i]? with
 | none=>rw[e] at h;cases h
 | some k=>rw[e] at h;cases h;exact⟨k,rfl,rfl⟩
theorem qdh {α:Type}{f:α→D}{ns:List α}{i:Nat}{n:α}{k:Int}(h:ns[i]?=some n)(e:k=(i:Int)):atI (ns.map f) k=some (f n):=qmi (by rw[List.getElem?_map,h];rfl) e
theorem qjW {ns:List Int}{k:Int}(h0:0≤k)(h:k<(ns.length:Int)):∃ v:Int,atI (ns.map D.int) k=some (.int v):=by
 have hk:k.toNat<ns.length:=by omega
 exact⟨_,qdh (qaP hk) (by omega)⟩
def qmh:SpD:=fun ds R=>∃ ns:List Int,ds=[.fzl (ns.map D.int)]∧ns.length≤63∧R (.bl true)
def qoE (K:PySem.W.Frag):Sp:=fun vs H Q _=>∃ (a:Addr) (ns:List Int),vs=[.ref a]∧SqL K H a (ns.map V.int)∧ns.length≤63∧TabF K H∧∀ H',Q (.bl true) H'
theorem qk2 {K:PySem.W.Frag}:∀ vs H Q E,qoE K vs H Q E→lSp K qmh vs H Q E:=by
 rintro vs H Q E ⟨a,ns,rfl,hS,hl,tb,q⟩
 refine⟨H,[.fzl (ns.map D.int)],fun d=>d=.bl true,Same.refl _,tb,.one ((RpL.ints ns).fzl hS),⟨ns,rfl,hl,rfl⟩,fun d Φ' H' v r g rv=>?_⟩
 subst r
 cases rv
 exact q _
def qp4 (r:Row):D:=.tup [.tup (r.1.map D.int),.int r.2]
section
variable {K : PySem.W.Frag} {H H' Φ : Hp} {v : V} {vs : List V}
end
theorem qfE {α β:Type}(f:α→β)(xs:List α)(lo hi:Option Int):qeD (xs.map f) lo hi=(qeD xs lo hi).map f:=by
 unfold qeD
 rw[List.length_map,List.map_take,List.map_drop]
section
variable {g : TGD} {te : TD} {ρ : Rho} {R : List D → Prop}
theorem qln {ds:List D}(ws:List D)(hw:ws.length=ds.length)(hlen:ds.length<sizeLine)(Q:Nat→D→Prop)(hQ:∀ i y,Q i y→ws[i]?=some y)(hb:∀ i d,ds[i]?=some d→g d ρ fun ρ1=>te ρ1 (Q i))(k:R ws) :
  ds.length<sizeLine∧∃ P:Nat→D→Prop,(∀ i d,ds[i]?=some d→g d ρ fun ρ1=>te ρ1 (P i))∧∀ ys:List D,ys.length=ds.length→(∀ i y,ys[i]?=some y→P i y)→R ys:=by
 refine⟨hlen,Q,hb,fun ys hl hy=>?_⟩
 have:ys=ws:=by
  refine List.ext_getElem? fun i=>?_
  rcases Nat.lt_or_ge i ys.length with c | c
  ·rw[qaP c,hQ i _ (hy i _ (qaP c))]
  ·rw[List.getElem?_eq_none c,List.getElem?_eq_none (by omega)]
 rw[this]
 exact k
theorem qgw {α:Type}{f:α→D}{xs:List α}(h:α→D)(hlen:xs.length<sizeLine)(hb:∀ x∈xs,g (f x) ρ fun ρ1=>te ρ1 fun y=>y=h x)(k:R (xs.map h)) :
  (xs.map f).length<sizeLine∧∃ P:Nat→D→Prop,(∀ i d,(xs.map f)[i]?=some d→g d ρ fun ρ1=>te ρ1 (P i))∧∀ ys:List D,ys.length=(xs.map f).length→(∀ i y,ys[i]?=some y→P i y)→R ys:=by
 refine qln (xs.map h) (by simp) (by rw[List.length_map];exact hlen) (fun i=>match xs[i]? with | some x=>fun y=>y=h x | none=>fun _=>False) (fun i y q=>?_) (fun i d hd=>?_) k
 ·rw[List.getElem?_map]
  cases e:xs[i]? with
  | none=>rw[e] at q;exact q.elim
  | some x=>rw[e] at q;rw[q];rfl
 ·obtain⟨x,rfl,hx⟩:=qbh hd
  have e:(match xs[i]? with | some x=>fun y=>y=h x | none=>fun _=>False:D→Prop)=fun y=>y=h x:=by rw[hx]
  rw[e]
  exact hb x (List.mem_of_getElem? hx)
end
end L2
namespace L2
theorem ff {p:Prop}(h:false=true):p:=by cases h
theorem tf {p:Prop}(h:true=false):p:=by cases h
end L2
namespace L2
end L2
namespace L2
theorem qkG {α:Type}(f:α→D)(es:List α)(d:α):es.map f++[f d]=(es++[d]).map f:=by simp
end L2
namespace L2
open PySem PySem.Spec PyProof.Rows
section
variable {g : TGD} {te : TD} {ρ : Rho} {R : List D → Prop}
theorem qgk {α:Type}{f:α→D}{xs:List α}(h:α→Int)(hlen:xs.length<sizeLine)(hb:∀ x∈xs,g (f x) ρ fun ρ1=>te ρ1 fun y=>y=.int (h x))(k:R ((xs.map h).map D.int)) :
  (xs.map f).length<sizeLine∧∃ P:Nat→D→Prop,(∀ i d,(xs.map f)[i]?=some d→g d ρ fun ρ1=>te ρ1 (P i))∧∀ ys:List D,ys.length=(xs.map f).length→(∀ i y,ys[i]?=some y→P i y)→R ys :=
 qgw (fun x=>D.int (h x)) hlen hb (by rw[List.map_map] at k;exact k)
end
section
variable {K : PySem.W.Frag} {X : Cx} {pins : List (Addr × Obj)} {σ : St} {Φ H : Hp} {s : Shared}
end
section
variable {K : PySem.W.Frag} {X : Cx} {a b : Expr} {ta tb : TD} {apos cpos : Pos}
end
section
variable {K : PySem.W.Frag} {X : Cx} {e b : Expr} {te tk : TD} {pos spos npos : Pos} {x : Str}
theorem qjI (h:X.K=K):qqn X (qnS K):=h ▸ qlx
end
section
variable {K : PySem.W.Frag} {X : Cx} {e a st : Expr} {pos p2 : Pos} {te : TE}
end
section
variable {K : PySem.W.Frag} {X : Cx} {a st : Expr} {pos p2 : Pos} {ta : TD} {to : TOD}
end
section
variable {K : PySem.W.Frag} {Φ Φ0 Φ1 H H0 H1 : Hp} {p : Addr} {d : D} {v : V} {ds : List D} {vs : List V}
end
section
variable {K : PySem.W.Frag} {X : Cx} {e : Expr} {te : TD} {pos pos' : Pos}
end
section
variable {K : PySem.W.Frag} {X : Cx} {Φ H : Hp} {a e : Expr} {es : List Expr} {ta : TD} {tl : TDL} {C : Addr} {fl : Str} {pos p : Pos}
variable {CX : CXT} {k : Nat} {f : Addr} {fd : FuncData} {ps ns : List Str} {x : Str} {E : XK}
end
section
variable {prog : Program} {w : World} {A : Around} {E : Value → Shared → Prop} {s : Shared}
end
section
variable {K : PySem.W.Frag} {X : Cx} {a : Expr} {pos p p2 pos2 : Pos} {tl : TDL}
end
section
variable {X : Cx} {A : Around} {scope : Scope} {p : Str} {r : List Str} {cap : List (Option Nat)} {cl : List (Str × Addr)} {f c' : Addr} {qual name : Str} {cd pm ctv : Value} {pins : List (Addr × Obj)} {σ : St} {H : Hp} {s s1 : Shared} {v : V} {u : Value} {params : Arguments} {body : Expr} {te : TE} {Q : VK} {E : Value → Shared → Prop}
end
section
variable {X : Cx} {A : Around} {pins : List (Addr × Obj)} {σ : St} {H : Hp} {s : Shared} {params : Arguments} {body : Expr} {scope : Scope} {pos : Pos} {c P : Addr} {t0 : Tok} {Q : Value → Shared → Prop} {E : Value → Shared → Prop}
end
section
variable {X : Cx} {pins : List (Addr × Obj)} {σ : St} {H : Hp} {xs : List V} {l S I f : Addr} {fob : Obj} {kf : Nat → Int} {G : Hp → Prop} {R : Result → Shared → Prop} {kw : List (Str × Value)}
end
section
variable {X : Cx} {pins : List (Addr × Obj)} {σ : St} {H : Hp} {xs : List V} {l f : Addr} {fob : Obj} {kf : Nat → Int} {G : Hp → Prop} {s : Shared} {Q : Value → Shared → Prop} {E : Value → Shared → Prop}
end
section
variable {K : PySem.W.Frag} {X : Cx} {l body : Expr} {tl tb : TD} {scope : Scope} {p : Str} {r : List Str} {cap : List (Option Nat)} {params : Arguments} {np pos lp kp1 kp2 kp3 : Pos} {c P : Addr} {j : Nat}
end
section
variable {P : Program} {w : World} {K : PySem.W.Frag} {mg : Str → Option Value} {base : Heap}
theorem Fun.okL {x qual:Str}{st:Stmt}{f:Addr}{fd:FuncData}{N ps:List Str}{k:Nat}{sp:Sp}(F:Fun K x qual st f fd)(S:FnScope N ps (qah st))(len:∀ vs H Q E,sp vs H Q E→vs.length=ps.length)
  (hbody:∀ (cdv:Value) (A:Around) (outer:List Env) (s:Shared) (H:Hp) (vs:List V) (Q:VK) (E:XK),fd.code=cdv→Room k (A.deeper (envOfC qual (qah st) s.heap.objs.size f cdv))→sp vs H Q E →
   ∃ t,PSs (qiV CX0 P w K mg base N qual (qah st) f cdv A outer s H E).nox (qaV st) t∧t { nx:=fun _ H'=>Q .non H',rt:=Q } (qcY N vs) H):FnOk P w K mg base CX0 (k+1) f fd ps sp:=by
 obtain⟨oc,od,kV,doc,pm,an,cdv,ct,osl,rfl,lk,hcd⟩:=F.ex
 refine qkQ lk hcd S len fun A outer s H vs Q E hr hsp=>?_
 obtain⟨t,h,q⟩:=hbody cdv A outer s H vs Q E rfl hr hsp
 exact⟨t,h.nox,q⟩
end
theorem qfe {K:PySem.W.Frag}{x:Str}(a:PySem.W.nsIn K mainGlobals x=some none):qmL K x=none:=by
 unfold qmL
 simp only [a]
end L2
namespace L2
open PySem PySem.W PyProof.Rows
section
variable {key : Nat → Int} {N : Nat} {p : Array Nat}
variable (hk : ∀ i j, i < N → j < N → key i = key j → i = j)
include hk
end
end L2
namespace L2
open PySem PySem.Spec PySem.W PyProof.Rows PySem.Calls
section
variable {prog : Program} {w : World} {A : Around} {E : Value → Shared → Prop} {s : Shared} {h₀ : Heap} {L a : Addr} {m : Str → Option Value} {news : List (Addr × Obj)} {vs : List Value}
end
end L2
namespace L2
open PySem PySem.Spec PySem.W PyProof.Rows PySem.Calls
section
variable {K : PySem.W.Frag} {X : Cx}
end
end L2
namespace L2
open PySem PySem.Spec PyProof.Rows
def qnq:V→List V→Hp→VK→Prop:=fun x vs H Q=>∃ l xs i k y,x=.ref l∧vs=[.int i,y]∧i=((k:Nat):Int)∧H l=some (.lst xs)∧k≤xs.length∧xs.length<sizeLine∧Q .non (upd H l (.lst (xs.take k++y::xs.drop k)))
section
variable {X : Cx}
theorem qkL:MtM X "list.insert" qnq:=by
 intro pins s σ H x vs v us Q I rx rv h
 obtain⟨l,xs,kk,k,y,rfl,rfl,ek,hH,hk,hz,q⟩:=h
 cases rx
 obtain⟨w1,w2,rfl,r1,r2⟩:∃ w1 w2,us=[w1,w2]∧RelV (.int kk) w1∧RelV y w2:=by
  cases rv with
  | cons r1 rv =>
  cases rv with
  | cons r2 rv =>
  cases rv
  exact⟨_,_,rfl,r1,r2⟩
 obtain⟨t,rfl⟩:=r1
 obtain⟨z,its,n,r,hl,e⟩:=I.lstM hH
 have hs:sizeLine=16777216:=sizeLine_eq
 have h63:(k:Int)<2 ^ 63:=by
  have:k≤16777216:=by omega
  have:(2:Int) ^ 63=9223372036854775808:=by decide
  omega
 have h64:-(2 ^ 63)≤(k:Int):=by
  have:(2:Int) ^ 63=9223372036854775808:=by decide
  omega
 have hfit:¬(!Builtin.List.listFitsIndex (k:Int))=true:=by rw[fitsIndex_both h64 h63];decide
 have hz2:its.toArray.size≤sizeLine:=by rw[List.size_toArray];omega
 rw[← ek] at hfit
 have M:=PySem.AutoListH.list_insert_list_int_val_1 l its.toArray n kk t w2 hfit hz2
 refine call_meets F.slot_list_insert ⟨_,e,rfl⟩ F.entry_list_insert (F.args_list_insert_3 _ _ _) M ⟨e,?_⟩
 refine⟨.non,_,I.lset (its':=its.take k++_::its.drop k) hH e ?_ ((r.take k).append (.cons r2 (r.drop k))) ?_,rfl,q⟩
 ·have e1:(if kk<0 then (kk+((its.toArray.size:Nat):Int)).toNat else min kk.toNat its.toArray.size)=k:=by
   rw[ek,if_neg (by omega),List.size_toArray,Int.toNat_natCast]
   omega
  show (its.toArray.extract 0 (if kk<0 then (kk+((its.toArray.size:Nat):Int)).toNat else min kk.toNat its.toArray.size)).push _++its.toArray.extract (if kk<0 then (kk+((its.toArray.size:Nat):Int)).toNat else min kk.toNat its.toArray.size)=_
  rw[e1]
  apply Array.toList_inj.mp
  simp
  exact List.take_of_length_le (Nat.le_of_eq List.length_drop)
 ·rw[List.length_append,List.length_cons,List.length_take,List.length_drop]
  omega
end
theorem qfl {pos : Pos} {e e2 : Expr} {env : Env} (h : starEach [e, e2] env = (false, eval e env) :: starEach [e2] env) (h2 : starEach [e2] env = (false, eval e2 env) :: starEach [] env) : ((backTo pos (starEach [e, e2] env)).all (fun x => !x.1) && (backToKw pos (keywordEach [] env)).all (fun x => x.1.isSome)
      && decide ([e, e2].length + ([] : List Keyword).length + (if ([] : List Keyword).isEmpty then 0 else 1) < 30)) = true := by
 rw[h,h2]
 rfl
section
variable {K : PySem.W.Frag} {X : Cx} {e e2 : Expr} {te te2 : TD} {pos : Pos}
end
def qeT:Key→D
 | .inl i=>.int i
 | .inr s=>.str s
theorem qdT {K:PySem.W.Frag}{Φ:Hp}{k:Key}{v:V}(r:Rp K Φ (qeT k) v):v=kV k:=by
 cases k with
 | inl i=>cases r;rfl
 | inr s=>cases r;rfl
theorem qjw {K:PySem.W.Frag}{Φ H:Hp}{k:Key}{v:V}(r:RpQ K Φ H (qeT k) v):v=kV k:=by
 cases k with
 | inl i=>exact RpQ.int r
 | inr s=>exact RpQ.str r
theorem qfH {K:PySem.W.Frag}{Φ:Hp}{ks:List Key}{vs:List V}(r:RpL K Φ (ks.map qeT) vs):vs=ks.map kV:=by
 refine List.ext_getElem? fun i=>?_
 rw[List.getElem?_map]
 cases h:ks[i]? with
 | none =>
  have h1:=List.getElem?_eq_none_iff.mp h
  exact List.getElem?_eq_none (by rw[r.1,List.length_map];exact h1)
 | some k =>
  obtain⟨v,hv,rv⟩:=r.at (i:=i) (d:=qeT k) (by rw[List.getElem?_map,h];rfl)
  rw[hv,qdT rv]
  rfl
def qjD (k:Key)(ks:List Key):Bool:=ks.any fun j=>decide (j=k)
theorem qhL (k:Key)(ks:List Key):qjD k ks=true↔k∈ks:=by
 unfold qjD
 rw[List.any_eq_true]
 exact⟨fun⟨j,h1,h2⟩=>of_decide_eq_true h2 ▸ h1,fun h=>⟨k,h,decide_eq_true rfl⟩⟩
theorem qea (k:Key):qfO (kV k)=true:=by cases k <;> rfl
theorem qnw (j k:Key):eqV (kV j) (kV k)=decide (j=k):=by
 cases j with
 | inl a =>
  cases k with
  | inl b=>show (a == b)=_;by_cases h:a=b <;> simp [h]
  | inr b=>show false=_;simp
 | inr a =>
  cases k with
  | inl b=>show false=_;simp
  | inr b=>show (a == b)=_;by_cases h:a=b <;> simp [h]
theorem qhz (k:Key)(ks:List Key):inV (kV k) (ks.map kV)=qjD k ks:=by
 unfold inV qjD
 rw[List.any_map]
 exact List.any_congr rfl fun j=>qnw j k
def zIn (neg:Bool):RD2:=fun dx dy R=>∃ (k:Key) (ks:List Key),dx=qeT k∧qe1 dy=some (ks.map qeT)∧R (.bl (neg != qjD k ks))
section
variable {K : PySem.W.Frag} {X : Cx}
theorem qp8:OpD K X (compareOp .In) (zIn false):=⟨fun hK pins s σ H x y u v Q I rx ry hq0=>by
 obtain⟨Φ,dx,dy,R,sm,hx,hy,⟨k,ks,rfl,e,h⟩,kk⟩:=hq0
 cases qjw hx
 obtain⟨a,vs,rfl,q,rl⟩:=hy.seq sm e
 cases qfH rl
 refine qkl pins s σ H _ _ u v Q I rx ry ⟨a,_,rfl,by rw[hK];exact q,qea k,?_,?_⟩
 ·rw[List.all_eq_true]
  intro z hz
  obtain⟨j,_,rfl⟩:=List.mem_map.mp hz
  exact qea j
 ·have e2:(if false=true then !inV (kV k) (ks.map kV) else inV (kV k) (ks.map kV))=(false != qjD k ks):=by rw[qhz];simp
  rw[e2]
  exact kk _ Φ H _ h (.refl sm) (.bl _)⟩
theorem qdG:OpD K X (compareOp .NotIn) (zIn true):=⟨fun hK pins s σ H x y u v Q I rx ry hq0=>by
 obtain⟨Φ,dx,dy,R,sm,hx,hy,⟨k,ks,rfl,e,h⟩,kk⟩:=hq0
 cases qjw hx
 obtain⟨a,vs,rfl,q,rl⟩:=hy.seq sm e
 cases qfH rl
 refine qgf pins s σ H _ _ u v Q I rx ry ⟨a,_,rfl,by rw[hK];exact q,qea k,?_,?_⟩
 ·rw[List.all_eq_true]
  intro z hz
  obtain⟨j,_,rfl⟩:=List.mem_map.mp hz
  exact qea j
 ·have e2:(if true=true then !inV (kV k) (ks.map kV) else inV (kV k) (ks.map kV))=(true != qjD k ks):=by rw[qhz];simp
  rw[e2]
  exact kk _ Φ H _ h (.refl sm) (.bl _)⟩
end
section
variable {K : PySem.W.Frag} {X : Cx} {e ev : Expr} {te tv : TD} {pos : Pos}
end
section
variable {X : Cx}
end
section
variable {K : PySem.W.Frag} {X : Cx} {a b : Expr} {ta tb : TD} {apos cpos : Pos}
def qpK (d:D):TD:=fun _ R=>R d
theorem qfw {x:Str}{i:Int}{tk:Tok}{pos:Pos}(hg:Gl X x)(hm:X.mg x=some (.int i tk))(hd:(x == ("__debug__":Str))=false:=by decide):PD K X (.Name x pos) (qpK (.int i)) :=
 ⟨fun hK=>(qjv (v:=.int i) hg hm ⟨tk,rfl⟩ hd).imp fun σ H Q hq0=>by
  obtain⟨H0,Φ,ρ,R,E,t,k⟩:=hq0
  exact k _ Φ H _ t (.refl E.fz) (.int i)⟩
end
end L2
namespace L2
open PySem PySem.Spec PySem.W PyProof.Rows PySem.Calls
section
variable {K : PySem.W.Frag} {X : Cx}
end
end L2
namespace L2
open PySem PySem.Spec PyProof.Rows
section
variable {K : PySem.W.Frag} {X : Cx} {e ev : Expr} {te tv : TD} {tk : TDK} {pos p : Pos}
end
section
variable {K : PySem.W.Frag} {X : Cx} {a : Expr} {pos p p2 pos2 : Pos} {tl : TDL}
end
section
variable {K : PySem.W.Frag} {X : Cx} {e : Expr} {es : List Expr} {pos p : Pos} {tl : TDL} {te : TD} {tf : TDL} {sp : SpD} {CX : CXT} {k : Nat} {f : Addr} {fd : FuncData} {ps : List Str} {x : Str} {E : XK}
end
theorem qjh {K:PySem.W.Frag}(h:PySem.W.nsIn K mainGlobals "least_grown"=some none∧PySem.W.nsIn K mainGlobals "greatest_first"=some none):qj3 K=[]:=by
 unfold qj3
 rw[List.filterMap_cons,qfe h.1,List.filterMap_cons,qfe h.2]
 rfl
structure Cl (P:Program)(w:World)(K:PySem.W.Frag)(mg:Str→Option Value)(base:Heap)(n:Nat)(x:Str)(ps:List Str)(z:SpD):Prop where
 ex:∃ (f:Addr) (fd:FuncData),FnOk P w K mg base CX0 n f fd ps (lSp K z)∧Binds K fd ps []∧PySem.W.keepIn K (.ref f)=true∧mg x=some (.ref f)
section
variable {P : Program} {w : World} {K : PySem.W.Frag} {mg : Str → Option Value} {base : Heap} {n m : Nat} {x : Str} {ps : List Str} {z : SpD} {X : Cx} {e : Expr} {es : List Expr} {pos p : Pos} {tl : TDL} {st : Stmt} {f : Addr} {fd : FuncData} {h : Heap}
theorem Cl.mono (C:Cl P w K mg base n x ps z)(k:n≤m):Cl P w K mg base m x ps z:=by
 obtain⟨f,fd,F,r⟩:=C.ex
 exact⟨f,fd,F.mono k,r⟩
theorem Cl.of (F:Fun K x x st f fd)(b:Binds K fd ps [])(m:mg x=some (.ref f))(H:FnOk P w K mg base CX0 n f fd ps (lSp K z)):Cl P w K mg base n x ps z:=⟨f,fd,H,b,F.kp,m⟩
theorem qaL (C:Cl X.prog X.w K X.mg X.base n x ps z)(hr:Room n X.A)(hg:Gl X x)
  (ha:PAD K X (e::es) tl) (he:starEach (e::es) X.env=(false,eval e X.env)::starEach es X.env) (hpl:(backTo pos (starEach es X.env)).any (·.1)=false) (hdb:(x == ("__debug__":Str))=false:=by decide) :
  PD K X (.Call (.Name x p) (e::es) [] pos) (qlK z tl):=⟨fun hK=>by
 subst hK
 obtain⟨f,fd,F,b,k,m⟩:=C.ex
 exact (qoY F hr hg m k b qmG ha he hpl hdb).pe rfl⟩
def dE (P:Params)(x:Str)(n:Nat)(v:Value):DictEntry:=⟨PyData.keyHash P x,.str x n,v⟩
def cO (n:Str)(a:Nat)(q:Str)(b c:Nat)(l m:Int)(k:Int)(r:Nat)(g:Int)(t:Nat)(x y:Value)(z:Nat)(i:Int)(d:Nat):Obj:=⟨.type "code",none,.fields #[.str n a,.str q b,.str "/claim/cut.py" c,.int l 0,.int m 0,.int 0 0,.int 0 0,.int k 0,.ref r,.bool true,.int g 0,.ref t,.none,x,y,.ref z,.int i 0,.int l 0,.str "/claim/cut.py" d],#[]⟩
def fO (s:Stmt)(n q m:Str)(i c:Nat):Obj:=⟨.type "function",none,.func (PySem.W.fnOf n q (qbk s) (qaV s) (qah s) .none .none .none (.str m i) none (.ref c) .none),#[]⟩
def Has (K:PySem.W.Frag)(s:Stmt)(x:Str):Prop:=∃ f m i c,PySem.W.nsIn K mainGlobals x=some (some (.ref f))∧K.lookup f=some (fO s x x m i c)∧PySem.W.codeIn K (.ref c) x=true
theorem Has.of {s:Stmt}{m:Str}{i c:Nat}(a:PySem.W.nsIn K mainGlobals x=some (some (.ref f)))(l:K.lookup f=some (fO s x x m i c))(k:PySem.W.codeIn K (.ref c) x=true):Has K s x:=⟨f,m,i,c,a,l,k⟩
theorem Has.fn (a:Has K st x)(X:K.In h)(G:h.Ns mainGlobals mg):∃ f fd,Fun K x x st f fd∧mg x=some (.ref f)∧∃ m i c,fd=PySem.W.fnOf x x (qbk st) (qaV st) (qah st) .none .none .none (.str m i) none (.ref c) .none:=by
 obtain⟨f,m,i,c,a,l,k⟩:=a
 exact⟨f,_,qo8 l k (by unfold PySem.W.keepIn;simp only [l];rfl),PySem.W.mg_of X G a,m,i,c,rfl⟩
theorem Fun.cl (F:Fun K x x st f fd)(m:mg x=some (.ref f))(H:FnOk P w K mg base CX0 n f fd ps (lSp K z))
  (b:∀ (kV doc pm:Value) (an:Option Addr) (cdv ct:Value) (us:List Value),us.length=ps.length→bindArgs (PySem.W.fnOf x x (qbk st) (qaV st) (qah st) .none kV doc pm an cdv ct) ⟨us,[]⟩=pure (ps.zip us)):Cl P w K mg base n x ps z:=.of F (F.binds b) m H
end
section
variable {K : PySem.W.Frag} {X : Cx} {n : Nat} {x : Str} {ps : List Str} {z : SpD} {e : Expr} {es : List Expr} {pos p : Pos} {tl : TDL}
end
section
variable {prog : Program} {w : World} {A : Around} {E : Value → Shared → Prop} {s : Shared}
end
section
variable {P : Program} {w : World} {H : Hp} {h h' : Heap} {a : Addr} {o : HO} {fs ex : List Addr}
theorem HOk.know (x:HOk P w H h)(hn:H a=none)(new:ObjOk P w (upd H a o) h a o):HOk P w (upd H a o) h:=fun b u e=>by
 by_cases hb:b=a
 ·subst hb;rw[qaj] at e;cases e;exact new
 ·rw[qal hb] at e
  exact (x b u e).stay (fun c v _ q=>q) (fun c q=>by rw[qal (qas q hn)];exact q) (fun c xs q=>by rw[qal (qas q hn)];exact q) fun c ob w' q=>by rw[qal (qas q hn)];exact q
end
section
variable {X : Cx} {a b : Expr} {p p2 pos pos2 : Pos}
end
section
variable {K : PySem.W.Frag} {X : Cx} {a b : Expr} {p p2 pos pos2 : Pos} {tl : TDL}
end
end L2
namespace L2
open PySem PySem.Spec PySem.W PyProof.Rows PySem.Calls
section
variable {K : PySem.W.Frag} {X : Cx}
end
section
variable {X : Cx} {pins : List (Addr × Obj)} {σ : St} {H : Hp} {xs : List V} {l f : Addr} {fob : Obj} {kf : Nat → Int} {G : Hp → Prop} {s : Shared} {Q : Value → Shared → Prop} {E : Value → Shared → Prop}
end
end L2
namespace L2
open PySem PySem.Spec PyProof.Rows
section
variable {K : PySem.W.Frag} {X : Cx} {l body : Expr} {tl tb : TD} {scope : Scope} {p : Str} {r : List Str} {cap : List (Option Nat)} {params : Arguments} {np pos lp kp1 kp2 kp3 : Pos} {c P : Addr} {j : Nat}
end
inductive Fl where | v (d:D) | l (xs:List D) | al (p:Addr)
inductive Om where | lst (xs:List D) | map (kvs:List (Key × D)) | mpT (kvs:List (List Key × D)) | obj (nm:Str) (fs:List (Str × Fl)) | ptr | tl (ps:List (Addr × Option (List D)))
def Om.solid:Om→Bool
 | .ptr=>false
 | .tl _=>false
 | _=>true
inductive Sm where | v (d:D) | ob (a:Option Addr) (o:Om)
abbrev Sm.own (xs:List D):Sm:=.ob none (.lst xs)
abbrev qaN:=List (Option Sm)
def KvR {κ:Type}(K:PySem.W.Frag)(Φ:Hp)(a:κ × D)(b:κ × V):Prop:=a.1=b.1∧Rp K Φ a.2 b.2
inductive FlsR (K:PySem.W.Frag) (Φ H:Hp):List (Str × Fl)→List (Str × V)→List Addr→Prop where
 | nil:FlsR K Φ H [] [] []
 | v {f:Str} {d:D} {v:V} {fs:List (Str × Fl)} {vs:List (Str × V)} {qs:List Addr}:Rp K Φ d v→FlsR K Φ H fs vs qs→FlsR K Φ H ((f,.v d)::fs) ((f,v)::vs) qs
 | l {f:Str} {ds:List D} {ws:List V} {q:Addr} {fs:List (Str × Fl)} {vs:List (Str × V)} {qs:List Addr}:H q=some (.lst ws)→RpL K Φ ds ws→FlsR K Φ H fs vs qs→FlsR K Φ H ((f,.l ds)::fs) ((f,.ref q)::vs) (q::qs)
 | al {f:Str} {p:Addr} {fs:List (Str × Fl)} {vs:List (Str × V)} {qs:List Addr}:FlsR K Φ H fs vs qs→FlsR K Φ H ((f,.al p)::fs) ((f,.ref p)::vs) qs
inductive TlS (K:PySem.W.Frag) (Φ H:Hp):List (Addr × Option (List D))→List Addr→Prop where
 | nil:TlS K Φ H [] []
 | ptr {q:Addr} {ps:List (Addr × Option (List D))} {F:List Addr}:TlS K Φ H ps F→TlS K Φ H ((q,none)::ps) F
 | own {q:Addr} {ds:List D} {ws:List V} {ps:List (Addr × Option (List D))} {F:List Addr}:H q=some (.lst ws)→RpL K Φ ds ws→TlS K Φ H ps F→TlS K Φ H ((q,some ds)::ps) (q::F)
inductive OmS (K:PySem.W.Frag) (Φ H:Hp):Om→Addr→List Addr→Prop where
 | lst {ds:List D} {vs:List V} {p:Addr}:H p=some (.lst vs)→RpL K Φ ds vs→OmS K Φ H (.lst ds) p [p]
 | map {kvs:List (Key × D)} {ws:List (Key × V)} {p:Addr}:H p=some (.dK ws)→Paired (KvR K Φ) kvs ws→OmS K Φ H (.map kvs) p [p]
 | mpT {kvs:List (List Key × D)} {ws:List (List Key × V)} {p:Addr}:H p=some (.dT ws)→Paired (KvR K Φ) kvs ws→OmS K Φ H (.mpT kvs) p [p]
 | obj {nm:Str} {fs:List (Str × Fl)} {C dx:Addr} {vs:List (Str × V)} {p:Addr} {qs:List Addr}:PySem.W.nsIn K mainGlobals nm=some (some (.ref C))→H p=some (.ins C dx vs)→FlsR K Φ H fs vs qs→(p::qs).Nodup→OmS K Φ H (.obj nm fs) p (p::qs)
 | ptr {p:Addr}:OmS K Φ H .ptr p []
 | tl {ps:List (Addr × Option (List D))} {p:Addr} {F:List Addr}:Φ p=some (.tup (ps.map fun q=>V.ref q.1))→TlS K Φ H ps F→F.Nodup→OmS K Φ H (.tl ps) p F
section
variable {K : PySem.W.Frag} {H0 H H' Φ Φ' Φ0 : Hp} {fs : List (Str × Fl)} {vs : List (Str × V)} {qs F F' : List Addr} {o o' : Om} {p : Addr}
theorem qcg {α β:Type}{F G:α→β→Prop}(h:∀ x y,F x y→G x y):∀ {l:List α} {m:List β},Paired F l m→Paired G l m
 | _,_,.nil=>.nil
 | _,_,.cons r t=>.cons (h _ _ r) (qcg h t)
theorem FlsR.keep (s:Same Φ Φ')(h:FlsR K Φ H fs vs qs)(k:∀ b∈qs,∀ u,H b=some u→H' b=some u):FlsR K Φ' H' fs vs qs:=by
 induction h with
 | nil=>exact .nil
 | v r _ ih=>exact .v (r.same s) (ih k)
 | l h1 h2 _ ih=>exact .l (k _ List.mem_cons_self _ h1) (h2.same s) (ih fun b hb=>k b (List.mem_cons_of_mem _ hb))
 | al _ ih=>exact .al (ih k)
theorem FlsR.at (h:FlsR K Φ H fs vs qs):∀ b∈qs,∃ ws,H b=some (.lst ws):=by
 induction h with
 | nil=>intro b hb;cases hb
 | v r _ ih=>exact ih
 | l h1 h2 _ ih =>
  intro b hb
  rcases List.mem_cons.mp hb with rfl | hb
  ·exact⟨_,h1⟩
  ·exact ih b hb
 | al _ ih=>exact ih
theorem TlS.keep {ps:List (Addr × Option (List D))}(s:Same Φ Φ')(h:TlS K Φ H ps F)(k:∀ b∈F,∀ u,H b=some u→H' b=some u):TlS K Φ' H' ps F:=by
 induction h with
 | nil=>exact .nil
 | ptr _ ih=>exact .ptr (ih k)
 | own h1 h2 _ ih=>exact .own (k _ List.mem_cons_self _ h1) (h2.same s) (ih fun b hb=>k b (List.mem_cons_of_mem _ hb))
theorem TlS.at {ps:List (Addr × Option (List D))}(h:TlS K Φ H ps F):∀ b∈F,∃ ws,H b=some (.lst ws):=by
 induction h with
 | nil=>intro b hb;cases hb
 | ptr _ ih=>exact ih
 | own h1 h2 _ ih =>
  intro b hb
  rcases List.mem_cons.mp hb with rfl | hb
  ·exact⟨_,h1⟩
  ·exact ih b hb
theorem TlS.out {q:Addr}{ds:List D}:∀ {ps:List (Addr × Option (List D))} {F:List Addr} {k:Nat},TlS K Φ H ps F→ps[k]?=some (q,some ds)→∃ ws F',H q=some (.lst ws)∧RpL K Φ ds ws∧TlS K Φ H (ps.set k (q,none)) F'∧F.Perm (q::F')
 | _,_,k,.nil,h=>by simp at h
 | _,_,0,.ptr _,h=>by simp at h
 | _,_,k+1,.ptr t,h=>by
  obtain⟨ws,F',h1,h2,h3,h4⟩:=TlS.out t h
  exact⟨ws,F',h1,h2,.ptr h3,h4⟩
 | _,_,0,.own h1 h2 t,h=>by cases h;exact⟨_,_,h1,h2,.ptr t,.refl _⟩
 | _,_,k+1,.own (q:=q') h1 h2 t,h=>by
  obtain⟨ws,F',k1,k2,k3,k4⟩:=TlS.out t h
  exact⟨ws,q'::F',k1,k2,.own h1 h2 k3,(k4.cons q').trans (List.Perm.swap q q' F')⟩
theorem TlS.put {q:Addr}{ds:List D}{ws:List V}(hq:H q=some (.lst ws))(hr:RpL K Φ ds ws):∀ {ps:List (Addr × Option (List D))} {F:List Addr} {k:Nat},TlS K Φ H ps F→ps[k]?=some (q,none)→∃ F',TlS K Φ H (ps.set k (q,some ds)) F'∧F'.Perm (q::F)
 | _,_,k,.nil,h=>by simp at h
 | _,_,0,.ptr t,h=>by cases h;exact⟨_,.own hq hr t,.refl _⟩
 | _,_,k+1,.ptr t,h=>by
  obtain⟨F',h1,h2⟩:=TlS.put hq hr t h
  exact⟨F',.ptr h1,h2⟩
 | _,_,0,.own h1 h2 t,h=>by simp at h
 | _,_,k+1,.own (q:=q') h1 h2 t,h=>by
  obtain⟨F',k1,k2⟩:=TlS.put hq hr t h
  exact⟨q'::F',.own h1 h2 k1,(k2.cons q').trans (List.Perm.swap q q' _)⟩
theorem OmS.keep (s:Same Φ Φ')(h:OmS K Φ H o p F)(k:∀ b∈F,∀ u,H b=some u→H' b=some u):OmS K Φ' H' o p F:=by
 cases h with
 | lst h1 h2=>exact .lst (k _ List.mem_cons_self _ h1) (h2.same s)
 | map h1 h2=>exact .map (k _ List.mem_cons_self _ h1) (qcg (fun _ _ r=>⟨r.1,r.2.same s⟩) h2)
 | mpT h1 h2=>exact .mpT (k _ List.mem_cons_self _ h1) (qcg (fun _ _ r=>⟨r.1,r.2.same s⟩) h2)
 | obj h0 h1 h2 h3=>exact .obj h0 (k _ List.mem_cons_self _ h1) (h2.keep s fun b hb=>k b (List.mem_cons_of_mem _ hb)) h3
 | ptr=>exact .ptr
 | tl h1 h2 h3=>exact .tl (s _ _ h1) (h2.keep s k) h3
theorem OmS.mem (h:OmS K Φ H o p F)(hs:o.solid=true:=by rfl):p∈F:=by cases h <;> first | exact List.mem_cons_self | cases hs
theorem OmS.at (h:OmS K Φ H o p F):∀ b∈F,∃ u,H b=some u∧OwK u:=by
 intro b hb
 cases h with
 | lst h1 h2=>rw[List.mem_singleton.mp hb];exact⟨_,h1,trivial⟩
 | map h1 h2=>rw[List.mem_singleton.mp hb];exact⟨_,h1,trivial⟩
 | mpT h1 h2=>rw[List.mem_singleton.mp hb];exact⟨_,h1,trivial⟩
 | obj h0 h1 h2 h3 =>
  rcases List.mem_cons.mp hb with rfl | hb
  ·exact⟨_,h1,trivial⟩
  ·obtain⟨ws,hw⟩:=h2.at b hb
   exact⟨_,hw,trivial⟩
 | ptr=>cases hb
 | tl h1 h2 h3 =>
  obtain⟨ws,hw⟩:=h2.at b hb
  exact⟨_,hw,trivial⟩
theorem OmS.tl_inv {ps:List (Addr × Option (List D))}(h:OmS K Φ H (.tl ps) p F):Φ p=some (.tup (ps.map fun q=>V.ref q.1))∧TlS K Φ H ps F∧F.Nodup:=by
 cases h with
 | tl h1 h2 h3=>exact⟨h1,h2,h3⟩
theorem OmS.lst_inv {ds:List D}(h:OmS K Φ H (.lst ds) p F):F=[p]∧∃ vs,H p=some (.lst vs)∧RpL K Φ ds vs:=by
 cases h with
 | lst h1 h2=>exact⟨rfl,_,h1,h2⟩
theorem OmS.map_inv {kvs:List (Key × D)}(h:OmS K Φ H (.map kvs) p F):F=[p]∧∃ ws,H p=some (.dK ws)∧Paired (KvR K Φ) kvs ws:=by
 cases h with
 | map h1 h2=>exact⟨rfl,_,h1,h2⟩
theorem OmS.mpT_inv {kvs:List (List Key × D)}(h:OmS K Φ H (.mpT kvs) p F):F=[p]∧∃ ws,H p=some (.dT ws)∧Paired (KvR K Φ) kvs ws:=by
 cases h with
 | mpT h1 h2=>exact⟨rfl,_,h1,h2⟩
theorem OmS.gr (g:Gr Φ H Φ' H')(h:OmS K Φ H o p F):OmS K Φ' H' o p F:=h.keep g.f fun b _ u e=>g.h b u e
end
structure EnvM' (K:PySem.W.Frag)(H0 Φ H:Hp)(σ:St)(ρ:qaN)(fp:Nat→List Addr):Prop where
 fz:Same Φ H
 len:σ.length=ρ.length
 sl:∀ (i:Nat) (d:D),ρ[i]?=some (some (.v d))→∃ v,σ[i]?=some (some v)∧Rp K Φ d v
 ow:∀ (i:Nat) (a:Option Addr) (o:Om),ρ[i]?=some (some (.ob a o))→∃ p,σ[i]?=some (some (.ref p))∧(∀ q,a=some q→q=p)∧OmS K Φ H o p (fp i)
 no:∀ (i:Nat) (a:Option Addr) (o:Om),ρ[i]?=some (some (.ob a o))→∀ b∈fp i,H0 b=none∧Φ b=none
 dj:∀ (i j:Nat) (a a':Option Addr) (o o':Om),ρ[i]?=some (some (.ob a o))→ρ[j]?=some (some (.ob a' o'))→i≠j→∀ b∈fp i,b∉fp j
 tb:TabF K Φ
def EnvM (K:PySem.W.Frag)(H0 Φ H:Hp)(σ:St)(ρ:qaN):Prop:=∃ fp,EnvM' K H0 Φ H σ ρ fp
section
variable {K : PySem.W.Frag} {H0 H H' Φ Φ' Φ0 : Hp} {σ σ2 : St} {ρ ρ2 : qaN} {fp : Nat → List Addr} {F F' : List Addr} {o o' : Om} {p : Addr} {d : D} {v : V} {i : Nat} {a : Option Addr}
theorem EnvM.fz (E:EnvM K H0 Φ H σ ρ):Same Φ H:=let ⟨_,E⟩:=E;E.fz
theorem EnvM.tb (E:EnvM K H0 Φ H σ ρ):TabF K Φ:=let ⟨_,E⟩:=E;E.tb
theorem EnvM.len (E:EnvM K H0 Φ H σ ρ):σ.length=ρ.length:=let ⟨_,E⟩:=E;E.len
theorem EnvM.sl (E:EnvM K H0 Φ H σ ρ)(h:ρ[i]?=some (some (.v d))):∃ v,σ[i]?=some (some v)∧Rp K Φ d v:=let ⟨_,E⟩:=E;E.sl i d h
theorem EnvM'.gr (E:EnvM' K H0 Φ H σ ρ fp)(g:Gr Φ H Φ' H'):EnvM' K H0 Φ' H' σ ρ fp :=
 ⟨g.s,E.len,fun i d h=>let ⟨v,e,r⟩:=E.sl i d h;⟨v,e,r.same g.f⟩,fun i a o h=>let ⟨p,e,ha,r⟩:=E.ow i a o h;⟨p,e,ha,r.gr g⟩,
  fun i a o h b hb=>by
   obtain⟨p,_,_,r⟩:=E.ow i a o h
   obtain⟨u,hu,k⟩:=r.at b hb
   exact⟨(E.no i a o h b hb).1,g.o b u hu (E.no i a o h b hb).2 k⟩,E.dj,E.tb.same g.f⟩
theorem EnvM.gr (E:EnvM K H0 Φ H σ ρ)(g:Gr Φ H Φ' H'):EnvM K H0 Φ' H' σ ρ:=let ⟨fp,E⟩:=E;⟨fp,E.gr g⟩
theorem EnvM.re (m:Nat→Nat)(E:EnvM K H0 Φ H σ ρ)(hl:σ2.length=ρ2.length)(h:∀ (i:Nat) (x:Sm),ρ2[i]?=some (some x)→ρ[m i]?=some (some x)∧σ2[i]?=σ[m i]?)
  (inj:∀ (i j:Nat) (a a':Option Addr) (o o':Om),ρ2[i]?=some (some (.ob a o))→ρ2[j]?=some (some (.ob a' o'))→m i=m j→i=j):EnvM K H0 Φ H σ2 ρ2:=by
 obtain⟨fp,E⟩:=E
 refine⟨fun i=>fp (m i),E.fz,hl,fun i d hd=>?_,fun i a o ho=>?_,fun i a o ho=>E.no _ a o (h i _ ho).1,fun i j a a' o o' hi hj c=>E.dj _ _ a a' o o' (h i _ hi).1 (h j _ hj).1 fun e=>c (inj i j a a' o o' hi hj e),E.tb⟩
 ·obtain⟨v,e,r⟩:=E.sl _ d (h i _ hd).1
  exact⟨v,by rw[(h i _ hd).2];exact e,r⟩
 ·obtain⟨p,e,r⟩:=E.ow _ a o (h i _ ho).1
  exact⟨p,by rw[(h i _ ho).2];exact e,r⟩
theorem EnvM.take {τ:St}{κ:qaN}(E:EnvM K H0 Φ H (σ++τ) (ρ++κ))(hl:ρ.length=σ.length):EnvM K H0 Φ H σ ρ :=
 E.re id hl.symm (fun i x hx=>by
  have hi:=qak hx
  exact⟨by rw[id,List.getElem?_append_left hi];exact hx,by rw[id,List.getElem?_append_left (by omega)]⟩) fun i j _ _ _ _ _ _ e=>e
theorem EnvM'.take {τ:St}{κ:qaN}(E:EnvM' K H0 Φ H (σ++τ) (ρ++κ) fp)(hl:ρ.length=σ.length):EnvM' K H0 Φ H σ ρ fp:=by
 have up:∀ {i:Nat} {x:Sm},ρ[i]?=some (some x)→(ρ++κ)[i]?=some (some x):=fun h=>by rw[List.getElem?_append_left (qak h)];exact h
 have dn:∀ {i:Nat} {x:Sm} {y:Option V},ρ[i]?=some (some x)→(σ++τ)[i]?=some y→σ[i]?=some y:=fun h e=>by rwa [List.getElem?_append_left (by rw[← hl];exact qak h)] at e
 exact⟨E.fz,hl.symm,fun i d h=>let ⟨v,e,r⟩:=E.sl i d (up h);⟨v,dn h e,r⟩,fun i a o h=>let ⟨p,e,r⟩:=E.ow i a o (up h);⟨p,dn h e,r⟩,fun i a o h=>E.no i a o (up h),fun i j a a' o o' hi hj=>E.dj i j a a' o o' (up hi) (up hj),E.tb⟩
theorem EnvM.store {v:V}{x:Sm}(E:EnvM K H0 Φ H (σ++[some v]) (ρ++[some x]))(i:Nat):EnvM K H0 Φ H (σ.set i (some v)) (ρ.set i (some x)):=by
 have hl:σ.length=ρ.length:=by have:=E.len;simpa using this
 refine E.re (fun j=>if j=i then ρ.length else j) (by rw[List.length_set,List.length_set,hl]) (fun j y hj=>?_) fun j k a a' o o' hj hk e=>?_
 ·by_cases c:j=i
  ·subst c
   have hlt:j<ρ.length:=by have:=qak hj;rwa [List.length_set] at this
   rw[List.getElem?_set_self hlt] at hj
   cases hj
   rw[if_pos rfl,List.getElem?_set_self (by omega),List.getElem?_append_right (Nat.le_refl _),List.getElem?_append_right (by omega),Nat.sub_self,hl,Nat.sub_self]
   exact⟨rfl,rfl⟩
  ·rw[List.getElem?_set_ne (Ne.symm c)] at hj
   have hlt:=qak hj
   rw[if_neg c,List.getElem?_set_ne (Ne.symm c),List.getElem?_append_left hlt,List.getElem?_append_left (by omega)]
   exact⟨hj,rfl⟩
 ·have hj1:j<ρ.length:=by have:=qak hj;rwa [List.length_set] at this
  have hk1:k<ρ.length:=by have:=qak hk;rwa [List.length_set] at this
  have e:(if j=i then ρ.length else j)=(if k=i then ρ.length else k):=e
  split at e <;> split at e <;> omega
theorem EnvM.snocV (E:EnvM K H0 Φ H σ ρ)(r:Rp K Φ d v):EnvM K H0 Φ H (σ++[some v]) (ρ++[some (.v d)]):=by
 obtain⟨fp,E⟩:=E
 have old:∀ {i:Nat} {a:Option Addr} {o:Om},(ρ++[some (Sm.v d)])[i]?=some (some (.ob a o))→ρ[i]?=some (some (.ob a o)):=fun {i a o} h=>by
  rcases Nat.lt_or_ge i ρ.length with c | c
  ·rwa [List.getElem?_append_left c] at h
  ·rw[List.getElem?_append_right c] at h
   cases e:i - ρ.length with
   | zero=>rw[e] at h;cases h
   | succ n=>rw[e] at h;cases h
 refine⟨fp,E.fz,by rw[List.length_append,List.length_append,E.len];rfl,fun i d' h=>?_,fun i a o h=>?_,fun i a o h=>E.no i a o (old h),fun i j a a' o o' hi hj=>E.dj i j a a' o o' (old hi) (old hj),E.tb⟩
 ·rcases Nat.lt_or_ge i ρ.length with c | c
  ·rw[List.getElem?_append_left c] at h
   obtain⟨u,e,r⟩:=E.sl i d' h
   exact⟨u,by rw[List.getElem?_append_left (by rw[E.len];exact c)];exact e,r⟩
  ·rw[List.getElem?_append_right c] at h
   cases e:i - ρ.length with
   | zero =>
    rw[e] at h
    cases h
    exact⟨v,by rw[List.getElem?_append_right (by rw[E.len];exact c),E.len,e];rfl,r⟩
   | succ n=>rw[e] at h;cases h
 ·obtain⟨p,e,r⟩:=E.ow i a o (old h)
  have hi:=qak (old h)
  exact⟨p,by rw[List.getElem?_append_left (by rw[E.len];exact hi)];exact e,r⟩
theorem EnvM.snocO (E:EnvM K H0 Φ H σ ρ)(s0:Same H0 H)(g:Gr Φ H Φ' H')(ho:OmS K Φ' H' o p F)(hf:∀ b∈F,H b=none∧Φ' b=none):EnvM K H0 Φ' H' (σ++[some (.ref p)]) (ρ++[some (.ob none o)]):=by
 obtain⟨fp,E⟩:=E
 have old:∀ b∈F,∀ (i:Nat) (a:Option Addr) (o:Om),ρ[i]?=some (some (.ob a o))→b∉fp i:=fun b hb i a o h z=>by
  obtain⟨q,_,_,r⟩:=E.ow i a o h
  obtain⟨u,hu,_⟩:=r.at b z
  rw[(hf b hb).1] at hu
  cases hu
 have E2:=E.gr g
 have cs:∀ {i:Nat} {x:Sm},(ρ++[some (Sm.ob none o)])[i]?=some (some x)→(i<ρ.length∧ρ[i]?=some (some x))∨(i=ρ.length∧x=.ob none o):=fun {i x} h=>by
  rcases Nat.lt_or_ge i ρ.length with c | c
  ·rw[List.getElem?_append_left c] at h
   exact .inl ⟨c,h⟩
  ·rw[List.getElem?_append_right c] at h
   cases e:i - ρ.length with
   | zero=>rw[e] at h;cases h;exact .inr ⟨by omega,rfl⟩
   | succ n=>rw[e] at h;cases h
 refine⟨fun i=>if i=ρ.length then F else fp i,E2.fz,by rw[List.length_append,List.length_append,E.len];rfl,fun i d h=>?_,fun i a o' h=>?_,fun i a o' h b hb=>?_,fun i j a a' o1 o2 hi hj c b hb hb2=>?_,E2.tb⟩
 ·rcases cs h with⟨c,h⟩ | ⟨_,h⟩
  ·obtain⟨v,e,r⟩:=E2.sl i d h
   exact⟨v,by rw[List.getElem?_append_left (by rw[E.len];exact c)];exact e,r⟩
  ·cases h
 ·rcases cs h with⟨c,h⟩ | ⟨c,h⟩
  ·obtain⟨q,e,r⟩:=E2.ow i a o' h
   exact⟨q,by rw[List.getElem?_append_left (by rw[E.len];exact c)];exact e,by rw[if_neg (by omega)];exact r⟩
  ·cases h
   subst c
   refine⟨p,by rw[List.getElem?_append_right (by rw[E.len];exact Nat.le_refl _),E.len,Nat.sub_self];rfl,(fun q e=>by cases e),by rw[if_pos rfl];exact ho⟩
 ·rcases cs h with⟨c,h⟩ | ⟨c,h⟩
  ·rw[if_neg (by omega)] at hb
   exact E2.no i a o' h b hb
  ·rw[if_pos c] at hb
   exact⟨s0.free (hf b hb).1,(hf b hb).2⟩
 ·rcases cs hi with⟨ci,hi⟩ | ⟨ci,hi⟩
  ·rw[if_neg (by omega)] at hb
   rcases cs hj with⟨cj,hj⟩ | ⟨cj,hj⟩
   ·rw[if_neg (by omega)] at hb2
    exact E.dj i j a a' o1 o2 hi hj c b hb hb2
   ·rw[if_pos cj] at hb2
    exact old b hb2 i a o1 hi hb
  ·rw[if_pos ci] at hb
   rcases cs hj with⟨cj,hj⟩ | ⟨cj,hj⟩
   ·rw[if_neg (by omega)] at hb2
    exact old b hb j a' o2 hj hb2
   ·omega
theorem EnvM'.put (E:EnvM' K H0 Φ H σ ρ fp)(hi:ρ[i]?=some (some (.ob a o)))(si:σ[i]?=some (some (.ref p)))(hH:∀ b u,H b=some u→b∉fp i→H' b=some u)(hO:OmS K Φ H' o' p F')(hF:∀ b∈F',b∈fp i∨(H b=none∧H0 b=none∧Φ b=none)) :
  EnvM' K H0 Φ H' σ (ρ.set i (some (.ob a o'))) (fun j=>if j=i then F' else fp j):=by
 have hlt:=qak hi
 have cs:∀ {j:Nat} {x:Sm},(ρ.set i (some (Sm.ob a o')))[j]?=some (some x)→(j=i∧x=.ob a o')∨(j≠i∧ρ[j]?=some (some x)):=fun {j x} h=>by
  rcases qbi h with⟨e,_,e1⟩ | ⟨e,h⟩
  ·cases e1;exact .inl ⟨e,rfl⟩
  ·exact .inr ⟨e,h⟩
 have nf:∀ b∈F',∀ (j:Nat) (a':Option Addr) (o2:Om),ρ[j]?=some (some (.ob a' o2))→j≠i→b∉fp j:=fun b hb j a' o2 hj c z=>by
  rcases hF b hb with h | ⟨h,_⟩
  ·exact E.dj j i a' a o2 o hj hi c b z h
  ·obtain⟨q,_,_,r⟩:=E.ow j a' o2 hj
   obtain⟨u,hu,_⟩:=r.at b z
   rw[h] at hu
   cases hu
 refine⟨fun b u e=>hH b u (E.fz b u e) fun z=>?_,by rw[List.length_set,E.len],fun j d h=>?_,fun j a' o2 h=>?_,fun j a' o2 h b hb=>?_,fun j k a1 a2 o1 o2 hj hk c b hb hb2=>?_,E.tb⟩
 ·rw[(E.no i a o hi b z).2] at e
  cases e
 ·rcases cs h with⟨_,h⟩ | ⟨_,h⟩
  ·cases h
  ·exact E.sl j d h
 ·rcases cs h with⟨c,h⟩ | ⟨c,h⟩
  ·cases h
   subst c
   obtain⟨q,e,ha,_⟩:=E.ow j a o hi
   rw[si] at e
   cases e
   exact⟨p,si,ha,by rw[if_pos rfl];exact hO⟩
  ·obtain⟨q,e,ha,r⟩:=E.ow j a' o2 h
   refine⟨q,e,ha,?_⟩
   rw[if_neg c]
   exact r.keep (Same.refl _) fun b hb u hu=>hH b u hu fun z=>E.dj j i a' a o2 o h hi c b hb z
 ·rcases cs h with⟨c,h⟩ | ⟨c,h⟩
  ·rw[if_pos c] at hb
   rcases hF b hb with z | ⟨_,z⟩
   ·exact E.no i a o hi b z
   ·exact z
  ·rw[if_neg c] at hb
   exact E.no j a' o2 h b hb
 ·rcases cs hj with⟨cj,hj⟩ | ⟨cj,hj⟩
  ·rw[if_pos cj] at hb
   rcases cs hk with⟨ck,hk⟩ | ⟨ck,hk⟩
   ·omega
   ·rw[if_neg ck] at hb2
    exact nf b hb k a2 o2 hk ck hb2
  ·rw[if_neg cj] at hb
   rcases cs hk with⟨ck,hk⟩ | ⟨ck,hk⟩
   ·rw[if_pos ck] at hb2
    exact nf b hb2 j a1 o1 hj cj hb
   ·rw[if_neg ck] at hb2
    exact E.dj j k a1 a2 o1 o2 hj hk c b hb hb2
theorem EnvM'.grput (E:EnvM' K H0 Φ H σ ρ fp)(g:Gr Φ0 H0 Φ H)(hi:ρ[i]?=some (some (.ob a o)))(hH:∀ b u,H b=some u→b∉fp i→H' b=some u):Gr Φ0 H0 Φ H' :=
 ⟨g.f,fun b u e=>hH b u (g.h b u e) (fun z=>by rw[(E.no i a o hi b z).1] at e;cases e),fun b u e=>hH b u (g.s b u e) (fun z=>by rw[(E.no i a o hi b z).2] at e;cases e),fun p u h1 h2 k=>g.o p u h1 h2 k⟩
theorem EnvM.list {ds:List D}(E:EnvM K H0 Φ H σ ρ)(g:Gr Φ0 H0 Φ H)(hi:ρ[i]?=some (some (.ob a (.lst ds)))):∃ q vs,σ[i]?=some (some (.ref q))∧H q=some (.lst vs)∧H0 q=none∧Φ q=none∧RpL K Φ ds vs ∧
  ∀ (es:List D) (ws:List V),RpL K Φ es ws→EnvM K H0 Φ (upd H q (.lst ws)) σ (ρ.set i (some (.ob a (.lst es))))∧Gr Φ0 H0 Φ (upd H q (.lst ws)):=by
 obtain⟨fp,E⟩:=E
 obtain⟨q,e,_,r⟩:=E.ow i a _ hi
 have hq:=r.mem
 have h0:=E.no i a _ hi q hq
 obtain⟨_,vs,h1,h2⟩:=r.lst_inv
 refine⟨q,vs,e,h1,h0.1,h0.2,h2,fun es ws rw'=>?_⟩
 have hH:∀ b u,H b=some u→b∉fp i→upd H q (.lst ws) b=some u:=fun b u e hn=>by
  rw[qal fun z=>hn (by rw[z];exact hq)]
  exact e
 exact⟨⟨_,E.put hi e hH (F':=[q]) (.lst qaj rw') fun b hb=>.inl (by rw[List.mem_singleton.mp hb];exact hq)⟩,E.grput g hi hH⟩
end
def prM:Option Sm→Option Sl
 | some (.v d)=>some (.v d)
 | some (.ob _ (.lst xs))=>some (.own xs)
 | some (.ob _ (.map kvs))=>some (.dct (kvs.map (·.1)))
 | some (.ob _ (.mpT kvs))=>some (.dcT (kvs.map (·.1)))
 | _=>none
abbrev prR (ρ:qaN):Rho:=ρ.map prM
theorem qg4 {κ:Type}{K:PySem.W.Frag}{Φ:Hp}:∀ {a:List (κ × D)} {b:List (κ × V)},Paired (KvR K Φ) a b→b.map (·.1)=a.map (·.1)
 | _,_,.nil=>rfl
 | _,_,.cons r t=>by rw[List.map_cons,List.map_cons,qg4 t,r.1]
theorem EnvM.toD {K:PySem.W.Frag}{H0 Φ H:Hp}{σ:St}{ρ:qaN}(E:EnvM K H0 Φ H σ ρ):EnvD K H0 Φ H σ (prR ρ):=by
 obtain⟨fp,E⟩:=E
 have at_:∀ {i:Nat} {x:Sl},(prR ρ)[i]?=some (some x)→∃ y,ρ[i]?=some (some y)∧prM (some y)=some x:=fun {i x} h=>by
  rw[List.getElem?_map] at h
  cases e:ρ[i]? with
  | none=>rw[e] at h;cases h
  | some y =>
   rw[e] at h
   cases y with
   | none=>cases h
   | some y=>exact⟨y,rfl,Option.some.inj h⟩
 have ow:∀ {i:Nat} {o:Ow},(prR ρ)[i]?=some (some (.ob o))→∃ a om p u,ρ[i]?=some (some (.ob a om))∧σ[i]?=some (some (.ref p))∧p∈fp i∧H p=some u∧OwR K Φ o u:=fun {i o} h=>by
  obtain⟨y,hy,e⟩:=at_ h
  cases y with
  | v d=>cases e
  | ob a om =>
   obtain⟨p,e1,_,r⟩:=E.ow i a om hy
   refine⟨a,om,p,?_⟩
   cases om with
   | lst ds=>obtain⟨_,vs,h1,h2⟩:=r.lst_inv;cases e;exact⟨_,hy,e1,r.mem,h1,h2⟩
   | map kvs=>obtain⟨_,vs,h1,h2⟩:=r.map_inv;cases e;exact⟨_,hy,e1,r.mem,h1,qg4 h2⟩
   | mpT kvs=>obtain⟨_,vs,h1,h2⟩:=r.mpT_inv;cases e;exact⟨_,hy,e1,r.mem,h1,qg4 h2⟩
   | obj nm fs=>cases e
   | ptr=>cases e
   | tl ps=>cases e
 refine⟨E.fz,by rw[List.length_map,E.len],fun i d h=>?_,fun i o h=>?_,fun i j o w p hi hj si sj=>?_,E.tb⟩
 ·obtain⟨y,hy,e⟩:=at_ h
  cases y with
  | v d'=>cases e;exact E.sl i d hy
  | ob a om=>cases om <;> cases e
 ·obtain⟨a,om,p,u,h1,h2,h3,h4,h5⟩:=ow h
  exact⟨p,u,h2,(E.no i a om h1 p h3).1,(E.no i a om h1 p h3).2,h4,h5⟩
 ·obtain⟨a,om,p1,u,h1,h2,h3,_,_⟩:=ow hi
  obtain⟨a',om',p2,u',k1,k2,k3,_,_⟩:=ow hj
  rw[si] at h2
  cases h2
  rw[sj] at k2
  cases k2
  rcases Decidable.em (i=j) with c | c
  ·exact c
  ·exact absurd k3 (E.dj i j a a' om om' h1 k1 c p h3)
def qoy (h:Heap)(e:Addr)(vs:Array Value)(T:Option Addr)(fl:Value):Prop:=match T with
 | none=>vs[1]?=some .none
 | some T=>vs[1]?=some (.ref T)∧T≠e∧∃ oT ts,h.get? T=some oT∧oT.data=.fields ts∧ts[3]?=some fl
structure Fly (h:Heap)(e:Addr)(T:Option Addr)(fl cls:Value)(dx:Option Addr):Prop where
 ex:∃ oe vs,h.get? e=some oe∧oe.data=.fields vs∧oe.cls=cls∧oe.dict=dx∧qoy h e vs T fl
structure Kept (fs:List Addr)(e:Addr)(T:Option Addr)(h h':Heap):Prop where
 keep:∀ b o,h.get? b=some o→b≠e→some b≠T→b∉fs→h'.get? b=some o
 slot:∀ b o,h.get? b=some o→b∈fs→∃ sl,h'.get? b=some { o with slots:=sl }
section
variable {M : Model} {A : Around} {E : Value → Shared → Prop} {s : Shared} {base : Heap} {env : Env} {outer : List Env} {L e : Addr}
theorem qkJ (o:Obj)(f:Array Value→Array Value):(o.mapFields f).dict=o.dict:=by
 obtain⟨c,d,dt,sl⟩:=o
 cases dt <;> rfl
theorem qig {cls:Value}{dx:Option Addr}{oe:Obj}{vs:Array Value}{head:Value}{had:Bool}{Q:Unit→Shared→Prop}(hfr:A.frames=some (env::outer))(hl:s.heap.FunFrames base (env::outer))(hf:env.frame=some L)
  (he:s.heap.get? e=some oe) (hd:oe.data=.fields vs) (hc:oe.cls=cls) (hx:oe.dict=dx) (hz:1<vs.size)
  (k:∀ h' T',Fly h' e (some T') (rawInt L) cls dx→s.heap.objs.size≤T'→Kept (frs (env::outer)) e none s.heap h'→Q () { s with heap:=h' }) :
  wpAny M A (do let a ← frameOf env;let pl ← entryPlaceOf L had;let b ← EntryCells.newEntry head a .none (rawInt L) .none pl;setField (.ref e) 1 b) Q E s:=by
 have hef:e∉frs (env::outer):=fun hm=>by
  obtain⟨_,o,ho,hnf⟩:=hl.mem hm
  rw[he] at ho
  cases ho
  exact hnf vs hd
 refine wpAny_bind (wpAny_frameOf_fun hfr hl hf fun h₁ x=>?_)
 refine wpAny_bind (wpAny_entryPlaceOf fun pl hpl=>?_)
 unfold EntryCells.newEntry newFields
 refine wpAny_bind (wpAny_newObj_type ?_ (hpl.sizeOk5 _ _ _ _ _))
 generalize hot:({ cls:=.type "traceback",dict:=none,data:=.fields ([head,.ref L,.none,rawInt L,.none]++(if pl.isEmpty then List.replicate 6 Value.none else pl)).toArray }:Obj)=ot
 have e1:h₁.get? e=some oe:=(x.2.1 e hef).trans he
 have e2:=Heap.get?_push_of_some (h:=h₁) ot e1
 have hne:h₁.objs.size≠e:=Nat.ne_of_gt (Heap.lt_size e1)
 refine wpAny_setField e2 hd hz (k _ h₁.objs.size ⟨?_⟩ ?_ ⟨fun b o hb b1 _ b3=>?_,fun b o hb b3=>?_⟩)
 ·have d3:=Obj.data_mapFields hd (·.setIfInBounds 1 (Value.ref h₁.objs.size))
  refine⟨_,_,Heap.get?_update_self _ e2 (Obj.isFreed_of_fields d3),d3,(Obj.cls_mapFields _ _).trans hc,(qkJ _ _).trans hx,by simp [hz],hne,ot,_,?_,by rw[← hot],?_⟩
  ·rw[Heap.get?_update_other _ _ (Ne.symm hne)]
   exact Heap.get?_push_size h₁ (by rw[← hot];rfl)
  ·first | (simp;done) | (rcases hpl with rfl | ⟨_,_,_,_,_,_,_,rfl⟩ <;> simp)
 ·exact Nat.le_of_eq x.1.symm
 ·rw[Heap.get?_update_other _ _ (Ne.symm b1)]
  exact Heap.get?_push_of_some _ ((x.2.1 b b3).trans hb)
 ·obtain⟨sl,hs⟩:=x.2.2 b o hb
  refine⟨sl,?_⟩
  rw[Heap.get?_update_other _ _ (fun z=>hef (by rw[z];exact b3))]
  exact Heap.get?_push_of_some _ hs
theorem Fly.live {h:Heap}{T:Option Addr}{fl cls:Value}{dx:Option Addr}(F:Fly h e T fl cls dx):∃ o,h.get? e=some o∧o.cls=cls∧o.dict=dx∧∃ vs,o.data=.fields vs:=by
 obtain⟨oe,vs,h1,h2,h3,h4,_⟩:=F.ex
 exact⟨oe,h1,h3,h4,vs,h2⟩
theorem qeC {vs:Array Value}{i:Nat}{x:Value}(h:vs[i]?=some x):i<vs.size:=(Array.getElem?_eq_some_iff.mp h).1
theorem qmg {T:Option Addr}{cls:Value}{dx:Option Addr}{Q:Unit→Shared→Prop}(hfr:A.frames=some (env::outer))(hl:s.heap.FunFrames base (env::outer))(hf:env.frame=some L)(F:Fly s.heap e T .none cls dx)
  (k:∀ h' T',Fly h' e (some T') (rawInt L) cls dx→s.heap.objs.size≤T'→Kept (frs (env::outer)) e T s.heap h'→Q () { s with heap:=h' }):wpAny M A (noteFrame (.ref e) env) Q E s:=by
 obtain⟨oe,vs,he,hd,hc,hx,hn⟩:=F.ex
 unfold noteFrame
 simp only [hf]
 cases T with
 | none =>
  have h1:vs[1]?=some .none:=hn
  refine wpAny_bind (wpAny_field he hd h1 ?_)
  rw[if_neg (by decide)]
  exact qig hfr hl hf he hd hc hx (qeC h1) fun h' T' a1 a2 a3=>k h' T' a1 a2 ⟨fun b o hb b1 b2 b3=>a3.keep b o hb b1 (by simp) b3,a3.slot⟩
 | some T =>
  obtain⟨h1,hne,oT,ts,hT,hdT,h3⟩:=hn
  refine wpAny_bind (wpAny_field he hd h1 ?_)
  rw[if_pos (show (Value.ref T != Value.none)=true from by simp)]
  refine wpAny_bind (wpAny_field hT hdT h3 ?_)
  rw[if_neg (show ¬ ((Value.none == rawInt L)=true) from by simp [rawInt])]
  refine wpAny_bind (wpAny_setField hT hdT (qeC h3) ?_)
  have ot:∀ b,b≠T→(s.heap.update T (Obj.mapFields (·.setIfInBounds 3 Value.none))).get? b=s.heap.get? b:=fun b hb=>Heap.get?_update_other _ _ (Ne.symm hb)
  have nr:∀ b o,s.heap.get? b=some o→(∀ vs,o.data≠.fields vs)→b≠T:=fun b o hb hf z=>by
   rw[z,hT] at hb
   cases hb
   exact hf ts hdT
  have hT':=Heap.get?_update_self (Obj.mapFields (·.setIfInBounds 3 Value.none)) hT (Obj.isFreed_of_fields (Obj.data_mapFields hdT _))
  refine qig (s:={ s with heap:=s.heap.update T (Obj.mapFields (·.setIfInBounds 3 Value.none)) }) hfr (hl.of_keeps fun b o hb hf=>⟨o,(ot b (nr b o hb hf)).trans hb,rfl⟩) hf ((ot e (Ne.symm hne)).trans he) hd hc hx (qeC h1) fun h' T' a1 a2 a3=>k h' T' a1 ?_ ⟨fun b o hb b1 b2 b3=>?_,fun b o hb b3=>?_⟩
  ·have a2:(s.heap.update T (Obj.mapFields (·.setIfInBounds 3 Value.none))).objs.size≤T':=a2
   rw[Heap.size_after_update] at a2
   exact a2
  ·exact a3.keep b o ((ot b (fun z=>b2 (by rw[z]))).trans hb) b1 (by simp) b3
  ·refine a3.slot b o ((ot b (nr b o hb ?_)).trans hb) b3
   obtain⟨_,o',ho',hnf⟩:=hl.mem b3
   rw[hb] at ho'
   cases ho'
   exact hnf
theorem qjZ {T:Addr}{fl cls:Value}{dx:Option Addr}{Q:Unit→Shared→Prop}(F:Fly s.heap e (some T) fl cls dx)
  (k:∀ h',Fly h' e (some T) .none cls dx→(∀ b o,s.heap.get? b=some o→b≠T→h'.get? b=some o)→(∀ b,s.heap.get? b=none→h'.get? b=none)→Q () { s with heap:=h' }):wpAny M A (setFlight (.ref e) none) Q E s:=by
 obtain⟨oe,vs,he,hd,hc,hx,h1,hne,oT,ts,hT,hdT,h3⟩:=F.ex
 have ot:∀ b,b≠T→(s.heap.update T (Obj.mapFields (·.setIfInBounds 3 ((none:Option Addr).elim Value.none fun f=>rawInt f)))).get? b=s.heap.get? b:=fun b hb=>Heap.get?_update_other _ _ (Ne.symm hb)
 unfold setFlight
 refine wpAny_bind (wpAny_field he hd h1 ?_)
 rw[if_pos (show (Value.ref T != Value.none)=true from by simp)]
 have d3:=Obj.data_mapFields hdT (·.setIfInBounds 3 ((none:Option Addr).elim Value.none fun f=>rawInt f))
 refine wpAny_setField hT hdT (qeC h3) (k _ ⟨oe,vs,(ot e (Ne.symm hne)).trans he,hd,hc,hx,h1,hne,_,_,Heap.get?_update_self _ hT (Obj.isFreed_of_fields d3),d3,by simp [qeC h3]⟩ (fun b o hb b1=>(ot b b1).trans hb) fun b hb=>?_)
 rw[ot b (fun z=>by rw[z,hT] at hb;cases hb)]
 exact hb
theorem qmX {T:Option Addr}{cls:Value}{dx:Option Addr}{Q:Unit→Shared→Prop}(hfr:A.frames=some (env::outer))(hl:s.heap.FunFrames base (env::outer))(hf:env.frame=some L)(F:Fly s.heap e T .none cls dx)
  (k:∀ h' T',Fly h' e (some T') .none cls dx→s.heap.objs.size≤T'→Kept (frs (env::outer)) e T s.heap h'→Q () { s with heap:=h' }):wpAny M A (leaving env (.ref e)) Q E s:=by
 unfold leaving
 refine wpAny_bind (qmg hfr hl hf F fun h1 T' F1 n1 k1=>?_)
 refine qjZ (s:={ s with heap:=h1 }) F1 fun h2 F2 k2 n2=>?_
 have hT:∀ b o,s.heap.get? b=some o→b≠T':=fun b o hb z=>absurd (Heap.lt_size (z ▸ hb:s.heap.get? T'=some o)) (Nat.not_lt.mpr n1)
 refine k h2 T' F2 n1 ⟨fun b o hb b1 b2 b3=>k2 b o (k1.keep b o hb b1 b2 b3) (hT b o hb),fun b o hb b3=>?_⟩
 obtain⟨sl,hs⟩:=k1.slot b o hb b3
 exact⟨sl,k2 b _ hs (hT b o hb)⟩
end
structure XD where
 nm:Str
 at_:Option D
def XAt (K:PySem.W.Frag)(H:Hp)(at_:Option D)(dx:Option Addr):Prop:=match at_ with
 | none=>dx=none
 | some d=>∃ p v,dx=some p∧H p=some (.xd [("at",v)])∧Rp K (fun _=>none) d v
structure XSt (X:Cx)(pins:List (Addr × Obj))(σ:St)(H:Hp)(xd:XD)(e:Value)(s:Shared):Prop where
 inv:Inv X pins σ H s
 ex:∃ (ea C:Addr) (T dx:Option Addr),e=.ref ea∧Fly s.heap ea T .none (.ref C) dx∧X.mg xd.nm=some (.ref C)∧XAt X.K H xd.at_ dx∧(X.s₀.heap.get? ea=none∧H ea=none∧∀ p∈X.pn++pins,p.1≠ea)∧∀ T',T=some T'→X.s₀.heap.get? T'=none∧H T'=none∧∀ p∈X.pn++pins,p.1≠T'
def XeOk (K:PySem.W.Frag)(X:Cx)(Φ0 H0:Hp)(Rx:XD→qaN→Prop):Prop:=∀ xd ρ' Φ' H' σ' e s' pins,Rx xd ρ'→Gr Φ0 H0 Φ' H'→EnvM K H0 Φ' H' σ' ρ'→XSt X pins σ' H' xd e s'→X.xe e s'
structure StM (K:PySem.W.Frag)(X:Cx)(Φ0 H0 Φ H:Hp)(σ τ:St)(ρ κ:qaN)(Rx:XD→qaN→Prop):Prop where
 g:Gr Φ0 H0 Φ H
 l:ρ.length=σ.length
 E:EnvM K H0 Φ H (σ++τ) (ρ++κ)
 x:XeOk K X Φ0 H0 Rx
inductive Ar where | t (s:Sm) | s (i:Nat)
abbrev TX:=qaN→(Sm→qaN→Prop)→(XD→qaN→Prop)→Prop
abbrev TXB:=qaN→(Bool→qaN→Prop)→(XD→qaN→Prop)→Prop
abbrev TXA:=qaN→(List Ar→qaN→Prop)→(XD→qaN→Prop)→Prop
def tsm (as:List Ar):qaN:=as.filterMap fun a=>match a with | .t s=>some (some s) | .s _=>none
inductive ArV (σ:St):List Ar→List V→St→Prop where
 | nil:ArV σ [] [] []
 | t {s:Sm} {v:V} {as:List Ar} {vs:List V} {ts:St}:ArV σ as vs ts→ArV σ (.t s::as) (v::vs) (some v::ts)
 | s {i:Nat} {v:V} {as:List Ar} {vs:List V} {ts:St}:σ[i]?=some (some v)→ArV σ as vs ts→ArV σ (.s i::as) (v::vs) ts
def lXm (K:PySem.W.Frag)(X:Cx)(t:TX):TE:=fun σ H Q=>∃ Φ0 H0 Φ τ ρ κ R Rx,StM K X Φ0 H0 Φ H σ τ ρ κ Rx∧t ρ R Rx∧∀ sm ρ' Φ' H' v,R sm ρ'→StM K X Φ0 H0 Φ' H' σ (τ++[some v]) ρ' (κ++[some sm]) Rx→Same Φ Φ'→Q v H'
def lXb (K:PySem.W.Frag)(X:Cx)(t:TXB):TT:=fun σ H Q=>∃ Φ0 H0 Φ τ ρ κ R Rx,StM K X Φ0 H0 Φ H σ τ ρ κ Rx∧t ρ R Rx∧∀ b ρ' Φ' H',R b ρ'→StM K X Φ0 H0 Φ' H' σ τ ρ' κ Rx→Same Φ Φ'→Q b H'
def lXa (K:PySem.W.Frag)(X:Cx)(n:Nat)(t:TXA):TA:=fun σ H Q=>∃ Φ0 H0 Φ τ ρ κ R Rx,StM K X Φ0 H0 Φ H σ τ ρ κ Rx∧t ρ R Rx∧∀ as ρ' Φ' H' vs ts,R as ρ'→as.length=n→ArV σ as vs ts→StM K X Φ0 H0 Φ' H' σ (τ++ts) ρ' (κ++tsm as) Rx→Same Φ Φ'→Q vs H'
structure PX (K:PySem.W.Frag)(X:Cx)(e:Expr)(t:TX):Prop where pe:X.K=K→PE X e (lXm K X t)
structure PXB (K:PySem.W.Frag)(X:Cx)(e:Expr)(t:TXB):Prop where pt:X.K=K→PT X e (lXb K X t)
structure PXW (K:PySem.W.Frag)(X:Cx)(e:Expr)(t:TXB):Prop where pw:X.K=K→PW X e (lXb K X t)
structure PXA (K:PySem.W.Frag)(X:Cx)(es:List Expr)(t:TXA):Prop where pa:X.K=K→PA X es (lXa K X es.length t)
section
variable {K : PySem.W.Frag} {X : Cx} {Φ0 H0 Φ Φ' H H' : Hp} {σ τ ts : St} {ρ κ ks : qaN} {Rx : XD → qaN → Prop} {d : D} {v : V} {sm : Sm}
theorem StM.gr (S:StM K X Φ0 H0 Φ H σ τ ρ κ Rx)(g:Gr Φ H Φ' H'):StM K X Φ0 H0 Φ' H' σ τ ρ κ Rx:=⟨S.g.trans g,S.l,S.E.gr g,S.x⟩
theorem StM.env (S:StM K X Φ0 H0 Φ H σ τ ρ κ Rx):EnvM K H0 Φ H σ ρ:=S.E.take S.l
theorem StM.lk (S:StM K X Φ0 H0 Φ H σ τ ρ κ Rx):κ.length=τ.length:=by have:=S.E.len;rw[List.length_append,List.length_append] at this;have:=S.l;omega
theorem StM.pop (S:StM K X Φ0 H0 Φ H σ (τ++ts) ρ (κ++ks) Rx)(hl:κ.length=τ.length):StM K X Φ0 H0 Φ H σ τ ρ κ Rx:=⟨S.g,S.l,by
 have E:=S.E
 rw[← List.append_assoc,← List.append_assoc] at E
 exact E.take (by rw[List.length_append,List.length_append,S.l,hl]),S.x⟩
theorem StM.pushV (S:StM K X Φ0 H0 Φ H σ τ ρ κ Rx)(r:Rp K Φ d v):StM K X Φ0 H0 Φ H σ (τ++[some v]) ρ (κ++[some (.v d)]) Rx:=⟨S.g,S.l,by
 rw[← List.append_assoc,← List.append_assoc]
 exact S.E.snocV r,S.x⟩
theorem StM.pushO {o:Om}{p:Addr}{F:List Addr}(S:StM K X Φ0 H0 Φ H σ τ ρ κ Rx)(g:Gr Φ H Φ' H')(ho:OmS K Φ' H' o p F)(hf:∀ b∈F,H b=none∧Φ' b=none):StM K X Φ0 H0 Φ' H' σ (τ++[some (.ref p)]) ρ (κ++[some (.ob none o)]) Rx:=⟨S.g.trans g,S.l,by
 rw[← List.append_assoc,← List.append_assoc]
 exact S.E.snocO S.g.h g ho hf,S.x⟩
theorem StM.at (S:StM K X Φ0 H0 Φ H σ τ ρ κ Rx){i:Nat}(h:κ[i]?=some (some (.v d))):∃ v,τ[i]?=some (some v)∧Rp K Φ d v:=by
 have hi:=qak h
 obtain⟨v,e,r⟩:=S.E.sl (i:=ρ.length+i) (d:=d) (by rw[List.getElem?_append_right (by omega),Nat.add_sub_cancel_left];exact h)
 rw[S.l,List.getElem?_append_right (by omega),Nat.add_sub_cancel_left] at e
 exact⟨v,e,r⟩
theorem StM.last (S:StM K X Φ0 H0 Φ H σ (τ++[some v]) ρ (κ++[some (.v d)]) Rx):Rp K Φ d v:=by
 have hl:=S.lk
 rw[List.length_append,List.length_append] at hl
 have hl:κ.length=τ.length:=by simpa using hl
 obtain⟨u,e,r⟩:=S.at (i:=κ.length) (d:=d) (by rw[List.getElem?_append_right (Nat.le_refl _),Nat.sub_self];rfl)
 rw[hl,List.getElem?_append_right (Nat.le_refl _),Nat.sub_self] at e
 cases e
 exact r
theorem StM.last2 {e:D}{w:V}(S:StM K X Φ0 H0 Φ H σ ((τ++[some v])++[some w]) ρ ((κ++[some (.v d)])++[some (.v e)]) Rx):Rp K Φ d v∧Rp K Φ e w:=by
 refine⟨?_,S.last⟩
 have hl:=S.lk
 simp only [List.length_append,List.length_cons,List.length_nil] at hl
 have hl:κ.length=τ.length:=by omega
 exact (S.pop (by simp only [List.length_append,List.length_cons,List.length_nil];omega)).last
end
section
variable {K : PySem.W.Frag} {X : Cx} {e a b c : Expr} {es : List Expr} {pos p : Pos} {t ta tb : TX} {tA : TXA} {tt tu : TXB}
def xD (t:TD):TX:=fun ρ R _=>t (prR ρ) fun d=>R (.v d) ρ
theorem qaE {t:TD}(h:PD K X e t):PX K X e (xD t):=⟨fun hK=>(h.pe hK).imp fun σ H Q hq0=>by
 obtain⟨Φ0,H0,Φ,τ,ρ,κ,R,Rx,S,t,k⟩:=hq0
 exact⟨H0,Φ,prR ρ,_,S.env.toD,t,fun d Φ' H' v r g rv=>k _ ρ Φ' H' v r ((S.gr g).pushV rv) g.f⟩⟩
def xF (t:TDL):TX:=fun ρ R _=>t (prR ρ) fun ds=>R (.own ds) ρ
theorem qpf {t:TDL}(h:PF K X e t):PX K X e (xF t):=⟨fun hK=>(h.pe hK).imp fun σ H Q hq0=>by
 obtain⟨Φ0,H0,Φ,τ,ρ,κ,R,Rx,S,t,k⟩:=hq0
 exact⟨H0,Φ,prR ρ,_,S.env.toD,t,fun ds Φ' H' p vs r g h0 hn hp rr=>k _ ρ Φ' H' _ r (S.pushO g (.lst hp rr) fun b hb=>by rw[List.mem_singleton.mp hb];exact⟨h0,hn⟩) g.f⟩⟩
def xB (t:TDB):TXB:=fun ρ R _=>t (prR ρ) fun b=>R b ρ
theorem qbu {t:TDB}(h:PTD K X e t):PXB K X e (xB t):=⟨fun hK=>(h.pt hK).imp fun σ H Q hq0=>by
 obtain⟨Φ0,H0,Φ,τ,ρ,κ,R,Rx,S,t,k⟩:=hq0
 exact⟨H0,Φ,prR ρ,_,S.env.toD,t,fun b Φ' H' r g=>k b ρ Φ' H' r (S.gr g) g.f⟩⟩
def xV (k:D→qaN→Prop):Sm→qaN→Prop:=fun s ρ=>match s with | .v d=>k d ρ | _=>False
theorem xV.get {k:D→qaN→Prop}{s:Sm}{ρ:qaN}(h:xV k s ρ):∃ d,s=.v d∧k d ρ:=by
 cases s with
 | v d=>exact⟨d,rfl,h⟩
 | ob _ _=>exact h.elim
def xOp (r:RD2)(ta tb:TX):TX:=fun ρ R Rx=>ta ρ (xV fun x ρ1=>tb ρ1 (xV fun y ρ2=>r x y fun d=>R (.v d) ρ2) Rx) Rx
theorem qie {r:RD2}{σ:St}{H:Hp}{Q:VK}(h:lXm K X (xOp r ta tb) σ H Q):tOp (lR2 K r) (lXm K X ta) (lXm K X tb) σ H Q:=by
 obtain⟨Φ0,H0,Φ,τ,ρ,κ,R,Rx,S,t,k⟩:=h
 refine⟨Φ0,H0,Φ,τ,ρ,κ,_,Rx,S,t,fun s1 ρ1 Φ1 H1 v r1 S1 f1=>?_⟩
 obtain⟨x,rfl,r1⟩:=r1.get
 refine⟨Φ0,H0,Φ1,_,ρ1,_,_,Rx,S1,r1,fun s2 ρ2 Φ2 H2 w r2 S2 f2=>?_⟩
 obtain⟨y,rfl,r2⟩:=r2.get
 obtain⟨rx,ry⟩:=S2.last2
 refine⟨Φ2,x,y,_,S2.g.s,.inl rx,.inl ry,r2,fun d Φ' H' u rd g ru=>?_⟩
 rw[List.append_assoc,List.append_assoc] at S2
 exact k _ ρ2 Φ' H' u rd (((S2.pop S.lk).gr g).pushV ru) ((f1.trans f2).trans g.f)
theorem qmF {op:Operator}{r:RD2}(ho:OpD K X (binaryOp op) r)(ha:PX K X a ta)(hb:PX K X b tb):PX K X (.BinOp a op b pos) (xOp r ta tb) :=
 ⟨fun hK=>(qow (ho.o hK) (ha.pe hK) (hb.pe hK)).imp fun _ _ _=>qie⟩
def xBl (t:TX):TXB:=fun ρ R Rx=>t ρ (xV fun d ρ1=>match d with | .bl b=>R b ρ1 | _=>False) Rx
theorem qil {r:RD2}{σ:St}{H:Hp}{Q:Bool→Hp→Prop}(h:lXb K X (xBl (xOp r ta tb)) σ H Q):qna (tOp (lR2 K r) (lXm K X ta) (lXm K X tb)) σ H Q:=by
 obtain⟨Φ0,H0,Φ,τ,ρ,κ,R,Rx,S,t,k⟩:=h
 refine qie ⟨Φ0,H0,Φ,τ,ρ,κ,_,Rx,S,t,fun s1 ρ1 Φ1 H1 v r1 S1 f1=>?_⟩
 obtain⟨x,rfl,r1⟩:=r1.get
 have rx:=S1.last
 cases x with
 | bl b=>cases rx;exact⟨b,rfl,k b ρ1 Φ1 H1 r1 (S1.pop S.lk) f1⟩
 | _=>exact r1.elim
theorem qn8 {op:CmpOp}{r:RD2}(ho:OpD K X (compareOp op) r)(ha:PX K X a ta)(hb:PX K X b tb)(hm:behindInMarks op b=false):PXB K X (.Compare a [op] [b] pos) (xBl (xOp r ta tb)) :=
 ⟨fun hK=>(qjf (ho.o hK) (ha.pe hK) (hb.pe hK) hm).imp fun _ _ _=>qil⟩
def qrD (t u:TXB):TXB:=fun ρ R Rx=>t ρ (fun c ρ1=>(c=true→u ρ1 R Rx)∧(c=false→R false ρ1)) Rx
def xOr (t u:TXB):TXB:=fun ρ R Rx=>t ρ (fun c ρ1=>(c=true→R true ρ1)∧(c=false→u ρ1 R Rx)) Rx
theorem PXW.toB (h:PXW K X e tt):PXB K X e tt:=⟨fun hK=>(h.pw hK).pt⟩
theorem qnr (ha:PXB K X a tt):PXW K X (.BoolOp .And [a] pos) tt:=⟨fun hK=>qi0 (ha.pt hK)⟩
theorem qoH (ha:PXB K X a tt):PXW K X (.BoolOp .Or [a] pos) tt:=⟨fun hK=>qlT (ha.pt hK)⟩
theorem qou (ha:PXB K X a tt)(hb:PXW K X (.BoolOp .And (b::es) pos) tu):PXW K X (.BoolOp .And (a::b::es) pos) (qrD tt tu) :=
 ⟨fun hK=>(ql2 (ha.pt hK) (hb.pw hK)).imp fun σ H Q hq0=>by
  obtain⟨Φ0,H0,Φ,τ,ρ,κ,R,Rx,S,t,k⟩:=hq0
  refine⟨Φ0,H0,Φ,τ,ρ,κ,_,Rx,S,t,fun c ρ1 Φ1 H1 r1 S1 f1=>?_⟩
  cases c with
  | true=>rw[if_pos rfl];exact⟨Φ0,H0,Φ1,τ,ρ1,κ,R,Rx,S1,r1.1 rfl,fun b ρ' Φ' H' rb S' f'=>k b ρ' Φ' H' rb S' (f1.trans f')⟩
  | false=>rw[if_neg (by decide)];exact k _ ρ1 Φ1 H1 (r1.2 rfl) S1 f1⟩
theorem qqw (ha:PXB K X a tt)(hb:PXW K X (.BoolOp .Or (b::es) pos) tu):PXW K X (.BoolOp .Or (a::b::es) pos) (xOr tt tu) :=
 ⟨fun hK=>(qn1 (ha.pt hK) (hb.pw hK)).imp fun σ H Q hq0=>by
  obtain⟨Φ0,H0,Φ,τ,ρ,κ,R,Rx,S,t,k⟩:=hq0
  refine⟨Φ0,H0,Φ,τ,ρ,κ,_,Rx,S,t,fun c ρ1 Φ1 H1 r1 S1 f1=>?_⟩
  cases c with
  | true=>rw[if_pos rfl];exact k _ ρ1 Φ1 H1 (r1.1 rfl) S1 f1
  | false=>rw[if_neg (by decide)];exact⟨Φ0,H0,Φ1,τ,ρ1,κ,R,Rx,S1,r1.2 rfl,fun b ρ' Φ' H' rb S' f'=>k b ρ' Φ' H' rb S' (f1.trans f')⟩⟩
def qpQ:TXA:=fun ρ R _=>R [] ρ
def qob (t:TX)(u:TXA):TXA:=fun ρ R Rx=>t ρ (fun s ρ1=>u ρ1 (fun as ρ2=>R (.t s::as) ρ2) Rx) Rx
def qpo (i:Nat)(u:TXA):TXA:=fun ρ R Rx=>u ρ (fun as ρ2=>R (.s i::as) ρ2) Rx
theorem qax:PXA K X [] qpQ:=⟨fun _=>pa_nil.imp fun σ H Q hq0=>by
 obtain⟨Φ0,H0,Φ,τ,ρ,κ,R,Rx,S,t,k⟩:=hq0
 exact k [] ρ Φ H [] [] t rfl .nil (by rw[List.append_nil,show tsm []=[] from rfl,List.append_nil];exact S) (Same.refl _)⟩
theorem qai (ha:PX K X e t)(hr:PXA K X es tA)(hs:starEach (e::es) X.env=(false,eval e X.env)::starEach es X.env):PXA K X (e::es) (qob t tA) :=
 ⟨fun hK=>(qbg (ha.pe hK) (hr.pa hK) hs).imp fun σ H Q hq0=>by
  obtain⟨Φ0,H0,Φ,τ,ρ,κ,R,Rx,S,t,k⟩:=hq0
  refine⟨Φ0,H0,Φ,τ,ρ,κ,_,Rx,S,t,fun s1 ρ1 Φ1 H1 v r1 S1 f1=>?_⟩
  refine⟨Φ0,H0,Φ1,_,ρ1,_,_,Rx,S1,r1,fun as ρ2 Φ2 H2 vs ts r2 hl hv S2 f2=>?_⟩
  refine k _ ρ2 Φ2 H2 (v::vs) (some v::ts) r2 (by rw[List.length_cons,List.length_cons,hl]) (.t hv) ?_ (f1.trans f2)
  rw[List.append_assoc,List.append_assoc] at S2
  exact S2⟩
theorem qav (i:Nat){x:Str}(hr:PXA K X es tA)(hs:starEach (.Name x pos::es) X.env=(false,eval (.Name x pos) X.env)::starEach es X.env)(hN:X.N[i]?=some x:=by rfl)(hv:Vis X.env.scope x:=by first | exact Or.inl rfl | exact Or.inr (Or.inl rfl) | exact Or.inr (Or.inr rfl))(hd:(x == ("__debug__":Str))=false:=by decide)
  (hcd:(x == ("__classdict__":Str))=false:=by decide):PXA K X (.Name x pos::es) (fun ρ R Rx=>(∃ a o,ρ[i]?=some (some (.ob a o)))∧qpo i tA ρ R Rx) :=
 ⟨fun hK=>(qbg (pv i hN hv hd hcd) (hr.pa hK) hs).imp fun σ H Q hq0=>by
  obtain⟨Φ0,H0,Φ,τ,ρ,κ,R,Rx,S,⟨⟨a,o,ho⟩,t⟩,k⟩:=hq0
  obtain⟨fp,E⟩:=S.env
  obtain⟨q,e,_⟩:=E.ow i a o ho
  refine⟨_,e,Φ0,H0,Φ,τ,ρ,κ,_,Rx,S,t,fun as ρ2 Φ2 H2 vs ts r2 hl hv S2 f2=>?_⟩
  exact k _ ρ2 Φ2 H2 (.ref q::vs) ts r2 (by rw[List.length_cons,List.length_cons,hl]) (.s e hv) S2 f2⟩
def arD:List Ar→Option (List D)
 | []=>some []
 | .t (.v d)::as=>(arD as).map (d::·)
 | _=>none
def xaD (k:List D→qaN→Prop):List Ar→qaN→Prop:=fun as ρ=>match arD as with | some ds=>k ds ρ | none=>False
theorem xaD.get {k:List D→qaN→Prop}{as:List Ar}{ρ:qaN}(h:xaD k as ρ):∃ ds,arD as=some ds∧k ds ρ:=by
 unfold xaD at h
 split at h
 ·next ds e=>exact⟨ds,e,h⟩
 ·exact h.elim
theorem qft:∀ {as:List Ar} {ds:List D},arD as=some ds→tsm as=ds.map (fun d=>some (.v d))∧as.length=ds.length
 | [],ds,h=>by cases h;exact⟨rfl,rfl⟩
 | .t (.v d)::as,ds,h=>by
  have h':(arD as).map (d::·)=some ds:=h
  cases e:arD as with
  | none=>rw[e] at h';cases h'
  | some es =>
   rw[e] at h'
   cases h'
   obtain⟨h1,h2⟩:=qft e
   exact⟨by show some (Sm.v d)::tsm as=_;rw[h1];rfl,by rw[List.length_cons,List.length_cons,h2]⟩
 | .t (.ob _ _)::_,_,h=>by cases h
 | .s _::_,_,h=>by cases h
theorem qhZ {σ:St}:∀ {as:List Ar} {ds:List D} {vs:List V} {ts:St},arD as=some ds→ArV σ as vs ts→ts=vs.map some
 | [],_,_,_,_,.nil=>rfl
 | .t (.v d)::as,ds,_,_,h,.t hv=>by
  have h':(arD as).map (d::·)=some ds:=h
  cases e:arD as with
  | none=>rw[e] at h';cases h'
  | some es=>rw[qhZ e hv];rfl
theorem StM.vals {Φ0 H0 Φ H:Hp}{σ τ ts:St}{ρ κ:qaN}{Rx:XD→qaN→Prop}{as:List Ar}{ds:List D}{vs:List V}(S:StM K X Φ0 H0 Φ H σ (τ++ts) ρ (κ++tsm as) Rx)(hl:κ.length=τ.length)(hd:arD as=some ds)(hv:ArV σ as vs ts):RpL K Φ ds vs:=by
 have e1:=qhZ hd hv
 obtain⟨e2,e3⟩:=qft hd
 have hlen:vs.length=ds.length:=by
  have:=S.lk
  rw[List.length_append,List.length_append,e1,e2,List.length_map,List.length_map] at this
  omega
 refine⟨hlen,fun i v d hv' hd'=>?_⟩
 obtain⟨w,hw,r⟩:=S.at (i:=κ.length+i) (d:=d) (by rw[List.getElem?_append_right (by omega),Nat.add_sub_cancel_left,e2,List.getElem?_map,hd'];rfl)
 rw[hl,List.getElem?_append_right (by omega),Nat.add_sub_cancel_left,e1,List.getElem?_map,hv'] at hw
 cases hw
 exact r
def qrW (t:TXA):TX:=fun ρ R Rx=>t ρ (xaD fun ds ρ1=>R (.v (.tup ds)) ρ1) Rx
theorem qi5 {x1}(h:PXA K X es tA)(hes:Nat.ble es.length 1000=true:=by rfl):PX K X (.Tuple es x1 pos) (qrW tA) :=
 ⟨fun hK=>(qku (h.pa hK)).imp fun σ H Q hq0=>by
  obtain⟨Φ0,H0,Φ,τ,ρ,κ,R,Rx,S,t,k⟩:=hq0
  refine⟨Φ0,H0,Φ,τ,ρ,κ,_,Rx,S,t,fun as ρ1 Φ1 H1 vs ts r1 hl hv S1 f1=>?_⟩
  obtain⟨ds,hd,r1⟩:=r1.get
  have rl:=S1.vals S.lk hd hv
  refine⟨by rw[rl.1,← (qft hd).2,hl];exact qhQ hes,fun p hp=>?_⟩
  have g:=Gr.new S1.g.s hp (.tup vs)
  exact k _ ρ1 _ _ _ r1 (((S1.pop S.lk).gr g).pushV ((rl.same (qaK (S1.g.s.free hp) _)).tup qaj)) (f1.trans g.f)⟩
def qrB (t:TXA):TX:=fun ρ R Rx=>t ρ (xaD fun ds ρ1=>R (.own ds) ρ1) Rx
theorem qnW (h:PXA K X es tA)(hes:Nat.ble es.length 1000=true:=by rfl):PX K X (.List es pos) (qrB tA) :=
 ⟨fun hK=>(qmb (h.pa hK)).imp fun σ H Q hq0=>by
  obtain⟨Φ0,H0,Φ,τ,ρ,κ,R,Rx,S,t,k⟩:=hq0
  refine⟨Φ0,H0,Φ,τ,ρ,κ,_,Rx,S,t,fun as ρ1 Φ1 H1 vs ts r1 hl hv S1 f1=>?_⟩
  obtain⟨ds,hd,r1⟩:=r1.get
  have rl:=S1.vals S.lk hd hv
  refine⟨by rw[rl.1,← (qft hd).2,hl];exact qhQ hes,fun p hp=>?_⟩
  have g:=Gr.fresh S1.g.s hp (.lst vs)
  exact k _ ρ1 _ _ _ r1 ((S1.pop S.lk).pushO g (.lst qaj rl) fun b hb=>by rw[List.mem_singleton.mp hb];exact⟨hp,S1.g.s.free hp⟩) f1⟩
def xFz (t:TX):TX:=fun ρ R Rx=>t ρ (fun s ρ1=>match s with | .ob none (.lst ds)=>R (.v (.lst ds)) ρ1 | _=>False) Rx
theorem StM.fzl {Φ0 H0 Φ H:Hp}{σ τ:St}{ρ κ:qaN}{Rx:XD→qaN→Prop}{v:V}{ds:List D}(S:StM K X Φ0 H0 Φ H σ (τ++[some v]) ρ (κ++[some (.ob none (.lst ds))]) Rx):∃ Φ',StM K X Φ0 H0 Φ' H σ (τ++[some v]) ρ (κ++[some (.v (.lst ds))]) Rx∧Same Φ Φ':=by
 have hk:κ.length=τ.length:=by have:=S.lk;rw[List.length_append,List.length_append] at this;simpa using this
 obtain⟨fp,E⟩:=S.E
 have hat:(ρ++(κ++[some (Sm.ob none (.lst ds))]))[ρ.length+κ.length]?=some (some (.ob none (.lst ds))):=by rw[← List.append_assoc,List.getElem?_append_right (by rw[List.length_append];omega),List.length_append,Nat.sub_self];rfl
 obtain⟨p,e,_,r⟩:=E.ow _ _ _ hat
 have hp:=r.mem
 have no:=E.no _ _ _ hat
 have ev:v=.ref p:=by
  rw[← List.append_assoc,List.getElem?_append_right (by rw[List.length_append,S.l];omega),List.length_append,S.l,hk,Nat.sub_self] at e
  cases e;rfl
 subst ev
 obtain⟨_,vs,h1,h2⟩:=r.lst_inv
 next =>
  have hn:=(no p hp).2
  have h0:=(no p hp).1
  have s1:=qaK hn (.lst vs)
  refine⟨upd Φ p (.lst vs),⟨S.g.freeze h0 hn h1,S.l,?_,S.x⟩,s1⟩
  have E0:EnvM K H0 (upd Φ p (.lst vs)) H (σ++τ) (ρ++κ):=by
   refine⟨fp,fun b u eb=>?_,by rw[List.length_append,List.length_append,S.l,hk],fun j d hd=>?_,fun j a o ho=>?_,fun j a o ho b hb=>?_,fun j k a a' o o' hj hk' c=>?_,E.tb.same s1⟩
   ·by_cases c:b=p
    ·subst c;rw[qaj] at eb;cases eb;exact h1
    ·rw[qal c] at eb;exact E.fz b u eb
   ·have hj:=qak hd
    obtain⟨w,hw,rw'⟩:=E.sl j d (by rw[← List.append_assoc,List.getElem?_append_left hj];exact hd)
    rw[← List.append_assoc,List.getElem?_append_left (by rw[List.length_append] at hj ⊢;have:=S.l;omega)] at hw
    exact⟨w,hw,rw'.same s1⟩
   ·have hj:=qak ho
    obtain⟨w,hw,ha,rw'⟩:=E.ow j a o (by rw[← List.append_assoc,List.getElem?_append_left hj];exact ho)
    rw[← List.append_assoc,List.getElem?_append_left (by rw[List.length_append] at hj ⊢;have:=S.l;omega)] at hw
    exact⟨w,hw,ha,rw'.keep s1 fun _ _ _ h=>h⟩
   ·have hj:=qak ho
    have ho':(ρ++(κ++[some (Sm.ob none (.lst ds))]))[j]?=some (some (.ob a o)):=by rw[← List.append_assoc,List.getElem?_append_left hj];exact ho
    have c:b≠p:=fun z=>E.dj j _ a _ o _ ho' hat (by rw[List.length_append] at hj;omega) b hb (by rw[z];exact hp)
    rw[qal c]
    exact E.no j a o ho' b hb
   ·have hj1:=qak hj
    have hk1:=qak hk'
    exact E.dj j k a a' o o' (by rw[← List.append_assoc,List.getElem?_append_left hj1];exact hj) (by rw[← List.append_assoc,List.getElem?_append_left hk1];exact hk') c
  rw[← List.append_assoc,← List.append_assoc]
  exact E0.snocV ((h2.same s1).lst qaj)
theorem qrr (h:PX K X e t):PX K X e (xFz t):=⟨fun hK=>(h.pe hK).imp fun σ H Q hq0=>by
 obtain⟨Φ0,H0,Φ,τ,ρ,κ,R,Rx,S,t,k⟩:=hq0
 refine⟨Φ0,H0,Φ,τ,ρ,κ,_,Rx,S,t,fun s1 ρ1 Φ1 H1 v r1 S1 f1=>?_⟩
 split at r1
 ·next ds =>
  obtain⟨Φ2,S2,f2⟩:=S1.fzl
  exact k _ ρ1 Φ2 H1 v r1 S2 (f1.trans f2)
 ·exact r1.elim⟩
def qn6 (r:SpD)(t:TXA):TX:=fun ρ R Rx=>t ρ (xaD fun ds ρ1=>r ds fun d=>R (.v d) ρ1) Rx
theorem qnJ {n:Nat}{x:Str}{ps:List Str}{z:SpD}(C:Cl X.prog X.w K X.mg X.base n x ps z)(hr:Room n X.A)(hg:Gl X x)
  (ha:PXA K X (e::es) tA) (he:starEach (e::es) X.env=(false,eval e X.env)::starEach es X.env) (hpl:(backTo pos (starEach es X.env)).any (·.1)=false) (hdb:(x == ("__debug__":Str))=false:=by decide) :
  PX K X (.Call (.Name x p) (e::es) [] pos) (qn6 z tA):=⟨fun hK=>by
 obtain⟨f,fd,F,b,k,m⟩:=C.ex
 refine (qhd (dvs:=[]) (ds:=[]) (E:=E0) (hK ▸ F:FnOk X.prog X.w X.K X.mg X.base CX0 n f fd ps (lSp K z)) hr hg m (hK ▸ k) (hK ▸ b) .nil qmG (ha.pa hK) hdb he hpl).imp fun σ H Q hq0=>?_
 obtain⟨Φ0,H0,Φ,τ,ρ,κ,R,Rx,S,t,k⟩:=hq0
 refine⟨Φ0,H0,Φ,τ,ρ,κ,_,Rx,S,t,fun as ρ1 Φ1 H1 vs ts r1 hl hv S1 f1=>?_⟩
 obtain⟨ds,hd,r1⟩:=r1.get
 have rl:=S1.vals S.lk hd hv
 exact⟨Φ1,ds,_,S1.g.s,S1.E.tb,by rw[List.append_nil];exact rl,r1,fun d Φ' H' v rd g rv=>k _ ρ1 Φ' H' v rd (((S1.pop S.lk).gr g).pushV rv) (f1.trans g.f)⟩⟩
end
def qcn (H:Hp)(B:List Addr):Hp:=fun b=>if b∈B then none else H b
theorem qlh {H:Hp}{B:List Addr}{b:Addr}(h:b∈B):qcn H B b=none:=if_pos h
theorem qbV {H:Hp}{B:List Addr}{b:Addr}(h:b∉B):qcn H B b=H b:=if_neg h
theorem qiP {H:Hp}{B:List Addr}{b:Addr}{u:HO}(h:qcn H B b=some u):b∉B∧H b=some u:=by
 unfold qcn at h
 split at h
 ·cases h
 ·next c=>exact⟨c,h⟩
theorem qim {H:Hp}{B:List Addr}:Same (qcn H B) H:=fun b u e=>(qiP e).2
abbrev SpM:=List Sm→(Sm→List Om→Prop)→(XD→List Om→Prop)→Prop
inductive ArgM (K:PySem.W.Frag) (Φ H:Hp):List Sm→List V→List (List Addr)→Prop where
 | nil:ArgM K Φ H [] [] []
 | v {d:D} {v:V} {as:List Sm} {vs:List V} {Fs:List (List Addr)}:Rp K Φ d v→ArgM K Φ H as vs Fs→ArgM K Φ H (.v d::as) (v::vs) ([]::Fs)
 | o {a:Option Addr} {o:Om} {p:Addr} {F:List Addr} {as:List Sm} {vs:List V} {Fs:List (List Addr)}:OmS K Φ H o p F→ArgM K Φ H as vs Fs→ArgM K Φ H (.ob a o::as) (.ref p::vs) (F::Fs)
inductive OutM (K:PySem.W.Frag) (Φ H:Hp):List Sm→List V→List Om→List (List Addr)→Prop where
 | nil:OutM K Φ H [] [] [] []
 | v {d:D} {v:V} {as:List Sm} {vs:List V} {os:List Om} {Fs:List (List Addr)}:OutM K Φ H as vs os Fs→OutM K Φ H (.v d::as) (v::vs) os ([]::Fs)
 | o {a:Option Addr} {o o':Om} {p:Addr} {F:List Addr} {as:List Sm} {vs:List V} {os:List Om} {Fs:List (List Addr)}:OmS K Φ H o' p F→OutM K Φ H as vs os Fs→OutM K Φ H (.ob a o::as) (.ref p::vs) (o'::os) (F::Fs)
inductive ResM (K:PySem.W.Frag) (Φ H:Hp):Sm→V→List Addr→Prop where
 | v {d:D} {v:V}:Rp K Φ d v→ResM K Φ H (.v d) v []
 | o {a:Option Addr} {o:Om} {p:Addr} {F:List Addr}:(∀ q,a=some q→q=p)→OmS K Φ H o p F→ResM K Φ H (.ob a o) (.ref p) F
def qf2 (K:PySem.W.Frag)(sp:SpM):Sp:=fun vs H Q _=>∃ Φ as Fs R Rx,Same Φ H∧TabF K Φ∧ArgM K Φ H as vs Fs∧Fs.flatten.Nodup∧(∀ b∈Fs.flatten,Φ b=none)∧sp as R Rx ∧
 ∀ sm os Φ' H' v F Fs',R sm os→Gr Φ (qcn H Fs.flatten) Φ' H'→ResM K Φ' H' sm v F→OutM K Φ' H' as vs os Fs'→(F++Fs'.flatten).Nodup→(∀ b∈F++Fs'.flatten,qcn H Fs.flatten b=none∧Φ' b=none)→Q v H'
theorem OmS.nodup {K:PySem.W.Frag}{Φ H:Hp}{o:Om}{p:Addr}{F:List Addr}(h:OmS K Φ H o p F):F.Nodup:=by
 cases h with
 | lst _ _=>simp
 | map _ _=>simp
 | mpT _ _=>simp
 | obj _ _ _ h=>exact h
 | ptr=>exact .nil
 | tl _ _ h=>exact h
theorem ArgM.len {K:PySem.W.Frag}{Φ H:Hp}{as:List Sm}{vs:List V}{Fs:List (List Addr)}(h:ArgM K Φ H as vs Fs):vs.length=as.length∧Fs.length=as.length:=by
 induction h with
 | nil=>exact⟨rfl,rfl⟩
 | v _ _ ih=>exact⟨by simp [ih.1],by simp [ih.2]⟩
 | o _ _ ih=>exact⟨by simp [ih.1],by simp [ih.2]⟩
section
variable {K : PySem.W.Frag} {H0 H H' Φ Φ' Φ0 : Hp} {σ σ2 : St} {ρ ρ2 : qaN} {fp : Nat → List Addr} {F F' B : List Addr} {o o' : Om} {p : Addr} {d : D} {v : V} {i : Nat} {a : Option Addr}
def fpN (new:Nat→Option (Om × List Addr))(fp:Nat→List Addr):Nat→List Addr:=fun i=>match new i with | some q=>q.2 | none=>fp i
theorem EnvM'.lend {new:Nat→Option (Om × List Addr)}(E:EnvM' K H0 Φ H σ ρ fp)(s0:Same H0 H)(hB:∀ b,b∈B→∃ i a o q,new i=some q∧ρ[i]?=some (some (.ob a o))∧b∈fp i)(hB2:∀ i q,new i=some q→∀ b∈fp i,b∈B)(g:Gr Φ (qcn H B) Φ' H')
  (hl:ρ2.length=ρ.length) (hv:∀ (i:Nat) (d:D),ρ2[i]?=some (some (.v d))→ρ[i]?=some (some (.v d)))
  (ho:∀ (i:Nat) (a:Option Addr) (o:Om),ρ2[i]?=some (some (.ob a o))→(new i=none∧ρ[i]?=some (some (.ob a o)))∨∃ o0 F',new i=some (o,F')∧ρ[i]?=some (some (.ob a o0)))
  (hn:∀ (i:Nat) (q:Om × List Addr),new i=some q→∃ p,σ[i]?=some (some (.ref p))∧OmS K Φ' H' q.1 p q.2) (hF:∀ (i:Nat) (q:Om × List Addr),new i=some q→∀ b∈q.2,qcn H B b=none∧Φ' b=none)
  (hd:∀ (i j:Nat) (q r:Om × List Addr),new i=some q→new j=some r→i≠j→∀ b∈q.2,b∉r.2):EnvM' K H0 Φ' H' σ ρ2 (fpN new fp):=by
 have B0:∀ b∈B,H0 b=none:=fun b hb=>let ⟨i,a,o,_,_,h,hm⟩:=hB b hb;(E.no i a o h b hm).1
 have out:∀ {i:Nat} {a:Option Addr} {o:Om},new i=none→ρ[i]?=some (some (.ob a o))→∀ b∈fp i,b∉B:=fun {i a o} hi h b hb z=>by
  obtain⟨j,a',o2,q,hj,h2,hm⟩:=hB b z
  have c:i≠j:=fun e=>by rw[e,hj] at hi;cases hi
  exact E.dj i j a a' o o2 h h2 c b hb hm
 have fpn:∀ {i:Nat},new i=none→fpN new fp i=fp i:=fun h=>by unfold fpN;rw[h]
 have fps:∀ {i:Nat} {q:Om × List Addr},new i=some q→fpN new fp i=q.2:=fun h=>by unfold fpN;rw[h]
 refine⟨g.s,by rw[hl];exact E.len,fun i d h=>?_,fun i a o h=>?_,fun i a o h b hb=>?_,fun i j a a' o o' hi hj c b hb hb2=>?_,E.tb.same g.f⟩
 ·obtain⟨v,e,r⟩:=E.sl i d (hv i d h)
  exact⟨v,e,r.same g.f⟩
 ·rcases ho i a o h with⟨h1,h2⟩ | ⟨o0,F',h1,h2⟩
  ·obtain⟨p,e,ha,r⟩:=E.ow i a o h2
   refine⟨p,e,ha,?_⟩
   rw[fpn h1]
   exact r.keep g.f fun b hb u hu=>g.h b u (by rw[qbV (out h1 h2 b hb)];exact hu)
  ·obtain⟨p,e,ha,_⟩:=E.ow i a o0 h2
   obtain⟨p',e',r⟩:=hn i _ h1
   rw[e] at e'
   cases e'
   exact⟨p,e,ha,by rw[fps h1];exact r⟩
 ·rcases ho i a o h with⟨h1,h2⟩ | ⟨o0,F',h1,h2⟩
  ·rw[fpn h1] at hb
   obtain⟨p,_,_,r⟩:=E.ow i a o h2
   obtain⟨u,hu,k⟩:=r.at b hb
   exact⟨(E.no i a o h2 b hb).1,g.o b u (by rw[qbV (out h1 h2 b hb)];exact hu) (E.no i a o h2 b hb).2 k⟩
  ·rw[fps h1] at hb
   obtain⟨z1,z2⟩:=hF i _ h1 b hb
   refine⟨?_,z2⟩
   rcases Decidable.em (b∈B) with c | c
   ·exact B0 b c
   ·rw[qbV c] at z1
    cases e:H0 b with
    | none=>rfl
    | some u=>rw[s0 b u e] at z1;cases z1
 ·have no:∀ {i j:Nat} {q:Om × List Addr} {a:Option Addr} {o:Om},new i=some q→new j=none→ρ[j]?=some (some (.ob a o))→b∈q.2→b∈fp j→False:=fun {i j q a o} h1 h2 h3 h4 h5=>by
   obtain⟨p,_,_,r⟩:=E.ow j a o h3
   obtain⟨u,hu,_⟩:=r.at b h5
   have:=(hF i q h1 b h4).1
   rw[qbV (out h2 h3 b h5),hu] at this
   cases this
  rcases ho i a o hi with⟨h1,h2⟩ | ⟨o0,F',h1,h2⟩
  ·rw[fpn h1] at hb
   rcases ho j a' o' hj with⟨k1,k2⟩ | ⟨o1,F1,k1,k2⟩
   ·rw[fpn k1] at hb2
    exact E.dj i j a a' o o' h2 k2 c b hb hb2
   ·rw[fps k1] at hb2
    exact no k1 h1 h2 hb2 hb
  ·rw[fps h1] at hb
   rcases ho j a' o' hj with⟨k1,k2⟩ | ⟨o1,F1,k1,k2⟩
   ·rw[fpn k1] at hb2
    exact no h1 k1 k2 hb hb2
   ·rw[fps k1] at hb2
    exact hd i j _ _ h1 k1 c b hb hb2
theorem Gr.lend (g0:Gr Φ0 H0 Φ H)(g:Gr Φ (qcn H B) Φ' H')(B0:∀ b∈B,H0 b=none):Gr Φ0 H0 Φ' H':=by
 have up:∀ {b:Addr} {u:HO},H0 b=some u→qcn H B b=some u:=fun {b u} e=>by
  rw[qbV fun z=>by rw[B0 b z] at e;cases e]
  exact g0.h b u e
 exact⟨g0.f.trans g.f,fun b u e=>g.h b u (up e),g.s,fun b u h1 h2 k=>g.o b u (up h1) (g0.o b u h1 h2 k) k⟩
theorem EnvM'.snocG (E:EnvM' K H0 Φ H σ ρ fp){sm:Sm}(hr:ResM K Φ H sm v F)(hf:∀ b∈F,H0 b=none∧Φ b=none)(hd:∀ b∈F,∀ (i:Nat) (a:Option Addr) (o:Om),ρ[i]?=some (some (.ob a o))→b∉fp i):EnvM K H0 Φ H (σ++[some v]) (ρ++[some sm]):=by
 cases hr with
 | v r=>exact EnvM.snocV ⟨fp,E⟩ r
 | @o a0 o p F ha0 ho =>
  have cs:∀ {i:Nat} {x:Sm},(ρ++[some (Sm.ob a0 o)])[i]?=some (some x)→(i<ρ.length∧ρ[i]?=some (some x))∨(i=ρ.length∧x=.ob a0 o):=fun {i x} h=>by
   rcases Nat.lt_or_ge i ρ.length with c | c
   ·rw[List.getElem?_append_left c] at h
    exact .inl ⟨c,h⟩
   ·rw[List.getElem?_append_right c] at h
    cases e:i - ρ.length with
    | zero=>rw[e] at h;cases h;exact .inr ⟨by omega,rfl⟩
    | succ n=>rw[e] at h;cases h
  refine⟨fun i=>if i=ρ.length then F else fp i,E.fz,by rw[List.length_append,List.length_append,E.len];rfl,fun i d h=>?_,fun i a o' h=>?_,fun i a o' h b hb=>?_,fun i j a a' o1 o2 hi hj c b hb hb2=>?_,E.tb⟩
  ·rcases cs h with⟨c,h⟩ | ⟨_,h⟩
   ·obtain⟨v,e,r⟩:=E.sl i d h
    exact⟨v,by rw[List.getElem?_append_left (by rw[E.len];exact c)];exact e,r⟩
   ·cases h
  ·rcases cs h with⟨c,h⟩ | ⟨c,h⟩
   ·obtain⟨q,e,r⟩:=E.ow i a o' h
    exact⟨q,by rw[List.getElem?_append_left (by rw[E.len];exact c)];exact e,by rw[if_neg (by omega)];exact r⟩
   ·cases h
    subst c
    refine⟨p,by rw[List.getElem?_append_right (by rw[E.len];exact Nat.le_refl _),E.len,Nat.sub_self];rfl,ha0,by rw[if_pos rfl];exact ho⟩
  ·rcases cs h with⟨c,h⟩ | ⟨c,h⟩
   ·rw[if_neg (by omega)] at hb
    exact E.no i a o' h b hb
   ·rw[if_pos c] at hb
    exact hf b hb
  ·rcases cs hi with⟨ci,hi⟩ | ⟨ci,hi⟩
   ·rw[if_neg (by omega)] at hb
    rcases cs hj with⟨cj,hj⟩ | ⟨cj,hj⟩
    ·rw[if_neg (by omega)] at hb2
     exact E.dj i j a a' o1 o2 hi hj c b hb hb2
    ·rw[if_pos cj] at hb2
     exact hd b hb2 i a o1 hi hb
   ·rw[if_pos ci] at hb
    rcases cs hj with⟨cj,hj⟩ | ⟨cj,hj⟩
    ·rw[if_neg (by omega)] at hb2
     exact hd b hb j a' o2 hj hb2
    ·omega
end
def qcE (ρ:qaN):List Ar→Option (List Sm)
 | []=>some []
 | .t s::as=>(qcE ρ as).map (s::·)
 | .s i::as=>match ρ[i]? with
  | some (some (.ob _ o))=>(qcE ρ as).map (.ob none o::·)
  | _=>none
def qbN (o:Om):Option Sm→Option Sm
 | some (.ob a _)=>some (.ob a o)
 | x=>x
def qbj:qaN→Nat→Om→qaN
 | [],_,_=>[]
 | x::ρ,0,o=>qbN o x::ρ
 | x::ρ,i+1,o=>x::qbj ρ i o
theorem qeA:∀ (ρ:qaN) (i:Nat) (o:Om),qbj ρ i o=(match ρ[i]? with
  | some (some (.ob a _))=>ρ.set i (some (.ob a o))
  | _=>ρ)
 | [],_,_=>rfl
 | some (.ob _ _)::_,0,_=>rfl
 | some (.v _)::_,0,_=>rfl
 | none::_,0,_=>rfl
 | x::ρ,i+1,o=>by
  show x::qbj ρ i o=_
  rw[qeA ρ i o,List.getElem?_cons_succ]
  match ρ[i]? with
  | some (some (.ob _ _))=>rfl
  | some (some (.v _))=>rfl
  | some none=>rfl
  | none=>rfl
def qbc (ρ:qaN):List Ar→List Om→qaN
 | [],_=>ρ
 | .t (.v _)::as,os=>qbc ρ as os
 | .t (.ob _ _)::as,_::os=>qbc ρ as os
 | .t (.ob _ _)::as,[]=>qbc ρ as []
 | .s i::as,o::os=>qbc (qbj ρ i o) as os
 | .s _::as,[]=>qbc ρ as []
def qbA:List Ar→List Nat
 | []=>[]
 | .t _::as=>qbA as
 | .s i::as=>i::qbA as
def qke (as:List Ar):Bool:=decide (qbA as).Nodup
def qeR:Nat→List Ar→List Om→List (List Addr)→Nat→Option (Om × List Addr)
 | n,.t (.v _)::as,os,_::Fs,i=>qeR (n+1) as os Fs i
 | n,.t (.ob _ _)::as,o::os,F::Fs,i=>if i=n then some (o,F) else qeR (n+1) as os Fs i
 | n,.s j::as,o::os,F::Fs,i=>if i=j then some (o,F) else qeR n as os Fs i
 | _,_,_,_,_=>none
section
variable {K : PySem.W.Frag} {H0 H H' Φ Φ' Φ0 : Hp} {σ σ2 : St} {ρ : qaN} {fp : Nat → List Addr}
def fpA (fp:Nat→List Addr):Nat→List Ar→List (List Addr)
 | _,[]=>[]
 | n,.t (.v _)::as=>[]::fpA fp (n+1) as
 | n,.t (.ob _ _)::as=>fp n::fpA fp (n+1) as
 | n,.s j::as=>fp j::fpA fp n as
def qa0:Nat→List Ar→List Nat
 | _,[]=>[]
 | n,.t (.v _)::as=>qa0 (n+1) as
 | n,.t (.ob _ _)::as=>n::qa0 (n+1) as
 | n,.s j::as=>j::qa0 n as
theorem fpA_mem:∀ {n:Nat} {as:List Ar} {b:Addr},b∈(fpA fp n as).flatten↔∃ i∈qa0 n as,b∈fp i
 | n,[],b=>by simp [fpA,qa0]
 | n,.t (.v _)::as,b=>by simp only [fpA,qa0,List.flatten_cons,List.nil_append];exact fpA_mem
 | n,.t (.ob _ _)::as,b=>by simp only [fpA,qa0,List.flatten_cons,List.mem_append,List.mem_cons,fpA_mem (n:=n+1) (as:=as),exists_eq_or_imp]
 | n,.s j::as,b=>by simp only [fpA,qa0,List.flatten_cons,List.mem_append,List.mem_cons,fpA_mem (n:=n) (as:=as),exists_eq_or_imp]
theorem qci:∀ {n:Nat} {as:List Ar} {i:Nat},i∈qa0 n as→i∈qbA as∨(n≤i∧i<n+(tsm as).length)
 | n,[],i,h=>by cases h
 | n,.t (.v d)::as,i,h=>by
  have h:i∈qa0 (n+1) as:=h
  rcases qci h with z | z
  ·exact .inl z
  ·refine .inr ⟨by omega,?_⟩
   show i<n+((tsm as).length+1)
   omega
 | n,.t (.ob a o)::as,i,h=>by
  rcases List.mem_cons.mp h with rfl | h
  ·refine .inr ⟨Nat.le_refl _,?_⟩
   show i<i+((tsm as).length+1)
   omega
  ·rcases qci h with z | z
   ·exact .inl z
   ·refine .inr ⟨by omega,?_⟩
    show i<n+((tsm as).length+1)
    omega
 | n,.s j::as,i,h=>by
  rcases List.mem_cons.mp h with rfl | h
  ·exact .inl List.mem_cons_self
  ·rcases qci h with z | z
   ·exact .inl (List.mem_cons_of_mem _ z)
   ·exact .inr z
theorem qb6:∀ {n:Nat} {as:List Ar},(qbA as).Nodup→(∀ i∈qbA as,i<n)→(qa0 n as).Nodup
 | n,[],_,_=>by simp [qa0]
 | n,.t (.v d)::as,h,hl=>qb6 (n:=n+1) h fun i hi=>Nat.lt_succ_of_lt (hl i hi)
 | n,.t (.ob a o)::as,h,hl=>by
  refine List.nodup_cons.mpr ⟨fun z=>?_,qb6 (n:=n+1) h fun i hi=>Nat.lt_succ_of_lt (hl i hi)⟩
  rcases qci z with z | z
  ·exact Nat.lt_irrefl _ (hl n z)
  ·omega
 | n,.s j::as,h,hl=>by
  obtain⟨h1,h2⟩:=List.nodup_cons.mp h
  refine List.nodup_cons.mpr ⟨fun z=>?_,qb6 h2 fun i hi=>hl i (List.mem_cons_of_mem _ hi)⟩
  rcases qci z with z | z
  ·exact h1 z
  ·have:=hl j List.mem_cons_self
   omega
theorem qhO {σx:St}{ρx:qaN}(E:EnvM' K H0 Φ H σx ρx fp)(hs:∀ (i:Nat) (x:Sm),ρ[i]?=some (some x)→ρx[i]?=some (some x))(hs2:∀ (i:Nat) (v:V),σ[i]?=some (some v)→σx[i]?=some (some v)) :
  ∀ {n:Nat} {as:List Ar} {sms:List Sm} {vs:List V} {ts:St},(∀ (j:Nat) x,(tsm as)[j]?=some x→ρx[n+j]?=some x)→(∀ (j:Nat) x,ts[j]?=some x→σx[n+j]?=some x)→qcE ρ as=some sms→ArV σ as vs ts→ArgM K Φ H sms vs (fpA fp n as)
 | n,[],sms,_,_,_,_,hr,.nil=>by cases hr;exact .nil
 | n,.t (.v d)::as,sms,_,_,h1,h2,hr,.t hv=>by
  have hr':(qcE ρ as).map (Sm.v d::·)=some sms:=hr
  cases e:qcE ρ as with
  | none=>rw[e] at hr';cases hr'
  | some sms' =>
   rw[e] at hr'
   cases hr'
   obtain⟨w,hw,r⟩:=E.sl n d (h1 0 _ rfl)
   have:=h2 0 _ rfl
   rw[show n+0=n from rfl,hw] at this
   cases this
   exact .v r (qhO E hs hs2 (n:=n+1) (fun j x hx=>by rw[show n+1+j=n+(j+1) by omega];exact h1 (j+1) x hx) (fun j x hx=>by rw[show n+1+j=n+(j+1) by omega];exact h2 (j+1) x hx) e hv)
 | n,.t (.ob a o)::as,sms,_,_,h1,h2,hr,.t hv=>by
  have hr':(qcE ρ as).map (Sm.ob a o::·)=some sms:=hr
  cases e:qcE ρ as with
  | none=>rw[e] at hr';cases hr'
  | some sms' =>
   rw[e] at hr'
   cases hr'
   obtain⟨w,hw,_,r⟩:=E.ow n a o (h1 0 _ rfl)
   have:=h2 0 _ rfl
   rw[show n+0=n from rfl,hw] at this
   cases this
   exact .o r (qhO E hs hs2 (n:=n+1) (fun j x hx=>by rw[show n+1+j=n+(j+1) by omega];exact h1 (j+1) x hx) (fun j x hx=>by rw[show n+1+j=n+(j+1) by omega];exact h2 (j+1) x hx) e hv)
 | n,.s i::as,sms,_,_,h1,h2,hr,.s hi hv=>by
  unfold qcE at hr
  split at hr
  ·next a o ho =>
   cases e:qcE ρ as with
   | none=>rw[e] at hr;cases hr
   | some sms' =>
    rw[e] at hr
    cases hr
    obtain⟨w,hw,_,r⟩:=E.ow i a o (hs i _ ho)
    rw[hs2 i _ hi] at hw
    cases hw
    exact .o r (qhO E hs hs2 h1 h2 e hv)
  ·cases hr
theorem qhJ {σx:St}{ρx:qaN}(hs:∀ (i:Nat) (x:Sm),ρ[i]?=some (some x)→ρx[i]?=some (some x)) :
  ∀ {n:Nat} {as:List Ar} {sms:List Sm},(∀ (j:Nat) x,(tsm as)[j]?=some x→ρx[n+j]?=some x)→qcE ρ as=some sms→∀ i∈qa0 n as,∃ a o,ρx[i]?=some (some (.ob a o))
 | n,[],sms,_,hr,i,h=>by cases h
 | n,.t (.v d)::as,sms,h1,hr,i,h=>by
  have hr':(qcE ρ as).map (Sm.v d::·)=some sms:=hr
  cases e:qcE ρ as with
  | none=>rw[e] at hr';cases hr'
  | some sms'=>exact qhJ (σx:=σx) hs (n:=n+1) (fun j x hx=>by rw[show n+1+j=n+(j+1) by omega];exact h1 (j+1) x hx) e i h
 | n,.t (.ob a o)::as,sms,h1,hr,i,h=>by
  have hr':(qcE ρ as).map (Sm.ob a o::·)=some sms:=hr
  cases e:qcE ρ as with
  | none=>rw[e] at hr';cases hr'
  | some sms' =>
   rcases List.mem_cons.mp h with rfl | h
   ·exact⟨a,o,h1 0 _ rfl⟩
   ·exact qhJ (σx:=σx) hs (n:=n+1) (fun j x hx=>by rw[show n+1+j=n+(j+1) by omega];exact h1 (j+1) x hx) e i h
 | n,.s j::as,sms,h1,hr,i,h=>by
  unfold qcE at hr
  split at hr
  ·next a o ho =>
   cases e:qcE ρ as with
   | none=>rw[e] at hr;cases hr
   | some sms' =>
    rcases List.mem_cons.mp h with rfl | h
    ·exact⟨a,o,hs _ _ ho⟩
    ·exact qhJ (σx:=σx) hs (n:=n) (as:=as) h1 e i h
  ·cases hr
theorem qdq {σx:St}{ρx:qaN}(E:EnvM' K H0 Φ H σx ρx fp):∀ {n:Nat} {as:List Ar},(qa0 n as).Nodup→(∀ i∈qa0 n as,∃ a o,ρx[i]?=some (some (.ob a o)))→(fpA fp n as).flatten.Nodup
 | n,[],_,_=>by simp [fpA]
 | n,.t (.v d)::as,h,ho=>by
  show ([]++(fpA fp (n+1) as).flatten).Nodup
  rw[List.nil_append]
  exact qdq E (n:=n+1) h ho
 | n,.t (.ob a o)::as,h,ho=>by
  show (fp n++(fpA fp (n+1) as).flatten).Nodup
  obtain⟨h1,h2⟩:=List.nodup_cons.mp h
  obtain⟨a',o',hn⟩:=ho n List.mem_cons_self
  obtain⟨_,_,_,r⟩:=E.ow n a' o' hn
  refine List.nodup_append.mpr ⟨r.nodup,qdq E (n:=n+1) h2 fun i hi=>ho i (List.mem_cons_of_mem _ hi),fun b hb c hc e=>?_⟩
  subst e
  obtain⟨i,hi,hbi⟩:=fpA_mem.mp hc
  obtain⟨a2,o2,hi2⟩:=ho i (List.mem_cons_of_mem _ hi)
  exact E.dj n i a' a2 o' o2 hn hi2 (fun e=>h1 (e ▸ hi)) b hb hbi
 | n,.s j::as,h,ho=>by
  show (fp j++(fpA fp n as).flatten).Nodup
  obtain⟨h1,h2⟩:=List.nodup_cons.mp h
  obtain⟨a',o',hn⟩:=ho j List.mem_cons_self
  obtain⟨_,_,_,r⟩:=E.ow j a' o' hn
  refine List.nodup_append.mpr ⟨r.nodup,qdq E h2 fun i hi=>ho i (List.mem_cons_of_mem _ hi),fun b hb c hc e=>?_⟩
  subst e
  obtain⟨i,hi,hbi⟩:=fpA_mem.mp hc
  obtain⟨a2,o2,hi2⟩:=ho i (List.mem_cons_of_mem _ hi)
  exact E.dj j i a' a2 o' o2 hn hi2 (fun e=>h1 (e ▸ hi)) b hb hbi
theorem qbX:∀ {n:Nat} {as:List Ar} {os:List Om} {Fs:List (List Addr)} {i:Nat} {q:Om × List Addr},qeR n as os Fs i=some q→i∈qa0 n as
 | n,[],_,_,_,_,h=>by cases h
 | n,.t (.v d)::as,os,[],i,q,h=>by cases h
 | n,.t (.v d)::as,os,F::Fs,i,q,h=>qbX (n:=n+1) h
 | n,.t (.ob a o)::as,[],Fs,i,q,h=>by cases Fs <;> cases h
 | n,.t (.ob a o)::as,_::_,[],i,q,h=>by cases h
 | n,.t (.ob a o)::as,o'::os,F::Fs,i,q,h=>by
  have h:(if i=n then some (o',F) else qeR (n+1) as os Fs i)=some q:=h
  split at h
  ·next c=>rw[c];exact List.mem_cons_self
  ·exact List.mem_cons_of_mem _ (qbX h)
 | n,.s j::as,[],Fs,i,q,h=>by cases Fs <;> cases h
 | n,.s j::as,_::_,[],i,q,h=>by cases h
 | n,.s j::as,o'::os,F::Fs,i,q,h=>by
  have h:(if i=j then some (o',F) else qeR n as os Fs i)=some q:=h
  split at h
  ·next c=>rw[c];exact List.mem_cons_self
  ·exact List.mem_cons_of_mem _ (qbX h)
theorem qhy {σx:St}(hs2:∀ (i:Nat) (v:V),σ[i]?=some (some v)→σx[i]?=some (some v)) :
  ∀ {n:Nat} {as:List Ar} {sms:List Sm} {vs:List V} {ts:St} {os:List Om} {Fs:List (List Addr)},(∀ (j:Nat) x,ts[j]?=some x→σx[n+j]?=some x)→qcE ρ as=some sms→ArV σ as vs ts→OutM K Φ H sms vs os Fs→(qa0 n as).Nodup→Fs.flatten.Nodup →
   (∀ i∈qa0 n as,∃ q,qeR n as os Fs i=some q)∧∀ (i:Nat) (q:Om × List Addr),qeR n as os Fs i=some q→(∃ p,σx[i]?=some (some (.ref p))∧OmS K Φ H q.1 p q.2)∧(∀ b∈q.2,b∈Fs.flatten)∧∀ (j:Nat) (r:Om × List Addr),qeR n as os Fs j=some r→i≠j→∀ b∈q.2,b∉r.2
 | n,[],sms,_,_,os,Fs,_,hr,.nil,ho,_,_=>by
  refine⟨fun i hi=>(by cases hi),fun i q h=>(by cases h)⟩
 | n,.t (.v d)::as,sms,_,_,os,Fs,h2,hr,.t hv,ho,np,nf=>by
  have hr':(qcE ρ as).map (Sm.v d::·)=some sms:=hr
  cases e:qcE ρ as with
  | none=>rw[e] at hr';cases hr'
  | some sms' =>
   rw[e] at hr'
   cases hr'
   cases ho with
   | v ho =>
    have ih:=qhy hs2 (n:=n+1) (fun j x hx=>by rw[show n+1+j=n+(j+1) by omega];exact h2 (j+1) x hx) e hv ho np (by simpa using nf)
    exact⟨ih.1,fun i q h=>by obtain⟨z1,z2,z3⟩:=ih.2 i q h;exact⟨z1,fun b hb=>by simpa using z2 b hb,z3⟩⟩
 | n,.t (.ob a o)::as,sms,_,_,os,Fs,h2,hr,.t hv,ho,np,nf=>by
  have hr':(qcE ρ as).map (Sm.ob a o::·)=some sms:=hr
  cases e:qcE ρ as with
  | none=>rw[e] at hr';cases hr'
  | some sms' =>
   rw[e] at hr'
   cases hr'
   cases ho with
   | @o _ _ o' p F _ _ os Fs h1 ho =>
    obtain⟨np1,np2⟩:=List.nodup_cons.mp np
    obtain⟨nf1,nf2,nf3⟩:=List.nodup_append.mp (show (F++Fs.flatten).Nodup from nf)
    have ih:=qhy hs2 (n:=n+1) (fun j x hx=>by rw[show n+1+j=n+(j+1) by omega];exact h2 (j+1) x hx) e hv ho np2 nf2
    have u:∀ i,qeR n (.t (.ob a o)::as) (o'::os) (F::Fs) i=if i=n then some (o',F) else qeR (n+1) as os Fs i:=fun i=>rfl
    refine⟨fun i hi=>?_,fun i q h=>?_⟩
    ·rw[u]
     split
     ·exact⟨_,rfl⟩
     ·next c=>exact ih.1 i ((List.mem_cons.mp hi).resolve_left c)
    ·rw[u] at h
     split at h
     ·next c =>
      subst c
      cases h
      refine⟨⟨p,h2 0 _ rfl,h1⟩,fun b hb=>List.mem_append.mpr (.inl hb),fun j r hj c b hb hb2=>?_⟩
      rw[u,if_neg (Ne.symm c)] at hj
      exact nf3 b hb b ((ih.2 j r hj).2.1 b hb2) rfl
     ·next c =>
      obtain⟨z1,z2,z3⟩:=ih.2 i q h
      refine⟨z1,fun b hb=>List.mem_append.mpr (.inr (z2 b hb)),fun j r hj c2 b hb hb2=>?_⟩
      rw[u] at hj
      split at hj
      ·next c3 =>
       cases hj
       exact nf3 b hb2 b (z2 b hb) rfl
      ·exact z3 j r hj c2 b hb hb2
 | n,.s j0::as,sms,_,_,os,Fs,h2,hr,.s hi hv,ho,np,nf=>by
  unfold qcE at hr
  split at hr
  ·next a o ho0 =>
   cases e:qcE ρ as with
   | none=>rw[e] at hr;cases hr
   | some sms' =>
    rw[e] at hr
    cases hr
    cases ho with
    | @o _ _ o' p F _ _ os Fs h1 ho =>
     obtain⟨np1,np2⟩:=List.nodup_cons.mp np
     obtain⟨nf1,nf2,nf3⟩:=List.nodup_append.mp (show (F++Fs.flatten).Nodup from nf)
     have ih:=qhy hs2 h2 e hv ho np2 nf2
     have u:∀ i,qeR n (.s j0::as) (o'::os) (F::Fs) i=if i=j0 then some (o',F) else qeR n as os Fs i:=fun i=>rfl
     refine⟨fun i hi=>?_,fun i q h=>?_⟩
     ·rw[u]
      split
      ·exact⟨_,rfl⟩
      ·next c=>exact ih.1 i ((List.mem_cons.mp hi).resolve_left c)
     ·rw[u] at h
      split at h
      ·next c =>
       subst c
       cases h
       refine⟨⟨p,hs2 _ _ hi,h1⟩,fun b hb=>List.mem_append.mpr (.inl hb),fun j r hj c b hb hb2=>?_⟩
       rw[u,if_neg (Ne.symm c)] at hj
       exact nf3 b hb b ((ih.2 j r hj).2.1 b hb2) rfl
      ·next c =>
       obtain⟨z1,z2,z3⟩:=ih.2 i q h
       refine⟨z1,fun b hb=>List.mem_append.mpr (.inr (z2 b hb)),fun j r hj c2 b hb hb2=>?_⟩
       rw[u] at hj
       split at hj
       ·next c3 =>
        cases hj
        exact nf3 b hb2 b (z2 b hb) rfl
       ·exact z3 j r hj c2 b hb hb2
  ·cases hr
theorem qnf {ρ:qaN}{i j:Nat}{o:Om}{x:Option Sm}(h:(qbj ρ i o)[j]?=some x)(c:j≠i):ρ[j]?=some x:=by
 rw[qeA] at h
 split at h
 ·rwa [List.getElem?_set_ne (Ne.symm c)] at h
 ·exact h
theorem qkW {ρ:qaN}{i:Nat}{o:Om}:(qbj ρ i o).length=ρ.length:=by
 rw[qeA]
 split
 ·rw[List.length_set]
 ·rfl
theorem qay:∀ {as:List Ar} {ρ:qaN} {os:List Om},(qbc ρ as os).length=ρ.length
 | [],_,_=>rfl
 | .t (.v _)::as,ρ,os=>qay (as:=as)
 | .t (.ob _ _)::as,ρ,_::os=>qay (as:=as)
 | .t (.ob _ _)::as,ρ,[]=>qay (as:=as)
 | .s i::as,ρ,o::os=>by show (qbc (qbj ρ i o) as os).length=_;rw[qay,qkW]
 | .s _::as,ρ,[]=>qay (as:=as)
theorem qbI:∀ {as:List Ar} {ρ:qaN} {os:List Om} {i:Nat} {x:Option Sm},i∉qbA as→(qbc ρ as os)[i]?=some x→ρ[i]?=some x
 | [],_,_,_,_,_,h=>h
 | .t (.v _)::as,ρ,os,i,x,hn,h=>qbI (as:=as) (os:=os) hn h
 | .t (.ob _ _)::as,ρ,_::os,i,x,hn,h=>qbI (as:=as) (os:=os) hn h
 | .t (.ob _ _)::as,ρ,[],i,x,hn,h=>qbI (as:=as) (os:=[]) hn h
 | .s j::as,ρ,o::os,i,x,hn,h=>by
  have h':=qbI (as:=as) (fun z=>hn (List.mem_cons_of_mem _ z)) (show (qbc (qbj ρ j o) as os)[i]?=some x from h)
  exact qnf h' fun e=>hn (by rw[e];exact List.mem_cons_self)
 | .s j::as,ρ,[],i,x,hn,h=>qbI (as:=as) (os:=[]) (fun z=>hn (List.mem_cons_of_mem _ z)) h
theorem qgr {ρ:qaN}{i j:Nat}{o:Om}(c:j≠i):(qbj ρ i o)[j]?=ρ[j]?:=by
 rw[qeA]
 split
 ·rw[List.getElem?_set_ne (Ne.symm c)]
 ·rfl
theorem qdK {ρ0:qaN}:∀ {as:List Ar} {ρ:qaN} {sms:List Sm} {vs:List V} {ts:St} {os:List Om} {Fs:List (List Addr)} {n i:Nat} {x:Sm},qcE ρ0 as=some sms→ArV σ as vs ts→OutM K Φ H sms vs os Fs→i∈qbA as→i<n→(qbA as).Nodup→(qbc ρ as os)[i]?=some (some x)→(∀ j∈qbA as,∃ a o,ρ[j]?=some (some (.ob a o))) →
  ∃ a o0 q,x=.ob a q.1∧qeR n as os Fs i=some q∧ρ[i]?=some (some (.ob a o0))
 | [],_,_,_,_,_,_,_,_,_,_,_,_,h,_,_,_,_=>by cases h
 | .t (.v d)::as,ρ,sms,_,_,os,Fs,n,i,x,hr,.t hv,ho,h,hi,nd,hp,hs=>by
  have hr':(qcE ρ0 as).map (Sm.v d::·)=some sms:=hr
  cases e:qcE ρ0 as with
  | none=>rw[e] at hr';cases hr'
  | some sms' =>
   rw[e] at hr'
   cases hr'
   cases ho with
   | v ho=>exact qdK (n:=n+1) (as:=as) e hv ho h (by omega) nd hp hs
 | .t (.ob a1 o1)::as,ρ,sms,_,_,os,Fs,n,i,x,hr,.t hv,ho,h,hi,nd,hp,hs=>by
  have hr':(qcE ρ0 as).map (Sm.ob a1 o1::·)=some sms:=hr
  cases e:qcE ρ0 as with
  | none=>rw[e] at hr';cases hr'
  | some sms' =>
   rw[e] at hr'
   cases hr'
   cases ho with
   | @o _ _ o' p F _ _ os Fs h1 ho =>
    obtain⟨a,o0,q,e1,e2,e3⟩:=qdK (n:=n+1) (as:=as) (ρ:=ρ) e hv ho h (by omega) nd hp hs
    refine⟨a,o0,q,e1,?_,e3⟩
    show (if i=n then some (o',F) else qeR (n+1) as os Fs i)=some q
    rw[if_neg (by omega)]
    exact e2
 | .s j::as,ρ,sms,_,_,os,Fs,n,i,x,hr,.s _ hv,ho,h,hi,nd,hp,hs=>by
  unfold qcE at hr
  split at hr
  ·next a2 o2 ho0 =>
   cases e:qcE ρ0 as with
   | none=>rw[e] at hr;cases hr
   | some sms' =>
    rw[e] at hr
    cases hr
    cases ho with
    | @o _ _ o' p F _ _ os Fs h1 ho =>
     obtain⟨nd1,nd2⟩:=List.nodup_cons.mp nd
     have hp':(qbc (qbj ρ j o') as os)[i]?=some (some x):=hp
     have u:qeR n (.s j::as) (o'::os) (F::Fs) i=if i=j then some (o',F) else qeR n as os Fs i:=rfl
     by_cases c:i=j
     ·subst c
      obtain⟨a,o0,hj⟩:=hs i List.mem_cons_self
      have:=qbI nd1 hp'
      rw[qeA] at this
      rw[hj] at this
      simp only at this
      rw[List.getElem?_set_self (qak hj)] at this
      cases this
      exact⟨a,o0,(o',F),rfl,by rw[u,if_pos rfl],hj⟩
     ·have hi':=(List.mem_cons.mp h).resolve_left c
      obtain⟨a,o0,q,e1,e2,e3⟩:=qdK (n:=n) (as:=as) (ρ:=qbj ρ j o') e hv ho hi' hi nd2 hp' fun k hk=>by
       rw[qgr fun z=>nd1 (by rw[← z];exact hk)]
       exact hs k (List.mem_cons_of_mem _ hk)
      exact⟨a,o0,q,e1,by rw[u,if_neg c];exact e2,by rw[qgr c] at e3;exact e3⟩
  ·cases hr
theorem qfZ:∀ {as:List Ar} {sms:List Sm},qcE ρ as=some sms→∀ j∈qbA as,∃ a o,ρ[j]?=some (some (.ob a o))
 | [],_,_,j,h=>by cases h
 | .t s::as,sms,hr,j,h=>by
  have hr':(qcE ρ as).map (s::·)=some sms:=hr
  cases e:qcE ρ as with
  | none=>rw[e] at hr';cases hr'
  | some sms'=>exact qfZ e j h
 | .s i::as,sms,hr,j,h=>by
  unfold qcE at hr
  split at hr
  ·next a o ho =>
   cases e:qcE ρ as with
   | none=>rw[e] at hr;cases hr
   | some sms' =>
    rcases List.mem_cons.mp h with rfl | h
    ·exact⟨a,o,ho⟩
    ·exact qfZ e j h
  ·cases hr
end
section
variable {K : PySem.W.Frag} {X : Cx} {e : Expr} {es : List Expr} {pos p : Pos} {tA : TXA}
def qn0 (sp:SpM)(tA:TXA):TX:=fun ρ R Rx=>tA ρ (fun as ρ1=>∃ sms,qcE ρ1 as=some sms∧qke as=true∧sp sms (fun sm os=>R sm (qbc ρ1 as os)) (fun xd os=>Rx xd (qbc ρ1 as os))) Rx
theorem StM.lend {Φ0 H0 Φ H:Hp}{σ τ ts:St}{ρ κ:qaN}{Rx:XD→qaN→Prop}{as:List Ar}{sms:List Sm}{vs:List V}(S:StM K X Φ0 H0 Φ H σ (τ++ts) ρ (κ++tsm as) Rx)(hl:κ.length=τ.length)(hr:qcE ρ as=some sms)(hv:ArV σ as vs ts)(hs:qke as=true) :
  ∃ Fs,ArgM K Φ H sms vs Fs∧Fs.flatten.Nodup∧(∀ b∈Fs.flatten,Φ b=none)∧∀ sm os Φ' H' v F Fs',Gr Φ (qcn H Fs.flatten) Φ' H'→ResM K Φ' H' sm v F→OutM K Φ' H' sms vs os Fs'→(F++Fs'.flatten).Nodup→(∀ b∈F++Fs'.flatten,qcn H Fs.flatten b=none∧Φ' b=none) →
   StM K X Φ0 H0 Φ' H' σ (τ++[some v]) (qbc ρ as os) (κ++[some sm]) Rx:=by
 have nd:(qbA as).Nodup:=of_decide_eq_true hs
 obtain⟨fp,E⟩:=S.E
 have lS:=S.l
 have hlt:(tsm as).length=ts.length:=by have:=S.lk;rw[List.length_append,List.length_append] at this;omega
 have a1:∀ (i:Nat) (x:Sm),ρ[i]?=some (some x)→(ρ++(κ++tsm as))[i]?=some (some x):=fun i x h=>by rw[List.getElem?_append_left (qak h)];exact h
 have a2:∀ (i:Nat) (v:V),σ[i]?=some (some v)→(σ++(τ++ts))[i]?=some (some v):=fun i x h=>by rw[List.getElem?_append_left (qak h)];exact h
 have a3:∀ (j:Nat) x,(tsm as)[j]?=some x→(ρ++(κ++tsm as))[ρ.length+κ.length+j]?=some x:=fun j x h=>by
  rw[List.getElem?_append_right (by omega),List.getElem?_append_right (by omega),show ρ.length+κ.length+j - ρ.length - κ.length=j by omega]
  exact h
 have a4:∀ (j:Nat) x,ts[j]?=some x→(σ++(τ++ts))[ρ.length+κ.length+j]?=some x:=fun j x h=>by
  rw[List.getElem?_append_right (by omega),List.getElem?_append_right (by omega),show ρ.length+κ.length+j - σ.length - τ.length=j by omega]
  exact h
 have sl:=qfZ hr
 have slt:∀ i∈qbA as,i<ρ.length:=fun i hi=>let ⟨_,_,h⟩:=sl i hi;qak h
 have pn:(qa0 (ρ.length+κ.length) as).Nodup:=qb6 nd fun i hi=>by have:=slt i hi;omega
 have po:=qhJ (σx:=σ) a1 a3 hr
 refine⟨fpA fp (ρ.length+κ.length) as,qhO E a1 a2 a3 a4 hr hv,qdq E pn po,fun b hb=>?_,fun sm os Φ' H' v F Fs' g hres hout hnd hno=>?_⟩
 ·obtain⟨i,hi,hbi⟩:=fpA_mem.mp hb
  obtain⟨a,o,ho⟩:=po i hi
  exact (E.no i a o ho b hbi).2
 obtain⟨nd1,nd2,nd3⟩:=List.nodup_append.mp hnd
 obtain⟨n1,n2⟩:=qhy (n:=ρ.length+κ.length) a2 a4 hr hv hout pn nd2
 have B0:∀ b∈(fpA fp (ρ.length+κ.length) as).flatten,H0 b=none:=fun b hb=>by
  obtain⟨i,hi,hbi⟩:=fpA_mem.mp hb
  obtain⟨a,o,ho⟩:=po i hi
  exact (E.no i a o ho b hbi).1
 have pl:∀ {i:Nat},i<ρ.length+κ.length→i∉qbA as→qeR (ρ.length+κ.length) as os Fs' i=none:=fun {i} hi hn=>by
  cases e:qeR (ρ.length+κ.length) as os Fs' i with
  | none=>rfl
  | some q =>
   rcases qci (qbX e) with z | z
   ·exact absurd z hn
   ·omega
 have E2:EnvM' K H0 Φ' H' (σ++(τ++ts)) (qbc ρ as os++(κ++List.replicate ts.length none)) (fpN (qeR (ρ.length+κ.length) as os Fs') fp):=by
  have cs:∀ {i:Nat} {x:Sm},(qbc ρ as os++(κ++List.replicate ts.length none))[i]?=some (some x)→(i<ρ.length∧(qbc ρ as os)[i]?=some (some x))∨(ρ.length≤i∧i<ρ.length+κ.length∧κ[i - ρ.length]?=some (some x)):=fun {i x} h=>by
   rcases Nat.lt_or_ge i ρ.length with c | c
   ·rw[List.getElem?_append_left (by rw[qay];exact c)] at h
    exact .inl ⟨c,h⟩
   ·rw[List.getElem?_append_right (by rw[qay];exact c),qay] at h
    rcases Nat.lt_or_ge (i - ρ.length) κ.length with c2 | c2
    ·rw[List.getElem?_append_left c2] at h
     exact .inr ⟨c,by omega,h⟩
    ·rw[List.getElem?_append_right c2,List.getElem?_replicate] at h
     split at h
     ·cases h
     ·cases h
  have kx:∀ {i:Nat} {x:Sm},ρ.length≤i→i<ρ.length+κ.length→κ[i - ρ.length]?=some (some x)→(ρ++(κ++tsm as))[i]?=some (some x):=fun {i x} c1 c2 h=>by
   rw[List.getElem?_append_right c1,List.getElem?_append_left (by omega)]
   exact h
  refine E.lend S.g.h (B:=(fpA fp (ρ.length+κ.length) as).flatten) (new:=qeR (ρ.length+κ.length) as os Fs') (fun b hb=>?_) (fun i q hq b hb=>fpA_mem.mpr ⟨i,qbX hq,hb⟩) g (by rw[List.length_append,List.length_append,List.length_append,List.length_append,List.length_replicate,qay,hlt]) (fun i d h=>?_) (fun i a o h=>?_) (fun i q hq=>(n2 i q hq).1) (fun i q hq b hb=>hno b (List.mem_append.mpr (.inr ((n2 i q hq).2.1 b hb)))) fun i j q r hq hr' c b hb=>(n2 i q hq).2.2 j r hr' c b hb
  ·obtain⟨i,hi,hbi⟩:=fpA_mem.mp hb
   obtain⟨a,o,ho⟩:=po i hi
   obtain⟨q,hq⟩:=n1 i hi
   exact⟨i,a,o,q,hq,ho,hbi⟩
  ·rcases cs h with⟨c,h⟩ | ⟨c1,c2,h⟩
   ·rcases Decidable.em (i∈qbA as) with z | z
    ·obtain⟨a,o0,q,e1,_⟩:=qdK (n:=ρ.length+κ.length) hr hv hout z (by omega) nd h sl
     cases e1
    ·exact a1 _ _ (qbI z h)
   ·exact kx c1 c2 h
  ·rcases cs h with⟨c,h⟩ | ⟨c1,c2,h⟩
   ·rcases Decidable.em (i∈qbA as) with z | z
    ·obtain⟨a',o0,q,e1,e2,e3⟩:=qdK (n:=ρ.length+κ.length) hr hv hout z (by omega) nd h sl
     cases e1
     exact .inr ⟨o0,q.2,e2,a1 _ _ e3⟩
    ·exact .inl ⟨pl (by omega) z,a1 _ _ (qbI z h)⟩
   ·exact .inl ⟨pl c2 fun z=>by have:=slt i z;omega,kx c1 c2 h⟩
 have g0:=S.g.lend g B0
 have E3:=E2.snocG hres (fun b hb=>by
   obtain⟨z1,z2⟩:=hno b (List.mem_append.mpr (.inl hb))
   refine⟨?_,z2⟩
   rcases Decidable.em (b∈(fpA fp (ρ.length+κ.length) as).flatten) with c | c
   ·exact B0 b c
   ·rw[qbV c] at z1
    exact S.g.h.free z1) fun b hb i a o hi hbi=>by
  unfold fpN at hbi
  cases e:qeR (ρ.length+κ.length) as os Fs' i with
  | some q =>
   rw[e] at hbi
   exact nd3 b hb b ((n2 i q e).2.1 b hbi) rfl
  | none =>
   rw[e] at hbi
   obtain⟨p,_,_,r⟩:=E2.ow i a o hi
   unfold fpN at r
   rw[e] at r
   obtain⟨z1,z2⟩:=hno b (List.mem_append.mpr (.inl hb))
   have own:∃ o',(ρ++(κ++tsm as))[i]?=some (some (.ob a o')):=by
    rcases Nat.lt_or_ge i ρ.length with c | c
    ·rw[List.getElem?_append_left (by rw[qay];exact c)] at hi
     rcases Decidable.em (i∈qbA as) with z | z
     ·obtain⟨a',o0,q,_,e2,_⟩:=qdK (n:=ρ.length+κ.length) hr hv hout z (by omega) nd hi sl
      rw[e] at e2
      cases e2
     ·exact⟨o,a1 _ _ (qbI z hi)⟩
    ·rw[List.getElem?_append_right (by rw[qay];exact c),qay] at hi
     rcases Nat.lt_or_ge (i - ρ.length) κ.length with c2 | c2
     ·rw[List.getElem?_append_left c2] at hi
      exact⟨o,by rw[List.getElem?_append_right c,List.getElem?_append_left c2];exact hi⟩
     ·rw[List.getElem?_append_right c2,List.getElem?_replicate] at hi
      split at hi
      ·cases hi
      ·cases hi
   obtain⟨o',ho'⟩:=own
   obtain⟨p',_,_,r'⟩:=E.ow i a o' ho'
   obtain⟨u,hu,_⟩:=r'.at b hbi
   have c:b∉(fpA fp (ρ.length+κ.length) as).flatten:=fun z=>by
    obtain⟨j,hj,hbj⟩:=fpA_mem.mp z
    obtain⟨q,hq⟩:=n1 j hj
    have cj:i≠j:=fun z=>by rw[z,hq] at e;cases e
    obtain⟨a2',o2,hj2⟩:=po j hj
    exact E.dj i j a a2' o' o2 ho' hj2 cj b hbi hbj
   rw[qbV c,hu] at z1
   cases z1
 refine⟨g0,by rw[qay];exact lS,?_,S.x⟩
 refine E3.re (fun i=>if i<ρ.length+κ.length then i else ρ.length+κ.length+ts.length) (by simp only [List.length_append,List.length_cons,List.length_nil,qay];omega) (fun i x hx=>?_) fun i j a a' o o' hi hj e=>?_
 ·rcases Nat.lt_or_ge i (ρ.length+κ.length) with c | c
  ·rw[if_pos c]
   constructor
   ·rcases Nat.lt_or_ge i ρ.length with c1 | c1
    ·rw[List.getElem?_append_left (by rw[qay];exact c1)] at hx
     rw[List.getElem?_append_left (by simp only [List.length_append,qay];omega),List.getElem?_append_left (by rw[qay];exact c1)]
     exact hx
    ·rw[List.getElem?_append_right (by rw[qay];exact c1),qay,List.getElem?_append_left (by omega)] at hx
     rw[List.getElem?_append_left (by simp only [List.length_append,qay];omega),List.getElem?_append_right (by rw[qay];exact c1),qay,List.getElem?_append_left (by omega)]
     exact hx
   ·rcases Nat.lt_or_ge i σ.length with c1 | c1
    ·rw[List.getElem?_append_left c1,List.getElem?_append_left (by simp only [List.length_append];omega),List.getElem?_append_left c1]
    ·rw[List.getElem?_append_right c1,List.getElem?_append_left (by omega),List.getElem?_append_left (by simp only [List.length_append];omega),List.getElem?_append_right c1,List.getElem?_append_left (by omega)]
  ·have hi:i=ρ.length+κ.length:=by
    have:=qak hx
    simp only [List.length_append,List.length_cons,List.length_nil,qay] at this
    omega
   subst hi
   rw[if_neg (by omega)]
   rw[List.getElem?_append_right (by rw[qay];omega),List.getElem?_append_right (by rw[qay];omega),qay,show ρ.length+κ.length - ρ.length - κ.length=0 by omega] at hx
   cases hx
   constructor
   ·rw[List.getElem?_append_right (by simp only [List.length_append,List.length_replicate,qay];omega)]
    simp only [List.length_append,List.length_replicate,qay]
    rw[show ρ.length+κ.length+ts.length - (ρ.length+(κ.length+ts.length))=0 by omega]
    rfl
   ·rw[List.getElem?_append_right (by omega),List.getElem?_append_right (by omega),List.getElem?_append_right (by simp only [List.length_append];omega)]
    simp only [List.length_append]
    rw[show ρ.length+κ.length - σ.length - τ.length=0 by omega,show ρ.length+κ.length+ts.length - (σ.length+(τ.length+ts.length))=0 by omega]
 ·have hi1:=qak hi
  have hj1:=qak hj
  simp only [List.length_append,List.length_cons,List.length_nil,qay] at hi1 hj1
  have e:(if i<ρ.length+κ.length then i else ρ.length+κ.length+ts.length)=(if j<ρ.length+κ.length then j else ρ.length+κ.length+ts.length):=e
  split at e <;> split at e <;> omega
structure ClM (P:Program)(w:World)(K:PySem.W.Frag)(mg:Str→Option Value)(base:Heap)(n:Nat)(x:Str)(ps:List Str)(z:SpM):Prop where
 ex:∃ (f:Addr) (fd:FuncData),FnOk P w K mg base CX0 n f fd ps (qf2 K z)∧Binds K fd ps []∧PySem.W.keepIn K (.ref f)=true∧mg x=some (.ref f)
theorem qaH {n:Nat}{x:Str}{ps:List Str}{z:SpM}(C:ClM X.prog X.w K X.mg X.base n x ps z)(hr:Room n X.A)(hg:Gl X x)
  (ha:PXA K X (e::es) tA) (he:starEach (e::es) X.env=(false,eval e X.env)::starEach es X.env) (hpl:(backTo pos (starEach es X.env)).any (·.1)=false) (hdb:(x == ("__debug__":Str))=false:=by decide) :
  PX K X (.Call (.Name x p) (e::es) [] pos) (qn0 z tA):=⟨fun hK=>by
 obtain⟨f,fd,F,b,k,m⟩:=C.ex
 refine (qhd (dvs:=[]) (ds:=[]) (E:=E0) (hK ▸ F:FnOk X.prog X.w X.K X.mg X.base CX0 n f fd ps (qf2 K z)) hr hg m (hK ▸ k) (hK ▸ b) .nil qmG (ha.pa hK) hdb he hpl).imp fun σ H Q hq0=>?_
 obtain⟨Φ0,H0,Φ,τ,ρ,κ,R,Rx,S,t,k⟩:=hq0
 refine⟨Φ0,H0,Φ,τ,ρ,κ,_,Rx,S,t,fun as ρ1 Φ1 H1 vs ts r1 hl hv S1 f1=>?_⟩
 obtain⟨sms,hres,hsl,r1⟩:=r1
 obtain⟨Fs,g1,g2,g3,g4⟩:=S1.lend S.lk hres hv hsl
 rw[List.append_nil]
 exact⟨Φ1,sms,Fs,_,_,S1.g.s,S1.E.tb,g1,g2,g3,r1,fun sm os Φ' H' v F Fs' r gr hr' ho hn hno=>k sm _ Φ' H' v r (g4 sm os Φ' H' v F Fs' gr hr' ho hn hno) (f1.trans gr.f)⟩⟩
end
structure EndsM where
 nx:qaN→Prop
 rt:Sm→qaN→Prop
 bk:qaN→Prop:=fun _=>False
 ct:qaN→Prop:=fun _=>False
 ex:XD→qaN→Prop:=fun _ _=>False
abbrev TSM:=EndsM→qaN→Prop
def qqP (K:PySem.W.Frag)(Φ0 H0:Hp)(P:qaN→Prop)(Q:St→Hp→Prop):Prop:=∀ ρ' Φ' H' σ',P ρ'→Gr Φ0 H0 Φ' H'→EnvM K H0 Φ' H' σ' ρ'→Q σ' H'
structure EndOkM (K:PySem.W.Frag)(X:Cx)(Φ0 H0:Hp)(De:EndsM)(E:Ends):Prop where
 nx:qqP K Φ0 H0 De.nx E.nx
 rt:∀ sm ρ' Φ' H' v σ',De.rt sm ρ'→Gr Φ0 H0 Φ' H'→EnvM K H0 Φ' H' (σ'++[some v]) (ρ'++[some sm])→E.rt v H'
 bk:qqP K Φ0 H0 De.bk E.bk
 ct:qqP K Φ0 H0 De.ct E.ct
 ex:XeOk K X Φ0 H0 De.ex
def lM (K:PySem.W.Frag)(X:Cx)(t:TSM):TS:=fun E σ H=>∃ Φ0 H0 Φ ρ De,Gr Φ0 H0 Φ H∧EnvM K H0 Φ H σ ρ∧t De ρ∧EndOkM K X Φ0 H0 De E
structure PSM (K:PySem.W.Frag)(X:Cx)(st:Stmt)(t:TSM):Prop where ps:X.K=K→PS X st (lM K X t)
structure PSsM (K:PySem.W.Frag)(X:Cx)(st:List Stmt)(t:TSM):Prop where ps:X.K=K→PSs X st (lM K X t)
section
variable {K : PySem.W.Frag} {X : Cx} {Φ0 H0 Φ H Φ1 H1 : Hp} {σ : St} {ρ ρ1 : qaN} {Rx : XD → qaN → Prop} {v : V} {sm : Sm}
theorem st0 (g:Gr Φ0 H0 Φ H)(V:EnvM K H0 Φ H σ ρ)(x:XeOk K X Φ0 H0 Rx):StM K X Φ0 H0 Φ H σ [] ρ [] Rx:=⟨g,V.len.symm,by rw[List.append_nil,List.append_nil];exact V,x⟩
theorem StM.env1 (S:StM K X Φ0 H0 Φ H σ ([]++[some v]) ρ ([]++[some sm]) Rx):EnvM K H0 Φ H (σ++[some v]) (ρ++[some sm]):=S.E
end
section
variable {K : PySem.W.Frag} {X : Cx} {st : Stmt} {rest : List Stmt} {t u : TSM} {e a : Expr} {te : TX} {pos : Pos} {tt : TXB}
def qp7:TSM:=fun De ρ=>De.nx ρ
def qrs (t u:TSM):TSM:=fun De ρ=>t { De with nx:=u De } ρ
def qsa (t u:TSM):TSM:=fun De ρ=>∃ I:qaN→Prop,t { De with nx:=I } ρ∧∀ ρ',I ρ'→u De ρ'
theorem qbq:PSsM K X [] qp7:=⟨fun _=>pss_nil.imp fun E σ H hq0=>by obtain⟨Φ0,H0,Φ,ρ,De,g,V,t,k⟩:=hq0;exact k.nx ρ Φ H σ t g V⟩
theorem qap (h1:PSM K X st t)(h2:PSsM K X rest u):PSsM K X (st::rest) (qrs t u):=⟨fun hK=>(qd4 (h1.ps hK) (h2.ps hK)).imp fun E σ H hq0=>by obtain⟨Φ0,H0,Φ,ρ,De,g,V,t,k⟩:=hq0;exact
 ⟨Φ0,H0,Φ,ρ,_,g,V,t,⟨fun ρ' Φ' H' σ' t' g' V'=>⟨Φ0,H0,Φ',ρ',De,g',V',t',k⟩,k.rt,k.bk,k.ct,k.ex⟩⟩⟩
theorem qce (h1:PSM K X st t)(h2:PSsM K X rest u):PSsM K X (st::rest) (qsa t u):=⟨fun hK=>(qd4 (h1.ps hK) (h2.ps hK)).imp fun E σ H hq0=>by obtain⟨Φ0,H0,Φ,ρ,De,g,V,⟨I,t,c⟩,k⟩:=hq0;exact
 ⟨Φ0,H0,Φ,ρ,_,g,V,t,⟨fun ρ' Φ' H' σ' t' g' V'=>⟨Φ0,H0,Φ',ρ',De,g',V',c ρ' t',k⟩,k.rt,k.bk,k.ct,k.ex⟩⟩⟩
theorem qaz (h1:PSM K X st t):PSsM K X [st] t:=⟨fun hK=>qg8 (h1.ps hK)⟩
def qo2:TSM:=fun _ _=>False
theorem qjU:PSM K X st qo2:=⟨fun _=>ps_never.imp fun E σ H hq0=>by obtain⟨Φ0,H0,Φ,ρ,De,g,V,t,k⟩:=hq0;exact t⟩
def qq8 (i:Nat)(te:TX):TSM:=fun De ρ=>te ρ (fun s ρ1=>De.nx (ρ1.set i (some s))) De.ex
theorem qjQ {i:Nat}{E:Ends}{σ:St}{H:Hp}(h:lM K X (qq8 i te) E σ H):qpw (lXm K X te) (qjt i) E σ H:=by
 obtain⟨Φ0,H0,Φ,ρ,De,g,V,t,k⟩:=h
 exact⟨Φ0,H0,Φ,[],ρ,[],_,De.ex,st0 g V k.ex,t,fun s ρ1 Φ1 H1 v r S1 _=>k.nx _ Φ1 H1 _ r S1.g (S1.env1.store i)⟩
theorem qaJ {i:Nat}{x:Str}{pos':Pos}(hN:X.N.Nodup)(hi:X.N[i]?=some x)(hx:Loc X.env.scope x)(he:PX K X e te)(hs:swapsWith e (some (.Name x pos')) pos.line X.env=pure false:=by rfl)(hf:X.fn x=true∨X.env.scope.names.lookup x=some .local:=by first | exact .inl rfl | exact .inr rfl | assumption) :
  PSM K X (.Assign [.Name x pos'] e pos) (qq8 i te):=⟨fun hK=>(qkv hN hi hx (he.pe hK) hs hf).imp fun _ _ _=>qjQ⟩
def qqc (te:TX):TSM:=fun De ρ=>te ρ (fun _ ρ1=>De.nx ρ1) De.ex
theorem qcC (he:PX K X e te)(hs:swapsWith e none pos.line X.env=pure false:=by rfl):PSM K X (.Expr e pos) (qqc te) :=
 ⟨fun hK=>(qeE (he.pe hK) hs).imp fun E σ H hq0=>by
  obtain⟨Φ0,H0,Φ,ρ,De,g,V,t,k⟩:=hq0
  exact⟨Φ0,H0,Φ,[],ρ,[],_,De.ex,st0 g V k.ex,t,fun s ρ1 Φ1 H1 v r S1 _=>k.nx _ Φ1 H1 σ r S1.g S1.env⟩⟩
def qrQ (te:TX):TSM:=fun De ρ=>te ρ De.rt De.ex
theorem qcA (he:PX K X e te):PSM K X (.Return (some e) pos) (qrQ te) :=
 ⟨fun hK=>(qmf (he.pe hK)).imp fun E σ H hq0=>by
  obtain⟨Φ0,H0,Φ,ρ,De,g,V,t,k⟩:=hq0
  exact⟨Φ0,H0,Φ,[],ρ,[],_,De.ex,st0 g V k.ex,t,fun s ρ1 Φ1 H1 v r S1 _=>k.rt s ρ1 Φ1 H1 v σ r S1.g S1.env1⟩⟩
def qoo (i:Nat):TX:=fun ρ R _=>match ρ[i]? with | some (some (.ob none o))=>R (.ob none o) (ρ.set i none) | _=>False
theorem qkg (i:Nat){x:Str}(hN:X.N[i]?=some x:=by rfl)(hv:Vis X.env.scope x:=by first | exact Or.inl rfl | exact Or.inr (Or.inl rfl) | exact Or.inr (Or.inr rfl))(hd:(x == ("__debug__":Str))=false:=by decide)
  (hcd:(x == ("__classdict__":Str))=false:=by decide):PX K X (.Name x pos) (qoo i):=⟨fun _=>(pv i hN hv hd hcd).imp fun σ H Q hq0=>by
 obtain⟨Φ0,H0,Φ,τ,ρ,κ,R,Rx,S,t,k⟩:=hq0
 unfold qoo at t
 split at t
 ·next o h =>
  have hi:=qak h
  have hl:=S.l
  obtain⟨fp,E⟩:=S.env
  obtain⟨q,e,_⟩:=E.ow i none o h
  refine⟨_,e,k _ _ Φ H _ t ⟨S.g,by rw[List.length_set];exact hl,?_,S.x⟩ (Same.refl _)⟩
  have hk:=S.lk
  refine S.E.re (fun j=>if j=ρ.length+κ.length then i else j) (by simp only [List.length_append,List.length_set,List.length_cons,List.length_nil];omega) (fun j x hx=>?_) fun j1 j2 a a' o1 o2 h1 h2 e12=>?_
  ·have hj:=qak hx
   simp only [List.length_append,List.length_set,List.length_cons,List.length_nil] at hj
   rcases Nat.lt_or_ge j ρ.length with c | c
   ·rw[List.getElem?_append_left (by rw[List.length_set];exact c)] at hx
    rw[if_neg (by omega),List.getElem?_append_left c,List.getElem?_append_left (by omega),List.getElem?_append_left (by omega)]
    rcases qbi hx with⟨_,_,z⟩ | ⟨_,z⟩
    ·cases z
    ·exact⟨z,rfl⟩
   ·rw[List.getElem?_append_right (by rw[List.length_set];exact c),List.length_set] at hx
    rcases Nat.lt_or_ge j (ρ.length+κ.length) with c2 | c2
    ·rw[List.getElem?_append_left (by omega)] at hx
     rw[if_neg (by omega)]
     constructor
     ·rw[List.getElem?_append_right c]
      exact hx
     ·rw[List.getElem?_append_right (by omega),List.getElem?_append_left (by omega),List.getElem?_append_right (by omega)]
    ·have ej:j=ρ.length+κ.length:=by omega
     subst ej
     rw[List.getElem?_append_right (by omega),show ρ.length+κ.length - ρ.length - κ.length=0 by omega] at hx
     cases hx
     rw[if_pos rfl,List.getElem?_append_left hi,List.getElem?_append_right (by omega),List.getElem?_append_right (by omega),show ρ.length+κ.length - σ.length - τ.length=0 by omega,List.getElem?_append_left (by omega),e]
     exact⟨h,rfl⟩
  ·have no:∀ {j:Nat} {a:Option Addr} {o:Om},(ρ.set i none++(κ++[some (Sm.ob none o)]))[j]?=some (some (.ob a o))→True:=fun _=>trivial
   have ni:∀ {j:Nat} {x:Sm},(ρ.set i none++(κ++[some (Sm.ob none o)]))[j]?=some (some x)→j≠i:=fun {j x} hx ej=>by
    subst ej
    rw[List.getElem?_append_left (by rw[List.length_set];exact hi),List.getElem?_set_self hi] at hx
    cases hx
   have n1:=ni h1
   have n2:=ni h2
   have e12:(if j1=ρ.length+κ.length then i else j1)=(if j2=ρ.length+κ.length then i else j2):=e12
   split at e12 <;> split at e12 <;> omega
 ·exact t.elim⟩
def mIf (c:TXB)(t u:TSM):TSM:=fun De ρ=>c ρ (fun b ρ1=>(b=true→t De ρ1)∧(b=false→u De ρ1)) De.ex
theorem qde {c:Expr}{a b:List Stmt}(hc:PXB K X c tt)(ha:PSsM K X a t)(hb:PSsM K X b u):PSM K X (.If c a b pos) (mIf tt t u) :=
 ⟨fun hK=>(qpt (hc.pt hK) (ha.ps hK) (hb.ps hK)).imp fun E σ H hq0=>by
  obtain⟨Φ0,H0,Φ,ρ,De,g,V,t,k⟩:=hq0
  refine⟨Φ0,H0,Φ,[],ρ,[],_,De.ex,st0 g V k.ex,t,fun c ρ1 Φ1 H1 r S1 _=>?_⟩
  cases c with
  | true=>refine qpD ?_;exact⟨Φ0,H0,Φ1,ρ1,De,S1.g,S1.env,r.1 rfl,k⟩
  | false=>refine qpE ?_;exact⟨Φ0,H0,Φ1,ρ1,De,S1.g,S1.env,r.2 rfl,k⟩⟩
abbrev TGM:=D→qaN→(qaN→Prop)→Prop
abbrev qnb:=List D→qaN→(qaN→Prop)→Prop
def lGM (K:PySem.W.Frag)(g:TGM):TG:=fun v σ H Q=>∃ H0 Φ ρ d R,EnvM K H0 Φ H σ ρ∧Rp K Φ d v∧g d ρ R∧∀ ρ' σ',R ρ'→EnvM K H0 Φ H σ' ρ'→Q σ' H
def qq7 (K:PySem.W.Frag)(g:qnb):TGs:=fun vs σ H Q=>∃ H0 Φ ρ ds R,EnvM K H0 Φ H σ ρ∧RpL K Φ ds vs∧g ds ρ R∧∀ ρ' σ',R ρ'→EnvM K H0 Φ H σ' ρ'→Q σ' H
structure PGM (K:PySem.W.Frag)(X:Cx)(e:Expr)(g:TGM):Prop where pg:X.K=K→PG X e (lGM K g)
structure PGMs (K:PySem.W.Frag)(X:Cx)(es:List Expr)(g:qnb):Prop where pg:X.K=K→PGs X es (qq7 K g)
end
section
variable {K : PySem.W.Frag} {X : Cx} {e : Expr} {es : List Expr} {pos : Pos} {g : TGM} {gs : qnb}
def qri (i:Nat):TGM:=fun d ρ R=>R (ρ.set i (some (.v d)))
theorem qbU {i:Nat}{x:Str}(hN:X.N.Nodup)(hi:X.N[i]?=some x)(hx:Loc X.env.scope x)(hf:X.fn x=true∨X.env.scope.names.lookup x=some .local:=by first | exact .inl rfl | exact .inr rfl | assumption):PGM K X (.Name x pos) (qri i) :=
 ⟨fun _=>(qee hN hi hx hf).imp fun v σ H Q hq0=>by obtain⟨H0,Φ,ρ,d,R,E,r,g,k⟩:=hq0;exact k _ _ g ((E.snocV r).store i)⟩
def qqQ:qnb:=fun ds ρ R=>match ds with | []=>R ρ | _=>False
def qpj (t:TGM)(u:qnb):qnb:=fun ds ρ R=>match ds with | d::r=>t d ρ fun ρ'=>u r ρ' R | []=>False
theorem ql9:PGMs K X [] qqQ:=⟨fun _=>pgs_nil.imp fun v σ H Q hq0=>by
 obtain⟨H0,Φ,ρ,ds,R,E,r,g,k⟩:=hq0
 cases ds with
 | nil=>exact⟨List.length_eq_zero_iff.mp r.1,k _ _ g E⟩
 | cons=>exact g.elim⟩
theorem qfq (h1:PGM K X e g)(h2:PGMs K X es gs)(hs:(assignEach (e::es) X.env).map (·.2)=assign e X.env::(assignEach es X.env).map (·.2):=by rfl):PGMs K X (e::es) (qpj g gs) :=
 ⟨fun hK=>(qdx (h1.pg hK) (h2.pg hK) hs).imp fun vs σ H Q hq0=>by
  obtain⟨H0,Φ,ρ,ds,R,E,r,g,k⟩:=hq0
  cases ds with
  | nil=>exact g.elim
  | cons d ds =>
   cases vs with
   | nil=>exact absurd r.1 (by simp)
   | cons v vs =>
    refine⟨v,vs,rfl,H0,Φ,ρ,d,_,E,r.2 0 v d rfl rfl,g,fun ρ' σ' g' E'=>⟨H0,Φ,ρ',ds,R,E',⟨by have:=r.1;simpa using this,fun i u f hu hf=>r.2 (i+1) u f hu hf⟩,g',k⟩⟩⟩
def qsb (n:Nat)(t:qnb):TGM:=fun d ρ R=>match d with | .tup ds=>ds.length=n∧t ds ρ R | .lst ds=>ds.length=n∧t ds ρ R | _=>False
def gTL (K:PySem.W.Frag)(n:Nat)(t:TGs):TG:=fun v σ H Q=>qqq K n t v σ H Q∨qp9 K n t v σ H Q
theorem qqR {k n:Nat}{t:TGs}(hK:X.K=K)(hc:X.calm=true)(h:PGs X es t)(hn:(assignEach es X.env).length=n)(hst:(assignEach es X.env).findIdx? (·.1)=none):PG X (.Tuple es k pos) (gTL K n t):=fun pins s σ H v u Q I r hw=>by
 rcases hw with hw | hw
 ·exact qii hK hc h hn hst pins s σ H v u Q I r hw
 ·exact qhE hK hc h hn hst pins s σ H v u Q I r hw
theorem qn2 {k n:Nat}(hc:X.calm=true)(h:PGMs K X es gs)(hn:(assignEach es X.env).length=n:=by rfl)(hst:(assignEach es X.env).findIdx? (·.1)=none:=by rfl):PGM K X (.Tuple es k pos) (qsb n gs) :=
 ⟨fun hK=>(qqR hK hc (h.pg hK) hn hst:PG X (.Tuple es k pos) (gTL K n (qq7 K gs))).imp fun v σ H Q hq0=>by
  obtain⟨H0,Φ,ρ,d,R,E,r,g,k⟩:=hq0
  cases d with
  | tup ds=>cases r with | tup h1 h2 h3=>exact .inl ⟨_,_,rfl,.of (E.fz _ _ h1),by rw[h2];exact g.1,H0,Φ,ρ,ds,R,E,⟨h2,h3⟩,g.2,k⟩
  | lst ds=>cases r with | lst h1 h2 h3=>exact .inr ⟨_,_,rfl,.of (E.fz _ _ h1),by rw[h2];exact g.1,H0,Φ,ρ,ds,R,E,⟨h2,h3⟩,g.2,k⟩
  | _=>exact g.elim⟩
end
section
variable {K : PySem.W.Frag} {X : Cx} {st : Stmt} {rest : List Stmt} {t u : TSM} {e a : Expr} {te : TX} {pos : Pos} {tt : TXB}
def qnV (c:TXB)(tb:TSM):TSM:=fun De ρ=>∃ I:Nat→qaN→Prop,(∃ m,I m ρ)∧∀ m ρ',I m ρ'→c ρ' (fun b ρ1=>(b=true→tb { De with nx:=fun ρ2=>∃ m',m'<m∧I m' ρ2,ct:=fun ρ2=>∃ m',m'<m∧I m' ρ2,bk:=De.nx } ρ1)∧(b=false→De.nx ρ1)) De.ex
theorem qhf {c:Expr}{body:List Stmt}{tb:TSM}(hp:PassesOwn (model X.prog X.w) X.A X.env X.xe)(hc:PXB K X c tt)(hb:PSsM K X body tb):PSM K X (.While c body [] pos) (qnV tt tb) :=
 ⟨fun hK=>(qlg hp (hc.pt hK) (hb.ps hK)).imp fun E σ H hq0=>by
  obtain⟨Φ0,H0,Φ,ρ,De,g,V,⟨I,⟨m,h0⟩,hw⟩,k⟩:=hq0
  refine⟨fun m σ H=>∃ Φ' ρ',Gr Φ0 H0 Φ' H∧EnvM K H0 Φ' H σ ρ'∧I m ρ',⟨m,Φ,ρ,g,V,h0⟩,?_⟩
  rintro m σ' H' ⟨Φ',ρ',g',V',hi⟩
  refine⟨Φ0,H0,Φ',[],ρ',[],_,De.ex,st0 g' V' k.ex,hw m ρ' hi,fun b ρ1 Φ1 H1 r S1 _=>?_⟩
  cases b with
  | false=>refine qpE ?_;exact k.nx ρ1 Φ1 H1 σ' (r.2 rfl) S1.g S1.env
  | true =>
   refine qpD ?_
   refine⟨fun σ2 H2=>∃ m',m'<m∧∃ Φ' ρ',Gr Φ0 H0 Φ' H2∧EnvM K H0 Φ' H2 σ2 ρ'∧I m' ρ',fun σ2 H2 h=>h,Φ0,H0,Φ1,ρ1,_,S1.g,S1.env,r.1 rfl,⟨?_,k.rt,k.nx,?_,k.ex⟩⟩
   ·rintro ρ2 Φ2 H2 σ2 ⟨m',hm,hi'⟩ g2 V2
    exact⟨m',hm,Φ2,ρ2,g2,V2,hi'⟩
   ·rintro ρ2 Φ2 H2 σ2 ⟨m',hm,hi'⟩ g2 V2
    exact⟨m',hm,Φ2,ρ2,g2,V2,hi'⟩⟩
abbrev TIM:=qaN→(List D→qaN→Prop)→(XD→qaN→Prop)→Prop
def lIM (K:PySem.W.Frag)(X:Cx)(t:TIM):TI:=fun σ H R'=>∃ Φ0 H0 Φ τ ρ κ R Rx,StM K X Φ0 H0 Φ H σ τ ρ κ Rx∧t ρ R Rx∧∀ ds ρ' Φ' H' J,R ds ρ'→StM K X Φ0 H0 Φ' H' σ τ ρ' κ Rx→Same Φ Φ'→SteadyD K J Φ' ds→R' J H'
structure PIM (K:PySem.W.Frag)(X:Cx)(tg e:Expr)(t:TIM):Prop where pi:X.K=K→PI X tg e (lIM K X t)
def iD (t:TDL):TIM:=fun ρ R _=>t (prR ρ) fun ds=>R ds ρ
theorem qd2 {tg:Expr}{t:TDL}(h:PID K X tg e t):PIM K X tg e (iD t):=⟨fun hK=>(h.pi hK).imp fun σ H R' hq0=>by
 obtain⟨Φ0,H0,Φ,τ,ρ,κ,R,Rx,S,t,k⟩:=hq0
 exact⟨H0,Φ,prR ρ,_,S.env.toD,t,fun ds Φ' H' J r g Sd=>k ds ρ Φ' H' J r (S.gr g) g.f Sd⟩⟩
def qmv (t:TXA):TIM:=fun ρ R Rx=>t ρ (xaD fun ds ρ1=>match ds with | [.int j]=>(-(2 ^ 62)≤j∧j<2 ^ 62)∧R (qev 0 j.toNat) ρ1 | _=>False) Rx
theorem qjJ {tg:Expr}{tA:TXA}{p:Pos}(hg:Gl X "range")(hm:X.mg "range"=none)(ha:PXA K X [a] tA)(hs:starEach [a] X.env=[(false,eval a X.env)]:=by rfl):PIM K X tg (.Call (.Name "range" p) [a] [] pos) (qmv tA) :=
 ⟨fun hK=>(qf6 hg hm (ha.pa hK) hs).imp fun σ H R' hq0=>by
  obtain⟨Φ0,H0,Φ,τ,ρ,κ,R,Rx,S,t,k⟩:=hq0
  refine⟨Φ0,H0,Φ,τ,ρ,κ,_,Rx,S,t,fun as ρ1 Φ1 H1 vs ts r1 hl hv S1 f1=>?_⟩
  obtain⟨ds,hd,r1⟩:=r1.get
  have rl:=S1.vals S.lk hd hv
  match ds,r1,rl with
  | [.int j],r,rl =>
   obtain⟨v,rfl,r1⟩:=rl.one_inv
   cases r1
   exact⟨j,rfl,r.1.1,r.1.2,k _ ρ1 Φ1 H1 _ r.2 (S1.pop S.lk) f1 qdu⟩⟩
theorem XeOk.join {Φ0 H0 H Φ3:Hp}{Rx:XD→qaN→Prop}(x:XeOk K X Φ0 H0 Rx)(g:Gr Φ0 H0 Φ3 H):XeOk K X Φ3 H0 Rx:=fun xd ρ' Φ' H' σ' e s' pins r g' V h=>x xd ρ' Φ' H' σ' e s' pins r (g.join g') V h
def qrG (ti:TIM)(gd:TGM)(tb:TSM):TSM:=fun De ρ=>ti ρ (fun ds ρ0=>∃ I:Nat→qaN→Prop,I 0 ρ0∧(∀ i d ρ',ds[i]?=some d→I i ρ'→gd d ρ' fun ρ2=>tb { De with nx:=I (i+1),ct:=I (i+1),bk:=De.nx } ρ2)∧∀ ρ',I ds.length ρ'→De.nx ρ') De.ex
theorem qdF {tg iter:Expr}{body:List Stmt}{ti:TIM}{gd:TGM}{tb:TSM}(hp:PassesOwn (model X.prog X.w) X.A X.env X.xe)(hc:X.calm=true)(hi:PIM K X tg iter ti)(hg:PGM K X tg gd)(hb:PSsM K X body tb)
  (hs:∀ x,foldedSetIterable iter X.env x=pure x:=by intro _;rfl):PSM K X (.For tg iter body [] pos) (qrG ti gd tb) :=
 ⟨fun hK=>(ql3 hp hc (hi.pi hK) (hg.pg hK) (hb.ps hK) hs).imp fun E σ H hq0=>by
  obtain⟨Φ0,H0,Φ,ρ,De,g,V,t,k⟩:=hq0
  refine⟨Φ0,H0,Φ,[],ρ,[],_,De.ex,st0 g V k.ex,t,fun ds ρ0 Φ1 H1 J hq1 S1 _ Sd=>?_⟩
  obtain⟨I,h0,hst,hend⟩:=hq1
  refine⟨fun i m σ H'=>m=ds.length - i∧i≤ds.length∧∃ Φ' ρ',Gr Φ0 H0 Φ' H'∧Same Φ1 Φ'∧EnvM K H0 Φ' H' σ ρ'∧I i ρ',⟨ds.length,by simp,Nat.zero_le _,Φ1,ρ0,S1.g,Same.refl _,S1.env,h0⟩,?_⟩
  rintro i m σ' H' ⟨rfl,hi,Φ',ρ',g',s',V',hI⟩
  by_cases hlt:i<ds.length
  ·refine .inr ⟨Sd.go i H' (s'.trans V'.fz) hlt,fun σ2 H2=>∃ Φ' ρ',Gr Φ0 H0 Φ' H2∧Same Φ1 Φ'∧EnvM K H0 Φ' H2 σ2 ρ'∧I (i+1) ρ',fun σ2 H2 h2=>⟨ds.length - (i+1),by omega,rfl,hlt,h2⟩,fun x H2 y=>?_⟩
   obtain⟨Φ3,g3,rx⟩:=Sd.yl i Φ' H' x H2 _ s' V'.fz (qaP hlt) y
   refine⟨H0,Φ3,ρ',_,_,V'.gr g3,rx,hst i _ ρ' (qaP hlt) hI,fun ρ2 σ3 t2 V3=>?_⟩
   refine⟨Φ3,H0,Φ3,ρ2,_,?_,V3,t2,⟨?_,?_,?_,?_,k.ex.join (g'.trans g3)⟩⟩
   ·exact⟨Same.refl _,(g'.trans g3).h,g3.s,fun p u hp hn _=>hn⟩
   ·intro ρ4 Φ4 H4 σ4 t4 g4 V4
    exact⟨Φ4,ρ4,(g'.trans g3).join g4,(s'.trans g3.f).trans g4.f,V4,t4⟩
   ·intro sm ρ4 Φ4 H4 v σ4 r g4 V4
    exact k.rt sm ρ4 Φ4 H4 v σ4 r ((g'.trans g3).join g4) V4
   ·intro ρ4 Φ4 H4 σ4 t4 g4 V4
    exact k.nx ρ4 Φ4 H4 σ4 t4 ((g'.trans g3).join g4) V4
   ·intro ρ4 Φ4 H4 σ4 t4 g4 V4
    exact⟨Φ4,ρ4,(g'.trans g3).join g4,(s'.trans g3.f).trans g4.f,V4,t4⟩
  ·have e:i=ds.length:=by omega
   subst e
   exact .inl ⟨Sd.stop H' (s'.trans V'.fz),k.nx ρ' Φ' H' σ' (hend ρ' hI) g' V'⟩⟩
end
def qar:List Sm→List Addr→qaN
 | [],_=>[]
 | .v d::as,ps=>some (.v d)::qar as ps
 | .ob _ o::as,p::ps=>some (.ob (some p) o)::qar as ps
 | .ob _ _::as,[]=>none::qar as []
def qcZ (N:List Str)(as:List Sm)(ps:List Addr):qaN:=qar as ps++List.replicate (N.length - as.length) none
def qat:List Str→List Sm→List Addr→qaN
 | [],as,ps=>qar as ps
 | _::N,[],ps=>none::qat N [] ps
 | _::N,.v d::as,ps=>some (.v d)::qat N as ps
 | _::N,.ob _ o::as,p::ps=>some (.ob (some p) o)::qat N as ps
 | _::N,.ob _ _::as,[]=>none::qat N as []
theorem qcj:∀ (N:List Str) (as:List Sm) (ps:List Addr),qcZ N as ps=qat N as ps
 | [],as,ps=>by unfold qcZ;rw[List.length_nil,Nat.zero_sub,List.replicate_zero,List.append_nil];rfl
 | n::N,[],ps=>by
  have:=qcj N [] ps
  unfold qcZ at this ⊢
  show List.replicate (N.length+1 - 0) none=none::qat N [] ps
  rw[← this]
  rfl
 | n::N,.v d::as,ps=>by
  have:=qcj N as ps
  unfold qcZ at this ⊢
  rw[List.length_cons,List.length_cons,Nat.add_sub_add_right]
  exact congrArg (some (Sm.v d)::·) this
 | n::N,.ob a o::as,p::ps=>by
  have:=qcj N as ps
  unfold qcZ at this ⊢
  rw[List.length_cons,List.length_cons,Nat.add_sub_add_right]
  exact congrArg (some (Sm.ob (some p) o)::·) this
 | n::N,.ob _ _::as,[]=>by
  have:=qcj N as []
  unfold qcZ at this ⊢
  rw[List.length_cons,List.length_cons,Nat.add_sub_add_right]
  exact congrArg (none::·) this
def qmq (k:List Om→Prop):List Sm→List Addr→Nat→qaN→Prop
 | [],_,_,_=>k []
 | .v _::as,ps,i,ρ=>qmq k as ps (i+1) ρ
 | .ob _ _::as,p::ps,i,ρ=>∃ o,ρ[i]?=some (some (.ob (some p) o))∧qmq (fun os=>k (o::os)) as ps (i+1) ρ
 | .ob _ _::_,[],_,_=>False
def qnE:List Sm→Nat
 | []=>0
 | .v _::as=>qnE as
 | .ob _ _::as=>qnE as+1
def qdb:List Sm→List V→List Addr
 | .v _::as,_::vs=>qdb as vs
 | .ob _ _::as,.ref p::vs=>p::qdb as vs
 | _,_=>[]
section
variable {K : PySem.W.Frag} {Φ H Φ' H' H0 : Hp}
theorem qdl:∀ {as:List Sm} {vs:List V} {Fs:List (List Addr)},ArgM K Φ H as vs Fs→(qdb as vs).length=qnE as
 | [],_,_,.nil=>rfl
 | _,_,_,.v (as:=as) (vs:=vs) _ t=>show (qdb as vs).length=qnE as from qdl t
 | _,_,_,.o _ t=>by show (_::qdb _ _).length=qnE _+1;rw[List.length_cons,qdl t]
theorem qcV:∀ {as:List Sm} {ps:List Addr},(qar as ps).length=as.length
 | [],_=>rfl
 | .v d::as,ps=>by show (qar as ps).length+1=_;rw[qcV];rfl
 | .ob _ o::as,p::ps=>by show (qar as ps).length+1=_;rw[qcV];rfl
 | .ob _ _::as,[]=>by show (qar as []).length+1=_;rw[qcV];rfl
theorem qcu:∀ {as:List Sm} {vs:List V} {Fs:List (List Addr)},ArgM K Φ H as vs Fs→∀ {i:Nat} {x:Sm},(qar as (qdb as vs))[i]?=some (some x) →
  (∃ d v,x=.v d∧vs[i]?=some v∧Rp K Φ d v)∨∃ o p F,x=.ob (some p) o∧vs[i]?=some (.ref p)∧Fs[i]?=some F∧OmS K Φ H o p F
 | [],_,_,.nil,i,x,h=>by simp [qar] at h
 | _,_,_,.v (d:=d) r t,0,x,h=>by cases h;exact .inl ⟨d,_,rfl,rfl,r⟩
 | _,_,_,.v r t,i+1,x,h=>qcu t (i:=i) h
 | _,_,_,.o (o:=o) (p:=p) (F:=F) r t,0,x,h=>by cases h;exact .inr ⟨o,p,F,rfl,rfl,rfl,r⟩
 | _,_,_,.o r t,i+1,x,h=>qcu t (i:=i) h
theorem qjT:∀ {Fs:List (List Addr)},Fs.flatten.Nodup→∀ {i j:Nat} {F G:List Addr},Fs[i]?=some F→Fs[j]?=some G→i≠j→∀ b∈F,b∉G
 | [],_,i,j,F,G,h,_,_,_,_=>by simp at h
 | L::Fs,nd,i,j,F,G,hi,hj,c,b,hb=>by
  obtain⟨n1,n2,n3⟩:=List.nodup_append.mp (show (L++Fs.flatten).Nodup from nd)
  intro hb2
  cases i with
  | zero =>
   cases hi
   cases j with
   | zero=>exact c rfl
   | succ j=>exact n3 b hb b (List.mem_flatten.mpr ⟨G,List.mem_of_getElem? (i:=j) (by simpa using hj),hb2⟩) rfl
  | succ i =>
   cases j with
   | zero =>
    cases hj
    exact n3 b hb2 b (List.mem_flatten.mpr ⟨F,List.mem_of_getElem? (i:=i) (by simpa using hi),hb⟩) rfl
   | succ j=>exact qjT n2 (by simpa using hi) (by simpa using hj) (fun e=>c (by rw[e])) b hb hb2
theorem qfc {N:List Str}{as:List Sm}{vs:List V}{Fs:List (List Addr)}(sm:Same Φ H)(tb:TabF K Φ)(ha:ArgM K Φ H as vs Fs)(nd:Fs.flatten.Nodup)(hn:∀ b∈Fs.flatten,Φ b=none):EnvM K (qcn H Fs.flatten) Φ H (qcY N vs) (qcZ N as (qdb as vs)):=by
 have cs:∀ {i:Nat} {x:Sm},(qcZ N as (qdb as vs))[i]?=some (some x)→(qar as (qdb as vs))[i]?=some (some x):=fun {i x} h=>by
  unfold qcZ at h
  rcases Nat.lt_or_ge i (qar as (qdb as vs)).length with c | c
  ·rwa [List.getElem?_append_left c] at h
  ·rw[List.getElem?_append_right c,List.getElem?_replicate] at h
   split at h <;> cases h
 have sv:∀ {i:Nat} {v:V},vs[i]?=some v→(qcY N vs)[i]?=some (some v):=fun {i v} h=>by
  unfold qcY
  rw[List.getElem?_append_left (by rw[List.length_map];exact qak h),List.getElem?_map,h]
  rfl
 obtain⟨l1,l2⟩:=ha.len
 refine⟨fun i=>Fs.getD i [],sm,by unfold qcY qcZ;rw[List.length_append,List.length_append,List.length_map,List.length_replicate,List.length_replicate,qcV,l1],fun i d h=>?_,fun i a o h=>?_,fun i a o h b hb=>?_,fun i j a a' o o' hi hj c b hb=>?_,tb⟩
 ·rcases qcu ha (cs h) with⟨d',v,e,hv,r⟩ | ⟨o,p,F,e,_⟩
  ·cases e;exact⟨v,sv hv,r⟩
  ·cases e
 ·rcases qcu ha (cs h) with⟨d',v,e,hv,r⟩ | ⟨o',p,F,e,hv,hF,r⟩
  ·cases e
  ·cases e
   refine⟨p,sv hv,(fun q e=>by cases e;rfl),?_⟩
   rw[List.getD_eq_getElem?_getD,hF]
   exact r
 ·rcases qcu ha (cs h) with⟨d',v,e,_⟩ | ⟨o',p,F,e,hv,hF,r⟩
  ·cases e
  ·rw[List.getD_eq_getElem?_getD,hF] at hb
   have hm:b∈Fs.flatten:=List.mem_flatten.mpr ⟨F,List.mem_of_getElem? hF,hb⟩
   exact⟨qlh hm,hn b hm⟩
 ·rcases qcu ha (cs hi) with⟨d',v,e,_⟩ | ⟨o1,p1,F1,e,_,hF1,_⟩
  ·cases e
  ·rcases qcu ha (cs hj) with⟨d',v,e,_⟩ | ⟨o2,p2,F2,e,_,hF2,_⟩
   ·cases e
   ·rw[List.getD_eq_getElem?_getD,hF1] at hb
    rw[List.getD_eq_getElem?_getD,hF2]
    exact qjT nd hF1 hF2 c b hb
theorem qhb {fp:Nat→List Addr}{σ:St}{ρ:qaN}{k:List Om→Prop}(E:EnvM' K H0 Φ' H' σ ρ fp):∀ {as:List Sm} {vs:List V} {Fs:List (List Addr)} {i:Nat} {k:List Om→Prop},ArgM K Φ H as vs Fs→qmq k as (qdb as vs) i ρ →
  ∃ os Fs',OutM K Φ' H' as vs os Fs'∧k os∧Fs'.flatten.Nodup∧(∀ b∈Fs'.flatten,H0 b=none∧Φ' b=none)∧∀ b∈Fs'.flatten,∃ j a o,i≤j∧j<i+as.length∧ρ[j]?=some (some (.ob a o))∧b∈fp j
 | [],_,_,i,k,.nil,h=>⟨[],[],.nil,h,by simp,fun b hb=>(by cases hb),fun b hb=>(by cases hb)⟩
 | _,_,_,i,k,.v (as:=as) r t,h=>by
  obtain⟨os,Fs',h1,h2,h3,h4,h5⟩:=qhb (k:=k) E (i:=i+1) t h
  refine⟨os,[]::Fs',.v h1,h2,by simpa using h3,fun b hb=>h4 b (by simpa using hb),fun b hb=>?_⟩
  obtain⟨j,a,o,j1,j2,j3⟩:=h5 b (by simpa using hb)
  exact⟨j,a,o,by omega,by rw[List.length_cons];omega,j3⟩
 | _,_,_,i,k,.o (p:=p) (as:=as) (vs:=vs) r t,h=>by
  obtain⟨o',ho,h⟩:=(show ∃ o,ρ[i]?=some (some (.ob (some p) o))∧qmq (fun os=>k (o::os)) as (qdb as vs) (i+1) ρ from h)
  obtain⟨os,Fs',h1,h2,h3,h4,h5⟩:=qhb (k:=fun os=>k (o'::os)) E (i:=i+1) t h
  obtain⟨q,e,ha,rr⟩:=E.ow i _ o' ho
  cases ha p rfl
  refine⟨o'::os,fp i::Fs',.o rr h1,h2,?_,fun b hb=>?_,fun b hb=>?_⟩
  ·refine List.nodup_append.mpr ⟨rr.nodup,h3,fun b hb c hc e=>?_⟩
   subst e
   obtain⟨j,a,o,j1,j2,j3,j4⟩:=h5 b hc
   exact E.dj i j _ a o' o ho j3 (by omega) b hb j4
  ·rcases List.mem_append.mp (show b∈fp i++Fs'.flatten from hb) with z | z
   ·exact E.no i _ o' ho b z
   ·exact h4 b z
  ·rcases List.mem_append.mp (show b∈fp i++Fs'.flatten from hb) with z | z
   ·exact⟨i,_,o',Nat.le_refl _,by rw[List.length_cons];omega,ho,z⟩
   ·obtain⟨j,a,o,j1,j2,j3⟩:=h5 b z
    exact⟨j,a,o,by omega,by rw[List.length_cons];omega,j3⟩
end
section
variable {P : Program} {w : World} {K : PySem.W.Frag} {mg : Str → Option Value} {base : Heap}
theorem Fun.okM {x qual:Str}{st:Stmt}{f:Addr}{fd:FuncData}{N ps:List Str}{k:Nat}{sp:SpM}(F:Fun K x qual st f fd)(S:FnScope N ps (qah st))(len:∀ as R Rx,sp as R Rx→as.length=ps.length)
  (hbody:∀ (cdv:Value) (A:Around) (outer:List Env) (s:Shared) (H:Hp) (E:XK) (as:List Sm) (R:Sm→List Om→Prop) (Rx:XD→List Om→Prop) (qs:List Addr),fd.code=cdv→Room k (A.deeper (envOfC qual (qah st) s.heap.objs.size f cdv))→sp as R Rx→qs.length=qnE as →
   ∃ t,PSsM K (qiV CX0 P w K mg base N qual (qah st) f cdv A outer s H E).nox (qaV st) t∧t { nx:=fun ρ=>qmq (R (.v .non)) as qs 0 ρ,rt:=fun sm ρ=>qmq (R sm) as qs 0 ρ } (qat N as qs)):FnOk P w K mg base CX0 (k+1) f fd ps (qf2 K sp):=by
 refine F.okL S (fun vs H Q E ⟨Φ,as,Fs,R,Rx,sm,tb,ha,nd,hn,h,_⟩=>by rw[ha.len.1];exact len as R Rx h) (fun cdv A outer s H vs Q E hcd hr ⟨Φ,as,Fs,R,Rx,sm,tb,ha,nd,hn,h,kk⟩=>?_)
 obtain⟨t,ht,hq⟩:=hbody cdv A outer s H E as R Rx (qdb as vs) hcd hr h (qdl ha)
 rw[← qcj] at hq
 have al:=len as R Rx h
 have nl:ps.length≤N.length:=by have:=congrArg List.length S.pre;rw[List.length_take] at this;omega
 have fin:∀ sm ρ' Φ' H' v σ',qmq (R sm) as (qdb as vs) 0 ρ'→Gr Φ (qcn H Fs.flatten) Φ' H'→EnvM K (qcn H Fs.flatten) Φ' H' (σ'++[some v]) (ρ'++[some sm])→Q v H':=fun smr ρ' Φ' H' v σ' hk g V=>by
  obtain⟨fp,E'⟩:=V
  have hl:σ'.length=ρ'.length:=by have:=E'.len;simpa using this
  obtain⟨os,Fs',h1,h2,h3,h4,h5⟩:=qhb (k:=R smr) (E'.take hl.symm) ha hk
  have hat:(ρ'++[some smr])[ρ'.length]?=some (some smr):=by rw[List.getElem?_append_right (Nat.le_refl _),Nat.sub_self];rfl
  cases smr with
  | v d =>
   obtain⟨u,hu,r⟩:=E'.sl _ d hat
   rw[← hl,List.getElem?_append_right (Nat.le_refl _),Nat.sub_self] at hu
   cases hu
   exact kk (.v d) os Φ' H' v [] Fs' h2 g (.v r) h1 (by simpa using h3) (fun b hb=>h4 b (by simpa using hb))
  | ob a o =>
   obtain⟨u,hu,hau,r⟩:=E'.ow _ a o hat
   rw[← hl,List.getElem?_append_right (Nat.le_refl _),Nat.sub_self] at hu
   cases hu
   refine kk (.ob a o) os Φ' H' _ (fp ρ'.length) Fs' h2 g (.o hau r) h1 ?_ fun b hb=>?_
   ·refine List.nodup_append.mpr ⟨r.nodup,h3,fun b hb c hc e=>?_⟩
    subst e
    obtain⟨j,a2,o2,_,_,j3,j4⟩:=h5 b hc
    have hj:=qak j3
    exact E'.dj _ j a a2 o o2 hat (by rw[List.getElem?_append_left hj];exact j3) (by omega) b hb j4
   ·rcases List.mem_append.mp hb with z | z
    ·exact E'.no _ a o hat b z
    ·exact h4 b z
 have g0:Gr Φ (qcn H Fs.flatten) Φ H:=⟨Same.refl _,qim,sm,fun _ _ _ h _=>h⟩
 refine⟨lM K _ t,ht.ps rfl,Φ,qcn H Fs.flatten,Φ,_,_,g0,qfc sm tb ha nd hn,hq,⟨fun ρ' Φ' H' σ' r g V=>?_,fun smr ρ' Φ' H' v σ' r g V=>fin smr ρ' Φ' H' v σ' r g V,fun _ _ _ _ h=>h.elim,fun _ _ _ _ h=>h.elim,fun _ _ _ _ _ _ _ _ h=>h.elim⟩⟩
 exact fin (.v .non) ρ' Φ' H' .non σ' r g (V.snocV .non)
theorem Fun.clM {x:Str}{st:Stmt}{f:Addr}{fd:FuncData}{ps:List Str}{n:Nat}{z:SpM}(F:Fun K x x st f fd)(m:mg x=some (.ref f))(H:FnOk P w K mg base CX0 n f fd ps (qf2 K z))
  (b:∀ (kV doc pm:Value) (an:Option Addr) (cdv ct:Value) (us:List Value),us.length=ps.length→bindArgs (PySem.W.fnOf x x (qbk st) (qaV st) (qah st) .none kV doc pm an cdv ct) ⟨us,[]⟩=pure (ps.zip us)):ClM P w K mg base n x ps z:=⟨f,fd,H,F.binds b,F.kp,m⟩
theorem ClM.mono {n m:Nat}{x:Str}{ps:List Str}{z:SpM}(C:ClM P w K mg base n x ps z)(k:n≤m):ClM P w K mg base m x ps z:=by
 obtain⟨f,fd,F,r⟩:=C.ex
 exact⟨f,fd,F.mono k,r⟩
end
section
variable {K : PySem.W.Frag} {X : Cx} {e a b : Expr} {te ta tk : TX} {pos apos cpos npos spos : Pos} {x : Str} {i : Nat}
def ownL (ρ:qaN)(i:Nat)(k:Option Addr→List D→Prop):Prop:=match ρ[i]? with | some (some (.ob a (.lst ds)))=>k a ds | _=>False
theorem ownL.get {ρ:qaN}{i:Nat}{k:Option Addr→List D→Prop}(h:ownL ρ i k):∃ a ds,ρ[i]?=some (some (.ob a (.lst ds)))∧k a ds:=by
 unfold ownL at h
 split at h
 ·next a ds e=>exact⟨a,ds,e,h⟩
 ·exact h.elim
theorem StM.list {Φ0 H0 Φ H:Hp}{σ τ:St}{ρ κ:qaN}{Rx:XD→qaN→Prop}{a:Option Addr}{ds:List D}(S:StM K X Φ0 H0 Φ H σ τ ρ κ Rx)(hi:ρ[i]?=some (some (.ob a (.lst ds)))):∃ q vs,σ[i]?=some (some (.ref q))∧H q=some (.lst vs)∧RpL K Φ ds vs ∧
  ∀ (es:List D) (ws:List V),RpL K Φ es ws→StM K X Φ0 H0 Φ (upd H q (.lst ws)) σ τ (ρ.set i (some (.ob a (.lst es)))) κ Rx:=by
 have hlt:=qak hi
 obtain⟨q,vs,e,h1,h2,h3,h4,h5⟩:=S.E.list (i:=i) (a:=a) (ds:=ds) S.g (by rw[List.getElem?_append_left hlt];exact hi)
 rw[List.getElem?_append_left (by rw[← S.l];exact hlt)] at e
 refine⟨q,vs,e,h1,h4,fun es ws r=>?_⟩
 obtain⟨z1,z2⟩:=h5 es ws r
 refine⟨z2,by rw[List.length_set];exact S.l,?_,S.x⟩
 rw[List.set_append_left _ _ hlt] at z1
 exact z1
def qnB (i:Nat)(te:TX):TSM:=fun De ρ=>ownL ρ i fun _ _=>te ρ (xV fun d ρ1=>ownL ρ1 i fun a ds=>ds.length<sizeLine∧NF (ds++[d]) fun es=>De.nx (ρ1.set i (some (.ob a (.lst es))))) De.ex
theorem qb8 (i:Nat)(he:PX K X e te)(hfew:((backTo cpos (starEach [e] X.env)).all (fun x=>!x.1) && (backToKw cpos (keywordEach [] X.env)).all (fun x=>x.1.isSome) && decide (([e]:List Expr).length+([]:List Keyword).length+(if ([]:List Keyword).isEmpty then 0 else 1)<30))=true)
  (hse:starEach [e] X.env=(false,eval e X.env)::starEach [] X.env) (hN:X.N[i]?=some x:=by rfl) (hv:Vis X.env.scope x:=by first | exact Or.inl rfl | exact Or.inr (Or.inl rfl) | exact Or.inr (Or.inr rfl)) (hd:(x == ("__debug__":Str))=false:=by decide) (hcd:(x == ("__classdict__":Str))=false:=by decide)
  (hbase:attributeBase (.Name x npos) "append" X.env (eval (.Name x npos) X.env)=eval (.Name x npos) X.env:=by rfl) (hline:(apos.endLine == cpos.line)=true:=by rfl) (hs:swapsWith (.Call (.Attribute (.Name x npos) "append" apos) [e] [] cpos) none pos.line X.env=pure false:=by rfl) :
  PSM K X (.Expr (.Call (.Attribute (.Name x npos) "append" apos) [e] [] cpos) pos) (qnB i te) :=
 ⟨fun hK=>(qeE (qlM PySem.F.plainAttrs_list PySem.F.slot_list_append PySem.F.type_list_append qeI (pv i hN hv hd hcd) (qbg (he.pe hK) pa_nil hse) hbase hfew hline hse qae) hs).imp fun E σ H hq0=>by
  obtain⟨Φ0,H0,Φ,ρ,De,g,V,t,k⟩:=hq0
  obtain⟨a,ds,ho,t⟩:=ownL.get t
  have S:=st0 g V k.ex
  obtain⟨q,vs,e1,hp,rl,_⟩:=S.list ho
  refine⟨_,e1,.inl ⟨rfl,vs,SqL.of hp⟩,Φ0,H0,Φ,[],ρ,[],_,De.ex,S,t,fun s ρ1 Φ1 H1 v r S1 _=>?_⟩
  obtain⟨d,rfl,r⟩:=r.get
  obtain⟨a1,ds1,ho1,hl,r⟩:=ownL.get r
  obtain⟨q1,vs1,e2,hp1,rl1,k1⟩:=S1.list ho1
  rw[e1] at e2
  cases e2
  have S2:=k1 _ _ (rl1.append (.one S1.last))
  exact⟨q,vs1,v,rfl,rfl,hp1,by rw[rl1.1];exact hl,k.nx _ Φ1 _ σ r.get S2.g S2.env⟩⟩
def qry (i:Nat):TX:=fun ρ R _=>ownL ρ i fun a ds=>∃ d,ds[ds.length - 1]?=some d∧NF ds.dropLast fun es=>R (.v d) (ρ.set i (some (.ob a (.lst es))))
theorem qqx (i:Nat)(hN:X.N[i]?=some x:=by rfl)(hv:Vis X.env.scope x:=by first | exact Or.inl rfl | exact Or.inr (Or.inl rfl) | exact Or.inr (Or.inr rfl))(hd:(x == ("__debug__":Str))=false:=by decide)(hcd:(x == ("__classdict__":Str))=false:=by decide)
  (hbase:attributeBase (.Name x npos) "pop" X.env (eval (.Name x npos) X.env)=eval (.Name x npos) X.env:=by rfl) (hline:(apos.endLine == cpos.line)=true:=by rfl):PX K X (.Call (.Attribute (.Name x npos) "pop" apos) [] [] cpos) (qry i) :=
 ⟨fun hK=>(qo9 PySem.F.plainAttrs_list PySem.F.slot_list_pop PySem.F.type_list_pop qov (pv i hN hv hd hcd) hbase hline).imp fun σ H Q hq0=>by
  obtain⟨Φ0,H0,Φ,τ,ρ,κ,R,Rx,S,t,k⟩:=hq0
  obtain⟨a,ds,ho,d,hdd,t⟩:=ownL.get t
  obtain⟨q,vs,e1,hp,rl,k1⟩:=S.list ho
  obtain⟨v,hv,rv⟩:=rl.at hdd
  rw[← rl.1] at hv
  have S2:=k1 _ _ rl.dropLast
  exact⟨_,e1,.inl ⟨rfl,vs,SqL.of hp⟩,q,vs,v,rfl,rfl,hp,hv,k _ _ Φ _ v t.get (S2.pushV rv) (Same.refl _)⟩⟩
def qnZ (i:Nat)(ta:TX):TX:=fun ρ R Rx=>ownL ρ i fun _ _=>ta ρ (xV fun n ρ1=>match n with | .int n=>ownL ρ1 i fun a ds=>∃ j d,n=(j:Nat)∧j<2 ^ 62∧ds[j]?=some d∧NF (ds.eraseIdx j) fun es=>R (.v d) (ρ1.set i (some (.ob a (.lst es)))) | _=>False) Rx
theorem RpL.eraseIdx {Φ:Hp}{ds:List D}{vs:List V}(h:RpL K Φ ds vs)(j:Nat):RpL K Φ (ds.eraseIdx j) (vs.eraseIdx j):=by
 rw[List.eraseIdx_eq_take_drop_succ,List.eraseIdx_eq_take_drop_succ]
 exact (h.take j).append (h.drop (j+1))
theorem qpS {j n:Nat}(h:j<n):seqIndex? (j:Int) n=some j:=by
 unfold seqIndex?
 simp
 omega
theorem qmQ (i:Nat)(ha:PX K X a ta)(hfew:((backTo cpos (starEach [a] X.env)).all (fun x=>!x.1) && (backToKw cpos (keywordEach [] X.env)).all (fun x=>x.1.isSome) && decide (([a]:List Expr).length+([]:List Keyword).length+(if ([]:List Keyword).isEmpty then 0 else 1)<30))=true)
  (hse:starEach [a] X.env=(false,eval a X.env)::starEach [] X.env) (hN:X.N[i]?=some x:=by rfl) (hv:Vis X.env.scope x:=by first | exact Or.inl rfl | exact Or.inr (Or.inl rfl) | exact Or.inr (Or.inr rfl)) (hd:(x == ("__debug__":Str))=false:=by decide) (hcd:(x == ("__classdict__":Str))=false:=by decide)
  (hbase:attributeBase (.Name x npos) "pop" X.env (eval (.Name x npos) X.env)=eval (.Name x npos) X.env:=by rfl) (hline:(apos.endLine == cpos.line)=true:=by rfl):PX K X (.Call (.Attribute (.Name x npos) "pop" apos) [a] [] cpos) (qnZ i ta) :=
 ⟨fun hK=>(qlM PySem.F.plainAttrs_list PySem.F.slot_list_pop PySem.F.type_list_pop qlo (pv i hN hv hd hcd) (qbg (ha.pe hK) pa_nil hse) hbase hfew hline hse qae).imp fun σ H Q hq0=>by
  obtain⟨Φ0,H0,Φ,τ,ρ,κ,R,Rx,S,t,k⟩:=hq0
  obtain⟨a,ds,ho,t⟩:=ownL.get t
  obtain⟨q,vs,e1,hp,rl,_⟩:=S.list ho
  refine⟨_,e1,.inl ⟨rfl,vs,SqL.of hp⟩,Φ0,H0,Φ,τ,ρ,κ,_,Rx,S,t,fun s ρ1 Φ1 H1 w r S1 f1=>?_⟩
  obtain⟨n,rfl,r⟩:=r.get
  have rw1:=S1.last
  cases n with
  | int n =>
   cases rw1
   obtain⟨a1,ds1,ho1,j,d,rfl,h62,hj,r⟩:=ownL.get r
   have S1':=S1.pop S.lk
   obtain⟨q1,vs1,e2,hp1,rl1,k1⟩:=S1'.list ho1
   rw[e1] at e2
   cases e2
   obtain⟨v,hv,rv⟩:=rl1.at hj
   have S2:=k1 _ _ (rl1.eraseIdx j)
   exact⟨q,vs1,_,j,v,rfl,rfl,hp1,by omega,by omega,qpS (qak hv),hv,k _ _ Φ1 _ v r.get (S2.pushV rv) f1⟩
  | _=>exact r.elim⟩
def qrI (i:Nat)(te tk:TX):TSM:=fun De ρ=>te ρ (xV fun d ρ1=>ownL ρ1 i fun _ _=>tk ρ1 (xV fun kk ρ2=>match kk with | .int n=>ownL ρ2 i fun a ds=>∃ j,ixN ds.length n=some j∧NF (ds.set j d) fun es=>De.nx (ρ2.set i (some (.ob a (.lst es)))) | _=>False) De.ex) De.ex
theorem qny (i:Nat)(he:PX K X e te)(hk:PX K X b tk)(hN:X.N[i]?=some x:=by rfl)(hv:Vis X.env.scope x:=by first | exact Or.inl rfl | exact Or.inr (Or.inl rfl) | exact Or.inr (Or.inr rfl))(hd:(x == ("__debug__":Str))=false:=by decide)(hcd:(x == ("__classdict__":Str))=false:=by decide)
  (ha:∀ v,assign (.Subscript (.Name x npos) b spos) X.env v=(do
   let ov ← holding [v] (eval (.Name x npos) X.env)
   let iv ← holding [v,ov] (eval b X.env)
   standAt spos
   holding [v,ov,iv] (setItem ov iv v)
   release [v,ov,iv] []):=by intro _;rfl)
  (hs:swapsWithSole [.Subscript (.Name x npos) b spos] e pos.line X.env=pure false:=by rfl) (hw:swappedStores [.Subscript (.Name x npos) b spos] e X.env=pure none:=by rfl)
  (h1:(assignEach [.Subscript (.Name x npos) b spos] X.env).map (·.2)=[assign (.Subscript (.Name x npos) b spos) X.env]:=by rfl) :
  PSM K X (.Assign [.Subscript (.Name x npos) b spos] e pos) (qrI i te tk) :=
 ⟨fun hK=>(qmd (he.pe hK) (qpu (pv i hN hv hd hcd) (hk.pe hK) qij ha) hs hw h1).imp fun E σ H hq0=>by
  obtain⟨Φ0,H0,Φ,ρ,De,g,V,t,k⟩:=hq0
  refine⟨Φ0,H0,Φ,[],ρ,[],_,De.ex,st0 g V k.ex,t,fun s ρ1 Φ1 H1 v r S1 _=>?_⟩
  obtain⟨d,rfl,r⟩:=r.get
  obtain⟨a1,ds1,ho1,r⟩:=ownL.get r
  obtain⟨q,vs,e1,_⟩:=S1.list ho1
  refine⟨_,e1,Φ0,H0,Φ1,_,ρ1,_,_,De.ex,S1,r,fun s2 ρ2 Φ2 H2 w r2 S2 _=>?_⟩
  obtain⟨kk,rfl,r2⟩:=r2.get
  obtain⟨rd,rk⟩:=S2.last2
  cases kk with
  | int n =>
   cases rk
   obtain⟨a2,ds2,ho2,j,hj,r2⟩:=ownL.get r2
   obtain⟨q2,vs2,e2,hp2,rl2,k2⟩:=S2.list ho2
   rw[e1] at e2
   cases e2
   have S3:=k2 _ _ (rl2.set rd j)
   exact⟨q,vs2,n,j,rfl,rfl,hp2,by rw[rl2.1];exact hj,k.nx _ Φ2 _ σ r2.get S3.g S3.env⟩
  | _=>exact r2.elim⟩
def qm9 (i:Nat)(f:Int→Int→Int)(tk te:TX):TSM:=fun De ρ=>(ownL ρ i fun _ _=>True)∧tk ρ (xV fun kk ρ1=>match kk with | .int n=>ownL ρ1 i fun a ds=>∃ (j:Nat) (v:Int),n=(j:Int)∧ds[j]?=some (.int v)∧te ρ1 (xV fun d ρ2=>match d with | .int m=>ownL ρ2 i fun a2 ds2=>j<ds2.length∧NF (ds2.set j (.int (f v m))) fun es=>De.nx (ρ2.set i (some (.ob a2 (.lst es)))) | _=>False) De.ex | _=>False) De.ex
theorem qlL {op:Operator}{f:Int→Int→Int}(i:Nat)(hop:PIp X op (ipI f))(hk:PX K X b tk)(he:PX K X e te)(hN:X.N[i]?=some x:=by rfl)(hv:Vis X.env.scope x:=by first | exact Or.inl rfl | exact Or.inr (Or.inl rfl) | exact Or.inr (Or.inr rfl))(hd:(x == ("__debug__":Str))=false:=by decide)(hcd:(x == ("__classdict__":Str))=false:=by decide)
  (ha:∀ ov iv new,augStore b ov iv new=(do holding [new,ov,iv] (setItem ov iv new);release [new,ov,iv] [];pure .next):=by intros;rfl) :
  PSM K X (.AugAssign (.Subscript (.Name x npos) b spos) op e pos) (qm9 i f tk te) :=
 ⟨fun hK=>(qm3 (pv i hN hv hd hcd) (hk.pe hK) (qjI hK) (he.pe hK) hop qij ha).imp fun E σ H hq0=>by
  obtain⟨Φ0,H0,Φ,ρ,De,g,V,⟨ho,t⟩,k⟩:=hq0
  obtain⟨a,ds,ho,_⟩:=ownL.get ho
  have S:=st0 g V k.ex
  obtain⟨q,vs,e1,hp,rl,_⟩:=S.list ho
  refine⟨_,e1,Φ0,H0,Φ,[],ρ,[],_,De.ex,S,t,fun s1 ρ1 Φ1 H1 w r1 S1 _=>?_⟩
  obtain⟨kk,rfl,r1⟩:=r1.get
  have rk:=S1.last
  cases kk with
  | int n =>
   cases rk
   obtain⟨a1,ds1,ho1,j,v,rfl,hj,r1⟩:=ownL.get r1
   obtain⟨q1,vs1,e2,hp1,rl1,_⟩:=S1.list ho1
   rw[e1] at e2
   cases e2
   obtain⟨u,hu,ru⟩:=rl1.at hj
   cases ru
   refine⟨q,vs1,_,j,_,rfl,rfl,.of hp1,rfl,hu,Φ0,H0,Φ1,_,ρ1,_,_,De.ex,S1,r1,fun s2 ρ2 Φ2 H2 z r2 S2 _=>?_⟩
   obtain⟨d,rfl,r2⟩:=r2.get
   have rd:=S2.last
   cases d with
   | int m =>
    cases rd
    obtain⟨a2,ds2,ho2,hjl,r2⟩:=ownL.get r2
    obtain⟨q2,vs2,e3,hp2,rl2,k2⟩:=S2.list ho2
    rw[e1] at e3
    cases e3
    have S3:=k2 _ _ (rl2.set (.int (f v m)) j)
    exact⟨v,m,rfl,rfl,q,vs2,_,j,rfl,rfl,hp2,qnA (by rw[rl2.1];exact hjl),k.nx _ Φ2 _ σ r2.get S3.g S3.env⟩
   | _=>exact r2.elim
  | _=>exact r1.elim⟩
def qbL:Option Sm→Option Sm
 | some (.ob none (.lst ds))=>some (.v (.lst ds))
 | some (.ob none (.map kvs))=>some (.v (.map kvs))
 | x=>x
def qbz:Nat→qaN→qaN
 | _,[]=>[]
 | 0,x::ρ=>qbL x::ρ
 | i+1,x::ρ=>x::qbz i ρ
theorem qjF:∀ (i:Nat) (ρ:qaN),qbz i ρ=(match ρ[i]? with
  | some (some (.ob none (.lst ds)))=>ρ.set i (some (.v (.lst ds)))
  | some (some (.ob none (.map kvs)))=>ρ.set i (some (.v (.map kvs)))
  | _=>ρ)
 | 0,[]=>rfl
 | _+1,[]=>rfl
 | 0,some (.ob none (.lst _))::_=>rfl
 | 0,some (.ob none (.map _))::_=>rfl
 | 0,some (.ob none (.mpT _))::_=>rfl
 | 0,some (.ob none (.obj _ _))::_=>rfl
 | 0,some (.ob none .ptr)::_=>rfl
 | 0,some (.ob none (.tl _))::_=>rfl
 | 0,some (.ob (some _) _)::_=>rfl
 | 0,some (.v _)::_=>rfl
 | 0,none::_=>rfl
 | i+1,x::ρ=>by
  show x::qbz i ρ=_
  rw[qjF i ρ,List.getElem?_cons_succ]
  match ρ[i]? with
  | some (some (.ob none (.lst _)))=>rfl
  | some (some (.ob none (.map _)))=>rfl
  | some (some (.ob none (.mpT _)))=>rfl
  | some (some (.ob none (.obj _ _)))=>rfl
  | some (some (.ob none .ptr))=>rfl
  | some (some (.ob none (.tl _)))=>rfl
  | some (some (.ob (some _) _))=>rfl
  | some (some (.v _))=>rfl
  | some none=>rfl
  | none=>rfl
theorem Rp.map_of {Φ:Hp}{kvs:List (Key × D)}{ws:List (Key × V)}{p:Addr}(h:Φ p=some (.dK ws))(r:Paired (KvR K Φ) kvs ws):Rp K Φ (.map kvs) (.ref p):=by
 refine .map h ?_ ?_
 ·clear h
  induction r with
  | nil=>rfl
  | cons q _ ih=>rw[List.map_cons,List.map_cons,ih,q.1]
 ·clear h
  induction r with
  | nil=>intro i w d hw;simp at hw
  | cons q _ ih =>
   intro i w d hw hd
   cases i with
   | zero=>cases hw;cases hd;exact q.2
   | succ i=>exact ih i w d hw hd
theorem EnvM.frz1f {Φ0 H0 Φ H:Hp}{σ:St}{ρ:qaN}{o:Om}{d0:D}(E:EnvM K H0 Φ H σ ρ)(g:Gr Φ0 H0 Φ H){i:Nat}(ho:ρ[i]?=some (some (.ob none o)))
  (hr:∀ p F,OmS K Φ H o p F→∃ u,H p=some u∧∀ Φ',Same Φ Φ'→Φ' p=some u→Rp K Φ' d0 (.ref p)) (hs:o.solid=true:=by rfl):∃ Φ',Gr Φ0 H0 Φ' H∧EnvM K H0 Φ' H σ (ρ.set i (some (.v d0)))∧Same Φ Φ':=by
 obtain⟨fp,E⟩:=E
 obtain⟨p,e,_,r⟩:=E.ow i none _ ho
 have hp:=r.mem hs
 have no:=E.no i none _ ho p hp
 obtain⟨u,h1,h2⟩:=hr p _ r
 have s1:=qaK no.2 u
 have cs:∀ {j:Nat} {x:Sm},(ρ.set i (some (Sm.v d0)))[j]?=some (some x)→(j=i∧x=.v d0)∨(j≠i∧ρ[j]?=some (some x)):=fun {j x} h=>by
  rcases qbi h with⟨e,_,e1⟩ | ⟨e,h⟩
  ·cases e1;exact .inl ⟨e,rfl⟩
  ·exact .inr ⟨e,h⟩
 refine⟨upd Φ p u,g.freeze no.1 no.2 h1,⟨fp,fun b u' eb=>?_,by rw[List.length_set,E.len],fun j d h=>?_,fun j a o h=>?_,fun j a o h b hb=>?_,fun j k a a' o o' hj hk c=>?_,E.tb.same s1⟩,s1⟩
 ·by_cases c:b=p
  ·subst c;rw[qaj] at eb;cases eb;exact h1
  ·rw[qal c] at eb;exact E.fz b u' eb
 ·rcases cs h with⟨c,h⟩ | ⟨_,h⟩
  ·cases h
   subst c
   exact⟨_,e,h2 _ s1 qaj⟩
  ·obtain⟨v,hv,rv⟩:=E.sl j d h
   exact⟨v,hv,rv.same s1⟩
 ·rcases cs h with⟨_,h⟩ | ⟨_,h⟩
  ·cases h
  ·obtain⟨q,hq,ha,rq⟩:=E.ow j a o h
   exact⟨q,hq,ha,rq.keep s1 fun _ _ _ h=>h⟩
 ·rcases cs h with⟨_,h⟩ | ⟨c,h⟩
  ·cases h
  ·have:b≠p:=fun z=>E.dj j i a none o _ h ho c b hb (by rw[z];exact hp)
   rw[qal this]
   exact E.no j a o h b hb
 ·rcases cs hj with⟨_,hj⟩ | ⟨_,hj⟩
  ·cases hj
  rcases cs hk with⟨_,hk⟩ | ⟨_,hk⟩
  ·cases hk
  exact E.dj j k a a' o o' hj hk c
theorem EnvM.frz1 {Φ0 H0 Φ H:Hp}{σ:St}{ρ:qaN}{o:Om}{d0:D}(E:EnvM K H0 Φ H σ ρ)(g:Gr Φ0 H0 Φ H){i:Nat}(ho:ρ[i]?=some (some (.ob none o)))
  (hr:∀ p F,OmS K Φ H o p F→∃ u,H p=some u∧∀ Φ',Same Φ Φ'→Φ' p=some u→Rp K Φ' d0 (.ref p)) (hs:o.solid=true:=by rfl):∃ Φ',Gr Φ0 H0 Φ' H∧EnvM K H0 Φ' H σ (ρ.set i (some (.v d0))) :=
 let ⟨Φ',g',E',_⟩:=E.frz1f g ho hr hs
 ⟨Φ',g',E'⟩
theorem EnvM.frz {Φ0 H0 Φ H:Hp}{σ:St}{ρ:qaN}(E:EnvM K H0 Φ H σ ρ)(g:Gr Φ0 H0 Φ H)(i:Nat):∃ Φ',Gr Φ0 H0 Φ' H∧EnvM K H0 Φ' H σ (qbz i ρ):=by
 rw[qjF]
 split
 ·next ds ho =>
  refine E.frz1 g ho fun p F r=>?_
  obtain⟨_,vs,h1,h2⟩:=r.lst_inv
  exact⟨_,h1,fun Φ' s h=>(h2.same s).lst h⟩
 ·next kvs ho =>
  refine E.frz1 g ho fun p F r=>?_
  obtain⟨_,ws,h1,h2⟩:=r.map_inv
  exact⟨_,h1,fun Φ' s h=>Rp.map_of h (qcg (fun _ _ r=>⟨r.1,r.2.same s⟩) h2)⟩
 ·exact⟨Φ,g,E⟩
def qru (i:Nat)(t:TSM):TSM:=fun De ρ=>t De (qbz i ρ)
theorem qpH {rest:List Stmt}{t:TSM}(i:Nat)(h:PSsM K X rest t):PSsM K X rest (qru i t):=⟨fun hK=>(h.ps hK).imp fun E σ H hq0=>by
 obtain⟨Φ0,H0,Φ,ρ,De,g,V,t,k⟩:=hq0
 obtain⟨Φ',g',V'⟩:=V.frz g i
 exact⟨Φ0,H0,Φ',qbz i ρ,De,g',V',t,k⟩⟩
end
section
variable {K : PySem.W.Frag} {X : Cx} {tg iter elt e a : Expr} {ifs : List Expr} {scope : Scope} {pos py spos : Pos} {N' : List Str} {cap : List (Option Nat)} {ti : TDL} {g : TGD} {tc : TDB} {te ta tb : TD} {i : Nat} {y : Str}
end
def zM (z:SpD):SpM:=fun as R _=>∃ ds,as=ds.map Sm.v∧z ds fun d=>R (.v d) []
theorem qge {H:Hp}:qcn H []=H:=funext fun b=>if_neg (by simp)
theorem qeF {K:PySem.W.Frag}{Φ H:Hp}:∀ {ds:List D} {vs:List V},RpL K Φ ds vs→ArgM K Φ H (ds.map Sm.v) vs (ds.map fun _=>[])
 | [],[],_=>.nil
 | [],_::_,h=>by cases h.1
 | _::_,[],h=>by cases h.1
 | d::ds,v::vs,h=>.v (h.2 0 v d rfl rfl) (qeF ⟨by have:=h.1;simpa using this,fun i u e hu he=>h.2 (i+1) u e hu he⟩)
theorem qeJ {α:Type}:∀ (ds:List α),(ds.map fun _=>([]:List Addr)).flatten=[]
 | []=>rfl
 | _::ds=>by simp
theorem qcN {K:PySem.W.Frag}{z:SpD}:∀ vs H Q E,lSp K z vs H Q E→qf2 K (zM z) vs H Q E:=fun vs H Q E h=>by
 obtain⟨Φ,ds,R,sm,tb,rl,hz,k⟩:=h
 refine⟨Φ,ds.map Sm.v,ds.map fun _=>[],fun s os=>∃ d,s=.v d∧R d,fun _ _=>False,sm,tb,qeF rl,by rw[qeJ];exact List.nodup_nil,fun b hb=>(by rw[qeJ] at hb;cases hb),⟨ds,rfl,?_⟩,fun s os Φ' H' v F Fs' r g hr ho hn hno=>?_⟩
 ·have e:R=fun d=>∃ d',(Sm.v d:Sm)=.v d'∧R d':=funext fun d=>propext ⟨fun h=>⟨d,rfl,h⟩,fun⟨d',e,h⟩=>by cases e;exact h⟩
  rw[← e]
  exact hz
 ·obtain⟨d,rfl,r⟩:=r
  cases hr with
  | v rv =>
   rw[qeJ,qge] at g
   exact k d Φ' H' v r g rv
section
variable {K : PySem.W.Frag} {X : Cx} {H0 H H' Φ Φ' : Hp} {σ : St} {ρ : qaN} {cap : List (Option Nat)}
end
section
variable {K : PySem.W.Frag} {X : Cx} {tg iter elt : Expr} {ifs : List Expr} {scope : Scope} {pos : Pos} {N' : List Str} {cap : List (Option Nat)} {ti : TIM} {gd : TGM} {tc : TXB} {te : TX}
end
theorem ql1 {qs:List Addr}(h:qs.length=0):qs=[]:=List.length_eq_zero_iff.mp h
theorem qqd {qs:List Addr}(h:qs.length=1):∃ a,qs=[a]:=by
 match qs,h with
 | [a],_=>exact⟨a,rfl⟩
theorem qq6 {qs:List Addr}(h:qs.length=2):∃ a b,qs=[a,b]:=by
 match qs,h with
 | [a,b],_=>exact⟨a,b,rfl⟩
section
variable {K : PySem.W.Frag} {X : Cx} {e a b : Expr} {es : List Expr} {pos p : Pos} {ta tb te : TX} {tA : TXA}
end
section
variable {κ : Type} [DecidableEq κ] {K : PySem.W.Frag} {Φ : Hp}
def qdy (kvs:List (κ × D))(k:κ):Option D:=(kvs.find? fun kv=>decide (kv.1=k)).map (·.2)
def qiU (kvs:List (κ × D))(k:κ)(d:D):List (κ × D):=if kvs.any (fun kv=>decide (kv.1=k)) then kvs.map (fun kv=>if kv.1=k then (kv.1,d) else kv) else kvs++[(k,d)]
theorem qcR:∀ {kvs:List (κ × D)} {ws:List (κ × V)},Paired (KvR K Φ) kvs ws→∀ k,(qdy kvs k=none∧qgI ws k=none)∨∃ d v,qdy kvs k=some d∧qgI ws k=some v∧Rp K Φ d v
 | _,_,.nil,k=>.inl ⟨rfl,rfl⟩
 | _,_,.cons (a:=x) (b:=y) (l₁:=l) r t,k=>by
  by_cases c:x.1=k
  ·refine .inr ⟨x.2,y.2,?_,?_,r.2⟩
   ·unfold qdy;rw[List.find?_cons_of_pos (by simpa using c)];rfl
   ·exact qd7 (by rw[← r.1];exact c)
  ·have e1:qdy (x::l) k=qdy l k:=by unfold qdy;rw[List.find?_cons_of_neg (by simpa using c)]
   rw[e1,qd6 (by rw[← r.1];exact c)]
   exact qcR t k
theorem qhF:∀ {kvs:List (κ × D)} {ws:List (κ × V)},Paired (KvR K Φ) kvs ws→∀ k,(ws.any fun kv=>decide (kv.1=k))=kvs.any fun kv=>decide (kv.1=k)
 | _,_,.nil,k=>rfl
 | _,_,.cons r t,k=>by rw[List.any_cons,List.any_cons,qhF t k,r.1]
theorem qeM {α β:Type}{F:α→β→Prop}{f:α→α}{g:β→β}(h:∀ x y,F x y→F (f x) (g y)):∀ {l:List α} {m:List β},Paired F l m→Paired F (l.map f) (m.map g)
 | _,_,.nil=>.nil
 | _,_,.cons r t=>.cons (h _ _ r) (qeM h t)
theorem qf0 {kvs:List (κ × D)}{ws:List (κ × V)}(h:Paired (KvR K Φ) kvs ws)(k:κ){d:D}{v:V}(r:Rp K Φ d v):Paired (KvR K Φ) (qiU kvs k d) (qf3 ws k v):=by
 unfold qiU qf3
 rw[qhF h k]
 split
 ·refine qeM (fun x y q=>?_) h
  rw[← q.1]
  split
  ·exact⟨rfl,r⟩
  ·exact q
 ·exact Paired.snoc h ⟨rfl,r⟩
theorem qcr (kvs:List (κ × D))(k:κ):(qdy kvs k).isSome=kvs.any fun kv=>decide (kv.1=k):=by
 unfold qdy
 induction kvs with
 | nil=>rfl
 | cons x r ih =>
  rw[List.any_cons]
  by_cases c:x.1=k
  ·rw[List.find?_cons_of_pos (by simpa using c),decide_eq_true c];rfl
  ·rw[List.find?_cons_of_neg (by simpa using c),decide_eq_false c,ih];rfl
theorem qh7 {kvs:List (κ × D)}{k:κ}{d:D}(h:qdy kvs k=none):qiU kvs k d=kvs++[(k,d)]:=by
 have:=qcr kvs k
 rw[h] at this
 unfold qiU
 rw[← this]
 rfl
theorem qdA {α β:Type}{F:α→β→Prop}:∀ {l:List α} {m:List β},Paired F l m→l.length=m.length:=Paired.length
end
section
variable {K : PySem.W.Frag} {X : Cx} {e a b ev : Expr} {tk tv : TD} {pos apos cpos npos spos : Pos} {x : Str} {i : Nat}
def qqU (o:Om):TX:=fun ρ R _=>R (.ob none o) ρ
theorem qi6:PX K X (.Dict [] [] pos) (qqU (.map [])):=⟨fun hK=>pe_dnewK.imp fun σ H Q hq0=>by
 obtain⟨Φ0,H0,Φ,τ,ρ,κ,R,Rx,S,t,k⟩:=hq0
 intro p hp
 exact k _ ρ Φ _ _ t (S.pushO (Gr.fresh S.g.s hp _) (.map qaj .nil) fun b hb=>by rw[List.mem_singleton.mp hb];exact⟨hp,S.g.s.free hp⟩) (Same.refl _)⟩
theorem qmu:PX K X (.Dict [] [] pos) (qqU (.mpT [])):=⟨fun hK=>pe_dnewT.imp fun σ H Q hq0=>by
 obtain⟨Φ0,H0,Φ,τ,ρ,κ,R,Rx,S,t,k⟩:=hq0
 intro p hp
 exact k _ ρ Φ _ _ t (S.pushO (Gr.fresh S.g.s hp _) (.mpT qaj .nil) fun b hb=>by rw[List.mem_singleton.mp hb];exact⟨hp,S.g.s.free hp⟩) (Same.refl _)⟩
theorem EnvM.dict {Φ0 H0 Φ H:Hp}{σ:St}{ρ:qaN}{a:Option Addr}{kvs:List (Key × D)}(E:EnvM K H0 Φ H σ ρ)(g:Gr Φ0 H0 Φ H)(hi:ρ[i]?=some (some (.ob a (.map kvs)))):∃ q ws,σ[i]?=some (some (.ref q))∧H q=some (.dK ws)∧Paired (KvR K Φ) kvs ws ∧
  ∀ (kvs':List (Key × D)) (ws':List (Key × V)),Paired (KvR K Φ) kvs' ws'→EnvM K H0 Φ (upd H q (.dK ws')) σ (ρ.set i (some (.ob a (.map kvs'))))∧Gr Φ0 H0 Φ (upd H q (.dK ws')):=by
 obtain⟨fp,E⟩:=E
 obtain⟨q,e,_,r⟩:=E.ow i a _ hi
 have hq:=r.mem
 obtain⟨_,ws,h1,h2⟩:=r.map_inv
 refine⟨q,ws,e,h1,h2,fun kvs' ws' r'=>?_⟩
 have hH:∀ b u,H b=some u→b∉fp i→upd H q (.dK ws') b=some u:=fun b u e hn=>by
  rw[qal fun z=>hn (by rw[z];exact hq)]
  exact e
 exact⟨⟨_,E.put hi e hH (F':=[q]) (.map qaj r') fun b hb=>.inl (by rw[List.mem_singleton.mp hb];exact hq)⟩,E.grput g hi hH⟩
theorem EnvM.dictT {Φ0 H0 Φ H:Hp}{σ:St}{ρ:qaN}{a:Option Addr}{kvs:List (List Key × D)}(E:EnvM K H0 Φ H σ ρ)(g:Gr Φ0 H0 Φ H)(hi:ρ[i]?=some (some (.ob a (.mpT kvs)))):∃ q ws,σ[i]?=some (some (.ref q))∧H q=some (.dT ws)∧Paired (KvR K Φ) kvs ws ∧
  ∀ (kvs':List (List Key × D)) (ws':List (List Key × V)),Paired (KvR K Φ) kvs' ws'→EnvM K H0 Φ (upd H q (.dT ws')) σ (ρ.set i (some (.ob a (.mpT kvs'))))∧Gr Φ0 H0 Φ (upd H q (.dT ws')):=by
 obtain⟨fp,E⟩:=E
 obtain⟨q,e,_,r⟩:=E.ow i a _ hi
 have hq:=r.mem
 obtain⟨_,ws,h1,h2⟩:=r.mpT_inv
 refine⟨q,ws,e,h1,h2,fun kvs' ws' r'=>?_⟩
 have hH:∀ b u,H b=some u→b∉fp i→upd H q (.dT ws') b=some u:=fun b u e hn=>by
  rw[qal fun z=>hn (by rw[z];exact hq)]
  exact e
 exact⟨⟨_,E.put hi e hH (F':=[q]) (.mpT qaj r') fun b hb=>.inl (by rw[List.mem_singleton.mp hb];exact hq)⟩,E.grput g hi hH⟩
def ownD (ρ:qaN)(i:Nat)(k:Option Addr→List (Key × D)→Prop):Prop:=match ρ[i]? with | some (some (.ob a (.map kvs)))=>k a kvs | _=>False
theorem ownD.get {ρ:qaN}{i:Nat}{k:Option Addr→List (Key × D)→Prop}(h:ownD ρ i k):∃ a kvs,ρ[i]?=some (some (.ob a (.map kvs)))∧k a kvs:=by
 unfold ownD at h
 split at h
 ·next a ds e=>exact⟨a,ds,e,h⟩
 ·exact h.elim
def ownT (ρ:qaN)(i:Nat)(k:Option Addr→List (List Key × D)→Prop):Prop:=match ρ[i]? with | some (some (.ob a (.mpT kvs)))=>k a kvs | _=>False
theorem ownT.get {ρ:qaN}{i:Nat}{k:Option Addr→List (List Key × D)→Prop}(h:ownT ρ i k):∃ a kvs,ρ[i]?=some (some (.ob a (.mpT kvs)))∧k a kvs:=by
 unfold ownT at h
 split at h
 ·next a ds e=>exact⟨a,ds,e,h⟩
 ·exact h.elim
theorem qj1 {Φ:Hp}{ks:List Key}{v:V}(r:Rp K Φ (.tup (ks.map qeT)) v):∃ q,v=.ref q∧Φ q=some (.tup (ks.map kV)):=by
 cases r with
 | tup h1 h2 h3 =>
  cases qfH ⟨h2,h3⟩
  exact⟨_,rfl,h1⟩
def qqM (neg:Bool)(i:Nat)(tk:TD):TXB:=fun ρ R _=>tk (prR ρ) fun d=>∃ k,d=qeT k∧ownD ρ i fun _ kvs=>R (neg != (qdy kvs k).isSome) ρ
def qoW (neg:Bool)(i:Nat)(tk:TD):TXB:=fun ρ R _=>tk (prR ρ) fun d=>∃ ks:List Key,d=.tup (ks.map qeT)∧ownT ρ i fun _ kvs=>R (neg != (qdy kvs ks).isSome) ρ
theorem qhI {neg:Bool}{σ:St}{H:Hp}{Q:Bool→Hp→Prop}(h:lXb K X (qqM neg i tk) σ H Q):lE K tk σ H fun y H1=>ql4 i σ H1 fun x H2=>∃ a o,x=.ref a∧DGet H2 a y o∧Q (neg != o.isSome) H2:=by
 obtain⟨Φ0,H0,Φ,τ,ρ,κ,R,Rx,S,t,k⟩:=h
 refine⟨H0,Φ,prR ρ,_,S.env.toD,t,fun d Φ1 H1 v r g rv=>?_⟩
 obtain⟨kk,rfl,r⟩:=r
 obtain⟨a,kvs,ho,r⟩:=ownD.get r
 cases qdT rv
 have S1:=S.gr g
 obtain⟨q,ws,e1,hq,rel,_⟩:=S1.env.dict S1.g ho
 refine⟨_,e1,q,_,rfl,DGet.k hq,?_⟩
 have e:(qgI ws kk).isSome=(qdy kvs kk).isSome:=by
  rcases qcR rel kk with⟨h1,h2⟩ | ⟨d,v,h1,h2,_⟩ <;> rw[h1,h2] <;> rfl
 rw[e]
 exact k _ ρ Φ1 H1 r S1 g.f
theorem qi9 {neg:Bool}{σ:St}{H:Hp}{Q:Bool→Hp→Prop}(h:lXb K X (qoW neg i tk) σ H Q):lE K tk σ H fun y H1=>ql4 i σ H1 fun x H2=>∃ a o,x=.ref a∧DGet H2 a y o∧Q (neg != o.isSome) H2:=by
 obtain⟨Φ0,H0,Φ,τ,ρ,κ,R,Rx,S,t,k⟩:=h
 refine⟨H0,Φ,prR ρ,_,S.env.toD,t,fun d Φ1 H1 v r g rv=>?_⟩
 obtain⟨kk,rfl,r⟩:=r
 obtain⟨a,kvs,ho,r⟩:=ownT.get r
 obtain⟨p,rfl,hp⟩:=qj1 rv
 have S1:=S.gr g
 obtain⟨q,ws,e1,hq,rel,_⟩:=S1.env.dictT S1.g ho
 refine⟨_,e1,q,_,rfl,DGet.t hq (g.s _ _ hp),?_⟩
 have e:(qgI ws kk).isSome=(qdy kvs kk).isSome:=by
  rcases qcR rel kk with⟨h1,h2⟩ | ⟨d,v,h1,h2,_⟩ <;> rw[h1,h2] <;> rfl
 rw[e]
 exact k _ ρ Φ1 H1 r S1 g.f
theorem qb1 (b:Bool):(false != b)=b:=by cases b <;> rfl
theorem qgM (b:Bool):(true != b)=!b:=by cases b <;> rfl
theorem qc5 {t:TD}{σ:St}{H:Hp}{Q Q':VK}(h:lE K t σ H Q)(hq:∀ v H',Q v H'→Q' v H'):lE K t σ H Q':=by
 obtain⟨H0,Φ,ρ,R,E,t,k⟩:=h
 exact⟨H0,Φ,ρ,R,E,t,fun d Φ' H' v r g rv=>hq _ _ (k d Φ' H' v r g rv)⟩
theorem qeu {j:Nat}{σ:St}{H:Hp}{Q Q':VK}(h:ql4 j σ H Q)(hq:∀ v H',Q v H'→Q' v H'):ql4 j σ H Q':=let ⟨v,e,q⟩:=h;⟨v,e,hq _ _ q⟩
theorem qkK (i:Nat)(hu:X.A.units+64<cLine)(he:PD K X e tk)(hN:X.N[i]?=some x:=by rfl)(hv:Vis X.env.scope x:=by first | exact Or.inl rfl | exact Or.inr (Or.inl rfl) | exact Or.inr (Or.inr rfl))(hd:(x == ("__debug__":Str))=false:=by decide)(hcd:(x == ("__classdict__":Str))=false:=by decide)
  (hm:behindInMarks .In (.Name x npos)=false:=by rfl):PXB K X (.Compare e [.In] [.Name x npos] pos) (qqM false i tk) :=
 ⟨fun hK=>(qgx (qj8 (by omega) (he.pe hK) (pv i hN hv hd hcd)) hm).imp fun σ H Q hq0=>qc5 (qhI hq0) fun v H' q=>qeu q fun w H2 z=>by
  obtain⟨a,o,e1,e2,e3⟩:=z
  rw[qb1] at e3
  exact⟨a,o,e1,e2,_,rfl,e3⟩⟩
theorem qgu (i:Nat)(hu:X.A.units+64<cLine)(he:PD K X e tk)(hN:X.N[i]?=some x:=by rfl)(hv:Vis X.env.scope x:=by first | exact Or.inl rfl | exact Or.inr (Or.inl rfl) | exact Or.inr (Or.inr rfl))(hd:(x == ("__debug__":Str))=false:=by decide)(hcd:(x == ("__classdict__":Str))=false:=by decide)
  (hm:behindInMarks .NotIn (.Name x npos)=false:=by rfl):PXB K X (.Compare e [.NotIn] [.Name x npos] pos) (qqM true i tk) :=
 ⟨fun hK=>(qgx (qgo (by omega) (he.pe hK) (pv i hN hv hd hcd)) hm).imp fun σ H Q hq0=>qc5 (qhI hq0) fun v H' q=>qeu q fun w H2 z=>by
  obtain⟨a,o,e1,e2,e3⟩:=z
  rw[qgM] at e3
  exact⟨a,o,e1,e2,_,rfl,e3⟩⟩
theorem qmt (i:Nat)(hu:X.A.units+64<cLine)(he:PD K X e tk)(hN:X.N[i]?=some x:=by rfl)(hv:Vis X.env.scope x:=by first | exact Or.inl rfl | exact Or.inr (Or.inl rfl) | exact Or.inr (Or.inr rfl))(hd:(x == ("__debug__":Str))=false:=by decide)(hcd:(x == ("__classdict__":Str))=false:=by decide)
  (hm:behindInMarks .In (.Name x npos)=false:=by rfl):PXB K X (.Compare e [.In] [.Name x npos] pos) (qoW false i tk) :=
 ⟨fun hK=>(qgx (qj8 (by omega) (he.pe hK) (pv i hN hv hd hcd)) hm).imp fun σ H Q hq0=>qc5 (qi9 hq0) fun v H' q=>qeu q fun w H2 z=>by
  obtain⟨a,o,e1,e2,e3⟩:=z
  rw[qb1] at e3
  exact⟨a,o,e1,e2,_,rfl,e3⟩⟩
def qqI (i:Nat)(tk:TD):TX:=fun ρ R _=>ownD ρ i fun _ _=>tk (prR ρ) fun d=>∃ k,d=qeT k∧ownD ρ i fun _ kvs=>∃ y,qdy kvs k=some y∧R (.v y) ρ
theorem qmn (i:Nat)(hu:X.A.units+64<cLine)(he:PD K X e tk)(hs:qpy e)(hN:X.N[i]?=some x:=by rfl)(hv:Vis X.env.scope x:=by first | exact Or.inl rfl | exact Or.inr (Or.inl rfl) | exact Or.inr (Or.inr rfl))(hd:(x == ("__debug__":Str))=false:=by decide)(hcd:(x == ("__classdict__":Str))=false:=by decide) :
  PX K X (.Subscript (.Name x npos) e pos) (qqI i tk) :=
 ⟨fun hK=>(qkF (by omega) (pv i hN hv hd hcd) (he.pe hK) hs).imp fun σ H Q hq0=>by
  obtain⟨Φ0,H0,Φ,τ,ρ,κ,R,Rx,S,t,k⟩:=hq0
  obtain⟨a,kvs,ho,t⟩:=ownD.get t
  obtain⟨q,ws,e1,hq,rel,_⟩:=S.env.dict S.g ho
  refine⟨_,e1,H0,Φ,prR ρ,_,S.env.toD,t,fun d Φ1 H1 v r g rv=>?_⟩
  obtain⟨kk,rfl,r⟩:=r
  obtain⟨a2,kvs2,ho2,y,hy,r⟩:=ownD.get r
  rw[ho] at ho2
  cases ho2
  cases qdT rv
  rcases qcR rel kk with⟨h1,_⟩ | ⟨d,w,h1,h2,rd⟩
  ·rw[hy] at h1;cases h1
  ·rw[hy] at h1
   cases h1
   refine⟨q,w,rfl,by rw[← h2];exact DGet.k (g.h _ _ hq),k _ ρ Φ1 H1 w r ((S.gr g).pushV (rd.same g.f)) g.f⟩⟩
def qpZ (i:Nat)(tk:TD)(tv:TD):TSM:=fun De ρ=>tv (prR ρ) fun d=>tk (prR ρ) fun kd=>∃ k,kd=qeT k∧ownD ρ i fun a kvs=>kvs.length<sizeLine∧NF (qiU kvs k d) fun kvs'=>De.nx (ρ.set i (some (.ob a (.map kvs'))))
theorem qh9 (i:Nat)(hu:X.A.units+64<cLine)(hk:PD K X e tk)(he:PD K X ev tv)(hN:X.N[i]?=some x:=by rfl)(hv:Vis X.env.scope x:=by first | exact Or.inl rfl | exact Or.inr (Or.inl rfl) | exact Or.inr (Or.inr rfl))(hd:(x == ("__debug__":Str))=false:=by decide)(hcd:(x == ("__classdict__":Str))=false:=by decide)
  (hs:swapsWith ev (some (.Subscript (.Name x npos) e spos)) pos.line X.env=pure false:=by rfl):PSM K X (.Assign [.Subscript (.Name x npos) e spos] ev pos) (fun De ρ=>(ownD ρ i fun _ _=>True)∧qpZ i tk tv De ρ) :=
 ⟨fun hK=>(qhg (by omega) (pv i hN hv hd hcd) (hk.pe hK) (he.pe hK) hs).imp fun E σ H hq0=>by
  obtain⟨Φ0,H0,Φ,ρ,De,g,V,⟨ho,t⟩,k⟩:=hq0
  obtain⟨a,kvs,ho,_⟩:=ownD.get ho
  refine⟨H0,Φ,prR ρ,_,V.toD,t,fun d Φ1 H1 v r1 g1 rv=>?_⟩
  have V1:=V.gr g1
  obtain⟨q,ws,e1,hq,rel,_⟩:=V1.dict (g.trans g1) ho
  refine⟨_,e1,H0,Φ1,prR ρ,_,V1.toD,r1,fun kd Φ2 H2 w r2 g2 rw=>?_⟩
  obtain⟨kk,rfl,r2⟩:=r2
  obtain⟨a2,kvs2,ho2,hl,r2⟩:=ownD.get r2
  rw[ho] at ho2
  cases ho2
  cases qdT rw
  obtain⟨q2,ws2,e2,hq2,rel2,k2⟩:=(V1.gr g2).dict ((g.trans g1).trans g2) ho
  rw[e1] at e2
  cases e2
  obtain⟨z1,z2⟩:=k2 _ _ (qf0 rel2 kk (rv.same g2.f))
  exact⟨q,_,rfl,DPut.k hq2 (by rw[← qdA rel2];exact hl),k.nx _ Φ2 _ σ r2.get z2 z1⟩⟩
def qoZ (i:Nat)(tk:TD)(tv:TD):TSM:=fun De ρ=>tv (prR ρ) fun d=>tk (prR ρ) fun kd=>∃ ks:List Key,kd=.tup (ks.map qeT)∧ownT ρ i fun a kvs=>kvs.length<sizeLine∧NF (qiU kvs ks d) fun kvs'=>De.nx (ρ.set i (some (.ob a (.mpT kvs'))))
theorem qmC (i:Nat)(hu:X.A.units+64<cLine)(hk:PD K X e tk)(he:PD K X ev tv)(hN:X.N[i]?=some x:=by rfl)(hv:Vis X.env.scope x:=by first | exact Or.inl rfl | exact Or.inr (Or.inl rfl) | exact Or.inr (Or.inr rfl))(hd:(x == ("__debug__":Str))=false:=by decide)(hcd:(x == ("__classdict__":Str))=false:=by decide)
  (hs:swapsWith ev (some (.Subscript (.Name x npos) e spos)) pos.line X.env=pure false:=by rfl):PSM K X (.Assign [.Subscript (.Name x npos) e spos] ev pos) (fun De ρ=>(ownT ρ i fun _ _=>True)∧qoZ i tk tv De ρ) :=
 ⟨fun hK=>(qhg (by omega) (pv i hN hv hd hcd) (hk.pe hK) (he.pe hK) hs).imp fun E σ H hq0=>by
  obtain⟨Φ0,H0,Φ,ρ,De,g,V,⟨ho,t⟩,k⟩:=hq0
  obtain⟨a,kvs,ho,_⟩:=ownT.get ho
  refine⟨H0,Φ,prR ρ,_,V.toD,t,fun d Φ1 H1 v r1 g1 rv=>?_⟩
  have V1:=V.gr g1
  obtain⟨q,ws,e1,hq,rel,_⟩:=V1.dictT (g.trans g1) ho
  refine⟨_,e1,H0,Φ1,prR ρ,_,V1.toD,r1,fun kd Φ2 H2 w r2 g2 rw=>?_⟩
  obtain⟨kk,rfl,r2⟩:=r2
  obtain⟨a2,kvs2,ho2,hl,r2⟩:=ownT.get r2
  rw[ho] at ho2
  cases ho2
  obtain⟨pk,rfl,hpk⟩:=qj1 rw
  obtain⟨q2,ws2,e2,hq2,rel2,k2⟩:=(V1.gr g2).dictT ((g.trans g1).trans g2) ho
  rw[e1] at e2
  cases e2
  obtain⟨z1,z2⟩:=k2 _ _ (qf0 rel2 kk (rv.same g2.f))
  exact⟨q,_,rfl,DPut.t hq2 (g2.s _ _ hpk) (by rw[← qdA rel2];exact hl),k.nx _ Φ2 _ σ r2.get z2 z1⟩⟩
end
section
variable {K : PySem.W.Frag} {X : Cx}
end
section
variable {K : PySem.W.Frag} {X : Cx} {e a b ev : Expr} {tk tv td : TD} {pos apos cpos npos spos : Pos} {x : Str} {i : Nat}
theorem qeL {Φ:Hp}:∀ {kvs:List (Key × D)} {ws:List (Key × V)},ws.map (·.1)=kvs.map (·.1)→(∀ (i:Nat) (w:Key × V) (d:Key × D),ws[i]?=some w→kvs[i]?=some d→Rp K Φ d.2 w.2)→Paired (KvR K Φ) kvs ws
 | [],[],_,_=>.nil
 | [],_::_,h,_=>by cases h
 | _::_,[],h,_=>by cases h
 | k::kvs,w::ws,h,r=>by
  rw[List.map_cons,List.map_cons] at h
  injection h with h1 h2
  exact .cons ⟨h1.symm,r 0 w k rfl rfl⟩ (qeL h2 fun i w d hw hd=>r (i+1) w d hw hd)
theorem Rp.map_inv {Φ:Hp}{kvs:List (Key × D)}{v:V}(h:Rp K Φ (.map kvs) v):∃ p ws,v=.ref p∧Φ p=some (.dK ws)∧Paired (KvR K Φ) kvs ws:=by
 cases h with
 | map h1 h2 h3=>exact⟨_,_,rfl,h1,qeL h2 h3⟩
def qqa (td tk:TD):TD:=fun ρ R=>td ρ fun d=>tk ρ fun kd=>match d with | .map kvs=>∃ k y,kd=qeT k∧qdy kvs k=some y∧R y | _=>False
theorem qb7 (hu:X.A.units+64<cLine)(ha:PD K X a td)(he:PD K X e tk)(hs:qpy e):PD K X (.Subscript a e pos) (qqa td tk) :=
 ⟨fun hK=>(qkF (by omega) (ha.pe hK) (he.pe hK) hs).imp fun σ H Q hq0=>by
  obtain⟨H0,Φ,ρ,R,E,t,k⟩:=hq0
  refine⟨H0,Φ,ρ,_,E,t,fun d Φ1 H1 v r1 g1 rv=>⟨H0,Φ1,ρ,_,E.gr g1,r1,fun kd Φ2 H2 w r2 g2 rw=>?_⟩⟩
  cases d with
  | map kvs =>
   obtain⟨kk,y,rfl,hy,r2⟩:=r2
   obtain⟨p,ws,rfl,hp,rel⟩:=rv.map_inv
   cases qdT rw
   rcases qcR rel kk with⟨h1,_⟩ | ⟨d,w,h1,h2,rd⟩
   ·rw[hy] at h1;cases h1
   ·rw[hy] at h1
    cases h1
    exact⟨p,w,rfl,by rw[← h2];exact DGet.k (g2.s _ _ (g2.f _ _ hp)),k _ Φ2 H2 w r2 (g1.trans g2) (rd.same g2.f)⟩
  | _=>exact r2.elim⟩
def qqo (neg:Bool)(tk td:TD):TDB:=fun ρ R=>tk ρ fun kd=>td ρ fun d=>match d with | .map kvs=>∃ k,kd=qeT k∧R (neg != (qdy kvs k).isSome) | _=>False
theorem qia {neg:Bool}{σ:St}{H:Hp}{Q:Bool→Hp→Prop}(h:lT K (qqo neg tk td) σ H Q):lE K tk σ H fun y H1=>lE K td σ H1 fun x H2=>∃ a o,x=.ref a∧DGet H2 a y o∧Q (neg != o.isSome) H2:=by
 obtain⟨H0,Φ,ρ,R,E,t,k⟩:=h
 refine⟨H0,Φ,ρ,_,E,t,fun kd Φ1 H1 w r1 g1 rw=>⟨H0,Φ1,ρ,_,E.gr g1,r1,fun d Φ2 H2 v r2 g2 rv=>?_⟩⟩
 cases d with
 | map kvs =>
  obtain⟨kk,rfl,r2⟩:=r2
  obtain⟨p,ws,rfl,hp,rel⟩:=rv.map_inv
  cases qdT rw
  refine⟨p,_,rfl,DGet.k (g2.s _ _ hp),?_⟩
  have e:(qgI ws kk).isSome=(qdy kvs kk).isSome:=by
   rcases qcR rel kk with⟨h1,h2⟩ | ⟨d,v,h1,h2,_⟩ <;> rw[h1,h2] <;> rfl
  rw[e]
  exact k _ Φ2 H2 r2 (g1.trans g2)
 | _=>exact r2.elim
theorem qgV (hu:X.A.units+64<cLine)(he:PD K X e tk)(ha:PD K X a td)(hm:behindInMarks .In a=false:=by rfl):PTD K X (.Compare e [.In] [a] pos) (qqo false tk td) :=
 ⟨fun hK=>(qgx (qj8 (by omega) (he.pe hK) (ha.pe hK)) hm).imp fun σ H Q hq0=>qc5 (qia hq0) fun v H' q=>qc5 q fun w H2 z=>by
  obtain⟨a,o,e1,e2,e3⟩:=z
  rw[qb1] at e3
  exact⟨a,o,e1,e2,_,rfl,e3⟩⟩
theorem qhR (hu:X.A.units+64<cLine)(he:PD K X e tk)(ha:PD K X a td)(hm:behindInMarks .NotIn a=false:=by rfl):PTD K X (.Compare e [.NotIn] [a] pos) (qqo true tk td) :=
 ⟨fun hK=>(qgx (qgo (by omega) (he.pe hK) (ha.pe hK)) hm).imp fun σ H Q hq0=>qc5 (qia hq0) fun v H' q=>qc5 q fun w H2 z=>by
  obtain⟨a,o,e1,e2,e3⟩:=z
  rw[qgM] at e3
  exact⟨a,o,e1,e2,_,rfl,e3⟩⟩
theorem Gr.late {Φ H Φ2 H2:Hp}{p:Addr}{u o:HO}(s:Same Φ H)(hp:H p=none)(g:Gr Φ (upd H p u) Φ2 H2)(hn:Φ2 p=none):Gr Φ H Φ2 (upd H2 p o) :=
 ⟨g.f,fun b w e=>by
  have c:b≠p:=qas e hp
  rw[qal c]
  exact g.h b w (by rw[qal c];exact e),fun b w e=>by
  have c:b≠p:=qas e hn
  rw[qal c]
  exact g.s b w e,fun q w hq hqn k=>g.o q w (by rw[qal (qas hq hp)];exact hq) hqn k⟩
def qqF (tk tv:TD):TD:=fun ρ R=>tk ρ fun kd=>tv ρ fun d=>∃ k,kd=qeT k∧R (.map [(k,d)])
theorem qgd {σ:St}{H:Hp}{Q:V→Hp→Prop}{H0 Φ:Hp}{ρ:Rho}(E:EnvD K H0 Φ H σ ρ)(s:Same Φ H){R:Key→D→Prop}(t:tk ρ fun kd=>tv ρ fun d=>∃ k,kd=qeT k∧R k d)
  (q:∀ p Φ2 H2 k d v,R k d→H p=none→Φ2 p=none→Gr Φ H Φ2 (upd H2 p (.dK [(k,v)]))→Rp K Φ2 d v→Q (.ref p) (upd H2 p (.dK [(k,v)]))):qon [(lE K tk,lE K tv)] σ H Q:=by
 intro p hp
 have g0:=Gr.fresh s hp (.dK [])
 refine⟨H0,Φ,ρ,_,E.gr g0,t,fun kd Φ1 H1 w r1 g1 rw=>⟨H0,Φ1,ρ,_,(E.gr g0).gr g1,r1,fun d Φ2 H2 v r2 g2 rv=>?_⟩⟩
 obtain⟨k,rfl,r2⟩:=r2
 cases qdT rw
 have g:=g1.trans g2
 have e:=g.h p _ qaj
 have hn:Φ2 p=none:=g.o p _ qaj (s.free hp) trivial
 exact⟨e,[(k,v)],rfl,by show 1≤15;decide,q p Φ2 H2 k d v r2 hp hn (Gr.late s hp g hn) rv⟩
theorem qmJ (hk:PD K X e tk)(hv:PD K X ev tv):PD K X (.Dict [some e] [ev] pos) (qqF tk tv) :=
 ⟨fun hK=>(qkh (qhH (hk.pe hK) (hv.pe hK) qjX) rfl rfl (List.cons_ne_nil _ _) (by show 1≤15;decide)).imp fun σ H Q hq0=>by
  obtain⟨H0,Φ,ρ,R,E,t,k⟩:=hq0
  refine qgd E E.fz t fun p Φ2 H2 kk d v r hp hn g rv=>?_
  have g3:=g.freeze hp hn qaj
  refine k _ _ _ _ r g3 (Rp.map_of qaj (.cons ⟨rfl,rv.same (qaK hn _)⟩ .nil))⟩
def qqg (tk tv:TD):TX:=fun ρ R _=>tk (prR ρ) fun kd=>tv (prR ρ) fun d=>∃ k,kd=qeT k∧R (.ob none (.map [(k,d)])) ρ
theorem qkE (hk:PD K X e tk)(hv:PD K X ev tv):PX K X (.Dict [some e] [ev] pos) (qqg tk tv) :=
 ⟨fun hK=>(qkh (qhH (hk.pe hK) (hv.pe hK) qjX) rfl rfl (List.cons_ne_nil _ _) (by show 1≤15;decide)).imp fun σ H Q hq0=>by
  obtain⟨Φ0,H0,Φ,τ,ρ,κ,R,Rx,S,t,k⟩:=hq0
  refine qgd (R:=fun k d=>R (.ob none (.map [(k,d)])) ρ) S.env.toD S.g.s t fun p Φ2 H2 kk d v r hp hn g rv=>?_
  exact k _ ρ Φ2 _ _ r (S.pushO g (.map qaj (.cons ⟨rfl,rv⟩ .nil)) fun b hb=>by rw[List.mem_singleton.mp hb];exact⟨hp,hn⟩) g.f⟩
theorem qgC:qfm X (.type "dict") (fun xs H Q=>∃ p ws,xs=[.ref p]∧H p=some (.dK ws)∧∀ l,H l=none→Q (.ref l) (upd H l (.dK ws))):=by
 intro pins s σ H xs us Q I r h
 obtain⟨p,ws,rfl,hq,q⟩:=h
 obtain⟨u,rfl,rx⟩:=qi2 r
 cases rx
 obtain⟨hl,hs,vs,kv,hd⟩:=qms I.hok hq
 have hlen:vs.length=ws.length:=(Paired.length kv).symm
 refine kt_call_dict hs hd (by omega) fun h' hd' sb=>?_
 have kp:∀ b o,s.heap.get? b=some o→h'.get? b=some o:=fun b o e=>by
  have c:b≠s.heap.objs.size:=fun z=>absurd (Heap.lt_size e) (by rw[z];exact Nat.lt_irrefl _)
  rw[sb.2 b c]
  exact Heap.get?_push_of_some _ e
 refine⟨.ref s.heap.objs.size,_,I.laid (t':=s.toks) kp (Nat.le_refl _) (show ObjOk X.prog X.w _ h' _ (.dK ws) from ⟨hl,beq_eq_false_iff_ne.mpr (Ne.symm (Nat.ne_of_lt I.big)),vs,kv,hd'⟩),rfl,q _ (I.hok.fresh (Nat.le_refl _))⟩
def qqA (td:TD):TX:=fun ρ R _=>td (prR ρ) fun d=>match d with | .map kvs=>R (.ob none (.map kvs)) ρ | _=>False
theorem qos (hg:Gl X "dict")(hm:X.mg "dict"=none)(ha:PD K X e td)(he:starEach [e] X.env=(false,eval e X.env)::starEach [] X.env):PX K X (.Call (.Name "dict" npos) [e] [] pos) (qqA td) :=
 ⟨fun hK=>(qgL qgC hg hm boot_dict (qbg (ha.pe hK) pa_nil he) (by decide) (by decide) he qae).imp fun σ H Q hq0=>by
  obtain⟨Φ0,H0,Φ,τ,ρ,κ,R,Rx,S,t,k⟩:=hq0
  refine⟨H0,Φ,prR ρ,_,S.env.toD,t,fun d Φ1 H1 v r g rv=>?_⟩
  cases d with
  | map kvs =>
   obtain⟨p,ws,rfl,hp,rel⟩:=rv.map_inv
   refine⟨p,ws,rfl,g.s _ _ hp,fun l hl=>?_⟩
   have S1:=S.gr g
   exact k _ ρ Φ1 _ _ r (S1.pushO (Gr.fresh S1.g.s hl _) (.map qaj rel) fun b hb=>by rw[List.mem_singleton.mp hb];exact⟨hl,S1.g.s.free hl⟩) g.f
  | _=>exact r.elim⟩
def qr0 (t:TX):TX:=fun ρ R Rx=>t ρ (fun s ρ1=>match s with | .ob none (.map kvs)=>R (.v (.map kvs)) ρ1 | _=>False) Rx
theorem qlw {α:Type}(l m:List α)(x y:α):(l++(m++[x])).set (l.length+m.length) y=l++(m++[y]):=by
 rw[List.set_append_right _ _ (by omega),Nat.add_sub_cancel_left,List.set_append_right _ _ (by omega),Nat.sub_self]
 rfl
theorem StM.fz1 {Φ0 H0 Φ H:Hp}{σ τ:St}{ρ κ:qaN}{Rx:XD→qaN→Prop}{v:V}{o:Om}{d0:D}(S:StM K X Φ0 H0 Φ H σ (τ++[some v]) ρ (κ++[some (.ob none o)]) Rx)
  (hr:∀ p F,OmS K Φ H o p F→∃ u,H p=some u∧∀ Φ',Same Φ Φ'→Φ' p=some u→Rp K Φ' d0 (.ref p)) (hs:o.solid=true:=by rfl):∃ Φ',StM K X Φ0 H0 Φ' H σ (τ++[some v]) ρ (κ++[some (.v d0)]) Rx∧Same Φ Φ':=by
 have hat:(ρ++(κ++[some (Sm.ob none o)]))[ρ.length+κ.length]?=some (some (.ob none o)):=by rw[← List.append_assoc,List.getElem?_append_right (by rw[List.length_append];omega),List.length_append,Nat.sub_self];rfl
 obtain⟨Φ',g,E,f⟩:=S.E.frz1f S.g hat hr hs
 rw[qlw] at E
 exact⟨Φ',⟨g,S.l,E,S.x⟩,f⟩
theorem qps {t:TX}(h:PX K X e t):PX K X e (qr0 t):=⟨fun hK=>(h.pe hK).imp fun σ H Q hq0=>by
 obtain⟨Φ0,H0,Φ,τ,ρ,κ,R,Rx,S,t,k⟩:=hq0
 refine⟨Φ0,H0,Φ,τ,ρ,κ,_,Rx,S,t,fun s1 ρ1 Φ1 H1 v r1 S1 f1=>?_⟩
 split at r1
 ·next kvs =>
  obtain⟨Φ2,S2,f2⟩:=S1.fz1 (d0:=.map kvs) fun p F r=>by
   obtain⟨_,ws,h1,h2⟩:=r.map_inv
   exact⟨_,h1,fun Φ' s h=>Rp.map_of h (qcg (fun _ _ r=>⟨r.1,r.2.same s⟩) h2)⟩
  exact k _ ρ1 Φ2 H1 v r1 S2 (f1.trans f2)
 ·exact r1.elim⟩
theorem StM.dict {Φ0 H0 Φ H:Hp}{σ τ:St}{ρ κ:qaN}{Rx:XD→qaN→Prop}{a:Option Addr}{kvs:List (Key × D)}(S:StM K X Φ0 H0 Φ H σ τ ρ κ Rx)(hi:ρ[i]?=some (some (.ob a (.map kvs)))):∃ q ws,σ[i]?=some (some (.ref q))∧H q=some (.dK ws)∧Paired (KvR K Φ) kvs ws ∧
  ∀ (kvs':List (Key × D)) (ws':List (Key × V)),Paired (KvR K Φ) kvs' ws'→StM K X Φ0 H0 Φ (upd H q (.dK ws')) σ τ (ρ.set i (some (.ob a (.map kvs')))) κ Rx:=by
 have hlt:=qak hi
 obtain⟨q,ws,e,h1,h2,h3⟩:=S.E.dict (i:=i) (a:=a) (kvs:=kvs) S.g (by rw[List.getElem?_append_left hlt];exact hi)
 rw[List.getElem?_append_left (by rw[← S.l];exact hlt)] at e
 refine⟨q,ws,e,h1,h2,fun kvs' ws' r=>?_⟩
 obtain⟨z1,z2⟩:=h3 kvs' ws' r
 refine⟨z2,by rw[List.length_set];exact S.l,?_,S.x⟩
 rw[List.set_append_left _ _ hlt] at z1
 exact z1
def qnX (i:Nat)(tk:TD)(te:TX):TSM:=fun De ρ=>te ρ (xV fun d ρ1=>(ownD ρ1 i fun _ _=>True)∧tk (prR ρ1) fun kd=>∃ k,kd=qeT k∧ownD ρ1 i fun a kvs=>kvs.length<sizeLine∧NF (qiU kvs k d) fun kvs'=>De.nx (ρ1.set i (some (.ob a (.map kvs'))))) De.ex
theorem qmD {te:TX}(i:Nat)(hu:X.A.units+64<cLine)(hk:PD K X e tk)(he:PX K X ev te)(hN:X.N[i]?=some x:=by rfl)(hv:Vis X.env.scope x:=by first | exact Or.inl rfl | exact Or.inr (Or.inl rfl) | exact Or.inr (Or.inr rfl))(hd:(x == ("__debug__":Str))=false:=by decide)(hcd:(x == ("__classdict__":Str))=false:=by decide)
  (hs:swapsWith ev (some (.Subscript (.Name x npos) e spos)) pos.line X.env=pure false:=by rfl):PSM K X (.Assign [.Subscript (.Name x npos) e spos] ev pos) (qnX i tk te) :=
 ⟨fun hK=>(qhg (by omega) (pv i hN hv hd hcd) (hk.pe hK) (he.pe hK) hs).imp fun E σ H hq0=>by
  obtain⟨Φ0,H0,Φ,ρ,De,g,V,t,k⟩:=hq0
  refine⟨Φ0,H0,Φ,[],ρ,[],_,De.ex,st0 g V k.ex,t,fun s ρ1 Φ1 H1 v r S1 _=>?_⟩
  obtain⟨d,rfl,ho,r⟩:=r.get
  obtain⟨a1,kvs1,ho1,_⟩:=ownD.get ho
  obtain⟨q,ws,e1,hq,rel,_⟩:=S1.dict ho1
  refine⟨_,e1,H0,Φ1,prR ρ1,_,S1.env.toD,r,fun kd Φ2 H2 w r2 g2 rw=>?_⟩
  obtain⟨kk,rfl,r2⟩:=r2
  obtain⟨a2,kvs2,ho2,hl,r2⟩:=ownD.get r2
  rw[ho1] at ho2
  cases ho2
  cases qdT rw
  have S2:=S1.gr g2
  obtain⟨q2,ws2,e2,hq2,rel2,k2⟩:=S2.dict ho1
  rw[e1] at e2
  cases e2
  have S3:=k2 _ _ (qf0 rel2 kk S2.last)
  exact⟨q,_,rfl,DPut.k hq2 (by rw[← qdA rel2];exact hl),k.nx _ Φ2 _ σ r2.get S3.g S3.env⟩⟩
def qo0 (t:TDL):TDL:=fun ρ R=>t ρ fun ds=>match ds with | [d]=>∃ xs,qe1 d=some xs∧R (qdZ xs) | _=>False
theorem qho {ets:List Expr}{ek:Nat}{tl:TDL}{tp p:Pos}(hg:Gl X "enumerate")(hm:X.mg "enumerate"=none)(ha:PAD K X [a] tl)(hs:starEach [a] X.env=[(false,eval a X.env)]:=by rfl):PID K X (.Tuple ets ek tp) (.Call (.Name "enumerate" p) [a] [] pos) (qo0 tl) :=
 ⟨fun hK=>(qkV hK hg hm (ha.pa hK) hs).imp fun σ H R' hq0=>by obtain⟨H0,Φ,ρ,R,E,t,k⟩:=hq0;exact⟨H0,Φ,ρ,_,E,t,fun ds Φ1 H1 vs r g rv _=>by
  match ds,r with
  | [d],⟨xs,hx,r⟩ =>
   obtain⟨v,rfl,r1⟩:=rv.one_inv
   obtain⟨q,a,ws,rfl,h1,h2⟩:=r1.seq hx
   exact⟨q,a,ws,rfl,SqB.same g.s h1,k _ Φ1 H1 _ r g (qgp h1 h2)⟩⟩⟩
end
section
variable {g : TGD} {tc : TDB} {te : TD} {ρ : Rho} {R : List D → Prop}
theorem qje {α:Type}(c:α→Bool)(h:α→D)(xs:List α):(xs.map fun x=>if c x=true then some (h x) else none).filterMap id=(xs.filter c).map h:=by
 induction xs with
 | nil=>rfl
 | cons x xs ih =>
  rw[List.map_cons,List.filter_cons]
  by_cases e:c x=true
  ·rw[if_pos e,if_pos e,List.map_cons,← ih];rfl
  ·rw[if_neg e,if_neg e,← ih];rfl
def qnO {α:Type}(c:α→Bool)(h:α→D)(x:Option α)(y:Option D):Prop:=match x with | some x=>(match y with | some z=>c x=true∧z=h x | none=>c x=false) | none=>False
theorem qfP {α:Type}{f:α→D}{xs:List α}{c:α→Bool}{h:α→D}(hb:∀ x∈xs,g (f x) ρ fun ρ1=>tc ρ1 fun b=>(b=true→te ρ1 fun y=>c x=true∧y=h x)∧(b=false→c x=false)) :
  ∀ (i:Nat) (d:D),(xs.map f)[i]?=some d→g d ρ fun ρ1=>tc ρ1 fun b=>(b=true→te ρ1 fun y=>qnO c h xs[i]? (some y))∧(b=false→qnO c h xs[i]? none):=by
 intro i d hd
 rw[List.getElem?_map] at hd
 cases e:xs[i]? with
 | none=>rw[e] at hd;cases hd
 | some x =>
  rw[e] at hd
  cases hd
  exact hb x (List.mem_of_getElem? e)
theorem qgY {α:Type}{f:α→D}{xs:List α}{c:α→Bool}{h:α→D}{ys:List (Option D)}(hl:ys.length=(xs.map f).length)(hy:∀ (i:Nat) (y:Option D),ys[i]?=some y→qnO c h xs[i]? y):ys.filterMap id=(xs.filter c).map h:=by
 rw[← qje]
 have:ys=xs.map fun x=>if c x=true then some (h x) else none:=by
  refine List.ext_getElem? fun i=>?_
  rw[List.getElem?_map]
  cases e:ys[i]? with
  | some y =>
   have:=hy i y e
   cases e2:xs[i]? with
   | none=>rw[e2] at this;exact this.elim
   | some x =>
    rw[e2] at this
    cases y with
    | some z=>have z2:c x=true∧z=h x:=this;rw[Option.map_some,if_pos z2.1,z2.2]
    | none=>have z2:c x=false:=this;rw[Option.map_some,if_neg (by rw[z2];decide)]
  | none =>
   have:=List.getElem?_eq_none_iff.mp e
   rw[hl,List.length_map] at this
   rw[List.getElem?_eq_none this]
   rfl
 rw[this]
theorem qk6 {α:Type}(f:α→D)(xs:List α):qdZ (xs.map f)=xs.zipIdx.map fun x=>D.tup [.int (x.2:Nat),f x.1]:=by
 refine List.ext_getElem? fun i=>?_
 unfold qdZ
 rw[List.getElem?_map,List.getElem?_map,List.getElem?_zipIdx,List.getElem?_zipIdx,List.getElem?_map]
 cases xs[i]? <;> rfl
end
end L2
namespace PySem.SeqAt
open AutoSeq1 (wpAny_loadPart')
open MeetsSeq MeetsSeq2 MeetsSeq3 SeqRoads2
end PySem.SeqAt
namespace L2
open PySem PySem.Spec PyProof.Rows
section
variable {K : PySem.W.Frag} {X : Cx} {a b : Expr} {ta tb : TD} {apos cpos : Pos}
end
section
variable {K : PySem.W.Frag} {X : Cx} {e e2 : Expr} {te te2 : TX} {pos apos cpos npos : Pos} {x : Str} {i : Nat}
def qmH (i:Nat)(te te2:TX):TSM:=fun De ρ=>ownL ρ i fun _ _=>te ρ (xV fun d ρ1=>match d with | .int n=>te2 ρ1 (xV fun d2 ρ2=>ownL ρ2 i fun a ds=>∃ k:Nat,n=(k:Int)∧k≤ds.length∧ds.length<sizeLine∧NF (ds.take k++d2::ds.drop k) fun es=>De.nx (ρ2.set i (some (.ob a (.lst es))))) De.ex | _=>False) De.ex
theorem qeb (i:Nat)(he:PX K X e te)(he2:PX K X e2 te2)
  (hfew:((backTo cpos (starEach [e,e2] X.env)).all (fun x=>!x.1) && (backToKw cpos (keywordEach [] X.env)).all (fun x=>x.1.isSome) && decide (([e,e2]:List Expr).length+([]:List Keyword).length+(if ([]:List Keyword).isEmpty then 0 else 1)<30))=true)
  (hse:starEach [e,e2] X.env=(false,eval e X.env)::starEach [e2] X.env) (hse2:starEach [e2] X.env=(false,eval e2 X.env)::starEach [] X.env) (hpl:(backTo cpos (starEach [e2] X.env)).any (·.1)=false)
  (hN:X.N[i]?=some x:=by rfl) (hv:Vis X.env.scope x:=by first | exact Or.inl rfl | exact Or.inr (Or.inl rfl) | exact Or.inr (Or.inr rfl)) (hd:(x == ("__debug__":Str))=false:=by decide) (hcd:(x == ("__classdict__":Str))=false:=by decide)
  (hbase:attributeBase (.Name x npos) "insert" X.env (eval (.Name x npos) X.env)=eval (.Name x npos) X.env:=by rfl) (hline:(apos.endLine == cpos.line)=true:=by rfl) (hs:swapsWith (.Call (.Attribute (.Name x npos) "insert" apos) [e,e2] [] cpos) none pos.line X.env=pure false:=by rfl) :
  PSM K X (.Expr (.Call (.Attribute (.Name x npos) "insert" apos) [e,e2] [] cpos) pos) (qmH i te te2) :=
 ⟨fun hK=>(qeE (qlM PySem.F.plainAttrs_list PySem.F.slot_list_insert PySem.F.type_list_insert qkL (pv i hN hv hd hcd) (qbg (he.pe hK) (qbg (he2.pe hK) pa_nil hse2) hse) hbase hfew hline hse hpl) hs).imp fun E σ H hq0=>by
  obtain⟨Φ0,H0,Φ,ρ,De,g,V,t,k⟩:=hq0
  obtain⟨a,ds,ho,t⟩:=ownL.get t
  have S:=st0 g V k.ex
  obtain⟨q,vs,e1,hp,rl,_⟩:=S.list ho
  refine⟨_,e1,.inl ⟨rfl,vs,SqL.of hp⟩,Φ0,H0,Φ,[],ρ,[],_,De.ex,S,t,fun s ρ1 Φ1 H1 v r S1 _=>?_⟩
  obtain⟨d,rfl,r⟩:=r.get
  cases d with
  | int n =>
   refine⟨Φ0,H0,Φ1,_,ρ1,_,_,De.ex,S1,r,fun s2 ρ2 Φ2 H2 w r2 S2 _=>?_⟩
   obtain⟨d2,rfl,r2⟩:=r2.get
   obtain⟨rd,rk⟩:=S2.last2
   cases rd
   obtain⟨a2,ds2,ho2,j,rfl,hj,hl,r2⟩:=ownL.get r2
   obtain⟨q2,vs2,e2',hp2,rl2,k2⟩:=S2.list ho2
   rw[e1] at e2'
   cases e2'
   have S3:=k2 _ _ ((rl2.take j).append (.cons rk (rl2.drop j)))
   exact⟨q,vs2,_,j,w,rfl,rfl,rfl,hp2,by rw[rl2.1];exact hj,by rw[rl2.1];exact hl,k.nx _ Φ2 _ σ r2.get S3.g S3.env⟩
  | _=>exact r.elim⟩
end
section
variable {P : Program} {w : World} {H H' : Hp} {h h' h1 h2 : Heap}
theorem HOk.keptT (x:HOk P w H h)(k:∀ b u v,H b=some v→h.get? b=some u→h'.get? b=some u):HOk P w H h':=fun a o e =>
 (x a o e).stay (fun b u hb q=>by
  rcases hb with rfl | hb
  ·exact k _ u o e q
  ·exact k b u _ hb q) (fun _ q=>q) (fun _ _ q=>q) fun _ _ _ q=>q
theorem Un.kept2 {fs fs':List Addr}{ea:Addr}{T:Option Addr}(u:Un fs [] H H' h h1)(k:Kept fs' ea T h1 h2)(he:h.get? ea=none)(hT:∀ T',T=some T'→h.get? T'=none)(hf:∀ b∈fs',b∈fs∨h.get? b=none):Un fs [] H H' h h2 where
 keep b o hb hn hfb hx:=by
  refine k.keep b o (u.keep b o hb hn hfb hx) (fun z=>by rw[z,he] at hb;cases hb) (fun z=>by rw[hT b z.symm] at hb;cases hb) fun z=>?_
  rcases hf b z with z | z
  ·exact hfb z
  ·rw[z] at hb;cases hb
 slot b o hb hn hfb hx:=by
  obtain⟨sl,hs⟩:=u.slot b o hb hn hfb hx
  by_cases c:b∈fs'
  ·obtain⟨sl2,hs2⟩:=k.slot b _ hs c
   exact⟨sl2,hs2⟩
  ·exact⟨sl,k.keep b _ hs (fun z=>by rw[z,he] at hb;cases hb) (fun z=>by rw[hT b z.symm] at hb;cases hb) c⟩
 free:=u.free
 there b o hb hx:=by
  obtain⟨o',hs⟩:=u.there b o hb hx
  by_cases c:b∈fs'
  ·obtain⟨sl2,hs2⟩:=k.slot b _ hs c
   exact⟨_,hs2⟩
  ·exact⟨o',k.keep b _ hs (fun z=>by rw[z,he] at hb;cases hb) (fun z=>by rw[hT b z.symm] at hb;cases hb) c⟩
 tups:=u.tups
 frzs:=u.frzs
 tbls:=u.tbls
end
def CXo (P:Program)(w:World):CXT:=fun outer H s E e s'=>∃ (ea T C:Addr) (dx:Option Addr) (H':Hp),e=.ref ea∧Fly s'.heap ea (some T) .none (.ref C) dx∧(s.heap.get? ea=none∧H' ea=none)∧(s.heap.get? T=none∧H' T=none) ∧
 s'.os=s.os∧AllBare s'.gens∧Un (frs outer) [] H H' s.heap s'.heap∧HOk P w H' s'.heap∧E (.ref C) dx H'
section
variable {X : Cx} {pins : List (Addr × Obj)} {σ : St} {H : Hp} {s s' : Shared} {E : XK} {e : Value}
theorem CXo.at (I:Inv X pins σ H s)(hex:X.ex=[])(h:CXo X.prog X.w X.stack H s E e s'):∃ (ea T C:Addr) (dx:Option Addr) (H':Hp),e=.ref ea∧Inv X pins σ H' s'∧Fly s'.heap ea (some T) .none (.ref C) dx∧(X.s₀.heap.get? ea=none∧H' ea=none∧∀ p∈X.pn++pins,p.1≠ea)∧(X.s₀.heap.get? T=none∧H' T=none∧∀ p∈X.pn++pins,p.1≠T)∧E (.ref C) dx H':=by
 obtain⟨ea,T,C,dx,H',e1,F,⟨f1,f2⟩,⟨g1,g2⟩,ho,hb,un,hok,hE⟩:=h
 have old:∀ b,s.heap.get? b=none→X.s₀.heap.get? b=none:=fun b hb=>by
  cases q:X.s₀.heap.get? b with
  | none=>rfl
  | some o =>
   obtain⟨o',z⟩:=I.base.there b o q (by rw[hex];simp)
   rw[hb] at z;cases z
 exact⟨ea,T,C,dx,H',e1,I.call' (ch:=[]) ho un hok hb (fun b z=>absurd z (by simp)),F,⟨old ea f1,f2,fun p hp z=>by have:=(I.pin p hp).1;rw[z,f1] at this;cases this⟩,⟨old T g1,g2,fun p hp z=>by have:=(I.pin p hp).1;rw[z,g1] at this;cases this⟩,hE⟩
end
section
variable {P : Program} {w : World} {K : PySem.W.Frag} {mg : Str → Option Value} {base : Heap} {N : List Str} {qual : Str} {scope : Scope} {f : Addr} {cd : Value} {A : Around} {outer : List Env} {s s' : Shared} {H H' : Hp} {E : XK} {pins : List (Addr × Obj)} {σ : St}
theorem qlq {ea C:Addr}{T dx:Option Addr}(I:Inv (qiV (CXo P w) P w K mg base N qual scope f cd A outer s H E) pins σ H' s')(F:Fly s'.heap ea T .none (.ref C) dx)(hea:s.heap.get? ea=none∧H' ea=none)(hT:∀ T',T=some T'→s.heap.get? T'=none∧H' T'=none)(hE:E (.ref C) dx H') :
  (qiV (CXo P w) P w K mg base N qual scope f cd A outer s H E).xe (.ref ea) s':=by
 have hfn:∀ b∈frs (envOfC qual scope s.heap.objs.size f cd::outer),H' b=none:=I.stkFree
 refine qmX (base:=base) I.ok.frames I.stack rfl F fun h2 T' F2 n2 k2=>?_
 have hsz:s.heap.objs.size≤s'.heap.objs.size:=I.sz
 refine⟨ea,T',C,dx,H',rfl,F2,hea,⟨Heap.get?_none_of_le (by omega),I.hok.fresh n2⟩,I.os,I.bare,?_,I.hok.keptT fun b u v hb q=>?_,hE⟩
 ·refine (show Un (frs outer) [] H H' s.heap s'.heap from I.base).kept2 k2 hea.1 (fun T' e=>(hT T' e).1) fun b hb=>?_
  obtain⟨env,he,hf⟩:=List.mem_filterMap.mp hb
  rcases List.mem_cons.mp he with rfl | he
  ·right
   have:s.heap.objs.size=b:=Option.some.inj hf
   exact Heap.get?_none_of_le (by omega)
  ·exact .inl (List.mem_filterMap.mpr ⟨env,he,hf⟩)
 ·refine k2.keep b u q (fun z=>by rw[z,hea.2] at hb;cases hb) (fun z=>by rw[(hT b z.symm).2] at hb;cases hb) fun z=>?_
  rw[hfn b z] at hb;cases hb
end
abbrev SpX:=List D→(D→Prop)→(XD→Prop)→Prop
def qhA (K:PySem.W.Frag)(mg:Str→Option Value)(z:SpX):Sp:=fun vs H Q E=>∃ Φ ds R W,Same Φ H∧TabF K Φ∧RpL K Φ ds vs∧z ds R W∧(∀ d Φ' H' v,R d→Gr Φ H Φ' H'→Rp K Φ' d v→Q v H') ∧
 ∀ xd C dx Φ' H',W xd→Gr Φ H Φ' H'→mg xd.nm=some (.ref C)→XAt K H' xd.at_ dx→E (.ref C) dx H'
structure ClX (P:Program)(w:World)(K:PySem.W.Frag)(mg:Str→Option Value)(base:Heap)(n:Nat)(x:Str)(ps:List Str)(z:SpX):Prop where
 ex:∃ (f:Addr) (fd:FuncData),FnOk P w K mg base (CXo P w) n f fd ps (qhA K mg z)∧Binds K fd ps []∧PySem.W.keepIn K (.ref f)=true∧mg x=some (.ref f)
section
variable {X : Cx} {CX : CXT} {k : Nat} {f : Addr} {fd : FuncData} {ps : List Str} {sp : Sp} {x : Str} {p pos : Pos} {e : Expr} {es : List Expr} {t : TA}
def qhT (CX:CXT)(X:Cx)(E:XK)(σ:St)(H:Hp):Prop:=∀ (pins:List (Addr × Obj)) (s:Shared) (e:Value) (s':Shared),Inv X pins σ H s→CX X.stack H s E e s'→X.xe e s'
def qoz (CX:CXT)(X:Cx)(sp:Sp)(t:TA):TE:=fun σ H Q=>t σ H fun vs H1=>∃ E,qhT CX X E σ H1∧sp vs H1 Q E
theorem qmO {pins:List (Addr × Obj)}{σ:St}{H:Hp}{s:Shared}{Q:VK}{E:XK}{us:List Value}{vs:List V}(F:FnOk X.prog X.w X.K X.mg X.base CX k f fd ps sp)(hr:Room k X.A)(hb:Binds X.K fd ps [])(hx:qhT CX X E σ H)
  (I:Inv X pins σ H s) (r:Vals vs us) (h:sp vs H Q E):wpAny (model X.prog X.w) X.A (call (.ref f) us) (EP X pins σ Q) X.xe s:=by
 have hl:us.length=ps.length:=by rw[← r.length];exact F.len _ _ _ _ h
 have hB:=hb s us I.kIn (by rw[List.append_nil];exact hl)
 rw[List.append_nil] at hB
 refine wpAny_call (codeAny_mono (F.run X.A X.stack s H ⟨us,[]⟩ us vs Q E hr I.env0 hB r h) fun res s1 hq=>?_)
 cases res with
 | error z=>exact hx pins s z s1 I hq
 | ok fl =>
  cases fl with
  | ret u=>exact I.after hq
  | _=>exact hq.elim
theorem qlt (F:FnOk X.prog X.w X.K X.mg X.base CX k f fd ps sp)(hr:Room k X.A)(hg:Gl X x)(hm:X.mg x=some (.ref f))(hk:PySem.W.keepIn X.K (.ref f)=true)(hb:Binds X.K fd ps [])
  (ha:PA X (e::es) t) (hdb:(x == ("__debug__":Str))=false) (he:starEach (e::es) X.env=(false,eval e X.env)::starEach es X.env) (hpl:(backTo pos (starEach es X.env)).any (·.1)=false) :
  PE X (.Call (.Name x p) (e::es) [] pos) (qoz CX X sp t):=by
 intro pins s σ H Q I h
 refine wpAny_Call_Name_kw (qeG I hg hm ?_ hdb)
 refine PySem.W.callWith_K (h₀:=X.base) I.ok.mod.kin hk (thn (ha pos pins s σ H _ I h) fun us s1 hq0=>?_) he hpl
 obtain⟨vs,H1,I1,r,E,hx,q⟩:=hq0
 exact⟨I1.kIn,qmO F hr hb hx I1 r q⟩
end
section
variable {K : PySem.W.Frag} {X : Cx} {e : Expr} {es : List Expr} {pos p : Pos} {tA : TXA}
def qoR (z:SpX)(tA:TXA):TX:=fun ρ R Rx=>tA ρ (xaD fun ds ρ1=>z ds (fun d=>R (.v d) ρ1) (fun xd=>Rx xd ρ1)) Rx
theorem qbR {n:Nat}{x:Str}{ps:List Str}{z:SpX}(C:ClX X.prog X.w K X.mg X.base n x ps z)(hr:Room n X.A)(hg:Gl X x)(hex:X.ex=[])
  (ha:PXA K X (e::es) tA) (he:starEach (e::es) X.env=(false,eval e X.env)::starEach es X.env) (hpl:(backTo pos (starEach es X.env)).any (·.1)=false) (hdb:(x == ("__debug__":Str))=false:=by decide) :
  PX K X (.Call (.Name x p) (e::es) [] pos) (qoR z tA):=⟨fun hK=>by
 obtain⟨f,fd,F,b,k,m⟩:=C.ex
 refine (qlt (hK ▸ F:FnOk X.prog X.w X.K X.mg X.base (CXo X.prog X.w) n f fd ps (qhA K X.mg z)) hr hg m (hK ▸ k) (hK ▸ b) (ha.pa hK) hdb he hpl).imp fun σ H Q hq0=>?_
 obtain⟨Φ0,H0,Φ,τ,ρ,κ,R,Rx,S,t,k⟩:=hq0
 refine⟨Φ0,H0,Φ,τ,ρ,κ,_,Rx,S,t,fun as ρ1 Φ1 H1 vs ts r1 hl hv S1 f1=>?_⟩
 obtain⟨ds,hd,r1⟩:=r1.get
 have rl:=S1.vals S.lk hd hv
 refine⟨fun cls dx H'=>∃ xd C Φ',Rx xd ρ1∧Gr Φ1 H1 Φ' H'∧cls=.ref C∧X.mg xd.nm=some (.ref C)∧XAt K H' xd.at_ dx,fun pins s e' s' I hx=>?_,Φ1,ds,_,_,S1.g.s,S1.E.tb,rl,r1,fun d Φ' H' v rd g rv=>k _ ρ1 Φ' H' v rd (((S1.pop S.lk).gr g).pushV rv) (f1.trans g.f),fun xd C dx Φ' H' hw g hm ha=>⟨xd,C,Φ',hw,g,rfl,hm,ha⟩⟩
 obtain⟨ea,T,C,dx,H',e1,I',F',fa,fT,xd,C',Φ',hRx,g,ec,hm,ha⟩:=CXo.at I hex hx
 cases ec
 subst e1
 refine S1.x xd ρ1 Φ' H' σ _ s' pins hRx (S1.g.trans g) ((S1.pop S.lk).gr g).env ⟨I',ea,C,some T,dx,rfl,F',hm,hK ▸ ha,fa,fun T' z=>?_⟩
 cases z
 exact fT⟩
end
section
variable {P : Program} {w : World} {K : PySem.W.Frag} {mg : Str → Option Value} {base : Heap}
theorem qlY:∀ ds:List D,qnE (ds.map Sm.v)=0
 | []=>rfl
 | _::ds=>qlY ds
def rtV (R:D→Prop):Sm→Prop | .v d=>R d | _=>False
theorem Fun.okX {x qual:Str}{st:Stmt}{f:Addr}{fd:FuncData}{N ps:List Str}{k:Nat}{sp:SpX}(F:Fun K x qual st f fd)(S:FnScope N ps (qah st))(len:∀ ds R W,sp ds R W→ds.length=ps.length)
  (hbody:∀ (cdv:Value) (A:Around) (outer:List Env) (s:Shared) (H:Hp) (E:XK) (ds:List D) (R:D→Prop) (W:XD→Prop),fd.code=cdv→Room k (A.deeper (envOfC qual (qah st) s.heap.objs.size f cdv))→sp ds R W →
   ∃ t,PSsM K (qiV (CXo P w) P w K mg base N qual (qah st) f cdv A outer s H E) (qaV st) t∧t { nx:=fun ρ=>R .non,rt:=fun sm ρ=>rtV R sm,ex:=fun xd ρ=>W xd } (qat N (ds.map Sm.v) [])):FnOk P w K mg base (CXo P w) (k+1) f fd ps (qhA K mg sp):=by
 obtain⟨oc,od,kV,doc,pm,an,cdv,ct,osl,rfl,lk,hcd⟩:=F.ex
 refine qkQ lk hcd S (fun vs H Q E hq0=>?_) fun A outer s H vs Q E hr hq0=>?_
 ·obtain⟨Φ,ds,R,W,_,_,rl,h,_⟩:=hq0
  rw[rl.1]
  exact len ds R W h
 ·obtain⟨Φ,ds,R,W,sm,tb,rl,h,kR,kW⟩:=hq0
  obtain⟨t,ht,hq⟩:=hbody cdv A outer s H E ds R W rfl hr h
  rw[← qcj] at hq
  have am:ArgM K Φ H (ds.map Sm.v) vs (ds.map fun _=>[]):=qeF rl
  have e0:(ds.map fun _=>([]:List Addr)).flatten=[]:=by
   rw[List.flatten_eq_nil_iff]
   intro l hl
   obtain⟨_,_,rfl⟩:=List.mem_map.mp hl
   rfl
  have ea:qdb (ds.map Sm.v) vs=[]:=List.length_eq_zero_iff.mp (by rw[qdl am];exact qlY ds)
  have V:=qfc (N:=N) sm tb am (by rw[e0];simp) (by rw[e0];simp)
  rw[e0,qge,ea] at V
  refine⟨lM K _ t,ht.ps rfl,Φ,H,Φ,_,_,.refl sm,V,hq,⟨fun ρ' Φ' H' σ' r g V=>kR .non Φ' H' .non r g .non,fun smr ρ' Φ' H' v σ' r g V=>?_,fun _ _ _ _ h=>h.elim,fun _ _ _ _ h=>h.elim,fun xd ρ' Φ' H' σ' z s' pins hw g V st=>?_⟩⟩
  ·cases smr with
   | v d =>
    obtain⟨fp,E'⟩:=V
    have hl:σ'.length=ρ'.length:=by have:=E'.len;simpa using this
    have hat:(ρ'++[some (Sm.v d)])[ρ'.length]?=some (some (.v d)):=by rw[List.getElem?_append_right (Nat.le_refl _),Nat.sub_self];rfl
    obtain⟨u,hu,r2⟩:=E'.sl _ d hat
    rw[← hl,List.getElem?_append_right (Nat.le_refl _),Nat.sub_self] at hu
    cases hu
    exact kR d Φ' H' v r g r2
   | ob a o=>exact r.elim
  ·obtain⟨ea,C,T,dx,e1,F',hm,ha,fa,fT⟩:=st.ex
   subst e1
   exact qlq st.inv F' ⟨fa.1,fa.2.1⟩ (fun T' z=>⟨(fT T' z).1,(fT T' z).2.1⟩) (kW xd C dx Φ' H' hw g hm ha)
theorem Fun.clX {x:Str}{st:Stmt}{f:Addr}{fd:FuncData}{ps:List Str}{n:Nat}{z:SpX}(F:Fun K x x st f fd)(m:mg x=some (.ref f))(H:FnOk P w K mg base (CXo P w) n f fd ps (qhA K mg z))
  (b:∀ (kV doc pm:Value) (an:Option Addr) (cdv ct:Value) (us:List Value),us.length=ps.length→bindArgs (PySem.W.fnOf x x (qbk st) (qaV st) (qah st) .none kV doc pm an cdv ct) ⟨us,[]⟩=pure (ps.zip us)):ClX P w K mg base n x ps z:=⟨f,fd,H,F.binds b,F.kp,m⟩
theorem ClX.mono {n m:Nat}{x:Str}{ps:List Str}{z:SpX}(C:ClX P w K mg base n x ps z)(k:n≤m):ClX P w K mg base m x ps z:=by
 obtain⟨f,fd,F,r⟩:=C.ex
 exact⟨f,fd,F.mono k,r⟩
end
abbrev bmV:List Value:=[.type "ValueError",.type "Exception",.type "BaseException",.type "object"]
abbrev excNames:List Str:=["__init__","__setattr__","__getattribute__","__getattr__","at","__class__"]
inductive TailN (h:Heap):List Value→Prop where
 | base:TailN h bmV
 | own {A:Addr} {c0:Value} {dd:Option Addr} {cd:ClassData} {sl:Array (Option Value)} {mA:Str→Option Value} {tl:List Value}:h.get? A=some { cls:=c0,dict:=dd,data:=.cls cd,slots:=sl }→h.Ns cd.ns mA→(∀ n∈excNames,mA n=none)→TailN h tl→TailN h (.ref A::tl)
theorem TailN.tail {h:Heap}{tl:List Value}(T:TailN h tl):OwnTail h bmV tl:=by
 induction T with
 | base=>exact .base
 | own a b c _ ih=>exact .own a b (c _ (by simp)) ih
theorem TailN.keeps {h h':Heap}{tl:List Value}(T:TailN h tl)(k:∀ b o,h.get? b=some o→h'.get? b=some o):TailN h' tl:=by
 induction T with
 | base=>exact .base
 | own a b c _ ih=>exact .own (k _ _ a) (b.keeps k) c ih
structure ExcAt (h:Heap)(C:Addr)(init:Option Value):Prop where
 ex:∃ nm q N bs bm sn sub ab col dd k0 k1 k2 k3 k5 mN,h.get? C=some (excClassObj nm q C N bs bm true sn sub ab col dd k0 k1 k2 k3 k5 "ValueError.__new__")∧h.Ns N mN∧mN "__init__"=init∧(∀ n∈excNames,n≠"__init__"→mN n=none)∧TailN h bm
theorem ObjOk.is {P:Program}{w:World}{H:Hp}{h:Heap}{a:Addr}{o:HO}(x:ObjOk P w H h a o):∃ ob,h.get? a=some ob:=by
 cases o with
 | lst xs=>obtain⟨_,_,_,_,e⟩:=x;exact⟨_,e⟩
 | tup xs=>obtain⟨_,_,_,o,e,_⟩:=x;exact⟨_,e⟩
 | dK kvs=>obtain⟨_,_,_,_,o,_,_,e,_⟩:=x;exact⟨_,e⟩
 | dT kvs=>obtain⟨_,_,_,_,o,_,_,e,_⟩:=x;exact⟨_,e⟩
 | set S n=>obtain⟨o,_,_,_,e,_⟩:=x;exact⟨_,e⟩
 | ins C dx fs=>obtain⟨_,_,_,e,_⟩:=x;exact⟨_,e⟩
 | own y=>obtain⟨_,e⟩:=x;exact⟨_,e⟩
 | xd fs=>obtain⟨_,⟨_,_,_,e,_⟩,_⟩:=x;exact⟨_,e⟩
 | rng lo hi=>obtain⟨_,_,_,e⟩:=x;exact⟨_,e⟩
 | frz ob u=>obtain⟨e,_⟩:=x;exact⟨_,e⟩
 | tbl ps=>rcases x with x | ⟨_,_,_,_,_,_,_,_,_,_,x,_⟩ <;> exact⟨_,x⟩
 | met f y=>exact⟨_,(show h.get? a=some _ from x)⟩
 | ext φ=>obtain⟨_,e,_⟩:=x;exact e
theorem HOk.no {P:Program}{w:World}{H:Hp}{h:Heap}(x:HOk P w H h){a:Addr}(e:h.get? a=none):H a=none:=by
 cases q:H a with
 | none=>rfl
 | some o =>
  obtain⟨ob,z⟩:=(x a o q).is
  rw[e] at z
  cases z
section
variable {X : Cx} {pins : List (Addr × Obj)} {σ : St} {H : Hp} {s : Shared} {h' : Heap} {K : PySem.W.Frag}
theorem Inv.old (I:Inv X pins σ H s)(hex:X.ex=[]){b:Addr}(hb:s.heap.get? b=none):X.s₀.heap.get? b=none:=by
 cases q:X.s₀.heap.get? b with
 | none=>rfl
 | some o =>
  obtain⟨o',z⟩:=I.base.there b o q (by rw[hex];simp)
  rw[hb] at z;cases z
theorem Inv.more (I:Inv X pins σ H s)(k:∀ b o,s.heap.get? b=some o→h'.get? b=some o):Inv X pins σ H { s with heap:=h' } :=
 I.call' (s':={ s with heap:=h' }) (ch:=[]) rfl (Un.kept k) (I.hok.kept k) I.bare (fun b z=>absurd z (by simp))
end
abbrev Cx.tried (X:Cx)(pn:List (Addr × Obj))(xe:Value→Shared→Prop):Cx:={ X with pn:=pn,xe:=xe }
abbrev Cx.held (X:Cx)(pn:List (Addr × Obj))(e:Value):Cx:={ X with A:=X.A.mark (some e),calm:=false,pn:=pn,xe:=fun _ _=>False }
section
variable {X : Cx} {pins pins' : List (Addr × Obj)} {σ : St} {H : Hp} {s : Shared} {xe : Value → Shared → Prop} {e : Value}
theorem Cx.Ok.tried (o:X.Ok)(pn:List (Addr × Obj))(xe:Value→Shared→Prop):(X.tried pn xe).Ok :=
 ⟨o.mod,o.kind,o.glob,o.blt,o.above,o.inj,o.has,o.cab,o.hd,o.frames,o.stk,o.exf,o.bs,o.bsz,o.noex,o.exfs,o.funs,o.frf⟩
theorem Cx.Ok.held (o:X.Ok)(pn:List (Addr × Obj))(e:Value):(X.held pn e).Ok :=
 ⟨o.mod,o.kind,o.glob,o.blt,o.above,o.inj,o.has,o.cab,fun h=>(by cases h),o.frames,o.stk,o.exf,o.bs,o.bsz,o.noex,o.exfs,o.funs,o.frf⟩
theorem Inv.tried (I:Inv X pins σ H s)(xe:Value→Shared→Prop):Inv (X.tried (X.pn++pins) xe) [] σ H s :=
 ⟨I.ok.tried _ _,I.os,I.bare,I.base,I.loc,I.cell,I.free,I.freeC,fun p hp=>I.pin p (by rw[List.append_nil] at hp;exact hp),I.hok,I.len⟩
theorem Inv.untried (ok:X.Ok)(I:Inv (X.tried (X.pn++pins) xe) pins' σ H s):Inv X pins σ H s :=
 ⟨ok,I.os,I.bare,I.base,I.loc,I.cell,I.free,I.freeC,fun p hp=>I.pin p (List.mem_append_left _ hp),I.hok,I.len⟩
theorem Inv.held (I:Inv X pins σ H s)(e:Value):Inv (X.held (X.pn++pins) e) [] σ H s :=
 ⟨I.ok.held _ _,I.os,I.bare,I.base,I.loc,I.cell,I.free,I.freeC,fun p hp=>I.pin p (by rw[List.append_nil] at hp;exact hp),I.hok,I.len⟩
theorem Inv.unheld (ok:X.Ok)(I:Inv (X.held (X.pn++pins) e) pins' σ H s):Inv X pins σ H s :=
 ⟨ok,I.os,I.bare,I.base,I.loc,I.cell,I.free,I.freeC,fun p hp=>I.pin p (List.mem_append_left _ hp),I.hok,I.len⟩
theorem Inv.knowX {a:Addr}{o:HO}(I:Inv X pins σ H s)(h0:X.s₀.heap.get? a=none)(hn:H a=none)(hp:∀ p∈X.pn++pins,p.1≠a)(hl:X.env.locals≠a)(hc:∀ x c,X.env.cells.lookup x=some c→c≠a)(new:ObjOk X.prog X.w (upd H a o) s.heap a o):Inv X pins σ (upd H a o) s where
 ok:=I.ok
 os:=I.os
 bare:=I.bare
 base:=⟨I.base.keep,I.base.slot,fun b ob q n hx=>by rw[qal (fun z=>by rw[z,h0] at q;cases q)];exact I.base.free b ob q n hx,I.base.there,fun b xs q=>by have:=I.base.tups b xs q;rw[qal (qas this hn)];exact this,fun b ob xs q=>by have:=I.base.frzs b ob xs q;rw[qal (qas this hn)];exact this,fun b ps q=>by have:=I.base.tbls b ps q;rw[qal (qas this hn)];exact this⟩
 loc:=I.loc
 cell:=I.cell
 free:=by rw[qal hl];exact I.free
 freeC x c h:=by rw[qal (hc x c h)];exact I.freeC x c h
 pin p h:=by
  obtain⟨a1,a2,a3⟩:=I.pin p h
  exact⟨a1,by rw[qal (hp p h)];exact a2,a3⟩
 hok:=I.hok.know hn new
 len:=I.len
theorem qnY {h:Heap}{a:Addr}{m m':Str→Option Value}(x:h.Ns a m)(y:h.Ns a m')(n:Str):m n=m' n:=by
 obtain⟨o,es,ep,ho,hd,_,hm⟩:=x
 obtain⟨o',es',ep',ho',hd',_,hm'⟩:=y
 rw[ho] at ho'
 cases ho'
 rw[hd] at hd'
 cases hd'
 rw[← hm n,← hm' n]
theorem Inv.unname {i:Nat}{n:Str}{h':Heap}{m:Str→Option Value}{v:Option Value}{t':Nat}(I:Inv X pins σ H s)(hN:X.N.Nodup)(hi:X.N[i]?=some n)(hm:s.heap.Ns X.env.locals m)(hn:h'.Ns X.env.locals (fun x=>if x=n then v else m x))(hs:Heap.SameBut X.env.locals s.heap h'):Inv X pins (σ.set i none) H { s with heap:=h',toks:=t' }:=by
 have old:X.s₀.heap.get? X.env.locals=none:=Heap.get?_none_of_le I.ok.above
 have kp:∀ b,b≠X.env.locals→h'.get? b=s.heap.get? b:=fun b hb=>hs.2 b hb
 obtain⟨m0,hm0,hl⟩:=I.loc
 refine⟨I.ok,I.os,I.bare,⟨fun b o q n1 n2 n3=>?_,fun b o q n1 n2 n3=>?_,I.base.free,fun b o q n3=>?_,I.base.tups,I.base.frzs,I.base.tbls⟩,⟨_,hn,fun j x w hj hw hv=>?_⟩,fun x c h=>?_,I.free,I.freeC,fun p hp=>?_,I.hok.keptT fun b u w hb q=>?_,by rw[List.length_set];exact I.len⟩
 ·rw[kp b (fun z=>by rw[z,old] at q;cases q)];exact I.base.keep b o q n1 n2 n3
 ·obtain⟨sl,z⟩:=I.base.slot b o q n1 n2 n3
  exact⟨sl,(kp b (fun z=>by rw[z,old] at q;cases q)).trans z⟩
 ·obtain⟨o',z⟩:=I.base.there b o q n3
  exact⟨o',(kp b (fun z=>by rw[z,old] at q;cases q)).trans z⟩
 ·have hji:j≠i:=fun z=>by
   rw[z] at hw
   simp [List.getElem?_set] at hw
  rw[List.getElem?_set_ne (Ne.symm hji)] at hw
  obtain⟨u,ru,lk⟩:=hl j x w hj hw hv
  have hxn:x≠n:=fun z=>hji ((List.getElem?_inj (qak hj) hN).mp (by rw[hj,hi,z]))
  refine⟨u,ru,?_⟩
  rcases lk with⟨k1,k2⟩ | ⟨k1,c,k2,k3⟩
  ·refine .inl ⟨k1,?_⟩
   show (if x=n then v else m x)=some u
   rw[if_neg hxn,qnY hm hm0 x]
   exact k2
  ·refine .inr ⟨k1,c,k2,?_⟩
   obtain⟨o,ho,hd⟩:=k3
   exact⟨o,(kp c (I.cne x c k2)).trans ho,hd⟩
 ·obtain⟨w,o,ho,hd⟩:=I.cell x c h
  exact⟨w,o,(kp c (I.cne x c h)).trans ho,hd⟩
 ·obtain⟨a1,a2,a3,a4⟩:=I.pin p hp
  exact⟨(kp p.1 a3).trans a1,a2,a3,a4⟩
 ·exact (kp b (fun z=>by rw[z,I.free] at hb;cases hb)).trans q
theorem qgE (ok:X.Ok){b:Addr}(h:b∈frs X.stack):b∈X.fs∨b=X.env.locals:=by
 rcases ok.stk with e | ⟨e,hf⟩
 ·rw[e] at h;exact .inl h
 ·rw[e] at h
  obtain⟨env,he,hb⟩:=List.mem_filterMap.mp h
  rcases List.mem_cons.mp he with rfl | he
  ·rw[hf] at hb;exact .inr (Option.some.inj hb).symm
  ·exact .inl (List.mem_filterMap.mpr ⟨env,he,hb⟩)
theorem Inv.passed {ea:Addr}{T:Option Addr}{h':Heap}(I:Inv X pins σ H s)(k:Kept (frs X.stack) ea T s.heap h')(he:X.s₀.heap.get? ea=none∧H ea=none∧∀ p∈X.pn++pins,p.1≠ea)(hT:∀ T',T=some T'→X.s₀.heap.get? T'=none∧H T'=none∧∀ p∈X.pn++pins,p.1≠T')
  (de:∃ o vs,s.heap.get? ea=some o∧o.data=.fields vs) (dT:∀ T',T=some T'→∃ o vs,s.heap.get? T'=some o∧o.data=.fields vs):Inv X pins σ H { s with heap:=h' }:=by
 have old:X.s₀.heap.get? X.env.locals=none:=Heap.get?_none_of_le I.ok.above
 have kd:∀ b o,s.heap.get? b=some o→(∀ vs,o.data≠.fields vs)→∃ sl,h'.get? b=some { o with slots:=sl }:=fun b o hb hn=>by
  have b1:b≠ea:=fun z=>by
   obtain⟨o',vs,h1,h2⟩:=de
   rw[z,h1] at hb;cases hb;exact hn vs h2
  have b2:some b≠T:=fun z=>by
   obtain⟨o',vs,h1,h2⟩:=dT b z.symm
   rw[h1] at hb;cases hb;exact hn vs h2
  by_cases c:b∈frs X.stack
  ·exact k.slot b o hb c
  ·exact⟨o.slots,k.keep b o hb b1 b2 c⟩
 have k0:∀ b o,s.heap.get? b=some o→X.s₀.heap.get? b≠none→b≠ea∧some b≠T:=fun b o hb h0=>⟨fun z=>h0 (by rw[z];exact he.1),fun z=>h0 (hT b z.symm).1⟩
 obtain⟨m,hm,hl⟩:=I.loc
 have hm':h'.Ns X.env.locals m:=by
  obtain⟨o,es,ep,ho,hd,hk,hmm⟩:=hm
  obtain⟨sl,z⟩:=kd _ o ho (fun vs q=>by rw[hd] at q;cases q)
  exact⟨_,es,ep,z,hd,hk,hmm⟩
 have cl:∀ c v,s.heap.IsCell c v→h'.IsCell c v:=fun c v hc=>by
  obtain⟨o,ho,hd⟩:=hc
  obtain⟨sl,z⟩:=kd _ o ho (fun vs q=>by rw[hd] at q;cases q)
  exact⟨_,z,hd⟩
 refine⟨I.ok,I.os,I.bare,⟨fun b o q n1 n2 n3=>?_,fun b o q n1 n2 n3=>?_,I.base.free,fun b o q n3=>?_,I.base.tups,I.base.frzs,I.base.tbls⟩,⟨m,hm',fun j x w hj hw hv=>?_⟩,fun x c h=>?_,I.free,I.freeC,fun p hp=>?_,I.hok.keptT fun b u w hb q=>?_,I.len⟩
 ·have z:=I.base.keep b o q n1 n2 n3
  obtain⟨b1,b2⟩:=k0 b o z (by rw[q];simp)
  refine k.keep b o z b1 b2 fun c=>?_
  rcases qgE I.ok c with c | c
  ·exact n2 c
  ·rw[c,old] at q;cases q
 ·obtain⟨sl,z⟩:=I.base.slot b o q n1 n2 n3
  obtain⟨b1,b2⟩:=k0 b _ z (by rw[q];simp)
  by_cases c:b∈frs X.stack
  ·obtain⟨sl2,z2⟩:=k.slot b _ z c
   exact⟨sl2,z2⟩
  ·exact⟨sl,k.keep b _ z b1 b2 c⟩
 ·obtain⟨o',z⟩:=I.base.there b o q n3
  obtain⟨b1,b2⟩:=k0 b _ z (by rw[q];simp)
  by_cases c:b∈frs X.stack
  ·obtain⟨sl2,z2⟩:=k.slot b _ z c
   exact⟨_,z2⟩
  ·exact⟨o',k.keep b _ z b1 b2 c⟩
 ·obtain⟨u,ru,lk⟩:=hl j x w hj hw hv
  refine⟨u,ru,?_⟩
  rcases lk with⟨k1,k2⟩ | ⟨k1,c,k2,k3⟩
  ·exact .inl ⟨k1,k2⟩
  ·exact .inr ⟨k1,c,k2,cl c _ k3⟩
 ·obtain⟨w,hw⟩:=I.cell x c h
  exact⟨w,cl c w hw⟩
 ·obtain⟨a1,a2,a3,a4⟩:=I.pin p hp
  refine⟨k.keep p.1 p.2 a1 (he.2.2 p hp) (fun z=>(hT p.1 z.symm).2.2 p hp rfl) fun c=>?_,a2,a3,a4⟩
  rcases qgE I.ok c with c | c
  ·exact a4.1 c
  ·exact a3 c
 ·refine k.keep b u q (fun z=>by rw[z,he.2.1] at hb;cases hb) (fun z=>by rw[(hT b z.symm).2.1] at hb;cases hb) fun c=>?_
  rw[I.stkFree b c] at hb;cases hb
theorem qkI {M:Model}{A:Around}{E:Value→Shared→Prop}{Q:Unit→Shared→Prop}{i:Nat}{n:Str}{pos:Pos}(I:Inv X pins σ H s)(hN:X.N.Nodup)(hi:X.N[i]?=some n)(hx:X.env.scope.names.lookup n=some .local)(hf:X.fn n=true∨X.env.scope.names.lookup n=some .local)
  (k:∀ s',Inv X pins (σ.set i none) H s'→Q () s'):wpAny M A (do bindName X.env n .none;unbindBehindTheSuite X.env n pos) Q E s:=by
 have hp:(X.env.scope.kind == .class || (X.env.scope.kind == .module && X.env.locals != X.env.globals))=false:=by rw[I.ok.kind];rfl
 have hk:X.env.kindOf n=some .local:=hx
 have hil:i<σ.length:=by rw[I.len];exact qak hi
 refine wpAny_bind (wpAny_bindName (qfG I hN hi (.inl hx) (v:=.non) rfl (fun s1 I1=>?_) hf))
 obtain⟨m,hm,hl⟩:=id I1.loc
 obtain⟨u,ru,lk⟩:=hl i n .non hi (by rw[List.getElem?_set];simp [hil]) (.inl hx)
 have hmn:(m n).isSome=true:=by
  rcases lk with⟨_,h2⟩ | ⟨h1,_⟩
  ·rw[h2];rfl
  ·rcases h1 with h1 | h1 <;> (rw[hk] at h1;cases h1)
 unfold unbindBehindTheSuite
 refine wpAny_onRaise ?_
 unfold unbindName
 refine wpAny_bind (wpAny_point (wpAny_bind ?_))
 unfold deleteName
 simp only [hk,hp]
 rw[if_neg (by decide)]
 refine wpAny_bind (wpAny_nsDel_keeps hm fun h2 v hn2 hs2=>?_)
 rw[hmn]
 simp only [if_true,Bool.not_true,Bool.false_eq_true,if_false]
 refine wpAny_pure (wpAny_point ?_)
 have I2:=I1.unname (t':=s1.toks) hN hi hm hn2 hs2
 rw[List.set_set] at I2
 exact k _ I2
end
section
variable {M : Model} {A : Around} {E : Value → Shared → Prop} {s : Shared}
def qir (h:Heap)(C:Addr):List Value:=match h.get? C with | some o=>(match o.data with | .cls cd=>cd.mro | _=>[]) | none=>[]
theorem qkb {e C D:Addr}{oe:Obj}{i i':Option Value}{Q:Bool→Shared→Prop}(hC:ExcAt s.heap C i)(hD:ExcAt s.heap D i')(he:s.heap.get? e=some oe)(hcls:oe.cls=.ref C)(hq:Q ((qir s.heap C).contains (.ref D)) s):wpAny M A (excMatches (.ref e) (.ref D)) Q E s:=by
 obtain⟨hp,g,d,tk,os⟩:=s
 obtain⟨nm,q,N,bs,bm,sn,sub,ab,col,dd,k0,k1,k2,k3,k5,mN,c1,c2,c3,c4,c5⟩:=hC.ex
 obtain⟨nm',q',N',bs',bm',sn',sub',ab',col',dd',k0',k1',k2',k3',k5',mN',d1,d2,d3,d4,d5⟩:=hD.ex
 have hm:qir hp C=.ref C::bm:=by unfold qir;rw[show hp.get? C=_ from c1]
 have hq:Q ((Value.ref C::bm).contains (.ref D)) ⟨hp,g,d,tk,os⟩:=by rw[← hm];exact hq
 have hcB:(Value.ref D::bm').contains (.type "BaseException")=true:=by rw[List.contains_cons,d5.tail.hasType (X:="BaseException") (b:=true) (by decide +kernel),Bool.or_true]
 have f:=tc_notTuple
 unfold excMatches
 repeat (first | (with_reducible refine wpAny_loadPart_at he ?_;rw[hcls]) | with_reducible refine wpAny_loadPart_at d1 ?_ | (with_reducible refine wpAny_isSubtype_exc d1 ?_;rw[hcB]) | (with_reducible refine wpAny_isSubtype_exc c1 ?_) | wp_step)
 cases hb:(Value.ref C::bm).contains (.ref D) <;> (rw[hb] at hq;wp_walk;exact hq)
end
structure Exs (K:PySem.W.Frag)(mg:Str→Option Value)(isa:Str→Str→Bool)(names:List Str):Prop where
 cls:∀ nm∈names,∀ C,mg nm=some (.ref C)→∀ h:Heap,K.In h→∃ i,ExcAt h C i
 sub:∀ nm∈names,∀ c∈names,∀ C D,mg nm=some (.ref C)→mg c=some (.ref D)→∀ h:Heap,K.In h→(qir h C).contains (.ref D)=isa nm c
 inK:∀ nm∈names,∀ C,mg nm=some (.ref C)→PySem.W.nsIn K mainGlobals nm=some (some (.ref C))
structure PHM (K:PySem.W.Frag)(X:Cx)(hs:List ExceptHandler)(th:XD→EndsM→qaN→Prop):Prop where
 ph:X.K=K→∀ (pins:List (Addr × Obj)) (s:Shared) (σ:St) (H:Hp) (D:Ends) (ea T C:Addr) (dx:Option Addr) (xd:XD) (Φ0 H0 Φ:Hp) (ρ:qaN) (De:EndsM),Inv X pins σ H s→Fly s.heap ea (some T) .none (.ref C) dx→X.mg xd.nm=some (.ref C)→XAt X.K H xd.at_ dx →
  (X.s₀.heap.get? ea=none∧H ea=none∧∀ p∈X.pn++pins,p.1≠ea)→(X.s₀.heap.get? T=none∧H T=none∧∀ p∈X.pn++pins,p.1≠T)→Gr Φ0 H0 Φ H→EnvM K H0 Φ H σ ρ→th xd De ρ→EndOkM K X Φ0 H0 De D→wpAny (model X.prog X.w) X.A (handleBy (.ref ea) X.env hs) (SP X pins D) X.xe s
theorem EnvM.unset {K:PySem.W.Frag}{H0 Φ H:Hp}{σ:St}{ρ:qaN}(E:EnvM K H0 Φ H σ ρ)(i:Nat):EnvM K H0 Φ H (σ.set i none) (ρ.set i none):=by
 have hl:=E.len
 refine E.re id (by rw[List.length_set,List.length_set,hl]) (fun j x h=>?_) (fun j k a a' o o' _ _ h=>h)
 have hji:j≠i:=fun z=>by
  rw[z] at h
  simp [List.getElem?_set] at h
 rw[List.getElem?_set_ne (Ne.symm hji)] at h
 exact⟨h,List.getElem?_set_ne (Ne.symm hji)⟩
theorem qgS {h h':Heap}{fs:List Addr}{ea T:Addr}(k:∀ b o,h.get? b=some o→b≠T→h'.get? b=some o)(hT:∃ o vs,h.get? T=some o∧o.data=.fields vs)(hf:∀ b∈fs,∀ o,h.get? b=some o→∀ vs,o.data≠.fields vs):Kept fs ea (some T) h h' where
 keep b o hb _ b2 _:=k b o hb fun z=>b2 (by rw[z])
 slot b o hb c:=⟨o.slots,k b o hb fun z=>by
  obtain⟨o',vs,h1,h2⟩:=hT
  rw[z,h1] at hb
  cases hb
  exact hf T (z ▸ c) _ h1 vs h2⟩
theorem Fly.note {h:Heap}{e T:Addr}{fl cls:Value}{dx:Option Addr}(F:Fly h e (some T) fl cls dx):∃ o vs,h.get? T=some o∧o.data=.fields vs:=by
 obtain⟨oe,vs,_,_,_,_,_,_,oT,ts,h1,h2,_⟩:=F.ex
 exact⟨oT,ts,h1,h2⟩
theorem Fly.obj {h:Heap}{e:Addr}{T:Option Addr}{fl cls:Value}{dx:Option Addr}(F:Fly h e T fl cls dx):∃ o vs,h.get? e=some o∧o.data=.fields vs:=by
 obtain⟨oe,vs,h1,h2,_⟩:=F.ex
 exact⟨oe,vs,h1,h2⟩
section
variable {K : PySem.W.Frag} {X : Cx} {isa : Str → Str → Bool} {names : List Str}
theorem qeP {pins:List (Addr × Obj)}{σ:St}{H:Hp}{s:Shared}(I:Inv X pins σ H s):∀ b∈frs X.stack,∀ o,s.heap.get? b=some o→∀ vs,o.data≠.fields vs:=fun b hb o ho=>by
 obtain⟨_,o',ho',hn⟩:=I.stack.mem hb
 rw[ho] at ho'
 cases ho'
 exact hn
theorem qmc:PHM K X [] (fun _ _ _=>False):=⟨fun _ _ _ _ _ _ _ _ _ _ _ _ _ _ _ _ _ _ _ _ _ _ _ _ h=>h.elim⟩
theorem qnC {rest:List ExceptHandler}{th:XD→EndsM→qaN→Prop}{c n:Str}{Da:Addr}{np hpos:Pos}{b₀:Stmt}{suite:List Stmt}{tu:TSM}(i:Nat)(Ex:Exs X.K X.mg isa names)(hc:c∈names)(hg:Gl X c)(hm:X.mg c=some (.ref Da))(hN:X.N.Nodup)(hs:∀ pn e,PSsM K (X.held pn e) (b₀::suite) tu)(hr:PHM K X rest th)
  (hi:X.N[i]?=some n:=by rfl) (hloc:X.env.scope.names.lookup n=some .local:=by rfl) (hfn:X.fn n=true∨X.env.scope.names.lookup n=some .local:=by first | exact .inl rfl | exact .inr rfl) (hdb:(c == ("__debug__":Str))=false:=by decide) :
  PHM K X (.ExceptHandler (some (.Name c np)) (some n) (b₀::suite) hpos::rest) (fun xd De ρ=>xd.nm∈names∧(isa xd.nm c=true→tu { nx:=fun ρ'=>De.nx (ρ'.set i none),rt:=De.rt,bk:=fun ρ'=>De.bk (ρ'.set i none),ct:=fun ρ'=>De.ct (ρ'.set i none) } (ρ.set i (some (.v (.exc xd.nm xd.at_.toList)))))∧(isa xd.nm c=false→th xd De ρ)) :=
 ⟨fun hK pins s σ H D ea T C dx xd Φ0 H0 Φ ρ De I F hnm hat fe fT g V t k=>by
  obtain⟨hin,t1,t2⟩:=t
  obtain⟨oe,he,hcl,hdx,vs,hvs⟩:=F.live
  obtain⟨iC,kC⟩:=Ex.cls xd.nm hin C hnm s.heap I.kIn
  obtain⟨iD,kD⟩:=Ex.cls c hc Da hm s.heap I.kIn
  have hsub:=Ex.sub xd.nm hin c hc C Da hnm hm s.heap I.kIn
  refine wpAny_handleBy_cons (codeAny_handlers_test (qeG (X:=X.held (X.pn++pins) (.ref ea)) (I.held (.ref ea)) hg hm ?_ hdb)) (by intro q;cases q)
  refine qkb kC kD he hcl ?_
  rw[hsub]
  cases hb:isa xd.nm c with
  | false=>exact hr.ph hK pins s σ H D ea T C dx xd Φ0 H0 Φ ρ De I F hnm hat fe fT g V (t2 hb) k
  | true =>
   refine codeAny_handlers_suite_as (qjZ F fun h1 F1 k1 n1=>?_)
   have I1:Inv X pins σ H { s with heap:=h1 }:=I.passed (qgS k1 F.note (qeP I)) fe (fun T' z=>by cases z;exact fT) F.obj (fun T' z=>by cases z;exact F.note)
   refine qgh I1 hN hi (.inl hloc) (v:=.ref ea) rfl (fun s2 I2 hs2=>?_) hfn
   obtain⟨oe2,ve2,he2,hd2,hc2,hx2,_⟩:=F1.ex
   have hel:ea≠X.env.locals:=fun z=>by
    obtain⟨m,⟨o',es,ep,ho',hd',_⟩,_⟩:=I1.loc
    rw[z,show h1.get? X.env.locals=_ from ho'] at he2
    cases he2
    rw[hd'] at hd2;cases hd2
   have hec:∀ x c,X.env.cells.lookup x=some c→c≠ea:=fun x c h z=>by
    obtain⟨v,o',ho',hd'⟩:=I1.cell x c h
    rw[z,show h1.get? ea=_ from he2] at ho'
    cases ho'
    rw[hd'] at hd2;cases hd2
   have he3:s2.heap.get? ea=some oe2:=by
    obtain⟨a,sb,ha⟩:=hs2
    refine (sb.2 ea ?_).trans he2
    rcases ha with rfl | ha
    ·exact hel
    ·exact fun z=>hec _ _ ha z.symm
   have new:ObjOk X.prog X.w (upd H ea (.ext (qiE ea C dx))) s2.heap ea (.ext (qiE ea C dx)):=⟨⟨oe2,ve2,he3,hc2,hx2,hd2⟩,⟨oe2,he3⟩,fun a b ⟨o,w,z1,z2⟩ kk=>⟨o,w,kk o z1,z2⟩⟩
   have I3:=I2.knowX fe.1 fe.2.1 fe.2.2 (Ne.symm hel) hec new
   have hno:H0 ea=none:=by
    cases q:H0 ea with
    | none=>rfl
    | some u=>have:=g.h _ _ q;rw[fe.2.1] at this;cases this
   have hΦe:Φ ea=none:=by
    cases q:Φ ea with
    | none=>rfl
    | some u=>have:=g.s _ _ q;rw[fe.2.1] at this;cases this
   obtain⟨Φ2,g2,r2⟩:∃ Φ2,Gr Φ H Φ2 (upd H ea (.ext (qiE ea C dx)))∧Rp K Φ2 (.exc xd.nm xd.at_.toList) (.ref ea):=by
    have g1:Gr Φ H (upd Φ ea (.ext (qiE ea C dx))) (upd H ea (.ext (qiE ea C dx))):=(Gr.fresh g.s fe.2.1 _).freeze fe.2.1 hΦe qaj
    cases ha:xd.at_ with
    | none =>
     rw[ha] at hat
     have hat:dx=none:=hat
     subst hat
     exact⟨_,g1,.exc0 (hK ▸ Ex.inK xd.nm hin C hnm) qaj⟩
    | some d =>
     rw[ha] at hat
     obtain⟨p,v,rfl,hp,rv⟩:=hat
     have hpe:p≠ea:=fun z=>by rw[z,fe.2.1] at hp;cases hp
     have hp':upd H ea (.ext (qiE ea C (some p))) p=some (.xd [("at",v)]):=by rw[qal hpe];exact hp
     have rv':∀ Ψ:Hp,Rp K Ψ d v:=fun Ψ=>(hK ▸ rv:Rp K (fun _=>none) d v).same fun b u z=>(by cases z)
     cases q:(upd Φ ea (.ext (qiE ea C (some p)))) p with
     | some u =>
      have:=g1.s _ _ q
      rw[hp'] at this
      cases this
      exact⟨_,g1,.exc1 (hK ▸ Ex.inK xd.nm hin C hnm) qaj q (rv' _)⟩
     | none =>
      refine⟨upd (upd Φ ea (.ext (qiE ea C (some p)))) p (.xd [("at",v)]),⟨g1.f.trans (qaK q _),g1.h,fun b u z=>?_,fun b u z1 z2 z3=>?_⟩,.exc1 (hK ▸ Ex.inK xd.nm hin C hnm) (by rw[qal (Ne.symm hpe)];exact qaj) qaj (rv' _)⟩
      ·by_cases cb:b=p
       ·rw[cb,qaj] at z;cases z;rw[cb];exact hp'
       ·rw[qal cb] at z;exact g1.s b u z
      ·by_cases cb:b=p
       ·rw[cb,hp] at z1;cases z1;exact z3.elim
       ·rw[qal cb];exact g1.o b u z1 z2 z3
   have V2:=((V.gr g2).snocV r2).store i
   have run:=(hs (X.pn++pins) (.ref ea)).ps hK [] s2 _ _ { nx:=fun σ' H'=>D.nx (σ'.set i none) H',rt:=D.rt,bk:=fun σ' H'=>D.bk (σ'.set i none) H',ct:=fun σ' H'=>D.ct (σ'.set i none) H' } (I3.held (.ref ea))
    ⟨Φ0,H0,Φ2,_,_,g.trans g2,V2,t1 hb,⟨fun ρ' Φ' H' σ' r g' V'=>k.nx _ Φ' H' _ r g' (V'.unset i),k.rt,fun ρ' Φ' H' σ' r g' V'=>k.bk _ Φ' H' _ r g' (V'.unset i),fun ρ' Φ' H' σ' r g' V'=>k.ct _ Φ' H' _ r g' (V'.unset i),fun _ _ _ _ _ _ _ _ h=>h.elim⟩⟩
   refine wpAny_mono run (fun f s3 hf=>?_) fun _ _ h=>h.elim
   have go:∀ {σ':St} {H':Hp},Inv (X.held (X.pn++pins) (.ref ea)) [] σ' H' s3→(∀ s',Inv X pins (σ'.set i none) H' s'→SP X pins D f s')→wpAny (model X.prog X.w) X.A (do bindName X.env n .none;unbindBehindTheSuite X.env n hpos) (fun _ s'=>SP X pins D f s') X.xe s3:=fun {σ' H'} J kk=>qkI (Inv.unheld I.ok J) hN hi hloc hfn kk
   cases f with
   | next=>obtain⟨σ',H',J,q⟩:=hf;exact go J fun s' J'=>⟨_,H',J',q⟩
   | brk=>obtain⟨σ',H',J,q⟩:=hf;exact go J fun s' J'=>⟨_,H',J',q⟩
   | cont=>obtain⟨σ',H',J,q⟩:=hf;exact go J fun s' J'=>⟨_,H',J',q⟩
   | ret u=>obtain⟨v,σ',H',J,rv,q⟩:=hf;exact go J fun s' J'=>⟨v,_,H',J',rv,q⟩⟩
theorem qo5 {body:List Stmt}{h₀:ExceptHandler}{hs:List ExceptHandler}{pos:Pos}{tb:TSM}{th:XD→EndsM→qaN→Prop}(hb:∀ pn xe,PSsM K (X.tried pn xe) body tb)(hh:PHM K X (h₀::hs) th)(hstk:X.stack=X.env::X.outer)(hfr:X.env.frame=some X.env.locals) :
  PSM K X (.Try body (h₀::hs) [] [] pos) (fun De ρ=>tb { De with ex:=fun xd ρ1=>th xd De ρ1 } ρ):=⟨fun hK=>by
 intro pins s σ H D I hq0
 obtain⟨Φ0,H0,Φ,ρ,De,g,V,t,k⟩:=hq0
 refine wpAny_Try_except ?_
 refine wpAny_mono ((hb (X.pn++pins) (fun e s₁=>wpAny (model X.prog X.w) X.A (noteFrame e X.env) (fun _ s₂=>wpAny (model X.prog X.w) X.A (setFlight e none) (fun _ s₃=>wpAny (model X.prog X.w) X.A (handleBy e X.env (h₀::hs)) (SP X pins D) X.xe s₃) X.xe s₂) X.xe s₁)).ps hK [] s σ H D (I.tried _)
  ⟨Φ0,H0,Φ,ρ,_,g,V,t,⟨k.nx,k.rt,k.bk,k.ct,fun xd ρ' Φ' H' σ' e s' pins' hth g' V' st=>?_⟩⟩) (fun f s1 hf=>?_) fun _ _ h=>h
 ·obtain⟨ea,C,T,dx,e1,F,hnm,hat,fe,fT⟩:=st.ex
  subst e1
  have Iu:Inv X pins σ' H' s':=Inv.untried I.ok st.inv
  have fe':X.s₀.heap.get? ea=none∧H' ea=none∧∀ p∈X.pn++pins,p.1≠ea:=⟨fe.1,fe.2.1,fun p hp=>fe.2.2 p (List.mem_append_left _ hp)⟩
  have fT':∀ T',T=some T'→X.s₀.heap.get? T'=none∧H' T'=none∧∀ p∈X.pn++pins,p.1≠T':=fun T' z=>⟨(fT T' z).1,(fT T' z).2.1,fun p hp=>(fT T' z).2.2 p (List.mem_append_left _ hp)⟩
  have hst:=Iu.stack
  have hfs:=Iu.ok.frames
  rw[hstk] at hst hfs
  refine qmg (base:=X.base) hfs hst hfr F fun h1 T1 F1 n1 k1=>?_
  rw[← hstk] at k1
  have I1:Inv X pins σ' H' { s' with heap:=h1 }:=Iu.passed k1 fe' fT' F.obj (fun T' z=>by subst z;exact F.note)
  have fT1:X.s₀.heap.get? T1=none∧H' T1=none∧∀ p∈X.pn++pins,p.1≠T1:=⟨Heap.get?_none_of_le (Nat.le_trans Iu.sz n1),Iu.hok.fresh n1,fun p hp z=>absurd (Heap.lt_size (Iu.pin p hp).1) (by rw[z];exact Nat.not_lt.mpr n1)⟩
  refine qjZ (s:={ s' with heap:=h1 }) F1 fun h2 F2 k2 n2=>?_
  have I2:Inv X pins σ' H' { s' with heap:=h2 }:=I1.passed (qgS k2 F1.note (qeP I1)) fe' (fun T' z=>by cases z;exact fT1) F1.obj (fun T' z=>by cases z;exact F1.note)
  exact hh.ph hK pins _ σ' H' D ea T1 C dx xd Φ0 H0 Φ' ρ' De I2 F2 hnm hat fe' fT1 g' V' hth k
 ·cases f with
  | next=>obtain⟨σ',H',J,q⟩:=hf;exact wpAny_execs_nil ⟨σ',H',Inv.untried I.ok J,q⟩
  | brk=>obtain⟨σ',H',J,q⟩:=hf;exact⟨σ',H',Inv.untried I.ok J,q⟩
  | cont=>obtain⟨σ',H',J,q⟩:=hf;exact⟨σ',H',Inv.untried I.ok J,q⟩
  | ret u=>obtain⟨v,σ',H',J,rv,q⟩:=hf;exact⟨v,σ',H',Inv.untried I.ok J,rv,q⟩⟩
end
section
variable {M : Model} {prog : Program} {w : World} {A : Around} {E : Value → Shared → Prop} {h : Heap} {g : Array GenState} {d : Drawn} {t : Nat} {os : OsState} {a : Addr} {o : Obj} {vs : Array Value}
 {nm q:Str} {C N:Addr} {bs bm:List Value} {hdct:Bool} {sn:List Str} {sub:List Value} {ab:Bool} {col:Option Bool} {dd:Option Addr} {k0 k1 k2 k3 k5:Option Value} {newId:String} {mN:Str→Option Value} {name:Str}
theorem qiR {y:Option Value}{Q:Option Value→Shared→Prop}(hm:name∈excNames)(T:TailN h bm)(hr:lookupAlong bmV name=pure y)(hq:Q y ⟨h,g,d,t,os⟩):wpAny M A (lookupAlong bm name) Q E ⟨h,g,d,t,os⟩:=by
 induction T with
 | base=>rw[hr];exact wpAny_pure hq
 | own hA hN hn _ ih =>
  rw[lookupAlong_cons]
  refine wpAny_bind (wpAny_classOwn_cls hA hN ?_)
  rw[hn name hm]
  exact ih
theorem qbC {y:Option Value}{Q:Option Value→Shared→Prop}(hm:name∈excNames)(hC:h.get? C=some (excClassObj nm q C N bs bm hdct sn sub ab col dd k0 k1 k2 k3 k5 newId))(hn:h.Ns N mN)(hmN:mN name=none)(T:TailN h bm)(hB:typeLookup (.type "ValueError") name=pure y)
  (hq:Q y ⟨h,g,d,t,os⟩):wpAny M A (typeLookup (.ref C) name) Q E ⟨h,g,d,t,os⟩:=by
 have hr:lookupAlong bmV name=pure y:=by rw[typeLookup_eq,PySem.F.excBase_ValueError.mroIs] at hB;exact hB
 rw[typeLookup_eq]
 refine wpAny_bind (wpAny_mroOf_exc hC ?_)
 rw[lookupAlong_cons]
 refine wpAny_bind (wpAny_classOwn_exc hC hn ?_)
 rw[hmN]
 exact qiR hm T hr hq
theorem qoJ:typeLookup (.type "ValueError") "__class__"=pure (some (.builtin "object.__class__")):=by rw[typeLookup_type,builtinLookup_eq_fast];kernel_rfl
theorem qfx {R:Result→Shared→Prop}(hC:h.get? C=some (excClassObj nm q C N bs bm hdct sn sub ab col dd k0 k1 k2 k3 k5 newId))(T:TailN h bm)(hx:h.get? a=some o)(hc:o.cls=.ref C)(hq:R (.ok (.ret (.ref C))) ⟨h,g,d,t,os⟩) :
  codeAny (model prog w) A (.call (.builtin "getset_descriptor.__get__") ⟨[.builtin "object.__class__",.ref a,.ref C],[]⟩) R ⟨h,g,d,t,os⟩:=by
 have hT5:(⟨h,g,d,t,os⟩:Shared).TypeIs (.builtin "object.__class__") "getset_descriptor":=F.typeOf_object_class
 have hcB:(Value.ref C::bm).contains (.type (".".intercalate ("object.__class__".cutAt '.').dropLast))=true:=by
  rw[F.owner_object_class,List.contains_cons,T.tail.hasType (X:="object") (b:=true) (by decide +kernel),Bool.or_true]
 refine codeAny_call_builtin F.slot_gs_get.plain F.entry_gs_get (F.slot_gs_get.check _ _ _ _ _ _ _ _ hT5 (F.args_gs_get _ _ _) ?_)
 repeat (any_goals (first | assumption | (with_reducible refine wpAny_loadPart_at hx ?_;rw[hc]) | (with_reducible refine wpAny_isSubtype_exc hC ?_;rw[hcB]) | wp_step))
 refine⟨Code.quiet_builtin _ (by decide +kernel),codeAny_builtin F.entry_object_class ?_⟩
 repeat (any_goals (first | assumption | (with_reducible refine wpAny_loadPart_at hx ?_;rw[hc]) | wp_step))
theorem qdR {nameV:Value}{Q:Unit→Shared→Prop}(hC:h.get? C=some (excClassObj nm q C N bs bm hdct sn sub ab col dd k0 k1 k2 k3 k5 newId))(T:TailN h bm)(hx:h.get? a=some o)(hc:o.cls=.ref C)(hq:Q () ⟨h,g,d,t,os⟩):wpAny M A (checkBuiltinCall "BaseException.__getattribute__" ⟨[.ref a,nameV],[]⟩) Q E ⟨h,g,d,t,os⟩:=by
 have hk:builtinKind "BaseException.__getattribute__"=some .slot:=by decide +kernel
 have hsplit:splitId "BaseException.__getattribute__"=some ("BaseException","__getattribute__"):=by decide +kernel
 have hcB:(Value.ref C::bm).contains (.type "BaseException")=true:=by rw[List.contains_cons,T.tail.hasType (X:="BaseException") (b:=true) (by decide +kernel),Bool.or_true]
 have ha:=F.args_bexc_ga (.ref a) nameV
 simp only [checkBuiltinCall,hk,hsplit]
 refine wpAny_bind ?_
 unfold isInstance
 repeat (first | (with_reducible refine wpAny_loadPart_at hx ?_;rw[hc]) | (with_reducible refine wpAny_isSubtype_exc hC ?_;rw[hcB]) | wp_step)
 exact hq
theorem qeB {tk:Tok}{Q:Fin→Shared→Prop}(hC:h.get? C=some (excClassObj nm q C N bs bm hdct sn sub ab col dd k0 k1 k2 k3 k5 newId))(hN:h.Ns N mN)(hmN:mN "__class__"=none)(T:TailN h bm)(hx:h.get? a=some o)(hc:o.cls=.ref C)(hq:Q (.done (.ret (.ref C))) ⟨h,g,d,t,os⟩) :
  wpAny (model prog w) A (Builtin.«object.__getattribute__» ⟨[.ref a,.str "__class__" tk],[]⟩) Q E ⟨h,g,d,t,os⟩:=by
 have hT5:(⟨h,g,d,t,os⟩:Shared).TypeIs (.builtin "object.__class__") "getset_descriptor":=F.typeOf_object_class
 have f5:=F.typeOf_object_class
 have f6:=F.slot_gs_get.lookup
 have f7:=F.slot_gs_set.lookup
 have hm:("__class__":Str)∈excNames:=by simp
 repeat (any_goals (first | assumption | (with_reducible refine wpAny_loadPart_at hx ?_;rw[hc]) | with_reducible refine qbC hm hC hN hmN T qoJ ?_ | wp_step))
 refine qfx hC T hx hc ?_
 repeat (any_goals (first | assumption | wp_step))
theorem qgv {tk:Tok}{fill expr:Bool}{Q:Value→Shared→Prop}(hC:h.get? C=some (excClassObj nm q C N bs bm hdct sn sub ab col dd k0 k1 k2 k3 k5 newId))(hN:h.Ns N mN)(hmN:∀ n∈excNames,n≠"__init__"→mN n=none)(T:TailN h bm)(hx:h.get? a=some o)(hc:o.cls=.ref C)(hq:Q (.ref C) ⟨h,g,d,t,os⟩) :
  wpAny (model prog w) A (getAttrBy (.ref a) (.str "__class__" tk) fill expr) Q E ⟨h,g,d,t,os⟩:=by
 have f3:=PySem.F.attrBase_ValueError.ga.bind (.ref a)
 have hx0:(expr && onTheHeap (Value.builtin "BaseException.__getattribute__"))=false:=by cases expr <;> rfl
 have hx2:(Value.builtin "BaseException.__getattribute__" == Value.builtin "object.__getattribute__")=false:=by decide +kernel
 have hx1:(onTheHeap (Value.ref C) && Value.builtin "BaseException.__getattribute__" == Value.builtin "object.__getattribute__")=false:=by rw[hx2];rfl
 have hm1:("__getattribute__":Str)∈excNames:=by simp
 have hm2:("__getattr__":Str)∈excNames:=by simp
 have n1:=hmN "__getattribute__" hm1 (by decide)
 have n2:=hmN "__getattr__" hm2 (by decide)
 have n3:=hmN "__class__" (by simp) (by decide)
 repeat (any_goals (first | assumption | (with_reducible refine wpAny_loadPart_at hx ?_;rw[hc]) | with_reducible refine qbC hm1 hC hN n1 T PySem.F.attrBase_ValueError.ga.lookup ?_ | with_reducible refine qbC hm2 hC hN n2 T PySem.F.attrBase_ValueError.noGetattr ?_ | wp_step))
 refine codeAny_call_builtin PySem.F.attrBase_ValueError.ga.plain F.entry_bexc_ga (qdR hC T hx hc (qeB hC hN n3 T hx hc ?_))
 repeat (any_goals (first | assumption | wp_step))
theorem qe0 {Q:Option Value→Shared→Prop}(hC:h.get? C=some (excClassObj nm q C N bs bm hdct sn sub ab col dd k0 k1 k2 k3 k5 newId))(hN:h.Ns N mN)(hmN:∀ n∈excNames,n≠"__init__"→mN n=none)(T:TailN h bm)(hx:h.get? a=some o)(hc:o.cls=.ref C)(hq:Q (some (.ref C)) ⟨h,g,d,t+1,os⟩) :
  wpAny (model prog w) A (getAttr? (.ref a) "__class__") Q E ⟨h,g,d,t,os⟩:=by
 unfold getAttr? getAttrBy?
 repeat (any_goals (first | assumption | with_reducible apply qgv hC hN hmN T hx hc | wp_step))
end
def qq9 (a C:Addr)(h:Heap):Prop:=∃ o,h.get? a=some o∧o.cls=.ref C
theorem qlS {K:PySem.W.Frag}{a C:Addr}(hC:∀ h:Heap,K.In h→∃ i,ExcAt h C i):PySem.W.KitX K (.ref a) (.ref C) (qq9 a C) where
 ty:=fun M h _ p=>by
  obtain⟨o,h1,h2⟩:=p
  exact h2 ▸ (PySem.W.Looks.ld h1).andThen .now
 it:=fun _ h X _=>by
  obtain⟨i,hc⟩:=hC h X
  obtain⟨nm,q,N,bs,bm,sn,sub,ab,col,dd,k0,k1,k2,k3,k5,mN,c1,_⟩:=hc.ex
  intro A' Q' E' s' k q
  unfold isType loadHead
  exact wpAny_bind (wpAny_loadPart (k _ _ c1) (wpAny_pure q))
 ne:=fun h tp dd its n sl X htp=>by
  obtain⟨i,hc⟩:=hC h X
  obtain⟨nm,q,N,bs,bm,sn,sub,ab,col,dd,k0,k1,k2,k3,k5,mN,c1,_⟩:=hc.ex
  refine Bool.eq_false_iff.mpr fun q=>?_
  have e:C=tp:=Value.ref.inj (beq_iff_eq.mp q)
  rw[e,htp] at c1
  have z:=congrArg Obj.data (Option.some.inj c1)
  cases z
 ca:=fun {prog w A E Q s} X p k=>by
  obtain⟨o,h1,h2⟩:=p
  obtain⟨i,hc⟩:=hC _ X
  obtain⟨nm,q,N,bs,bm,sn,sub,ab,col,dd,k0,k1,k2,k3,k5,mN,c1,c2,c3,c4,c5⟩:=hc.ex
  obtain⟨hp,g,d,t,os⟩:=s
  exact qe0 c1 c2 c4 c5 h1 h2 k
structure Isa (K:PySem.W.Frag)(mg:Str→Option Value)(isa:Str→Str→Bool)(names:List Str):Prop where
 own:∀ nm∈names,∀ c∈names,∀ C D,mg nm=some (.ref C)→mg c=some (.ref D)→PySem.W.kitOne K (.ref C) (.ref D)=some (isa nm c)
 val:∀ nm∈names,∀ C,mg nm=some (.ref C)→PySem.W.kitOne K (.ref C) (.type "ValueError")=some true
 mgK:∀ nm∈names,∀ C,PySem.W.nsIn K mainGlobals nm=some (some (.ref C))→mg nm=some (.ref C)
section
variable {K : PySem.W.Frag} {X : Cx} {a : Expr} {ta : TD} {pos p : Pos} {isa : Str → Str → Bool} {names : List Str}
theorem qph {pins:List (Addr × Obj)}{σ:St}{H Φ:Hp}{s:Shared}{nm:Str}{ats:List D}{v:V}(I:Inv X pins σ H s)(sm:Same Φ H)(r:Rp K Φ (.exc nm ats) v):∃ ea C,v=.ref ea∧PySem.W.nsIn K mainGlobals nm=some (some (.ref C))∧qq9 ea C s.heap:=by
 cases r with
 | @exc0 ea C _ h0 h1 =>
  obtain⟨⟨o,vs,z1,z2,_⟩,_⟩:=(show ObjOk X.prog X.w H s.heap ea (.ext (qiE ea C none)) from I.hok ea _ (sm _ _ h1))
  exact⟨ea,C,rfl,h0,o,z1,z2⟩
 | @exc1 ea C p _ w d h0 h1 h2 h3 =>
  obtain⟨⟨o,vs,z1,z2,_⟩,_⟩:=(show ObjOk X.prog X.w H s.heap ea (.ext (qiE ea C (some p))) from I.hok ea _ (sm _ _ h1))
  exact⟨ea,C,rfl,h0,o,z1,z2⟩
def qrZ (K:PySem.W.Frag)(X:Cx):List V→Hp→VK→Prop:=fun vs H Q=>∃ Φ nm ats v c u C b,vs=[v,c]∧Same Φ H∧Rp K Φ (.exc nm ats) v∧RelV c u∧PySem.W.nsIn K mainGlobals nm=some (some (.ref C))∧(∀ h:Heap,X.K.In h→∃ i,ExcAt h C i)∧PySem.W.kitOne X.K (.ref C) u=some b∧Q (.bl b) H
theorem qkA {c:V}{u u':Value}(h:RelV c u)(h':RelV c u')(hc:(∃ D,c=.ref D)∨∃ T,c=.ty T):u=u':=by
 rcases hc with⟨D,rfl⟩ | ⟨T,rfl⟩
 ·cases (show u=Value.ref D from h);cases (show u'=Value.ref D from h');rfl
 ·cases (show u=Value.type T from h);cases (show u'=Value.type T from h');rfl
theorem qh2:qfm X (.builtin "isinstance") (fun vs H Q=>(∃ v c,vs=[v,c]∧((∃ D,c=.ref D)∨∃ T,c=.ty T))∧qrZ K X vs H Q):=by
 intro pins s σ H vs us Q I rv hq0
 obtain⟨⟨v0,c0,e0,hk⟩,Φ,nm,ats,v,c,u,C,b,rfl,sm,r,ru,hns,hC,hkit,q⟩:=hq0
 cases e0
 obtain⟨u1,u2,rfl,r1,r2⟩:∃ u1 u2,us=[u1,u2]∧RelV v0 u1∧RelV c0 u2:=by
  cases rv with
  | cons a rv=>cases rv with
   | cons b rv=>cases rv;exact⟨_,_,rfl,a,b⟩
 obtain⟨ea,C',rfl,hns',hx⟩:=qph I sm r
 rw[hns] at hns'
 cases hns'
 cases (show u1=Value.ref ea from r1)
 have:=qkA ru r2 hk
 subst this
 exact PySem.W.kia_one (qlS hC) I.kIn hx hkit (fun z=>nomatch z) fun tk=>⟨.bl b,H,I.tok tk,rfl,q⟩
def qpU (isa:Str→Str→Bool)(names:List Str)(c:Str)(t:TD):TD:=fun ρ R=>t ρ fun d=>∃ nm ats,d=.exc nm ats∧nm∈names∧R (.bl (isa nm c))
theorem qqO {c:Str}{D:Addr}{np:Pos}(Ex:Exs X.K X.mg isa names)(Is:Isa X.K X.mg isa names)(hc:c∈names)(hgc:Gl X c)(hm:X.mg c=some (.ref D))(hg:Gl X "isinstance")(hmi:X.mg "isinstance"=none)(ha:PD K X a ta)
  (he:starEach [a,.Name c np] X.env=(false,eval a X.env)::starEach [.Name c np] X.env) (he2:starEach [.Name c np] X.env=(false,eval (.Name c np) X.env)::starEach [] X.env) (hdb:(c == ("__debug__":Str))=false:=by decide):PD K X (.Call (.Name "isinstance" p) [a,.Name c np] [] pos) (qpU isa names c ta) :=
 ⟨fun hK=>(qfM (qh2 (K:=K)) hg hmi boot_isinstance (qbg (ha.pe hK) (qbg (qjv (v:=.ref D) hgc hm rfl hdb) pa_nil he2) he) (by decide) (by decide) he (qac he2 qae)).imp fun σ H Q hq0=>by
  obtain⟨H0,Φ,ρ,R,E,t,k⟩:=hq0
  refine⟨H0,Φ,ρ,_,E,t,fun d Φ1 H1 v r g rv=>?_⟩
  obtain⟨nm,ats,rfl,hin,r⟩:=r
  obtain⟨C,hns⟩:∃ C,PySem.W.nsIn K mainGlobals nm=some (some (.ref C)):=by
   cases rv with
   | exc0 h0 _=>exact⟨_,h0⟩
   | exc1 h0 _ _ _=>exact⟨_,h0⟩
  have hmg:=Is.mgK nm hin C (hK ▸ hns)
  exact⟨⟨v,.ref D,rfl,.inl ⟨D,rfl⟩⟩,Φ1,nm,ats,v,.ref D,.ref D,C,_,rfl,g.s,rv,rfl,hns,fun h hin'=>Ex.cls nm hin C hmg h hin',Is.own nm hin c hc C D hmg hm,k _ Φ1 H1 _ r g (.bl _)⟩⟩
theorem qqE {np:Pos}(Ex:Exs X.K X.mg isa names)(Is:Isa X.K X.mg isa names)(hgv:Gl X "ValueError")(hmv:X.mg "ValueError"=none)(hg:Gl X "isinstance")(hmi:X.mg "isinstance"=none)(ha:PD K X a ta)
  (he:starEach [a,.Name "ValueError" np] X.env=(false,eval a X.env)::starEach [.Name "ValueError" np] X.env) (he2:starEach [.Name "ValueError" np] X.env=(false,eval (.Name "ValueError" np) X.env)::starEach [] X.env):PD K X (.Call (.Name "isinstance" p) [a,.Name "ValueError" np] [] pos) (qpU (fun _ _=>true) names "ValueError" ta) :=
 ⟨fun hK=>(qfM (qh2 (K:=K)) hg hmi boot_isinstance (qbg (ha.pe hK) (qbg (qmz (v:=.ty "ValueError") (u:=.type "ValueError") hgv hmv (by kernel_rfl) rfl) pa_nil he2) he) (by decide) (by decide) he (qac he2 qae)).imp fun σ H Q hq0=>by
  obtain⟨H0,Φ,ρ,R,E,t,k⟩:=hq0
  refine⟨H0,Φ,ρ,_,E,t,fun d Φ1 H1 v r g rv=>?_⟩
  obtain⟨nm,ats,rfl,hin,r⟩:=r
  obtain⟨C,hns⟩:∃ C,PySem.W.nsIn K mainGlobals nm=some (some (.ref C)):=by
   cases rv with
   | exc0 h0 _=>exact⟨_,h0⟩
   | exc1 h0 _ _ _=>exact⟨_,h0⟩
  have hmg:=Is.mgK nm hin C (hK ▸ hns)
  exact⟨⟨v,.ty "ValueError",rfl,.inr ⟨_,rfl⟩⟩,Φ1,nm,ats,v,.ty "ValueError",.type "ValueError",C,_,rfl,g.s,rv,rfl,hns,fun h hin'=>Ex.cls nm hin C hmg h hin',Is.val nm hin C hmg,k _ Φ1 H1 _ r g (.bl _)⟩⟩
end
section
variable {M : Model} {prog : Program} {w : World} {A : Around} {E : Value → Shared → Prop} {h : Heap} {g : Array GenState} {d : Drawn} {t : Nat} {os : OsState} {a p : Addr} {o : Obj} {vs : Array Value} {v : Value}
 {nm q:Str} {C N:Addr} {bs bm:List Value} {sn:List Str} {sub:List Value} {ab:Bool} {col:Option Bool} {dd:Option Addr} {k0 k1 k2 k3 k5:Option Value} {newId:String} {mN mA:Str→Option Value}
theorem qnR:typeLookup (.type "ValueError") "at"=pure none:=by rw[typeLookup_type,builtinLookup_eq_fast];kernel_rfl
theorem qgN {tk:Tok}{Q:Fin→Shared→Prop}(hC:h.get? C=some (excClassObj nm q C N bs bm true sn sub ab col dd k0 k1 k2 k3 k5 newId))(hN:h.Ns N mN)(hmN:mN "at"=none)(T:TailN h bm)(hx:h.get? a=some o)(hc:o.cls=.ref C)(hd:o.data=.fields vs)(hp:o.dict=some p)(hA:h.Ns p mA)(hv:mA "at"=some v)(hq:Q (.done (.ret v)) ⟨h,g,d,t,os⟩) :
  wpAny (model prog w) A (Builtin.«object.__getattribute__» ⟨[.ref a,.str "at" tk],[]⟩) Q E ⟨h,g,d,t,os⟩:=by
 have hm:("at":Str)∈excNames:=by simp
 unfold Builtin.«object.__getattribute__»
 repeat (first | (with_reducible refine wpAny_loadPart_at hx ?_;rw[hc]) | with_reducible refine qbC hm hC hN hmN T qnR ?_ | wp_step)
 rw[hd]
 show wpAny _ _ (instanceDict a false) _ _ _
 unfold instanceDict
 repeat (first | (with_reducible refine wpAny_loadPart_at hx ?_;rw[hc]) | with_reducible refine wpAny_loadPart_at hC ?_ | wp_step)
 rw[hp]
 refine wpAny_pure ?_
 unfold Builtin.ObjectAttr.inDict
 repeat (first | (with_reducible refine wpAny_nsGet hA ?_;rw[hv]) | wp_step)
 exact hq
theorem qjq {tk:Tok}{fill expr:Bool}{Q:Value→Shared→Prop}(hC:h.get? C=some (excClassObj nm q C N bs bm true sn sub ab col dd k0 k1 k2 k3 k5 newId))(hN:h.Ns N mN)(hmN:∀ n∈excNames,n≠"__init__"→mN n=none)(T:TailN h bm)(hx:h.get? a=some o)(hc:o.cls=.ref C)(hd:o.data=.fields vs)(hp:o.dict=some p)(hA:h.Ns p mA)(hv:mA "at"=some v)(hh:handedOut v=pure v)(hq:Q v ⟨h,g,d,t,os⟩) :
  wpAny (model prog w) A (getAttrBy (.ref a) (.str "at" tk) fill expr) Q E ⟨h,g,d,t,os⟩:=by
 have f3:=PySem.F.attrBase_ValueError.ga.bind (.ref a)
 have hx0:(expr && onTheHeap (Value.builtin "BaseException.__getattribute__"))=false:=by cases expr <;> rfl
 have hx2:(Value.builtin "BaseException.__getattribute__" == Value.builtin "object.__getattribute__")=false:=by decide +kernel
 have hx1:(onTheHeap (Value.ref C) && Value.builtin "BaseException.__getattribute__" == Value.builtin "object.__getattribute__")=false:=by rw[hx2];rfl
 have hm1:("__getattribute__":Str)∈excNames:=by simp
 have hm2:("__getattr__":Str)∈excNames:=by simp
 have n1:=hmN "__getattribute__" hm1 (by decide)
 have n2:=hmN "__getattr__" hm2 (by decide)
 have n3:=hmN "at" (by simp) (by decide)
 repeat (any_goals (first | assumption | (with_reducible refine wpAny_loadPart_at hx ?_;rw[hc]) | with_reducible refine qbC hm1 hC hN n1 T PySem.F.attrBase_ValueError.ga.lookup ?_ | with_reducible refine qbC hm2 hC hN n2 T PySem.F.attrBase_ValueError.noGetattr ?_ | wp_step))
 refine codeAny_call_builtin PySem.F.attrBase_ValueError.ga.plain F.entry_bexc_ga (qdR hC T hx hc (qgN hC hN n3 T hx hc hd hp hA hv ?_))
 repeat (any_goals (first | assumption | wp_step))
theorem qhv {expr:Bool}{Q:Value→Shared→Prop}(hC:h.get? C=some (excClassObj nm q C N bs bm true sn sub ab col dd k0 k1 k2 k3 k5 newId))(hN:h.Ns N mN)(hmN:∀ n∈excNames,n≠"__init__"→mN n=none)(T:TailN h bm)(hx:h.get? a=some o)(hc:o.cls=.ref C)(hd:o.data=.fields vs)(hp:o.dict=some p)(hA:h.Ns p mA)(hv:mA "at"=some v)(hh:handedOut v=pure v)(hq:Q v ⟨h,g,d,t+1,os⟩) :
  wpAny (model prog w) A (getAttr (.ref a) "at" expr) Q E ⟨h,g,d,t,os⟩:=by
 unfold getAttr
 repeat (any_goals (first | assumption | with_reducible apply qjq hC hN hmN T hx hc hd hp hA hv hh | wp_step))
end
section
variable {K : PySem.W.Frag} {X : Cx} {a : Expr} {ta : TD} {pos : Pos} {isa : Str → Str → Bool} {names : List Str}
theorem qiH:handedOut .none=pure .none:=by rfl
theorem qiA (i:Int)(t:Tok):handedOut (.int i t)=pure (.int i t):=by rfl
def qkC:D→Prop | .non=>True | .int _=>True | _=>False
def qrU (names:List Str)(t:TD):TD:=fun ρ R=>t ρ fun d=>∃ nm x,d=.exc nm [x]∧nm∈names∧qkC x∧R x
theorem qmE (Ex:Exs X.K X.mg isa names)(Is:Isa X.K X.mg isa names)(ha:PD K X a ta)(hb:attributeBase a "at" X.env (eval a X.env)=eval a X.env:=by rfl):PD K X (.Attribute a "at" pos) (qrU names ta) :=
 ⟨fun hK=>by
  intro pins s σ H Q I hq0
  obtain⟨H0,Φ,ρ,R,E,t,k⟩:=hq0
  refine qnv hb (thn (ha.pe hK pins s σ H _ I ⟨H0,Φ,ρ,_,E,t,fun d Φ1 H1 v r g rv=>(⟨Φ1,d,r,g,rv⟩:∃ Φ1 d,(∃ nm x,d=.exc nm [x]∧nm∈names∧qkC x∧R x)∧Gr Φ H Φ1 H1∧Rp K Φ1 d v)⟩) fun u s1 hq1=>?_)
  obtain⟨v,H1,I1,rv,Φ1,d,⟨nm,x,rfl,hin,hfl,hR⟩,g,r⟩:=hq1
  cases r with
  | @exc1 ea C p _ w _ h0 h1 h2 h3 =>
   obtain rfl:u=Value.ref ea:=rv
   have hmg:=Is.mgK nm hin C (hK ▸ h0)
   obtain⟨i,hc⟩:=Ex.cls nm hin C hmg s1.heap I1.kIn
   obtain⟨nm',q,N,bs,bm,sn,sub,ab,col,dd,k0,k1,k2,k3,k5,mN,c1,c2,c3,c4,c5⟩:=hc.ex
   obtain⟨⟨o,vs,z1,z2,z3,z4⟩,_⟩:=(show ObjOk X.prog X.w H1 s1.heap ea (.ext (qiE ea C (some p))) from I1.hok ea _ (g.s _ _ h1))
   obtain⟨mA,n1,n2⟩:=(show ObjOk X.prog X.w H1 s1.heap p (.xd [("at",w)]) from I1.hok p _ (g.s _ _ h2))
   have hat:=n2 "at"
   have hl:([("at",w)]:List (Str × V)).lookup ("at":Str)=some w:=by rw[List.lookup_cons,beq_self_eq_true]
   rw[hl] at hat
   obtain⟨u',e1,ru⟩:∃ u',mA "at"=some u'∧RelV w u':=by
    cases q:mA "at" with
    | none=>rw[q] at hat;exact hat.elim
    | some u'=>rw[q] at hat;exact⟨u',rfl,hat⟩
   have hh:handedOut u'=pure u':=by
    cases h3 with
    | non=>cases (show u'=Value.none from ru);exact qiH
    | int j=>obtain⟨t',e⟩:=(show ∃ t,u'=Value.int j t from ru);rw[e];exact qiA j t'
    | _=>exact hfl.elim
   obtain⟨hp,gg,dr,tk,os⟩:=s1
   exact qhv c1 c2 c4 c5 z1 z2 z4 z3 n1.ns e1 hh ⟨w,H1,I1.tok _,ru,k x Φ1 H1 w hR g h3⟩⟩
end
open Builtin Builtin.ObjectAttr
section
variable {M : Model} {prog : Program} {w : World} {A : Around} {E : Value → Shared → Prop} {h : Heap} {g : Array GenState} {d : Drawn} {t : Nat} {os : OsState} {x : Addr} {o : Obj} {vs : Array Value} {v : Value}
 {nm q:Str} {C N:Addr} {bs bm:List Value} {sn:List Str} {sub:List Value} {ab:Bool} {col:Option Bool} {dd:Option Addr} {k0 k1 k2 k3 k5:Option Value} {newId:String} {mN:Str→Option Value}
theorem qg2 (self:Value){h:Heap}{bm:List Value}(T:TailN h bm):refuseLoop self "__setattr__" bm=pure ():=by
 induction T with
 | base=>exact F.store_ValueError.passes self
 | own _ _ _ _ ih=>rw[refuseLoop_ref];exact ih
theorem qgn {nameV:Value}{Q:Unit→Shared→Prop}(hC:h.get? C=some (excClassObj nm q C N bs bm true sn sub ab col dd k0 k1 k2 k3 k5 newId))(T:TailN h bm)(hx:h.get? x=some o)(hc:o.cls=.ref C)(hq:Q () ⟨h,g,d,t,os⟩) :
  wpAny M A (checkBuiltinCall "object.__setattr__" ⟨[.ref x,nameV,v],[]⟩) Q E ⟨h,g,d,t,os⟩:=by
 have hcB:(Value.ref C::bm).contains (.type "object")=true:=by rw[List.contains_cons,T.tail.hasType (X:="object") (b:=true) (by decide +kernel),Bool.or_true]
 have ha:=F.store_ValueError.args (.ref x) nameV v
 simp only [checkBuiltinCall,F.store_ValueError.kind,F.store_ValueError.split]
 refine wpAny_bind ?_
 ·unfold isInstance
  repeat (first | (with_reducible refine wpAny_loadPart_at hx ?_;rw[hc]) | (with_reducible refine wpAny_isSubtype_exc hC ?_;rw[hcB]) | wp_step)
  exact hq
structure Stored (h h':Heap)(x:Addr)(o:Obj)(p:Addr)(v:Value):Prop where
 at_:h'.get? x=some { cls:=o.cls,dict:=some p,data:=o.data,slots:=o.slots }
 ns:h'.Ns1 p (fun y=>if y="at" then some v else none)
 new:h.objs.size≤p
 keep:∀ b ob,b≠x→h.get? b=some ob→h'.get? b=some ob
theorem qei {tk:Tok}{Q:Fin→Shared→Prop}(hC:h.get? C=some (excClassObj nm q C N bs bm true sn sub ab col dd k0 k1 k2 k3 k5 newId))(hN:h.Ns N mN)(hmN:mN "at"=none)(T:TailN h bm)(hx:h.get? x=some o)(hc:o.cls=.ref C)(hd:o.data=.fields vs)(hp:o.dict=none)
  (hq:∀ h' p tk',Stored h h' x o p v→Q (.done (.ret .none)) ⟨h',g,d,tk',os⟩):wpAny (model prog w) A (Builtin.«object.__setattr__» ⟨[.ref x,.str "at" tk,v],[]⟩) Q E ⟨h,g,d,t,os⟩:=by
 have hpass:=qg2 (.ref x) T
 have hm:("at":Str)∈excNames:=by simp
 unfold Builtin.«object.__setattr__»
 repeat (first | rw[refuse_eq] | (rw[refuseLoop_ref,hpass]) | (with_reducible refine wpAny_loadPart_at hx ?_;rw[hc]) | with_reducible refine wpAny_mroOf_exc hC ?_ | with_reducible refine qbC hm hC hN hmN T qnR ?_ | wp_step)
 rw[hp]
 show wpAny _ _ (if (!true || !typeHasDict (Value.ref C))=true then pure none else match o.data with | Data.cls c=>pure none | _=>_) _ _ _
 rw[if_neg (by simp [typeHasDict]),hd]
 have hx1:(h.push { cls:=.type "dict",data:=.dict #[] }).get? x=some o:=Heap.get?_push_of_some _ hx
 have hxs:x≠h.objs.size:=Nat.ne_of_lt (Heap.lt_size hx)
 refine wpAny_bind (wpAny_alloc' ?_)
 refine wpAny_bind (wpAny_update' hx1 ?_)
 refine wpAny_pure ?_
 generalize hh2:((h.push { cls:=.type "dict",data:=.dict #[] }).update x fun o=>{ cls:=o.cls,dict:=some h.objs.size,data:=o.data,slots:=o.slots })=h2
 have gd:h2.get? h.objs.size=some { cls:=.type "dict",data:=.dict #[] }:=by
  rw[← hh2]
  exact (Heap.get?_update_ne _ _ _ _ hxs.symm).trans (Heap.get?_push_at rfl rfl)
 have gx:h2.get? x=some { cls:=o.cls,dict:=some h.objs.size,data:=o.data,slots:=o.slots }:=by
  rw[← hh2]
  refine Heap.get?_update_self _ hx1 ?_
  have hfr:=(Heap.get?_some_iff.mp hx).2
  obtain⟨oc,od,odt,osl⟩:=o
  cases odt <;> first | rfl | exact hfr
 have go:∀ b ob,b≠x→h.get? b=some ob→h2.get? b=some ob:=fun b ob hb hbo=>by
  rw[← hh2]
  exact (Heap.get?_update_ne _ _ _ _ hb).trans (Heap.get?_push_of_some _ hbo)
 have nd:h2.Ns h.objs.size (fun _=>none):=⟨_,#[],_,gd,rfl,fun e he=>absurd he (by simp),fun _=>rfl⟩
 show wpAny _ _ (storeInDict h.objs.size (.str "at" tk) "at" v) _ _ _
 unfold storeInDict newKeyGuard
 refine wpAny_bind (wpAny_pure (wpAny_bind (wpAny_nsSet1 (Heap.Ns1.of_empty nd) fun h' hn' hs=>?_)))
 obtain⟨oD,esD,epD,hoD,hdD,hcD⟩:=hn'.count (Within.cons "at" v Within.nil)
 refine wpAny_bind (wpAny_lookBehind hoD (by rw[hdD];exact pastItsLine_dict (Nat.le_trans hcD (by rw[List.length_cons,List.length_nil,sizeLine_eq];omega))) ?_)
 wp_walk
 exact hq h' h.objs.size _ ⟨(hs.2 x hxs).trans gx,hn',Nat.le_refl _,fun b ob hb hbo=>(hs.2 b (Nat.ne_of_lt (Heap.lt_size hbo))).trans (go b ob hb hbo)⟩
theorem qki {Q:Unit→Shared→Prop}(hC:h.get? C=some (excClassObj nm q C N bs bm true sn sub ab col dd k0 k1 k2 k3 k5 newId))(hN:h.Ns N mN)(hmN:∀ n∈excNames,n≠"__init__"→mN n=none)(T:TailN h bm)(hx:h.get? x=some o)(hc:o.cls=.ref C)(hd:o.data=.fields vs)(hp:o.dict=none)
  (hq:∀ h' p tk',Stored h h' x o p v→Q () ⟨h',g,d,tk',os⟩):wpAny (model prog w) A (setAttr (.ref x) "at" v) Q E ⟨h,g,d,t,os⟩:=by
 have f3:=F.store_ValueError.slot.bind (.ref x)
 have hm:("__setattr__":Str)∈excNames:=by simp
 have n1:=hmN "__setattr__" hm (by decide)
 have n3:=hmN "at" (by simp) (by decide)
 unfold setAttr callSpecial? specialOf
 repeat (any_goals (first | assumption | (with_reducible refine wpAny_loadPart_at hx ?_;rw[hc]) | with_reducible refine qbC hm hC hN n1 T F.store_ValueError.slot.lookup ?_ | wp_step))
 refine codeAny_call_builtin F.store_ValueError.slot.plain F.store_ValueError.entry (qgn hC T hx hc (qei hC hN n3 T hx hc hd hp fun h' p tk' S=>?_))
 repeat (any_goals (first | assumption | wp_step))
 exact hq h' p tk' S
end
end L2
namespace L2
open PySem PySem.Spec PyProof.Rows
def qg9 (a C t:Addr)(dx:Option Addr):Heap→Prop:=fun h=>∃ sl,h.get? a=some { cls:=.ref C,dict:=dx,data:=.fields #[.ref t,.none,.none,.none,.bool false,.none],slots:=sl }
section
variable {X : Cx} {pins : List (Addr × Obj)} {σ : St} {H : Hp} {s : Shared} {C t : Addr}
theorem Inv.stored {e p:Addr}{sl:Array (Option Value)}{v:Value}{y:V}{h':Heap}{t':Nat}(I:Inv X pins σ H s)(he:H e=some (.ext (qg9 e C t none)))(S:Stored s.heap h' e { cls:=.ref C,dict:=none,data:=.fields #[.ref t,.none,.none,.none,.bool false,.none],slots:=sl } p v)(ry:RelV y v) :
  Inv X pins σ (upd (upd H p (.xd [("at",y)])) e (.ext (qg9 e C t (some p)))) { s with heap:=h',toks:=t' }:=by
 have hpn:H p=none:=I.hok.fresh S.new
 have hpe:p≠e:=fun z=>by rw[z,he] at hpn;cases hpn
 have hsp:∀ b ob,s.heap.get? b=some ob→b≠p:=fun b ob hb z=>by
  subst z
  exact absurd (Heap.lt_size hb) (Nat.not_lt.mpr S.new)
 have ne:∀ {b:Addr},H b=none→b≠e:=fun {b} hb z=>by rw[z,he] at hb;cases hb
 refine I.un (h':=h') (t':=t') ⟨fun b ob q n _ _=>S.keep b ob (ne n) q,fun b ob q n _ _=>⟨ob.slots,S.keep b ob (ne n) q⟩,fun b ob q n _=>?_,fun b ob q _=>?_,fun b xs q=>?_,fun b ob xs q=>?_,fun b xs q=>?_⟩ fun b u q=>?_
 ·rw[qal (ne n),qal (hsp b ob q)];exact n
 ·by_cases c:b=e
  ·rw[c];exact⟨_,S.at_⟩
  ·exact⟨ob,S.keep b ob c q⟩
 ·rw[qal (fun z=>by rw[z,he] at q;cases q),qal (fun z=>by rw[z,hpn] at q;cases q)];exact q
 ·rw[qal (fun z=>by rw[z,he] at q;cases q),qal (fun z=>by rw[z,hpn] at q;cases q)];exact q
 ·rw[qal (fun z=>by rw[z,he] at q;cases q),qal (fun z=>by rw[z,hpn] at q;cases q)];exact q
 ·by_cases c:b=e
  ·subst c
   rw[qaj] at q
   cases q
   exact⟨⟨sl,S.at_⟩,⟨_,S.at_⟩,fun a b' ⟨w,z1⟩ kk=>⟨w,kk _ z1⟩⟩
  ·rw[qal c] at q
   by_cases c2:b=p
   ·subst c2
    rw[qaj] at q
    cases q
    refine⟨_,S.ns,fun f=>?_⟩
    by_cases cf:f="at"
    ·subst cf
     rw[List.lookup_cons,beq_self_eq_true]
     show RelO (some y) (if ("at":Str)="at" then some v else none)
     rw[if_pos rfl]
     exact ry
    ·have:([("at",y)]:List (Str × V)).lookup f=none:=by
      rw[List.lookup_cons]
      have:(f == ("at":Str))=false:=by simpa using cf
      rw[this]
      rfl
     rw[this]
     show RelO none (if f="at" then some v else none)
     rw[if_neg cf]
     trivial
   ·rw[qal c2] at q
    have keepT:∀ z u',H z=some u'→u'≠.ext (qg9 e C t none)→z≠e:=fun z u' h1 h2 h3=>by rw[h3,he] at h1;exact h2 (Option.some.inj h1).symm
    refine (I.hok b u q).stay (fun z w' hz q'=>S.keep z w' ?_ q') (fun z hz=>?_) (fun z xs hz=>?_) (fun z ob w' hz=>?_)
    ·rcases hz with rfl | hz
     ·exact c
     ·exact fun z2=>by rw[z2,he] at hz;cases hz
    ·rw[qal (fun z2=>by rw[z2,he] at hz;cases hz),qal (fun z2=>by rw[z2,hpn] at hz;cases hz)];exact hz
    ·rw[qal (fun z2=>by rw[z2,he] at hz;cases hz),qal (fun z2=>by rw[z2,hpn] at hz;cases hz)];exact hz
    ·rw[qal (fun z2=>by rw[z2,he] at hz;cases hz),qal (fun z2=>by rw[z2,hpn] at hz;cases hz)];exact hz
def qka (C t:Addr):Sp:=fun vs H Q _=>∃ e v,vs=[.ref e,v]∧H e=some (.ext (qg9 e C t none))∧∀ p,H p=none→p≠e→Q .non (upd (upd H p (.xd [("at",v)])) e (.ext (qg9 e C t (some p))))
def sAt (C t:Addr):TS:=fun D σ H=>∃ e v,σ=[some (.ref e),some v]∧H e=some (.ext (qg9 e C t none))∧∀ p,H p=none→p≠e→D.nx σ (upd (upd H p (.xd [("at",v)])) e (.ext (qg9 e C t (some p))))
theorem qqS {p1 p2 p3 p4:Pos}{i:Option Value}(hN:X.N=[("self":Str),("at":Str)])(hC:∀ h:Heap,X.K.In h→ExcAt h C i)(hv1:Vis X.env.scope "self")(hv2:Vis X.env.scope "at")(hs:swapsWith (.Name "at" p3) (some (.Attribute (.Name "self" p1) "at" p2)) p4.line X.env=pure false):PS X (.Assign [.Attribute (.Name "self" p1) "at" p2] (.Name "at" p3) p4) (sAt C t):=by
 intro pins s σ H D I hq0
 obtain⟨e,v,rfl,he,k⟩:=hq0
 have pat:PE X (.Name "at" p3) (ql4 1):=qj0 (by rw[hN];rfl) hv2 (by decide) (by decide)
 have psf:PE X (.Name "self" p1) (ql4 0):=qj0 (by rw[hN];rfl) hv1 (by decide) (by decide)
 refine plainObj_wpAny_Assign_Attribute (thn (pat pins s _ H (fun y H1=>y=v∧H1=H) I ⟨v,rfl,rfl,rfl⟩) fun u s1 hq1=>?_) hs
 obtain⟨y,H1,I1,ry,e1,e2⟩:=hq1
 subst e1;subst e2
 refine thn (psf pins s1 _ H1 (fun x H2=>x=.ref e∧H2=H1) I1 ⟨_,rfl,rfl,rfl⟩) fun ov s2 hq2=>?_
 obtain⟨x,H2,I2,rx,e3,e4⟩:=hq2
 subst e3;subst e4
 obtain rfl:ov=Value.ref e:=rx
 obtain⟨nm,q,N,bs,bm,sn,sub,ab,col,dd,k0,k1,k2,k3,k5,mN,c1,c2,c3,c4,c5⟩:=(hC s2.heap I2.kIn).ex
 obtain⟨⟨sl,z1⟩,_⟩:=(show ObjOk X.prog X.w H2 s2.heap e (.ext (qg9 e C t none)) from I2.hok e _ he)
 obtain⟨hp,gg,dr,tk,os⟩:=s2
 refine qki c1 c2 c4 c5 z1 rfl rfl rfl fun h' p tk' S=>?_
 have hpn:H2 p=none:=I2.hok.fresh S.new
 exact⟨_,_,I2.stored (t':=tk') he S ry,k p hpn (fun z=>by rw[z,he] at hpn;cases hpn)⟩
end
section
variable {M : Model} {A : Around} {E : Value → Shared → Prop} {s : Shared} {env : Env} {C : Addr}
theorem qj6 {x:Sem Value}{Q:Flow→Shared→Prop}(hh:A.handled=none)
  (h:wpAny M A x (fun v s₁=>∃ e t dx sl i,v=.ref e∧ExcAt s₁.heap C i∧s₁.heap.get? e=some { cls:=.ref C,dict:=dx,data:=.fields #[.ref t,.none,.none,.none,.bool false,.none],slots:=sl }∧E (.ref e) s₁) E s):wpAny M A (raiseStmt env (some x) none) Q E s:=by
 unfold raiseStmt
 refine wpAny_bind (wpAny_mono h (fun v s₁ h₁=>?_) fun _ _ x=>x)
 obtain⟨e,t,dx,sl,i,rfl,hC,he,hE⟩:=h₁
 obtain⟨nm,q,N,bs,bm,sn,sub,ab,col,dd,k0,k1,k2,k3,k5,mN,c1,c2,c3,c4,c5⟩:=hC.ex
 have hcB:(Value.ref C::bm).contains (.type "BaseException")=true:=by rw[List.contains_cons,c5.tail.hasType (X:="BaseException") (b:=true) (by decide +kernel),Bool.or_true]
 obtain⟨hp,g,d,tk,os⟩:=s₁
 repeat (first | with_reducible refine wpAny_loadPart_at he ?_ | with_reducible refine wpAny_loadPart_at c1 ?_ | (with_reducible refine wpAny_isSubtype_exc c1 ?_;rw[hcB]) | wp_step)
 exact wpAny_raiseNew_none hh hE
end
section
variable {prog : Program} {w : World} {A : Around} {E : Value → Shared → Prop} {h : Heap} {g : Array GenState} {d : Drawn} {t : Nat} {os : OsState}
variable {C fI : Addr} {oI : Obj} {rest : List Value}
theorem qfT {Q:Fin→Shared→Prop}(hC:ExcAt h C (some (.ref fI)))(hfI:h.get? fI=some oI)(hfc:oI.cls=.type "function")(hrest:rest.length≤sizeLine)
  (hq:∀ h' e,Heap.MadeExcOf h h' e (.ref C) rest→wpAny (model prog w) A (call (.ref fI) (.ref e::rest)) (fun r s'=>r=.none∧Q (.done (.ret (.ref e))) s') E ⟨h',g,d,t,os⟩) :
  wpAny (model prog w) A (Builtin.«type.__call__» ⟨.ref C::rest,[]⟩) Q E ⟨h,g,d,t,os⟩:=by
 obtain⟨nm,q,N,bs,bm,sn,sub,ab,col,dd,k0,k1,k2,k3,k5,mN,c1,c2,c3,c4,c5⟩:=hC.ex
 repeat (first | with_reducible refine wpAny_loadPart_at c1 ?_ | with_reducible refine wpAny_madeBy_exc c1 ?_ | wp_step)
 refine codeAny_call_builtin_code (Code.quiet_builtin _ PySem.F.excBase_ValueError.quiet) (wpAny_check_new_subT PySem.F.excBase_ValueError c5.tail c1 ?_)
 refine codeAny_exc_new_subT PySem.F.excBase_ValueError c5.tail c1 ?_ hrest
 show wpAny _ _ _ _ _ _
 generalize hh2:((h.push { cls:=.type "tuple",data:=.seq rest.toArray }).push { cls:=.ref C,data:=.fields #[.ref h.objs.size,.none,.none,.none,.bool false,.none] })=h2
 have kp:∀ b o,h.get? b=some o→h2.get? b=some o:=fun b o hb=>by rw[← hh2];exact Heap.get?_push_of_some _ (Heap.get?_push_of_some _ hb)
 have hget:h2.get? (h.objs.size+1)=some { cls:=.ref C,data:=.fields #[.ref h.objs.size,.none,.none,.none,.bool false,.none] }:=by rw[← hh2];heap_get
 have htup:h2.get? h.objs.size=some { cls:=.type "tuple",data:=.seq rest.toArray }:=by rw[← hh2];exact Heap.get?_push_of_some _ (Heap.get?_push_at rfl rfl)
 have hcC:(Value.ref C::bm).contains (.ref C)=true:=by simp
 have c1':=kp _ _ c1
 unfold isInstance
 repeat (first | with_reducible refine wpAny_loadPart_at hget ?_ | (with_reducible refine wpAny_isSubtype_exc c1' ?_;rw[hcC]) | wp_step)
 show wpAny _ _ (typeLookup (.ref C) _) _ _ _
 refine wpAny_typeLookup_tail c1' (c2.keeps kp) (c5.keeps kp).tail PySem.F.excBase_ValueError.mroIs PySem.F.excBase_ValueError.init.lookup ?_
 rw[c3]
 refine wpAny_holding (wpAny_bind ?_)
 unfold bindSpecial
 refine wpAny_bind (wpAny_typeOf (T:="function") ⟨_,kp _ _ hfI,hfc⟩ ?_)
 rw[if_pos (by decide)]
 refine wpAny_pure (wpAny_bind (wpAny_mono (hq h2 (h.objs.size+1) ⟨kp,Heap.get?_none_of_le (Nat.le_succ _),h.objs.size,hget,Heap.get?_none_of_le (Nat.le_refl _),htup⟩) (fun r s' hr=>?_) fun _ _ x=>x))
 obtain⟨rfl,hQ⟩:=hr
 wp_walk
 exact hQ
theorem qk3 {Q:Value→Shared→Prop}(hC:ExcAt h C (some (.ref fI)))(hfI:h.get? fI=some oI)(hfc:oI.cls=.type "function")(hrest:rest.length≤sizeLine)
  (hq:∀ h' e,Heap.MadeExcOf h h' e (.ref C) rest→wpAny (model prog w) (A.under (.builtin "type.__call__" ⟨.ref C::rest,[]⟩)) (call (.ref fI) (.ref e::rest)) (fun r s'=>r=.none∧Q (.ref e) s') E ⟨h',g,d,t,os⟩) :
  wpAny (model prog w) A (call (.ref C) rest) Q E ⟨h,g,d,t,os⟩:=by
 obtain⟨nm,q,N,bs,bm,sn,sub,ab,col,dd,k0,k1,k2,k3,k5,mN,c1,_⟩:=id hC.ex
 have f1:=tc_lookup
 have f2:=tc_bind (.ref C)
 have hT:(⟨h,g,d,t,os⟩:Shared).TypeIs (.ref C) "type":=⟨_,c1,rfl⟩
 refine wpAny_call (codeAny_of_tree ?_)
 show wpAny _ _ (callAny (.ref C) _) _ _ _
 repeat (any_goals (first | assumption | with_reducible refine wpAny_loadPart_at c1 ?_ | wp_step))
 refine⟨rfl,?_⟩
 refine codeAny_call_builtin_at (Code.quiet_builtin _ (by decide +kernel)) entry_typeCall (wpAny_check_type_call_sub c1 (qfT hC hfI hfc hrest fun h' e hm=>?_))
 exact hq h' e hm
end
section
variable {P : Program} {w : World} {K : PySem.W.Frag} {mg : Str → Option Value} {base : Heap} {CX : CXT} {k : Nat} {qual : Str} {st : Stmt} {f C t : Addr} {fd : FuncData} {i : Option Value} {p1 p2 p3 p4 : Pos}
theorem qm2 (F:Fun K "__init__" qual st f fd)(S:FnScope [("self":Str),("at":Str)] [("self":Str),("at":Str)] (qah st))(hb:qaV st=[.Assign [.Attribute (.Name "self" p1) "at" p2] (.Name "at" p3) p4])(hv1:Vis (qah st) "self")(hv2:Vis (qah st) "at")
  (hs:∀ env,swapsWith (.Name "at" p3) (some (.Attribute (.Name "self" p1) "at" p2)) p4.line env=pure false) (hC:∀ h:Heap,K.In h→ExcAt h C i):FnOk P w K mg base CX (k+1) f fd [("self":Str),("at":Str)] (qka C t):=by
 obtain⟨oc,od,kV,doc,pm,an,cdv,ct,osl,rfl,lk,hcd⟩:=F.ex
 refine qkQ lk hcd S (fun vs H Q E hq0=>?_) fun A outer s H vs Q E hr hq0=>⟨sAt C t,?_,?_⟩
 ·obtain⟨e,v,rfl,_⟩:=hq0
  rfl
 ·rw[hb]
  exact qg8 (qqS rfl hC hv1 hv2 (hs _))
 ·obtain⟨e,v,rfl,he,kk⟩:=hq0
  exact⟨e,v,rfl,he,kk⟩
end
section
variable {X : Cx} {pins : List (Addr × Obj)} {σ : St} {H : Hp} {s : Shared} {K : PySem.W.Frag}
def qnN (H:Hp)(e:Addr):Hp:=fun b=>if b=e then none else H b
theorem qcM {e b:Addr}(h:b≠e):qnN H e b=H b:=if_neg h
theorem qgq {e:Addr}:qnN H e e=none:=if_pos rfl
theorem qdn {e b:Addr}(h:H b=none):qnN H e b=none:=by unfold qnN;split <;> first | rfl | exact h
theorem Inv.drop {e:Addr}{φ:Heap→Prop}(I:Inv X pins σ H s)(he:H e=some (.ext φ))(h0:X.s₀.heap.get? e=none):Inv X pins σ (qnN H e) s where
 ok:=I.ok
 os:=I.os
 bare:=I.bare
 base:=⟨I.base.keep,I.base.slot,fun b ob q n hx=>qdn (I.base.free b ob q n hx),I.base.there,
  fun b xs q=>by have:=I.base.tups b xs q;rw[qcM (fun z=>by rw[z,he] at this;cases this)];exact this,
  fun b ob xs q=>by have:=I.base.frzs b ob xs q;rw[qcM (fun z=>by rw[z,he] at this;cases this)];exact this,
  fun b ps q=>by have:=I.base.tbls b ps q;rw[qcM (fun z=>by rw[z,he] at this;cases this)];exact this⟩
 loc:=I.loc
 cell:=I.cell
 free:=qdn I.free
 freeC x c h:=qdn (I.freeC x c h)
 pin p h:=by
  obtain⟨a1,a2,a3⟩:=I.pin p h
  exact⟨a1,qdn a2,a3⟩
 hok b u q:=by
  have hbe:b≠e:=fun z=>by rw[z,qgq] at q;cases q
  rw[qcM hbe] at q
  exact (I.hok b u q).stay (fun _ _ _ q=>q) (fun z hz=>by rw[qcM (fun z2=>by rw[z2,he] at hz;cases hz)];exact hz) (fun z xs hz=>by rw[qcM (fun z2=>by rw[z2,he] at hz;cases hz)];exact hz) (fun z ob w' hz=>by rw[qcM (fun z2=>by rw[z2,he] at hz;cases hz)];exact hz)
 len:=I.len
theorem qls {C f:Addr}{fd:FuncData}{oI:Obj}{x:Str}{np cpos pos:Pos}{arg:Expr}{ta:TD}{n:Nat}(hcalm:X.calm=true)(hex:X.ex=[])(hg:Gl X x)(hm:X.mg x=some (.ref C))(hC:∀ h:Heap,X.K.In h→ExcAt h C (some (.ref f)))(hkp:PySem.W.keepIn X.K (.ref C)=true)
  (hfl:X.K.lookup f=some oI) (hfc:oI.cls=.type "function") (hF:∀ t,FnOk X.prog X.w X.K X.mg X.base CX0 n f fd [("self":Str),("at":Str)] (qka C t)) (hb:Binds X.K fd [("self":Str),("at":Str)] []) (hr:Room (n+1) X.A) (ha:PD K X arg ta)
  (he:starEach [arg] X.env=(false,eval arg X.env)::starEach [] X.env) (hdb:(x == ("__debug__":Str))=false:=by decide) :
  PSM K X (.Raise (some (.Call (.Name x np) [arg] [] cpos)) none pos) (fun De ρ=>ta (prR ρ) fun d=>qkC d∧De.ex ⟨x,some d⟩ ρ):=⟨fun hK=>by
 intro pins s σ H D I hq0
 obtain⟨Φ0,H0,Φ,ρ,De,g,V,t,k⟩:=hq0
 rw[arm_exec_Raise]
 refine wpAny_bind (wpAny_standAt ?_)
 refine qj6 (C:=C) (I.ok.hd hcalm) ?_
 refine wpAny_bind ?_
 refine wpAny_Call_Name_kw (qeG I hg hm ?_ hdb)
 have pa:=qbg (ha.pe hK) pa_nil he
 refine PySem.W.callWith_K (h₀:=X.base) I.ok.mod.kin hkp (thn (pa cpos pins s σ H (fun vs H1=>∃ d Φ1 v,vs=[v]∧(qkC d∧De.ex ⟨x,some d⟩ ρ)∧Gr Φ H Φ1 H1∧Rp K Φ1 d v) I ⟨_,Φ,prR ρ,_,V.toD,t,fun d Φ1 H1 v r g1 rv=>⟨d,Φ1,v,rfl,r,g1,rv⟩⟩) fun us s1 hq1=>?_) he qae
 obtain⟨vs,H1,I1,r,d,Φ1,v,rfl,⟨hfl',hx⟩,g1,rv⟩:=hq1
 obtain⟨u,rfl,ru⟩:=qi2 r
 refine⟨I1.kIn,?_⟩
 have hCs:=hC s1.heap I1.kIn
 obtain⟨hp,gg,dr,tk,os⟩:=s1
 refine qk3 hCs (I1.kIn _ _ hfl) hfc (by show 1≤sizeLine;rw[sizeLine_eq];decide) fun h' e hmk=>?_
 obtain⟨tt,t1,t2,t3⟩:=hmk.there
 have I2:=I1.more hmk.keeps
 have hno:H1 e=none:=I1.hok.no hmk.new
 have hold:=I1.old hex hmk.new
 have hpin:∀ p∈X.pn++pins,p.1≠e:=fun p hp' z=>by have:=(I1.pin p hp').1;rw[z,show hp.get? e=none from hmk.new] at this;cases this
 have hloc:X.env.locals≠e:=fun z=>by
  obtain⟨m,⟨o',es,ep,ho',_⟩,_⟩:=I1.loc
  rw[z,show hp.get? e=none from hmk.new] at ho';cases ho'
 have hcel:∀ y c,X.env.cells.lookup y=some c→c≠e:=fun y c hc z=>by
  obtain⟨w',o',ho',_⟩:=I1.cell y c hc
  rw[z,show hp.get? e=none from hmk.new] at ho';cases ho'
 have I3:=I2.knowX (o:=.ext (qg9 e C tt none)) hold hno hpin hloc hcel ⟨⟨_,t1⟩,⟨_,t1⟩,fun a b ⟨w',z1⟩ kk=>⟨w',kk _ z1⟩⟩
 have r2:Vals [L2.V.ref e,v] [Value.ref e,u]:=.cons rfl (.cons ru .nil)
 have hB:=hb _ [Value.ref e,u] I3.kIn rfl
 rw[List.append_nil] at hB
 refine wpAny_call (codeAny_mono ((hF tt).run _ X.stack _ _ ⟨[Value.ref e,u],[]⟩ [Value.ref e,u] [L2.V.ref e,v] (fun v' H'=>v'=.non∧∃ p,upd H1 e (.ext (qg9 e C tt none)) p=none∧p≠e∧H'=upd (upd (upd H1 e (.ext (qg9 e C tt none))) p (.xd [("at",v)])) e (.ext (qg9 e C tt (some p)))) E0 (hr.make C [u] []) (I3.env0.make C [u] []) hB r2 ⟨e,v,rfl,qaj,fun p hp1 hp2=>⟨rfl,p,hp1,hp2,rfl⟩⟩) fun res s' hq'=>?_)
 cases res with
 | error z=>exact hq'.elim
 | ok fl =>
  cases fl with
  | ret u' =>
   obtain⟨v',H',J,ru',rfl,p,hp1,hp2,rfl⟩:=I3.after hq'
   cases (show u'=Value.none from ru')
   have hpn:H1 p=none:=by rw[qal hp2] at hp1;exact hp1
   obtain⟨⟨sl,z1⟩,_⟩:=(show ObjOk X.prog X.w _ s'.heap e (.ext (qg9 e C tt (some p))) from J.hok e _ qaj)
   have Jd:=J.drop qaj hold
   have eH:qnN (upd (upd (upd H1 e (.ext (qg9 e C tt none))) p (.xd [("at",v)])) e (.ext (qg9 e C tt (some p)))) e=upd H1 p (.xd [("at",v)]):=by
    funext b
    by_cases cb:b=e
    ·rw[cb,qgq,qal (Ne.symm hp2)];exact hno.symm
    ·rw[qcM cb,qal cb]
     by_cases cp:b=p
     ·rw[cp,qaj,qaj]
     ·rw[qal cp,qal cp,qal cb]
   rw[eH] at Jd
   have gF:Gr Φ1 H1 Φ1 (upd H1 p (.xd [("at",v)])):=Gr.fresh g1.s hpn _
   have rvf:Rp X.K (fun _=>none) d v:=by
    cases rv with
    | non=>exact .non
    | int j=>exact .int j
    | _=>exact hfl'.elim
   refine⟨rfl,wpAny_bind (wpAny_standAt (wpAny_pure ⟨e,tt,some p,sl,_,rfl,hC s'.heap J.kIn,z1,?_⟩))⟩
   refine k.ex ⟨x,some d⟩ ρ Φ1 _ σ _ _ pins hx (g.trans (g1.trans gF)) ((V.gr g1).gr gF) ⟨Jd,e,C,none,some p,rfl,⟨_,_,z1,rfl,rfl,rfl,rfl⟩,hm,⟨p,v,rfl,qaj,rvf⟩,⟨hold,?_,hpin⟩,fun T' z=>(by cases z)⟩
   rw[qal (Ne.symm hp2)];exact hno
  | _=>exact hq'.elim⟩
end
section
variable {K : PySem.W.Frag} {h : Heap} {N C : Addr}
def qn3 (v:Value):Bool:=match v with | .str _ _=>true | _=>false
def qfJ (K:PySem.W.Frag)(N:Addr):Bool:=match K.lookup N with
 | some ⟨_,_,.dict es _,_⟩=>es.toList.all fun e=>qn3 e.key
 | _=>false
def noName (K:PySem.W.Frag)(N:Addr)(n:Str):Bool:=match PySem.W.nsIn K N n with | some none=>true | _=>false
theorem noName.is {n:Str}(h:noName K N n=true):PySem.W.nsIn K N n=some none:=by
 unfold noName at h
 split at h
 ·assumption
 ·cases h
theorem qo7 (X:K.In h)(e:qfJ K N=true):∃ mN,h.Ns N mN∧∀ n r,PySem.W.nsIn K N n=some r→mN n=r:=by
 unfold qfJ at e
 split at e
 ·rename_i c d es ep sl ho
  have sk:StrKeys es:=fun en hen=>by
   have hk:=List.all_eq_true.mp e en (Array.mem_toList_iff.mpr hen)
   cases q:en.key <;> rw[q] at hk <;> first | exact⟨_,_,rfl⟩ | cases hk
  have G:h.Ns N (fun n=>nsFind es n):=⟨_,es,ep,X _ _ ho,rfl,sk,fun _=>rfl⟩
  refine⟨_,G,fun n r hn=>?_⟩
  cases r with
  | none =>
   unfold PySem.W.nsIn at hn
   rw[ho] at hn
   dsimp only at hn
   split at hn
   ·cases hn
   ·rename_i he
    show nsFind es n=none
    unfold nsFind findBy
    rw[← Array.find?_toList,he]
    rfl
  | some v =>
   unfold PySem.W.nsIn at hn
   rw[ho] at hn
   dsimp only at hn
   split at hn
   ·rename_i en he
    cases hn
    show nsFind es n=some en.val
    unfold nsFind findBy
    rw[← Array.find?_toList,he]
    rfl
   ·split at hn <;> cases hn
 ·cases e
def isBmV (l:List Value):Bool:=match l with
 | [.type a,.type b,.type c,.type d]=>a == "ValueError" && b == "Exception" && c == "BaseException" && d == "object"
 | _=>false
theorem isBmV.is {l:List Value}(h:isBmV l=true):l=bmV:=by
 unfold isBmV at h
 split at h
 ·rw[Bool.and_eq_true,Bool.and_eq_true,Bool.and_eq_true] at h
  obtain⟨⟨⟨h1,h2⟩,h3⟩,h4⟩:=h
  rw[eq_of_beq h1,eq_of_beq h2,eq_of_beq h3,eq_of_beq h4]
 ·cases h
def refOf (v:Value):Option Addr:=match v with | .ref A=>some A | _=>none
theorem refOf.is {v:Value}{A:Addr}(h:refOf v=some A):v=.ref A:=by
 cases v <;> first | (cases h;rfl) | cases h
def tailOk (K:PySem.W.Frag):List Value→Bool
 | []=>false
 | v::tl=>(match refOf v with
  | some A=>(match K.lookup A with
   | some ⟨_,_,.cls cd,_⟩=>qfJ K cd.ns && excNames.all (noName K cd.ns) && tailOk K tl
   | _=>false)
  | none=>isBmV (v::tl))
theorem tailOk.tail (X:K.In h):∀ {l:List Value},tailOk K l=true→TailN h l
 | [],e=>by cases e
 | v::tl,e=>by
  unfold tailOk at e
  split at e
  ·rename_i A hv
   rw[refOf.is hv]
   split at e
   ·rename_i c d cd sl ho
    rw[Bool.and_eq_true,Bool.and_eq_true] at e
    obtain⟨⟨e1,e2⟩,e3⟩:=e
    obtain⟨mN,G,k⟩:=qo7 X e1
    exact .own (X _ _ ho) G (fun n hn=>k n none (noName.is (List.all_eq_true.mp e2 n hn))) (tailOk.tail X e3)
   ·cases e
  ·rw[isBmV.is e];exact .base
def clsOk (K:PySem.W.Frag)(C:Addr):Bool:=match K.lookup C with
 | some ⟨.type t,_,.cls ⟨_,_,v::bm,N,_,hd,_,_,_,_,hdel⟩,⟨[_,_,_,_,some (.builtin b),_]⟩⟩ =>
  t == "type" && b == "ValueError.__new__" && hd && !hdel && (v == .ref C) && qfJ K N && (excNames.all fun n=>n == "__init__" || noName K N n) && tailOk K bm && (PySem.W.nsIn K N "__init__").isSome
 | _=>false
def qfi (K:PySem.W.Frag)(C:Addr):Option (Option Value):=match K.lookup C with
 | some ⟨_,_,.cls cd,_⟩=>PySem.W.nsIn K cd.ns "__init__"
 | _=>none
theorem clsOk.at (X:K.In h){i:Option Value}(e:clsOk K C=true)(hi:qfi K C=some i):ExcAt h C i:=by
 unfold clsOk at e
 split at e
 ·rename_i t dd nm bs v bm N q hd sn sub ab col hdel k0 k1 k2 k3 b k5 ho
  unfold qfi at hi
  rw[ho] at hi
  simp only [Bool.and_eq_true] at e
  obtain⟨⟨⟨⟨⟨⟨⟨⟨e1,e2⟩,e3⟩,e4⟩,e5⟩,e6⟩,e7⟩,e8⟩,e9⟩:=e
  obtain⟨mN,G,k⟩:=qo7 X e6
  have h1:=eq_of_beq e1
  have h2:=eq_of_beq e2
  have h5:=eq_of_beq e5
  subst h1 h2 h5 e3
  have h4:hdel=false:=by cases hdel <;> first | rfl | cases e4
  subst h4
  refine⟨nm,q,N,bs,bm,sn,sub,ab,col,dd,k0,k1,k2,k3,k5,mN,X _ _ ho,G,k _ _ hi,fun n hn hne=>?_,tailOk.tail X e8⟩
  have:=List.all_eq_true.mp e7 n hn
  rw[Bool.or_eq_true] at this
  rcases this with c | c
  ·exact absurd (eq_of_beq c) hne
  ·exact k _ _ (noName.is c)
 ·cases e
theorem clsOk.some (e:clsOk K C=true):∃ i,qfi K C=some i:=by
 unfold clsOk at e
 split at e
 ·rename_i t dd nm bs v bm N q hd sn sub ab col hdel k0 k1 k2 k3 b k5 ho
  simp only [Bool.and_eq_true] at e
  obtain⟨_,e9⟩:=e
  unfold qfi
  rw[ho]
  exact Option.isSome_iff_exists.mp e9
 ·cases e
def qhw (K:PySem.W.Frag)(C:Addr):Option (List Value):=match K.lookup C with
 | some o=>(match o.data with | .cls cd=>some cd.mro | _=>none)
 | none=>none
theorem qjK (X:K.In h){l:List Value}(e:qhw K C=some l):qir h C=l:=by
 unfold qhw at e
 cases ho:K.lookup C with
 | none=>rw[ho] at e;cases e
 | some o =>
  rw[ho] at e
  unfold qir
  rw[X _ _ ho]
  obtain⟨c,d,dt,sl⟩:=o
  cases dt <;> first | exact Option.some.inj e | cases e
def glbRef (K:PySem.W.Frag)(nm:Str):Option Addr:=match PySem.W.nsIn K mainGlobals nm with
 | some (some v)=>refOf v
 | _=>none
theorem glbRef.is {nm:Str}(e:glbRef K nm=some C):PySem.W.nsIn K mainGlobals nm=some (some (.ref C)):=by
 unfold glbRef at e
 split at e
 ·rename_i v hv
  rw[hv,refOf.is e]
 ·cases e
def pairOk (K:PySem.W.Frag)(isa:Str→Str→Bool)(nm:Str)(C:Addr)(c:Str):Bool:=match glbRef K c,qhw K C with
 | some D,some l=>(PySem.W.kitOne K (.ref C) (.ref D) == some (isa nm c)) && (l.contains (.ref D) == isa nm c)
 | _,_=>false
def qiT (K:PySem.W.Frag)(isa:Str→Str→Bool)(names:List Str):Bool:=names.all fun nm=>match glbRef K nm with
 | some C=>clsOk K C && PySem.W.keepIn K (.ref C) && (PySem.W.kitOne K (.ref C) (.type "ValueError") == some true) && names.all (pairOk K isa nm C)
 | none=>false
section
variable {isa : Str → Str → Bool} {names : List Str} {mg : Str → Option Value}
theorem qc4 (e:qiT K isa names=true){nm:Str}(hn:nm∈names):∃ C,PySem.W.nsIn K mainGlobals nm=some (some (.ref C))∧clsOk K C=true∧PySem.W.kitOne K (.ref C) (.type "ValueError")=some true∧(∀ c∈names,pairOk K isa nm C c=true)∧PySem.W.keepIn K (.ref C)=true:=by
 have:=List.all_eq_true.mp e nm hn
 split at this
 ·rename_i C hC
  rw[Bool.and_eq_true,Bool.and_eq_true,Bool.and_eq_true] at this
  exact⟨C,glbRef.is hC,this.1.1.1,eq_of_beq this.1.2,fun c hc=>List.all_eq_true.mp this.2 c hc,this.1.1.2⟩
 ·cases this
theorem pairOk.is {nm c:Str}(e:pairOk K isa nm C c=true):∃ D l,PySem.W.nsIn K mainGlobals c=some (some (.ref D))∧qhw K C=some l∧PySem.W.kitOne K (.ref C) (.ref D)=some (isa nm c)∧l.contains (.ref D)=isa nm c:=by
 unfold pairOk at e
 split at e
 ·rename_i D l hD hl
  rw[Bool.and_eq_true] at e
  exact⟨D,l,glbRef.is hD,hl,eq_of_beq e.1,eq_of_beq e.2⟩
 ·cases e
theorem qm4 (X:K.In h)(G:h.Ns mainGlobals mg)(e:qiT K isa names=true):Exs K mg isa names where
 cls nm hn C hm h' X':=by
  obtain⟨C',h1,h2,_⟩:=qc4 e hn
  rw[PySem.W.mg_of X G h1] at hm
  cases hm
  obtain⟨i,hi⟩:=clsOk.some h2
  exact⟨i,clsOk.at X' h2 hi⟩
 sub nm hn c hc C D hm hd h' X':=by
  obtain⟨C',h1,h2,_,h4,_⟩:=qc4 e hn
  rw[PySem.W.mg_of X G h1] at hm
  cases hm
  obtain⟨D',l,z1,z2,z3,z4⟩:=pairOk.is (h4 c hc)
  rw[PySem.W.mg_of X G z1] at hd
  cases hd
  rw[qjK X' z2]
  exact z4
 inK nm hn C hm:=by
  obtain⟨C',h1,h2,_⟩:=qc4 e hn
  rw[PySem.W.mg_of X G h1] at hm
  cases hm
  exact h1
theorem qnG (X:K.In h)(G:h.Ns mainGlobals mg)(e:qiT K isa names=true):Isa K mg isa names where
 own nm hn c hc C D hm hd:=by
  obtain⟨C',h1,h2,_,h4,_⟩:=qc4 e hn
  rw[PySem.W.mg_of X G h1] at hm
  cases hm
  obtain⟨D',l,z1,z2,z3,z4⟩:=pairOk.is (h4 c hc)
  rw[PySem.W.mg_of X G z1] at hd
  cases hd
  exact z3
 val nm hn C hm:=by
  obtain⟨C',h1,h2,h3,_⟩:=qc4 e hn
  rw[PySem.W.mg_of X G h1] at hm
  cases hm
  exact h3
 mgK nm hn C hC:=PySem.W.mg_of X G hC
theorem qcs (X:K.In h)(G:h.Ns mainGlobals mg)(e:qiT K isa names=true){nm:Str}(hn:nm∈names):∃ D,mg nm=some (.ref D):=by
 obtain⟨C',h1,_⟩:=qc4 e hn
 exact⟨C',PySem.W.mg_of X G h1⟩
end
structure Rz1 (P:Program)(w:World)(K:PySem.W.Frag)(mg:Str→Option Value)(base:Heap)(x:Str):Prop where
 ex:∃ C f fd oI,mg x=some (.ref C)∧(∀ h:Heap,K.In h→ExcAt h C (some (.ref f)))∧PySem.W.keepIn K (.ref C)=true∧K.lookup f=some oI∧oI.cls=.type "function"∧(∀ t,FnOk P w K mg base CX0 1 f fd [("self":Str),("at":Str)] (qka C t))∧Binds K fd [("self":Str),("at":Str)] []∧PySem.W.nsIn K mainGlobals x=some (some (.ref C))
def initOf (K:PySem.W.Frag)(x:Str):Option (Option Value):=(glbRef K x).bind (qfi K)
section
variable {isa : Str → Str → Bool} {names : List Str} {mg : Str → Option Value} {P : Program} {w : World} {base : Heap}
theorem initOf.is {x:Str}{i:Option Value}(hi:initOf K x=some i)(h1:PySem.W.nsIn K mainGlobals x=some (some (.ref C))):qfi K C=some i:=by
 have:glbRef K x=some C:=by unfold glbRef;rw[h1];rfl
 unfold initOf at hi
 rw[this] at hi
 exact hi
theorem qhq {q:Str}{st:Stmt}{f:Addr}{p1 p2 p3 p4:Pos}(X:K.In h)(G:h.Ns mainGlobals mg)(e:qiT K isa names=true){x:Str}(hn:x∈names)(hi:initOf K x=some (some (.ref f)))
  {oc:Value} {od:Option Addr} {kV doc pm:Value} {an:Option Addr} {cdv ct:Value} {osl:Array (Option Value)} (lk:K.lookup f=some ⟨oc,od,.func (PySem.W.fnOf "__init__" q (qbk st) (qaV st) (qah st) .none kV doc pm an cdv ct),osl⟩) (hoc:oc=.type "function") (hcd:PySem.W.codeIn K cdv q=true) (kp:PySem.W.keepIn K (.ref f)=true)
  (S:FnScope [("self":Str),("at":Str)] [("self":Str),("at":Str)] (qah st)) (hb:qaV st=[.Assign [.Attribute (.Name "self" p1) "at" p2] (.Name "at" p3) p4]) (hv1:Vis (qah st) "self") (hv2:Vis (qah st) "at")
  (hs:∀ env,swapsWith (.Name "at" p3) (some (.Attribute (.Name "self" p1) "at" p2)) p4.line env=pure false)
  (b:∀ (kV doc pm:Value) (an:Option Addr) (cdv ct:Value) (us:List Value),us.length=2→bindArgs (PySem.W.fnOf "__init__" q (qbk st) (qaV st) (qah st) .none kV doc pm an cdv ct) ⟨us,[]⟩=pure ([("self":Str),("at":Str)].zip us)):Rz1 P w K mg base x:=by
 obtain⟨C,h1,h2,_,_,h5⟩:=qc4 e hn
 have F:Fun K "__init__" q st f _:=⟨⟨oc,od,kV,doc,pm,an,cdv,ct,osl,rfl,lk,hcd⟩,kp⟩
 have hC:∀ h':Heap,K.In h'→ExcAt h' C (some (.ref f)):=fun h' X'=>clsOk.at X' h2 (initOf.is hi h1)
 exact⟨C,f,_,_,PySem.W.mg_of X G h1,hC,h5,lk,hoc,fun t=>qm2 (k:=0) F S hb hv1 hv2 hs hC,F.binds b,h1⟩
end
end
abbrev SpR:=List D→(XD→Prop)→Prop
def orX (z:SpD)(r:SpR):SpX:=fun ds R W=>z ds R∨r ds W
def qgl (r:SpR):SpX:=fun ds _ W=>r ds W
section
variable {P : Program} {w : World} {K : PySem.W.Frag} {mg : Str → Option Value} {base : Heap} {n : Nat} {f : Addr} {fd : FuncData} {ps : List Str} {z : SpD} {r : SpR}
theorem qiq {CX:CXT}{A:Around}{c:Code}{outer:List Env}{H:Hp}{s:Shared}{Q:VK}{E:XK}(h:codeAny (model P w) A c (CR CX0 outer P w H s Q E) s):codeAny (model P w) A c (CR CX outer P w H s Q E) s :=
 codeAny_mono h fun res s' q=>by
  cases res with
  | error e=>exact q.elim
  | ok fl=>cases fl <;> exact q
theorem FnOk.orX (A:FnOk P w K mg base CX0 n f fd ps (lSp K z))(B:FnOk P w K mg base (CXo P w) n f fd ps (qhA K mg (qgl r))):FnOk P w K mg base (CXo P w) n f fd ps (qhA K mg (orX z r)):=by
 have cs:∀ {vs:List V} {H:Hp} {Q:VK} {E:XK},qhA K mg (L2.orX z r) vs H Q E→lSp K z vs H Q E∨qhA K mg (qgl r) vs H Q E:=fun {vs H Q E} h=>by
  obtain⟨Φ,ds,R,W,h1,h2,h3,h4,h5,h6⟩:=h
  rcases h4 with h4 | h4
  ·exact .inl ⟨Φ,ds,R,h1,h2,h3,h4,h5⟩
  ·exact .inr ⟨Φ,ds,R,W,h1,h2,h3,h4,h5,h6⟩
 refine⟨fun vs H Q E h=>?_,fun A' outer s H args us vs Q E hr he hb hv hs=>?_⟩
 ·rcases cs h with h | h
  ·exact A.len _ _ _ _ h
  ·exact B.len _ _ _ _ h
 ·rcases cs hs with h | h
  ·exact qiq (A.run A' outer s H args us vs Q E hr he hb hv h)
  ·exact B.run A' outer s H args us vs Q E hr he hb hv h
end
section
variable {K : PySem.W.Frag} {X : Cx} {x : Str} {np cpos pos : Pos} {arg : Expr} {ta : TD}
def qrS (x:Str)(ta:TD):TSM:=fun De ρ=>ta (prR ρ) fun d=>qkC d∧De.ex ⟨x,some d⟩ ρ
theorem qm0 (Z:Rz1 X.prog X.w X.K X.mg X.base x)(hcalm:X.calm=true)(hex:X.ex=[])(hg:Gl X x)(hr:Room 2 X.A)(ha:PD K X arg ta)(he:starEach [arg] X.env=(false,eval arg X.env)::starEach [] X.env)(hdb:(x == ("__debug__":Str))=false:=by decide) :
  PSM K X (.Raise (some (.Call (.Name x np) [arg] [] cpos)) none pos) (qrS x ta):=by
 obtain⟨C,f,fd,oI,h1,h2,h3,h4,h5,h6,h7,_⟩:=Z.ex
 exact qls (n:=1) hcalm hex hg h1 h2 h3 h4 h5 h6 h7 hr ha he hdb
theorem qhB {rest:List ExceptHandler}{th:XD→EndsM→qaN→Prop}{c n:Str}{hpos:Pos}{b₀:Stmt}{suite:List Stmt}{tu:TSM}{isa:Str→Str→Bool}{names:List Str}(i:Nat)(Ex:Exs X.K X.mg isa names)(hm:∃ Da,X.mg c=some (.ref Da))(hc:c∈names)(hg:Gl X c)(hN:X.N.Nodup)(hs:∀ pn e,PSsM K (X.held pn e) (b₀::suite) tu)(hr:PHM K X rest th)
  (hi:X.N[i]?=some n:=by rfl) (hloc:X.env.scope.names.lookup n=some .local:=by rfl) (hfn:X.fn n=true∨X.env.scope.names.lookup n=some .local:=by first | exact .inl rfl | exact .inr rfl) (hdb:(c == ("__debug__":Str))=false:=by decide) :
  PHM K X (.ExceptHandler (some (.Name c np)) (some n) (b₀::suite) hpos::rest) (fun xd De ρ=>xd.nm∈names∧(isa xd.nm c=true→tu { nx:=fun ρ'=>De.nx (ρ'.set i none),rt:=De.rt,bk:=fun ρ'=>De.bk (ρ'.set i none),ct:=fun ρ'=>De.ct (ρ'.set i none) } (ρ.set i (some (.v (.exc xd.nm xd.at_.toList)))))∧(isa xd.nm c=false→th xd De ρ)):=by
 obtain⟨Da,hm⟩:=hm
 exact qnC i Ex hc hg hm hN hs hr hi hloc hfn hdb
end
section
variable {K : PySem.W.Frag} {X : Cx} {a : Expr} {ta : TD} {pos p : Pos} {isa : Str → Str → Bool} {names : List Str}
theorem qdP {c:Str}{np:Pos}(Ex:Exs X.K X.mg isa names)(Is:Isa X.K X.mg isa names)(hm:∃ Da,X.mg c=some (.ref Da))(hc:c∈names)(hgc:Gl X c)(hg:Gl X "isinstance")(hmi:X.mg "isinstance"=none)(ha:PD K X a ta)
  (he:starEach [a,.Name c np] X.env=(false,eval a X.env)::starEach [.Name c np] X.env) (he2:starEach [.Name c np] X.env=(false,eval (.Name c np) X.env)::starEach [] X.env) (hdb:(c == ("__debug__":Str))=false:=by decide):PD K X (.Call (.Name "isinstance" p) [a,.Name c np] [] pos) (qpU isa names c ta):=by
 obtain⟨Da,hm⟩:=hm
 exact qqO Ex Is hc hgc hm hg hmi ha he he2 hdb
end
end L2
namespace L2
open PySem PySem.Spec PyProof.Rows
section
variable {P : Program} {w : World} {K : PySem.W.Frag} {mg : Str → Option Value} {base : Heap}
end
section
variable {K : PySem.W.Frag} {X : Cx} {e : Expr} {es : List Expr} {pos p : Pos} {tl : TDL}
end
section
variable {K : PySem.W.Frag} {X : Cx} {x : Str} {np pos : Pos} {arg : Expr} {ta : TD}
end
section
variable {prog : Program} {w : World} {A : Around} {R : Result → Shared → Prop} {I : Addr} {fp wr : List Addr} {G : Array GenState → Array GenState → Prop} {n : Nat} {P : Nat → Value → Prop} {St : Nat → Shared → Prop}
end
section
variable {prog : Program} {w : World} {A : Around} {E : Value → Shared → Prop} {s : Shared}
end
section
variable {ks : List Key}
end
section
variable {K : PySem.W.Frag} {X : Cx} {a : Expr} {ta : TD} {pos p1 p2 ps : Pos}
end
section
variable {prog : Program} {w : World} {A : Around} {R : Result → Shared → Prop} {I : Addr} {fp wr : List Addr} {n : Nat} {P : Nat → Value → Prop} {St : Nat → Heap → Prop} {kw : List (Str × Value)}
end
section
variable {prog : Program} {w : World} {A : Around} {E : Value → Shared → Prop} {s : Shared}
end
section
variable {K : PySem.W.Frag} {X : Cx} {l : Expr} {tl : TD} {np pos kp2 kp3 : Pos} {c : Int} {j : Nat}
end
section
variable {K : PySem.W.Frag} {H0 H H' Φ Φ' Φ0 : Hp} {σ : St} {ρ : qaN} {fp : Nat → List Addr} {o o' oi oj : Om} {p q : Addr} {i j : Nat} {a a' b b' : Option Addr}
theorem EnvM'.two (E:EnvM' K H0 Φ H σ ρ fp)(hij:i≠j)(hi:ρ[i]?=some (some (.ob a o)))(hj:ρ[j]?=some (some (.ob a' o'))){pi pj:Addr}{Fi Fj:List Addr}(si:σ[i]?=some (some (.ref pi)))(sj:σ[j]?=some (some (.ref pj)))
  (ai:∀ q,b=some q→q=pi) (aj:∀ q,b'=some q→q=pj) (Oi:OmS K Φ H oi pi Fi) (Oj:OmS K Φ H oj pj Fj) (sub:∀ x,x∈Fi∨x∈Fj→x∈fp i∨x∈fp j) (dis:∀ x∈Fi,x∉Fj) :
  EnvM K H0 Φ H σ ((ρ.set i (some (.ob b oi))).set j (some (.ob b' oj))):=by
 have cs:∀ {m:Nat} {x:Sm},((ρ.set i (some (Sm.ob b oi))).set j (some (Sm.ob b' oj)))[m]?=some (some x)→(m=j∧x=.ob b' oj)∨(m≠j∧m=i∧x=.ob b oi)∨(m≠j∧m≠i∧ρ[m]?=some (some x)):=fun {m x} h=>by
  rcases qbi h with⟨e,_,e1⟩ | ⟨e,h⟩
  ·cases e1;exact .inl ⟨e,rfl⟩
  ·rcases qbi h with⟨e',_,e1⟩ | ⟨e',h⟩
   ·cases e1;exact .inr (.inl ⟨e,e',rfl⟩)
   ·exact .inr (.inr ⟨e,e',h⟩)
 have nf:∀ x,x∈Fi∨x∈Fj→∀ (m:Nat) (c:Option Addr) (om:Om),ρ[m]?=some (some (.ob c om))→m≠i→m≠j→x∉fp m:=fun x hx m c om hm c1 c2 z=>by
  rcases sub x hx with h | h
  ·exact E.dj m i c a om o hm hi c1 x z h
  ·exact E.dj m j c a' om o' hm hj c2 x z h
 have no:∀ x,x∈Fi∨x∈Fj→H0 x=none∧Φ x=none:=fun x hx=>by
  rcases sub x hx with h | h
  ·exact E.no i a o hi x h
  ·exact E.no j a' o' hj x h
 refine⟨fun m=>if m=j then Fj else if m=i then Fi else fp m,E.fz,by rw[List.length_set,List.length_set,E.len],fun m d h=>?_,fun m c om h=>?_,fun m c om h x hx=>?_,fun m k c c' om om' hm hk cc x hx hx2=>?_,E.tb⟩
 ·rcases cs h with⟨_,h9⟩ | ⟨_,_,h9⟩ | ⟨_,_,h9⟩
  ·cases h9
  ·cases h9
  ·exact E.sl m d h9
 ·rcases cs h with⟨c1,h9⟩ | ⟨c1,c2,h9⟩ | ⟨c1,c2,h9⟩
  ·cases h9;exact⟨pj,by rw[c1];exact sj,aj,by rw[if_pos c1];exact Oj⟩
  ·cases h9;exact⟨pi,by rw[c2];exact si,ai,by rw[if_neg c1,if_pos c2];exact Oi⟩
  ·obtain⟨p,e,ha,r⟩:=E.ow m c om h9
   exact⟨p,e,ha,by rw[if_neg c1,if_neg c2];exact r⟩
 ·rcases cs h with⟨c1,h9⟩ | ⟨c1,c2,h9⟩ | ⟨c1,c2,h9⟩
  ·rw[if_pos c1] at hx;exact no x (.inr hx)
  ·rw[if_neg c1,if_pos c2] at hx;exact no x (.inl hx)
  ·rw[if_neg c1,if_neg c2] at hx;exact E.no m c om h9 x hx
 ·have y1:x∈(if m=j then Fj else if m=i then Fi else fp m):=hx
  have y2:x∈(if k=j then Fj else if k=i then Fi else fp k):=hx2
  rcases cs hm with⟨c1,hm9⟩ | ⟨c1,c2,hm9⟩ | ⟨c1,c2,hm9⟩
  ·rw[if_pos c1] at y1
   rcases cs hk with⟨d1,hk9⟩ | ⟨d1,d2,hk9⟩ | ⟨d1,d2,hk9⟩
   ·exact cc (c1.trans d1.symm)
   ·rw[if_neg d1,if_pos d2] at y2;exact dis x y2 y1
   ·rw[if_neg d1,if_neg d2] at y2;exact nf x (.inr y1) k c' om' hk9 d2 d1 y2
  ·rw[if_neg c1,if_pos c2] at y1
   rcases cs hk with⟨d1,hk9⟩ | ⟨d1,d2,hk9⟩ | ⟨d1,d2,hk9⟩
   ·rw[if_pos d1] at y2;exact dis x y1 y2
   ·exact cc (c2.trans d2.symm)
   ·rw[if_neg d1,if_neg d2] at y2;exact nf x (.inl y1) k c' om' hk9 d2 d1 y2
  ·rw[if_neg c1,if_neg c2] at y1
   rcases cs hk with⟨d1,hk9⟩ | ⟨d1,d2,hk9⟩ | ⟨d1,d2,hk9⟩
   ·rw[if_pos d1] at y2;exact nf x (.inr y2) m c om hm9 c2 c1 y1
   ·rw[if_neg d1,if_pos d2] at y2;exact nf x (.inl y2) m c om hm9 c2 c1 y1
   ·rw[if_neg d1,if_neg d2] at y2;exact E.dj m k c c' om om' hm9 hk9 cc x y1 y2
theorem qjm {ps:List (Addr × Option (List D))}{k:Nat}{x y:Option (List D)}(h:ps[k]?=some (q,x)):((ps.set k (q,y)).map fun q=>V.ref q.1)=ps.map fun q=>V.ref q.1:=by
 refine List.ext_getElem? fun m=>?_
 rw[List.getElem?_map,List.getElem?_map]
 by_cases c:k=m
 ·subst c
  rw[List.getElem?_set_self (qak h),h];rfl
 ·rw[List.getElem?_set_ne c]
theorem EnvM.opn {ps:List (Addr × Option (List D))}{k:Nat}{ds:List D}(E:EnvM K H0 Φ H σ ρ)(hij:i≠j)(hi:ρ[i]?=some (some (.ob (some q) .ptr)))(hj:ρ[j]?=some (some (.ob a' (.tl ps))))(hk:ps[k]?=some (q,some ds)) :
  EnvM K H0 Φ H σ ((ρ.set i (some (.ob (some q) (.lst ds)))).set j (some (.ob a' (.tl (ps.set k (q,none)))))):=by
 obtain⟨fp,E⟩:=E
 obtain⟨p,si,ha,ri⟩:=E.ow i _ _ hi
 have ep:=ha q rfl
 subst ep
 obtain⟨t,sj,ha',rj⟩:=E.ow j _ _ hj
 obtain⟨h1,h2,h3⟩:=rj.tl_inv
 obtain⟨ws,F',k1,k2,k3,k4⟩:=h2.out hk
 have nd:=k4.nodup_iff.mp h3
 rw[List.nodup_cons] at nd
 refine E.two hij hi hj si sj ha ha' (.lst k1 k2) (.tl (by rw[qjm hk];exact h1) k3 nd.2) (fun x hx=>.inr (k4.mem_iff.mpr ?_)) fun x hx=>?_
 ·rcases hx with h | h
  ·rw[List.mem_singleton.mp h];exact List.mem_cons_self
  ·exact List.mem_cons_of_mem _ h
 ·rw[List.mem_singleton.mp hx];exact nd.1
theorem EnvM.giv {ps:List (Addr × Option (List D))}{k:Nat}{ds:List D}(E:EnvM K H0 Φ H σ ρ)(hij:i≠j)(hi:ρ[i]?=some (some (.ob (some q) (.lst ds))))(hj:ρ[j]?=some (some (.ob a' (.tl ps))))(hk:ps[k]?=some (q,none)) :
  EnvM K H0 Φ H σ ((ρ.set i (some (.ob (some q) .ptr))).set j (some (.ob a' (.tl (ps.set k (q,some ds)))))):=by
 obtain⟨fp,E⟩:=E
 obtain⟨p,si,ha,ri⟩:=E.ow i _ _ hi
 have ep:=ha q rfl
 subst ep
 obtain⟨t,sj,ha',rj⟩:=E.ow j _ _ hj
 obtain⟨h1,h2,h3⟩:=rj.tl_inv
 obtain⟨eF,ws,k1,k2⟩:=ri.lst_inv
 obtain⟨F',k3,k4⟩:=h2.put k1 k2 hk
 have hq:q∉fp j:=E.dj i j _ _ _ _ hi hj hij q (by rw[eF];exact List.mem_singleton.mpr rfl)
 refine E.two hij hi hj si sj ha ha' .ptr (.tl (by rw[qjm hk];exact h1) k3 (k4.nodup_iff.mpr (List.nodup_cons.mpr ⟨hq,h3⟩))) (fun x hx=>?_) fun x hx=>absurd hx List.not_mem_nil
 rcases hx with h | h
 ·exact absurd h List.not_mem_nil
 ·rcases List.mem_cons.mp (k4.mem_iff.mp h) with h | h
  ·rw[h,eF];exact .inl (List.mem_singleton.mpr rfl)
  ·exact .inr h
theorem EnvM.adr (E:EnvM K H0 Φ H σ ρ)(hi:ρ[i]?=some (some (.ob none o))):∃ q,EnvM K H0 Φ H σ (ρ.set i (some (.ob (some q) o))):=by
 obtain⟨fp,E⟩:=E
 obtain⟨p,si,_,ri⟩:=E.ow i _ _ hi
 have cs:∀ {m:Nat} {x:Sm},(ρ.set i (some (Sm.ob (some p) o)))[m]?=some (some x)→(m=i∧x=.ob (some p) o)∨(m≠i∧ρ[m]?=some (some x)):=fun {m x} h=>by
  rcases qbi h with⟨e,_,e1⟩ | ⟨e,h⟩
  ·cases e1;exact .inl ⟨e,rfl⟩
  ·exact .inr ⟨e,h⟩
 have back:∀ {m:Nat} {c:Option Addr} {om:Om},(ρ.set i (some (Sm.ob (some p) o)))[m]?=some (some (.ob c om))→∃ c',ρ[m]?=some (some (.ob c' om)):=fun {m c om} h=>by
  rcases cs h with⟨c1,h9⟩ | ⟨_,h9⟩
  ·cases h9;exact⟨_,by rw[c1];exact hi⟩
  ·exact⟨_,h9⟩
 refine⟨p,fp,E.fz,by rw[List.length_set,E.len],fun m d h=>?_,fun m c om h=>?_,fun m c om h=>?_,fun m k c c' om om' hm hk=>?_,E.tb⟩
 ·rcases cs h with⟨_,h⟩ | ⟨_,h⟩
  ·cases h
  ·exact E.sl m d h
 ·rcases cs h with⟨c1,h9⟩ | ⟨_,h9⟩
  ·cases h9;exact⟨p,by rw[c1];exact si,fun q e=>by cases e;rfl,by rw[c1];exact ri⟩
  ·exact E.ow m c om h9
 ·obtain⟨c',h'⟩:=back h;exact E.no m c' om h'
 ·obtain⟨e1,h1⟩:=back hm
  obtain⟨e2,h2⟩:=back hk
  exact E.dj m k e1 e2 om om' h1 h2
theorem EnvM.pnt (E:EnvM K H0 Φ H σ ρ)(i:Nat)(p:Addr):EnvM K H0 Φ H (σ.set i (some (.ref p))) (ρ.set i (some (.ob (some p) .ptr))):=by
 obtain⟨fp,E⟩:=E
 have cs:∀ {m:Nat} {x:Sm},(ρ.set i (some (Sm.ob (some p) .ptr)))[m]?=some (some x)→(m=i∧i<ρ.length∧x=.ob (some p) .ptr)∨(m≠i∧ρ[m]?=some (some x)):=fun {m x} h=>by
  rcases qbi h with⟨e,hl,e1⟩ | ⟨e,h⟩
  ·cases e1;exact .inl ⟨e,hl,rfl⟩
  ·exact .inr ⟨e,h⟩
 refine⟨fun m=>if m=i then [] else fp m,E.fz,by rw[List.length_set,List.length_set,E.len],fun m d h=>?_,fun m c om h=>?_,fun m c om h x hx=>?_,fun m k c c' om om' hm hk cc x hx hx2=>?_,E.tb⟩
 ·rcases cs h with⟨_,_,h⟩ | ⟨c,h⟩
  ·cases h
  ·obtain⟨v,e,r⟩:=E.sl m d h
   exact⟨v,by rw[List.getElem?_set_ne (Ne.symm c)];exact e,r⟩
 ·rcases cs h with⟨c1,hl,h9⟩ | ⟨c',h9⟩
  ·cases h9;exact⟨p,by rw[c1];exact List.getElem?_set_self (by rw[E.len];exact hl),fun q e=>by cases e;rfl,by rw[if_pos c1];exact .ptr⟩
  ·obtain⟨q,e,r⟩:=E.ow m c om h9
   exact⟨q,by rw[List.getElem?_set_ne (Ne.symm c')];exact e,by rw[if_neg c'];exact r⟩
 ·rcases cs h with⟨c1,_,h9⟩ | ⟨c',h9⟩
  ·rw[if_pos c1] at hx;cases hx
  ·rw[if_neg c'] at hx;exact E.no m c om h9 x hx
 ·have y1:x∈(if m=i then [] else fp m):=hx
  have y2:x∈(if k=i then [] else fp k):=hx2
  rcases cs hm with⟨c1,_,hm9⟩ | ⟨c1,hm9⟩
  ·rw[if_pos c1] at y1;cases y1
  rcases cs hk with⟨c2,_,hk9⟩ | ⟨c2,hk9⟩
  ·rw[if_pos c2] at y2;cases y2
  rw[if_neg c1] at y1
  rw[if_neg c2] at y2
  exact E.dj m k c c' om om' hm9 hk9 cc x y1 y2
end
section
variable {K : PySem.W.Frag} {X : Cx} {rest : List Stmt} {t : TSM} {e : Expr} {es : List Expr} {pos p1 p2 p3 p4 p5 : Pos} {tA : TXA}
def qr7 (i j k:Nat)(t:TSM):TSM:=fun De ρ=>∃ q a ps ds,ρ[i]?=some (some (.ob (some q) .ptr))∧ρ[j]?=some (some (.ob a (.tl ps)))∧ps[k]?=some (q,some ds)∧t De ((ρ.set i (some (.ob (some q) (.lst ds)))).set j (some (.ob a (.tl (ps.set k (q,none))))))
theorem qjE (i j k:Nat)(h:PSsM K X rest t)(hij:i≠j:=by decide):PSsM K X rest (qr7 i j k t):=⟨fun hK=>(h.ps hK).imp fun E σ H hq0=>by
 obtain⟨Φ0,H0,Φ,ρ,De,g,V,⟨q,a,ps,ds,h1,h2,h3,t⟩,k⟩:=hq0
 exact⟨Φ0,H0,Φ,_,De,g,V.opn hij h1 h2 h3,t,k⟩⟩
def qrL (i j k:Nat)(t:TSM):TSM:=fun De ρ=>∃ q a ps ds,ρ[i]?=some (some (.ob (some q) (.lst ds)))∧ρ[j]?=some (some (.ob a (.tl ps)))∧ps[k]?=some (q,none)∧t De ((ρ.set i (some (.ob (some q) .ptr))).set j (some (.ob a (.tl (ps.set k (q,some ds))))))
theorem qks (i j k:Nat)(h:PSsM K X rest t)(hij:i≠j:=by decide):PSsM K X rest (qrL i j k t):=⟨fun hK=>(h.ps hK).imp fun E σ H hq0=>by
 obtain⟨Φ0,H0,Φ,ρ,De,g,V,⟨q,a,ps,ds,h1,h2,h3,t⟩,k⟩:=hq0
 exact⟨Φ0,H0,Φ,_,De,g,V.giv hij h1 h2 h3,t,k⟩⟩
def qrk (i:Nat)(t:TSM):TSM:=fun De ρ=>∃ o,ρ[i]?=some (some (.ob none o))∧∀ q,t De (ρ.set i (some (.ob (some q) o)))
theorem qop (i:Nat)(h:PSsM K X rest t):PSsM K X rest (qrk i t):=⟨fun hK=>(h.ps hK).imp fun E σ H hq0=>by
 obtain⟨Φ0,H0,Φ,ρ,De,g,V,⟨o,h1,t⟩,k⟩:=hq0
 obtain⟨q,V'⟩:=V.adr h1
 exact⟨Φ0,H0,Φ,_,De,g,V',t q,k⟩⟩
def qpL (j i1 i2 i3:Nat):TSM:=fun De ρ=>∃ a q1 q2 q3 x1 x2 x3,ρ[j]?=some (some (.ob a (.tl [(q1,x1),(q2,x2),(q3,x3)])))∧De.nx (((ρ.set i1 (some (.ob (some q1) .ptr))).set i2 (some (.ob (some q2) .ptr))).set i3 (some (.ob (some q3) .ptr)))
theorem qoN {k:Nat}{y n1 n2 n3:Str}(j i1 i2 i3:Nat)(hc:X.calm=true)(hN:X.N.Nodup)(hy:X.N[j]?=some y)(h1:X.N[i1]?=some n1)(h2:X.N[i2]?=some n2)(h3:X.N[i3]?=some n3)(l1:Loc X.env.scope n1)(l2:Loc X.env.scope n2)(l3:Loc X.env.scope n3)
  (hv:Vis X.env.scope y:=by first | exact Or.inl rfl | exact Or.inr (Or.inl rfl) | exact Or.inr (Or.inr rfl)) (hd:(y == ("__debug__":Str))=false:=by decide) (hcd:(y == ("__classdict__":Str))=false:=by decide)
  (f1:X.fn n1=true∨X.env.scope.names.lookup n1=some .local:=by first | exact .inl rfl | exact .inr rfl | assumption) (f2:X.fn n2=true∨X.env.scope.names.lookup n2=some .local:=by first | exact .inl rfl | exact .inr rfl | assumption) (f3:X.fn n3=true∨X.env.scope.names.lookup n3=some .local:=by first | exact .inl rfl | exact .inr rfl | assumption)
  (hs:swapsWithSole [.Tuple [.Name n1 p1,.Name n2 p2,.Name n3 p3] k p4] (.Name y p5) pos.line X.env=pure false:=by rfl) (hw:swappedStores [.Tuple [.Name n1 p1,.Name n2 p2,.Name n3 p3] k p4] (.Name y p5) X.env=pure none:=by rfl)
  (ha:(assignEach [.Tuple [.Name n1 p1,.Name n2 p2,.Name n3 p3] k p4] X.env).map (·.2)=[assign (.Tuple [.Name n1 p1,.Name n2 p2,.Name n3 p3] k p4) X.env]:=by rfl)
  (c1:(assignEach [.Name n1 p1,.Name n2 p2,.Name n3 p3] X.env).map (·.2)=assign (.Name n1 p1) X.env::(assignEach [.Name n2 p2,.Name n3 p3] X.env).map (·.2):=by rfl) (c2:(assignEach [.Name n2 p2,.Name n3 p3] X.env).map (·.2)=assign (.Name n2 p2) X.env::(assignEach [.Name n3 p3] X.env).map (·.2):=by rfl) (c3:(assignEach [.Name n3 p3] X.env).map (·.2)=assign (.Name n3 p3) X.env::(assignEach [] X.env).map (·.2):=by rfl)
  (hn:(assignEach [.Name n1 p1,.Name n2 p2,.Name n3 p3] X.env).length=3:=by rfl) (hst:(assignEach [.Name n1 p1,.Name n2 p2,.Name n3 p3] X.env).findIdx? (·.1)=none:=by rfl) :
  PSM K X (.Assign [.Tuple [.Name n1 p1,.Name n2 p2,.Name n3 p3] k p4] (.Name y p5) pos) (qpL j i1 i2 i3) :=
 ⟨fun hK=>(qmd (pv j hy hv hd hcd) (qlW hc (qdx (qee hN h1 l1 f1) (qdx (qee hN h2 l2 f2) (qdx (qee hN h3 l3 f3) pgs_nil c3) c2) c1) hn hst) hs hw ha).imp fun E σ H hq0=>by
  obtain⟨Φ0,H0,Φ,ρ,De,g,V,⟨a,q1,q2,q3,x1,x2,x3,e,t⟩,k⟩:=hq0
  obtain⟨fp,V'⟩:=id V
  obtain⟨tp,s,_,r⟩:=V'.ow j _ _ e
  obtain⟨hp,_,_⟩:=r.tl_inv
  refine⟨.ref tp,s,tp,_,rfl,SqT.of (V'.fz _ _ hp),rfl,_,_,rfl,_,_,rfl,_,_,rfl,rfl,?_⟩
  exact k.nx _ Φ H _ t g (((V.pnt i1 q1).pnt i2 q2).pnt i3 q3)⟩
def qpJ (tA:TXA):TX:=fun ρ R Rx=>tA ρ (fun as ρ1=>∃ i j q1 q2 o1 o2 zs,as=[.s i,.s j,.t (.ob none (.lst zs))]∧ρ1[i]?=some (some (.ob (some q1) o1))∧ρ1[j]?=some (some (.ob (some q2) o2))∧∀ q,R (.ob none (.tl [(q1,none),(q2,none),(q,some zs)])) ρ1) Rx
theorem qpl {k:Nat}(h:PXA K X es tA)(hes:Nat.ble es.length 1000=true:=by rfl):PX K X (.Tuple es k pos) (qpJ tA) :=
 ⟨fun hK=>(qku (h.pa hK)).imp fun σ H Q hq0=>by
  obtain⟨Φ0,H0,Φ,τ,ρ,κ,R,Rx,S,t,k⟩:=hq0
  refine⟨Φ0,H0,Φ,τ,ρ,κ,_,Rx,S,t,fun as ρ1 Φ1 H1 vs ts r1 hl hv S1 f1=>?_⟩
  obtain⟨i,j,q1,q2,o1,o2,zs,rfl,hi,hj,r⟩:=r1
  cases hv with | s s1 hv=>cases hv with | s s2 hv=>cases hv with | t hv =>
  cases hv
  rename_i v1 v2 v3
  refine⟨by rw[sizeLine_eq];show 3≤16777216;decide,fun p hp=>?_⟩
  have g:=Gr.new S1.g.s hp (.tup [v1,v2,v3])
  have S2:=S1.gr g
  obtain⟨fp,E2⟩:=id S2.E
  have il:=qak hi
  have jl:=qak hj
  obtain⟨p1,e1,a1,_⟩:=E2.ow i _ _ (by rw[List.getElem?_append_left il];exact hi)
  obtain⟨p2,e2,a2,_⟩:=E2.ow j _ _ (by rw[List.getElem?_append_left jl];exact hj)
  have l2:=S2.l
  rw[List.getElem?_append_left (by omega),s1] at e1
  rw[List.getElem?_append_left (by omega),s2] at e2
  cases e1
  cases e2
  have z1:=a1 q1 rfl
  have z2:=a2 q2 rfl
  subst z1 z2
  have lk:κ.length=τ.length:=S.lk
  have hat:(ρ1++(κ++[some (Sm.ob none (.lst zs))]))[ρ1.length+κ.length]?=some (some (.ob none (.lst zs))):=by rw[← List.append_assoc,List.getElem?_append_right (by rw[List.length_append];omega),List.length_append,Nat.sub_self];rfl
  obtain⟨q,e3,_,rq⟩:=E2.ow _ _ _ hat
  have hs3:(σ++(τ++[some v3]))[ρ1.length+κ.length]?=some (some v3):=by rw[← List.append_assoc,List.getElem?_append_right (by rw[List.length_append];omega),List.length_append,l2,lk,Nat.sub_self];rfl
  have e3':some (some v3)=some (some (V.ref q)):=hs3.symm.trans e3
  cases e3'
  obtain⟨eF,ws,k1,k2⟩:=rq.lst_inv
  refine k _ ρ1 _ _ _ (r q) ⟨S2.g,l2,?_,S2.x⟩ (f1.trans g.f)
  have hlen:(σ++(τ++[some (V.ref q)])).length=(ρ1++(κ++[some (Sm.ob none (.lst zs))])).length:=E2.len
  have cs:∀ {m:Nat} {x:Sm},(ρ1++(κ++[some (Sm.ob none (.tl [(q1,none),(q2,none),(q,some zs)]))]))[m]?=some (some x)→(m=ρ1.length+κ.length∧x=.ob none (.tl [(q1,none),(q2,none),(q,some zs)]))∨(m<ρ1.length+κ.length∧(ρ1++(κ++[some (Sm.ob none (.lst zs))]))[m]?=some (some x)):=fun {m x} h=>by
   rw[← List.append_assoc] at h ⊢
   rcases Nat.lt_or_ge m (ρ1.length+κ.length) with c | c
   ·refine .inr ⟨c,?_⟩
    rw[List.getElem?_append_left (by rw[List.length_append];exact c)] at h ⊢
    exact h
   ·rw[List.getElem?_append_right (by rw[List.length_append];exact c),List.length_append] at h
    cases e:m - (ρ1.length+κ.length) with
    | zero=>rw[e] at h;cases h;exact .inl ⟨by omega,rfl⟩
    | succ n=>rw[e] at h;cases h
  have sg:∀ {m:Nat},m<ρ1.length+κ.length→(σ++(τ++[some (V.ref p)]))[m]?=(σ++(τ++[some (V.ref q)]))[m]?:=fun {m} c=>by
   have e:∀ w:Option V,(σ++(τ++[w]))[m]?=(σ++τ)[m]?:=fun w=>by rw[← List.append_assoc,List.getElem?_append_left (by rw[List.length_append];omega)]
   rw[e,e]
  refine⟨fp,E2.fz,by simp only [List.length_append,List.length_cons,List.length_nil] at hlen ⊢;exact hlen,fun m d h=>?_,fun m c om h=>?_,fun m c om h=>?_,fun m n c c' om om' hm hn=>?_,E2.tb⟩
  ·rcases cs h with⟨_,h9⟩ | ⟨c,h9⟩
   ·cases h9
   ·obtain⟨v,e,rv⟩:=E2.sl m d h9
    exact⟨v,by rw[sg c];exact e,rv⟩
  ·rcases cs h with⟨c1,h9⟩ | ⟨c',h9⟩
   ·cases h9
    refine⟨p,?_,(fun _ z=>by cases z),?_⟩
    ·rw[c1,← List.append_assoc,List.getElem?_append_right (by rw[List.length_append];omega),List.length_append,l2,lk,Nat.sub_self];rfl
    ·rw[c1,eF]
     exact .tl qaj (.ptr (.ptr (.own k1 k2 .nil))) (by simp)
   ·obtain⟨v,e,rv⟩:=E2.ow m c om h9
    exact⟨v,by rw[sg c'];exact e,rv⟩
  ·rcases cs h with⟨c1,h9⟩ | ⟨c',h9⟩
   ·cases h9;rw[c1];exact E2.no _ _ _ hat
   ·exact E2.no m c om h9
  ·rcases cs hm with⟨c1,hm9⟩ | ⟨c1,hm9⟩
   ·rcases cs hn with⟨c2,hn9⟩ | ⟨c2,hn9⟩
    ·exact fun z=>absurd (c1.trans c2.symm) z
    ·rw[c1];exact E2.dj _ _ _ _ _ _ hat hn9
   ·rcases cs hn with⟨c2,hn9⟩ | ⟨c2,hn9⟩
    ·rw[c2];exact E2.dj _ _ _ _ _ _ hm9 hat
    ·exact E2.dj _ _ _ _ _ _ hm9 hn9⟩
def qqr (j:Nat)(m:Nat)(n:Int):TX:=fun ρ R _=>∃ a ps q zs d,ρ[j]?=some (some (.ob a (.tl ps)))∧ps[m]?=some (q,some zs)∧atI zs n=some d∧R (.v d) ρ
theorem qoX {Φ H:Hp}{q:Addr}{zs:List D}:∀ {ps:List (Addr × Option (List D))} {F:List Addr} {m:Nat},TlS K Φ H ps F→ps[m]?=some (q,some zs)→∃ ws,H q=some (.lst ws)∧RpL K Φ zs ws:=fun h hm=>let ⟨ws,_,h1,h2,_⟩:=h.out hm;⟨ws,h1,h2⟩
theorem ql5 {y:Str}{j0 j1:Nat}(j m:Nat)(n:Int)(hy:X.N[j]?=some y)(hs1:qeq (.Constant (.int (m:Int)) j0 p1))(hs2:qeq (.Constant (.int n) j1 p2))
  (hv:Vis X.env.scope y:=by first | exact Or.inl rfl | exact Or.inr (Or.inl rfl) | exact Or.inr (Or.inr rfl)) (hd:(y == ("__debug__":Str))=false:=by decide) (hcd:(y == ("__classdict__":Str))=false:=by decide) :
  PX K X (.Subscript (.Subscript (.Name y p3) (.Constant (.int (m:Int)) j0 p1) p4) (.Constant (.int n) j1 p2) pos) (qqr j m n) :=
 ⟨fun hK=>(qlO (qhC hK) (qlO (qni hK) (pv j hy hv hd hcd) qjR hs1) qjR hs2).imp fun σ H Q hq0=>by
  obtain⟨Φ0,H0,Φ,τ,ρ,κ,R,Rx,S,⟨a,ps,q,zs,d,h1,h2,h3,r⟩,k⟩:=hq0
  obtain⟨fp,E⟩:=S.env
  obtain⟨tp,s,_,rr⟩:=E.ow j _ _ h1
  obtain⟨hp,ht,_⟩:=rr.tl_inv
  obtain⟨ws,w1,w2⟩:=qoX ht h2
  obtain⟨v,hv',rv⟩:=qkB w2 h3
  refine⟨.ref tp,s,tp,_,(m:Int),.ref q,rfl,rfl,SqT.of (E.fz _ _ hp),?_,q,ws,n,v,rfl,rfl,SqL.of w1,hv',?_⟩
  ·exact qmi (i:=m) (by rw[List.getElem?_map,h2];rfl) rfl
  ·exact k _ ρ Φ H v r (S.pushV rv) (Same.refl _)⟩
def qr3 (i:Nat)(tb:TX):TX:=fun ρ R Rx=>(∃ a ds,ρ[i]?=some (some (.ob a (.lst ds))))∧tb ρ (xV fun k ρ1=>∃ a ds n d,ρ1[i]?=some (some (.ob a (.lst ds)))∧k=.int n∧atI ds n=some d∧R (.v d) ρ1) Rx
theorem qqf {y:Str}{b:Expr}{tb:TX}(i:Nat)(hy:X.N[i]?=some y)(hb:PX K X b tb)(hs:qeq b)
  (hv:Vis X.env.scope y:=by first | exact Or.inl rfl | exact Or.inr (Or.inl rfl) | exact Or.inr (Or.inr rfl)) (hd:(y == ("__debug__":Str))=false:=by decide) (hcd:(y == ("__classdict__":Str))=false:=by decide) :
  PX K X (.Subscript (.Name y p3) b pos) (qr3 i tb) :=
 ⟨fun hK=>(qlO (qhC hK) (pv i hy hv hd hcd) (hb.pe hK) hs).imp fun σ H Q hq0=>by
  obtain⟨Φ0,H0,Φ,τ,ρ,κ,R,Rx,S,⟨⟨a,ds,h1⟩,t⟩,k⟩:=hq0
  obtain⟨fp,E⟩:=S.env
  obtain⟨q,s,_,_⟩:=E.ow i _ _ h1
  refine⟨.ref q,s,Φ0,H0,Φ,τ,ρ,κ,_,Rx,S,t,fun sm ρ1 Φ1 H1 v r S1 f1=>?_⟩
  obtain⟨kd,rfl,a1,ds1,n,d,e1,rfl,e2,r⟩:=r.get
  have hn:=S1.last
  cases hn
  obtain⟨fp1,E1⟩:=S1.env
  obtain⟨q1,s1,_,r1⟩:=E1.ow i _ _ e1
  rw[s] at s1
  cases s1
  obtain⟨_,ws,w1,w2⟩:=r1.lst_inv
  obtain⟨u,hu,ru⟩:=qkB w2 e2
  exact⟨q,ws,n,u,rfl,rfl,SqL.of w1,hu,k _ ρ1 Φ1 H1 u r ((S1.pop S.lk).pushV ru) f1⟩⟩
end
end L2
namespace Wl
section
variable {κ β : Type} [DecidableEq κ]
def qaq (l:List (κ × β))(k:κ):Option β:=(l.find? fun kv=>decide (kv.1=k)).map (·.2)
def qcF (l:List (κ × β))(k:κ)(v:β):List (κ × β):=if l.any (fun kv=>decide (kv.1=k)) then l.map (fun kv=>if kv.1=k then (kv.1,v) else kv) else l++[(k,v)]
theorem qd5 (k:κ):qaq ([]:List (κ × β)) k=none:=rfl
theorem qaG (x:κ × β)(l:List (κ × β))(k:κ):qaq (x::l) k=if x.1=k then some x.2 else qaq l k:=by
 unfold qaq
 by_cases c:x.1=k
 ·rw[List.find?_cons_of_pos (by simpa using c),if_pos c];rfl
 ·rw[List.find?_cons_of_neg (by simpa using c),if_neg c]
theorem qoQ (l:List (κ × β))(k:κ):l.any (fun kv=>decide (kv.1=k))=(qaq l k).isSome:=by
 induction l with
 | nil=>rfl
 | cons x l ih =>
  rw[List.any_cons,qaG,ih]
  by_cases c:x.1=k
  ·rw[if_pos c,decide_eq_true c];rfl
  ·rw[if_neg c,decide_eq_false c];rfl
theorem qfF {l:List (κ × β)}{k:κ}{v:β}(h:qaq l k=none):qcF l k v=l++[(k,v)]:=by
 unfold qcF
 rw[qoQ,h]
 rfl
theorem qlB (l m:List (κ × β))(k:κ):qaq (l++m) k=match qaq l k with | some v=>some v | none=>qaq m k:=by
 induction l with
 | nil=>rfl
 | cons x l ih =>
  rw[List.cons_append,qaG,qaG,ih]
  by_cases c:x.1=k
  ·rw[if_pos c,if_pos c]
  ·rw[if_neg c,if_neg c]
theorem qjN (l:List (κ × β))(k j:κ)(v:β):qaq (l.map (fun kv=>if kv.1=k then (kv.1,v) else kv)) j=if j=k then (qaq l k).map (fun _=>v) else qaq l j:=by
 induction l with
 | nil=>rw[List.map_nil,qd5,qd5];by_cases c:j=k <;> simp [c,qd5]
 | cons x l ih =>
  rw[List.map_cons,qaG,qaG,qaG,ih]
  by_cases c:x.1=k
  ·simp only [if_pos c]
   by_cases d:j=k
   ·rw[if_pos d,if_pos (c.trans d.symm)];rw[if_pos d];rfl
   ·have e:¬ x.1=j:=fun e=>d (e.symm.trans c)
    rw[if_neg e,if_neg d,if_neg d,if_neg e]
  ·simp only [if_neg c]
   by_cases d:j=k
   ·rw[if_pos d,if_pos d,if_neg (fun e=>c (e.trans d))]
   ·rw[if_neg d,if_neg d]
theorem qa1 (l:List (κ × β))(k j:κ)(v:β):qaq (qcF l k v) j=if j=k then some v else qaq l j:=by
 unfold qcF
 rw[qoQ]
 cases h:qaq l k with
 | some y =>
  rw[if_pos (show (some y).isSome=true from rfl),qjN,h]
  rfl
 | none =>
  rw[if_neg (by simp),qlB]
  by_cases c:j=k
  ·rw[if_pos c,c,h]
   show qaq [(k,v)] k=some v
   rw[qaG,if_pos rfl]
  ·rw[if_neg c]
   cases qaq l j with
   | some y=>rfl
   | none=>show qaq [(k,v)] j=none;rw[qaG,if_neg (fun e=>c e.symm),qd5]
end
section
variable {α : Type} [DecidableEq α]
abbrev Rds (α:Type):=List (α × α × Int)
inductive Rch (rs:Rds α) (a:α):α→Prop where
 | refl:Rch rs a a
 | step {b:α} {r:α × α × Int}:Rch rs a b→r∈rs→r.1=b→Rch rs a r.2.1
theorem Rch.trans {rs:Rds α}{a b c:α}(h:Rch rs a b)(h2:Rch rs b c):Rch rs a c:=by
 induction h2 with
 | refl=>exact h
 | step _ hr e ih=>exact .step ih hr e
theorem Rch.one {rs:Rds α}{r:α × α × Int}(h:r∈rs):Rch rs r.1 r.2.1:=.step .refl h rfl
def qam (rs:Rds α):α→List Nat→Option α
 | a,[]=>some a
 | a,n::l=>match rs[n]? with
  | some r=>if r.1=a then qam rs r.2.1 l else none
  | none=>none
theorem qd8 (rs:Rds α):∀ (l m:List Nat) (a:α),qam rs a (l++m)=(qam rs a l).bind fun b=>qam rs b m
 | [],m,a=>rfl
 | n::l,m,a=>by
  rw[List.cons_append]
  show (match rs[n]? with | some r=>if r.1=a then qam rs r.2.1 (l++m) else none | none=>none)=Option.bind (match rs[n]? with | some r=>if r.1=a then qam rs r.2.1 l else none | none=>none) _
  cases rs[n]? with
  | none=>rfl
  | some r =>
   show (if r.1=a then qam rs r.2.1 (l++m) else none)=Option.bind (if r.1=a then qam rs r.2.1 l else none) _
   by_cases c:r.1=a
   ·rw[if_pos c,if_pos c,qd8 rs l m]
   ·rw[if_neg c,if_neg c];rfl
theorem qlv {rs:Rds α}{n:Nat}{r:α × α × Int}(h:rs[n]?=some r):qam rs r.1 [n]=some r.2.1:=by
 show (match rs[n]? with | some r'=>if r'.1=r.1 then qam rs r'.2.1 [] else none | none=>none)=_
 rw[h]
 show (if r.1=r.1 then qam rs r.2.1 [] else none)=_
 rw[if_pos rfl]
 rfl
theorem qes {rs:Rds α}{a:α}{l:List Nat}{n:Nat}{r:α × α × Int}(h:qam rs a l=some r.1)(hn:rs[n]?=some r):qam rs a (l++[n])=some r.2.1:=by
 rw[qd8,h]
 exact qlv hn
theorem qcT {rs:Rds α}:∀ {l:List Nat} {a b:α},qam rs a l=some b→Rch rs a b
 | [],a,b,h=>by cases h;exact .refl
 | n::l,a,b,h=>by
  have h':(match rs[n]? with | some r=>if r.1=a then qam rs r.2.1 l else none | none=>none)=some b:=h
  cases e:rs[n]? with
  | none=>rw[e] at h';cases h'
  | some r =>
   rw[e] at h'
   have h2:(if r.1=a then qam rs r.2.1 l else none)=some b:=h'
   by_cases c:r.1=a
   ·rw[if_pos c] at h2
    have:=Rch.one (List.mem_of_getElem? e)
    rw[c] at this
    exact this.trans (qcT h2)
   ·rw[if_neg c] at h2;cases h2
def qaS (p:α)(s:List (α × List Nat) × List α)(x:(α × α × Int) × Nat):List (α × List Nat) × List α :=
 if x.1.1=p∧qaq s.1 x.1.2.1=none then (qcF s.1 x.1.2.1 ((qaq s.1 p).getD []++[x.2]),s.2++[x.1.2.1]) else s
def qdU (rs:Rds α)(p:α)(s:List (α × List Nat) × List α):List (α × List Nat) × List α:=rs.zipIdx.foldl (qaS p) s
def qcX (rs:Rds α):Nat→List (α × List Nat) × List α→List (α × List Nat)
 | 0,s=>s.1
 | n+1,s=>match s.2.getLast? with
  | none=>s.1
  | some p=>qcX rs n (qdU rs p (s.1,s.2.dropLast))
def qaY (rs:Rds α)(a:α):List (α × List Nat):=qcX rs (rs.length+1) ([(a,[])],[a])
def qcf (rs:Rds α)(W:List (α × List Nat)):Nat:=(rs.filter fun r=>(qaq W r.2.1).isNone).length
structure Wv (rs:Rds α)(a:α)(s:List (α × List Nat) × List α):Prop where
 s0:qaq s.1 a≠none
 w:∀ p l,qaq s.1 p=some l→qam rs a l=some p
 q:∀ p∈s.2,qaq s.1 p≠none
theorem qfR {γ:Type}{p q:γ→Bool}{l:List γ}(h:∀ x∈l,q x=true→p x=true):(l.filter q).length≤(l.filter p).length:=by
 induction l with
 | nil=>exact Nat.le_refl _
 | cons x l ih =>
  have ih:=ih fun y hy=>h y (List.mem_cons_of_mem _ hy)
  have hx:=h x List.mem_cons_self
  rw[List.filter_cons,List.filter_cons]
  cases hq:q x with
  | true=>rw[if_pos rfl,if_pos (hx hq),List.length_cons,List.length_cons];omega
  | false =>
   rw[if_neg (by simp)]
   split
   ·rw[List.length_cons];omega
   ·exact ih
theorem qfY {γ:Type}{p q:γ→Bool}{l:List γ}(h:∀ x∈l,q x=true→p x=true){y:γ}(hy:y∈l)(hp:p y=true)(hq:q y=false):(l.filter q).length+1≤(l.filter p).length:=by
 induction l with
 | nil=>cases hy
 | cons x l ih =>
  have hx:=h x List.mem_cons_self
  rw[List.filter_cons,List.filter_cons]
  rcases List.mem_cons.mp hy with rfl | hy
  ·rw[hq,hp,if_neg (by simp),if_pos rfl,List.length_cons]
   exact Nat.succ_le_succ (qfR fun z hz=>h z (List.mem_cons_of_mem _ hz))
  ·have ih:=ih (fun z hz=>h z (List.mem_cons_of_mem _ hz)) hy
   cases hq:q x with
   | true=>rw[if_pos rfl,if_pos (hx hq),List.length_cons,List.length_cons];omega
   | false =>
    rw[if_neg (by simp)]
    split
    ·rw[List.length_cons];omega
    ·exact ih
theorem qdE {p x:α}{l:List Nat}{s:List (α × List Nat) × List α}{y:(α × α × Int) × Nat}(h:qaq s.1 x=some l):qaq (qaS p s y).1 x=some l:=by
 unfold qaS
 split
 ·next c =>
  rw[qa1]
  split
  ·next e=>rw[← e,h] at c;cases c.2
  ·exact h
 ·exact h
theorem qcL {rs:Rds α}{a p:α}:∀ (l:List ((α × α × Int) × Nat)) (s:List (α × List Nat) × List α),(∀ x∈l,rs[x.2]?=some x.1)→Wv rs a s→qaq s.1 p≠none →
  Wv rs a (l.foldl (qaS p) s)∧(∀ x w,qaq s.1 x=some w→qaq (l.foldl (qaS p) s).1 x=some w)∧(∀ x∈l,x.1.1=p→qaq (l.foldl (qaS p) s).1 x.1.2.1≠none) ∧
  (∀ x,qaq (l.foldl (qaS p) s).1 x≠none→qaq s.1 x=none→x∈(l.foldl (qaS p) s).2)∧(∀ x∈s.2,x∈(l.foldl (qaS p) s).2)∧(l.foldl (qaS p) s).2.length+qcf rs (l.foldl (qaS p) s).1≤s.2.length+qcf rs s.1
 | [],s,_,h,hp=>⟨h,fun _ _ h=>h,fun _ hx=>(by cases hx),fun x h1 h2=>absurd h2 h1,fun _ h=>h,Nat.le_refl _⟩
 | y::l,s,hl,h,hp=>by
  have hy:=hl y List.mem_cons_self
  have hmem:=List.mem_of_getElem? hy
  obtain⟨W,q⟩:=s
  rw[List.foldl_cons]
  have key:Wv rs a (qaS p (W,q) y)∧(y.1.1=p→qaq (qaS p (W,q) y).1 y.1.2.1≠none)∧(∀ x,qaq (qaS p (W,q) y).1 x≠none→qaq W x=none→x∈(qaS p (W,q) y).2)∧(∀ x∈q,x∈(qaS p (W,q) y).2)∧(qaS p (W,q) y).2.length+qcf rs (qaS p (W,q) y).1≤q.length+qcf rs W:=by
   unfold qaS
   split
   ·next c =>
    have c1:y.1.1=p:=c.1
    have c2:qaq W y.1.2.1=none:=c.2
    refine⟨⟨?_,?_,?_⟩,?_,?_,?_,?_⟩
    ·show qaq (qcF W _ _) a≠none
     rw[qa1];split
     ·simp
     ·exact h.s0
    ·intro x w hw
     have hw:qaq (qcF W y.1.2.1 ((qaq W p).getD []++[y.2])) x=some w:=hw
     rw[qa1] at hw
     by_cases e:x=y.1.2.1
     ·rw[if_pos e] at hw
      cases hw
      cases hg:qaq W p with
      | none=>exact absurd hg hp
      | some wp =>
       have:=h.w p wp hg
       rw[e]
       exact qes (by rw[c1];exact this) hy
     ·rw[if_neg e] at hw;exact h.w x w hw
    ·intro x hx
     show qaq (qcF W _ _) x≠none
     rw[qa1]
     split
     ·simp
     ·next e =>
      rcases List.mem_append.mp hx with hx | hx
      ·exact h.q x hx
      ·exact absurd (List.mem_singleton.mp hx) e
    ·intro _
     show qaq (qcF W _ _) y.1.2.1≠none
     rw[qa1,if_pos rfl];simp
    ·intro x h1 h2
     have h1:qaq (qcF W y.1.2.1 ((qaq W p).getD []++[y.2])) x≠none:=h1
     rw[qa1] at h1
     by_cases e:x=y.1.2.1
     ·rw[e];exact List.mem_append_right _ (List.mem_singleton.mpr rfl)
     ·rw[if_neg e] at h1;exact absurd h2 h1
    ·intro x hx;exact List.mem_append_left _ hx
    ·show (q++[y.1.2.1]).length+qcf rs (qcF W y.1.2.1 ((qaq W p).getD []++[y.2]))≤_
     have:qcf rs (qcF W y.1.2.1 ((qaq W p).getD []++[y.2]))+1≤qcf rs W:=by
      unfold qcf
      refine qfY (y:=y.1) (fun x _ hq=>?_) hmem ?_ ?_
      ·rw[qa1] at hq
       by_cases e:x.2.1=y.1.2.1
       ·rw[if_pos e] at hq;cases hq
       ·rw[if_neg e] at hq;exact hq
      ·rw[c2];rfl
      ·rw[qa1,if_pos rfl];rfl
     rw[List.length_append]
     show q.length+1+_≤_
     omega
   ·next c =>
    refine⟨h,fun e=>?_,fun x h1 h2=>absurd h2 h1,fun _ hx=>hx,Nat.le_refl _⟩
    intro hn
    exact c ⟨e,hn⟩
  obtain⟨k1,k2,k3,k4,k5⟩:=key
  have hp':qaq (qaS p (W,q) y).1 p≠none:=by
   cases hg:qaq W p with
   | none=>exact absurd hg hp
   | some w=>rw[qdE (s:=(W,q)) hg];simp
  obtain⟨r1,r2,r3,r4,r5,r6⟩:=qcL l (qaS p (W,q) y) (fun x hx=>hl x (List.mem_cons_of_mem _ hx)) k1 hp'
  refine⟨r1,fun x w hw=>r2 x w (qdE (s:=(W,q)) hw),fun x hx e=>?_,fun x h1 h2=>?_,fun x hx=>r5 x (k4 x hx),Nat.le_trans r6 k5⟩
  ·rcases List.mem_cons.mp hx with rfl | hx
   ·have:=k2 e
    cases hg:qaq (qaS p (W,q) x).1 x.1.2.1 with
    | none=>exact absurd hg this
    | some w=>rw[r2 _ _ hg];simp
   ·exact r3 x hx e
  ·by_cases hs:qaq (qaS p (W,q) y).1 x=none
   ·exact r4 x h1 hs
   ·exact r5 x (k3 x hs h2)
theorem qcI {γ:Type}{l:List γ}{x:γ × Nat}(h:x∈l.zipIdx):l[x.2]?=some x.1:=by
 obtain⟨i,hi⟩:=List.getElem?_of_mem h
 rw[List.getElem?_zipIdx] at hi
 cases e:l[i]? with
 | none=>rw[e] at hi;cases hi
 | some y=>rw[e] at hi;cases hi;simpa using e
theorem qiL {γ:Type}{l:List γ}{x:γ}(h:x∈l):∃ n,(x,n)∈l.zipIdx:=by
 obtain⟨i,hi⟩:=List.getElem?_of_mem h
 exact⟨i,List.mem_of_getElem? (i:=i) (by rw[List.getElem?_zipIdx,hi];simp)⟩
def Cl (rs:Rds α)(s:List (α × List Nat) × List α):Prop:=∀ p,qaq s.1 p≠none→p∉s.2→∀ r∈rs,r.1=p→qaq s.1 r.2.1≠none
theorem qkZ {rs:Rds α}{a p:α}{W:List (α × List Nat)}{q:List α}(h:Wv rs a (W,q))(hc:Cl rs (W,q))(hq:q.getLast?=some p):Cl rs (qdU rs p (W,q.dropLast)):=by
 have hq':q=q.dropLast++[p]:=by
  have hne:q≠[]:=fun e=>by rw[e] at hq;cases hq
  rw[List.getLast?_eq_some_getLast hne] at hq
  cases hq
  exact (List.dropLast_concat_getLast hne).symm
 have hpq:p∈q:=by rw[hq'];exact List.mem_append_right _ (List.mem_singleton.mpr rfl)
 have h0:Wv rs a (W,q.dropLast):=⟨h.s0,h.w,fun x hx=>h.q x (by rw[hq'];exact List.mem_append_left _ hx)⟩
 obtain⟨r1,r2,r3,r4,r5,r6⟩:=qcL (p:=p) rs.zipIdx (W,q.dropLast) (fun x hx=>qcI hx) h0 (h.q p hpq)
 intro x hx hn r hr e
 by_cases c:x=p
 ·obtain⟨n,hn⟩:=qiL hr
  exact r3 (r,n) hn (e.trans c)
 ·cases hW:qaq W x with
  | none=>exact absurd (r4 x hx hW) hn
  | some w =>
   have hxq:x∉q:=fun z=>by
    rw[hq'] at z
    rcases List.mem_append.mp z with z | z
    ·exact hn (r5 x z)
    ·exact c (List.mem_singleton.mp z)
   have:=hc x (by rw[hW];simp) hxq r hr e
   cases hg:qaq W r.2.1 with
   | none=>exact absurd hg this
   | some w=>show qaq (rs.zipIdx.foldl (qaS p) (W,q.dropLast)).1 r.2.1≠none;rw[r2 _ _ hg];simp
theorem qfC {rs:Rds α}{a:α}:∀ (n:Nat) (s:List (α × List Nat) × List α),Wv rs a s→Cl rs s→s.2.length+qcf rs s.1≤n →
  (∀ p l,qaq (qcX rs n s) p=some l→qam rs a l=some p)∧qaq (qcX rs n s) a≠none∧(∀ x w,qaq s.1 x=some w→qaq (qcX rs n s) x=some w)∧∀ r∈rs,qaq (qcX rs n s) r.1≠none→qaq (qcX rs n s) r.2.1≠none
 | 0,s,h,hc,hm=>by
  have:s.2=[]:=List.length_eq_zero_iff.mp (by omega)
  exact⟨h.w,h.s0,fun _ _ h=>h,fun r hr hx=>hc r.1 hx (by rw[this];exact List.not_mem_nil) r hr rfl⟩
 | n+1,(W,q),h,hc,hm=>by
  cases hq:q.getLast? with
  | none =>
   have e:qcX rs (n+1) (W,q)=W:=by unfold qcX;rw[show (W,q).2.getLast?=none from hq]
   have:q=[]:=List.getLast?_eq_none_iff.mp hq
   rw[e]
   exact⟨h.w,h.s0,fun _ _ h=>h,fun r hr hx=>hc r.1 hx (by show r.1∉q;rw[this];exact List.not_mem_nil) r hr rfl⟩
  | some p =>
   have e:qcX rs (n+1) (W,q)=qcX rs n (qdU rs p (W,q.dropLast)):=by conv=>lhs;unfold qcX;rw[show (W,q).2.getLast?=some p from hq]
   have hne:q≠[]:=fun e=>by rw[e] at hq;cases hq
   have hq':q=q.dropLast++[p]:=by
    rw[List.getLast?_eq_some_getLast hne] at hq
    cases hq
    exact (List.dropLast_concat_getLast hne).symm
   have hpq:p∈q:=by rw[hq'];exact List.mem_append_right _ (List.mem_singleton.mpr rfl)
   have h0:Wv rs a (W,q.dropLast):=⟨h.s0,h.w,fun x hx=>h.q x (by rw[hq'];exact List.mem_append_left _ hx)⟩
   obtain⟨r1,r2,r3,r4,r5,r6⟩:=qcL (p:=p) rs.zipIdx (W,q.dropLast) (fun x hx=>qcI hx) h0 (h.q p hpq)
   have hlen:q.dropLast.length+1=q.length:=by rw[List.length_dropLast];have:=List.length_pos_iff.mpr hne;omega
   rw[e]
   have r6':(qdU rs p (W,q.dropLast)).2.length+qcf rs (qdU rs p (W,q.dropLast)).1≤q.dropLast.length+qcf rs W:=r6
   have hm':q.length+qcf rs W≤n+1:=hm
   obtain⟨z1,z2,z3,z4⟩:=qfC n (qdU rs p (W,q.dropLast)) r1 (qkZ h hc hq) (by omega)
   exact⟨z1,z2,fun x w hx=>z3 x w (r2 x w hx),z4⟩
theorem qfW (rs:Rds α)(a:α):Wv rs a ([(a,[])],[a])∧Cl rs ([(a,[])],[a])∧([a]:List α).length+qcf rs [(a,[])]≤rs.length+1:=by
 refine⟨⟨?_,fun p l h=>?_,fun p hp=>?_⟩,fun p hp hn=>?_,?_⟩
 ·rw[qaG,if_pos rfl];simp
 ·rw[qaG] at h
  by_cases c:a=p
  ·rw[if_pos c] at h;cases h;rw[c];rfl
  ·rw[if_neg c] at h;cases h
 ·rw[List.mem_singleton.mp hp,qaG,if_pos rfl];simp
 ·exfalso
  rw[qaG] at hp
  by_cases c:a=p
  ·exact hn (List.mem_singleton.mpr c.symm)
  ·rw[if_neg c] at hp;exact hp rfl
 ·have:qcf rs ([(a,[])]:List (α × List Nat))≤rs.length:=List.length_filter_le _ _
  show 1+_≤_
  omega
theorem qg7 {rs:Rds α}{a p:α}{l:List Nat}(h:qaq (qaY rs a) p=some l):qam rs a l=some p:=by
 obtain⟨h1,h2,h3⟩:=qfW rs a
 exact (qfC _ _ h1 h2 h3).1 p l h
theorem walksF_some {rs:Rds α}{a p:α}:(qaq (qaY rs a) p).isSome=true↔Rch rs a p:=by
 obtain⟨h1,h2,h3⟩:=qfW rs a
 obtain⟨z1,z2,_,z4⟩:=qfC _ _ h1 h2 h3
 constructor
 ·intro h
  obtain⟨l,hl⟩:=Option.isSome_iff_exists.mp h
  exact qcT (z1 p l hl)
 ·intro h
  have:qaq (qaY rs a) p≠none:=by
   induction h with
   | refl=>exact z2
   | step _ hr e ih=>exact z4 _ hr (by rw[e];exact ih)
  cases hg:qaq (qaY rs a) p with
  | none=>exact absurd hg this
  | some l=>rfl
end
end Wl
namespace Wl
section
variable {α : Type} [DecidableEq α]
def qpA (rs:Rds α)(n:Nat):Int:=match rs[n]? with | some r=>r.2.2 | none=>0
theorem qkq {rs:Rds α}{n:Nat}{r:α × α × Int}(h:rs[n]?=some r):qpA rs n=r.2.2:=by unfold qpA;rw[h]
def qbO (rs:Rds α)(l:List Nat):Int:=(l.map (qpA rs)).sum
theorem qib:∀ (l m:List Int),(l++m).sum=l.sum+m.sum
 | [],m=>by simp
 | x::l,m=>by rw[List.cons_append,List.sum_cons,List.sum_cons,qib l m];omega
theorem qd9 (rs:Rds α)(l m:List Nat):qbO rs (l++m)=qbO rs l+qbO rs m:=by
 unfold qbO
 rw[List.map_append,qib]
theorem qlp {rs:Rds α}{n:Nat}{r:α × α × Int}(h:rs[n]?=some r):qbO rs [n]=r.2.2:=by
 unfold qbO
 rw[List.map_cons,qkq h]
 simp
theorem qeH {rs:Rds α}{l:List Nat}{n:Nat}{r:α × α × Int}(h:rs[n]?=some r):qbO rs (l++[n])=qbO rs l+r.2.2:=by rw[qd9,qlp h]
theorem qbv {rs:Rds α}{a b:α}{l m:List Nat}(h:qam rs a (l++m)=some b):∃ q,qam rs a l=some q∧qam rs q m=some b:=by
 rw[qd8] at h
 cases e:qam rs a l with
 | none=>rw[e] at h;cases h
 | some q=>rw[e] at h;exact⟨q,rfl,h⟩
theorem qcO {rs:Rds α}{a b:α}{n:Nat}(h:qam rs a [n]=some b):∃ r,rs[n]?=some r∧r.1=a∧r.2.1=b:=by
 have h':(match rs[n]? with | some r=>if r.1=a then qam rs r.2.1 [] else none | none=>none)=some b:=h
 cases e:rs[n]? with
 | none=>rw[e] at h';cases h'
 | some r =>
  rw[e] at h'
  have h2:(if r.1=a then some r.2.1 else none)=some b:=h'
  by_cases c:r.1=a
  ·rw[if_pos c] at h2;cases h2;exact⟨r,rfl,c,rfl⟩
  ·rw[if_neg c] at h2;cases h2
theorem qcp {rs:Rds α}{a b:α}{l:List Nat}{n:Nat}(h:qam rs a (l++[n])=some b):∃ r,rs[n]?=some r∧qam rs a l=some r.1∧r.2.1=b:=by
 obtain⟨q,h1,h2⟩:=qbv h
 obtain⟨r,h3,h4,h5⟩:=qcO h2
 exact⟨r,h3,by rw[h1,h4],h5⟩
def qbH (rs:Rds α)(W S:List (α × List Nat))(n:Nat):List (α × List Nat) :=
 match rs[n]? with
 | none=>S
 | some r=>match qaq W r.1 with
  | none=>S
  | some w=>match qaq S r.2.1 with
   | none=>qcF S r.2.1 (w++[n])
   | some v=>if qbO rs (w++[n])<qbO rs v then qcF S r.2.1 (w++[n]) else S
def qma (rs:Rds α)(ns:List Nat)(W:List (α × List Nat)):List (α × List Nat):=ns.foldl (qbH rs W) W
def itH (rs:Rds α)(ns:List Nat)(a:α):Nat→List (α × List Nat)
 | 0=>[(a,[])]
 | k+1=>qma rs ns (itH rs ns a k)
theorem qgO {rs:Rds α}{W S:List (α × List Nat)}{n:Nat}{r:α × α × Int}(h:rs[n]?=some r)(hw:qaq W r.1=none):qbH rs W S n=S:=by
 unfold qbH;rw[h]
 show (match qaq W r.1 with | none=>S | some w=>_)=S
 rw[hw]
theorem qgA {rs:Rds α}{W S:List (α × List Nat)}{n:Nat}{r:α × α × Int}{w:List Nat}(h:rs[n]?=some r)(hw:qaq W r.1=some w)(hs:qaq S r.2.1=none):qbH rs W S n=qcF S r.2.1 (w++[n]):=by
 unfold qbH;rw[h]
 show (match qaq W r.1 with | none=>S | some w=>match qaq S r.2.1 with | none=>qcF S r.2.1 (w++[n]) | some v=>_)=_
 rw[hw]
 show (match qaq S r.2.1 with | none=>qcF S r.2.1 (w++[n]) | some v=>_)=_
 rw[hs]
theorem qdf {rs:Rds α}{W S:List (α × List Nat)}{n:Nat}{r:α × α × Int}{w v:List Nat}(h:rs[n]?=some r)(hw:qaq W r.1=some w)(hs:qaq S r.2.1=some v):qbH rs W S n=if qbO rs (w++[n])<qbO rs v then qcF S r.2.1 (w++[n]) else S:=by
 unfold qbH;rw[h]
 show (match qaq W r.1 with | none=>S | some w=>match qaq S r.2.1 with | none=>qcF S r.2.1 (w++[n]) | some v=>if qbO rs (w++[n])<qbO rs v then qcF S r.2.1 (w++[n]) else S)=_
 rw[hw]
 show (match qaq S r.2.1 with | none=>qcF S r.2.1 (w++[n]) | some v=>if qbO rs (w++[n])<qbO rs v then qcF S r.2.1 (w++[n]) else S)=_
 rw[hs]
theorem qcw (rs:Rds α)(W S:List (α × List Nat))(n:Nat) :
  (qbH rs W S n=S∧∀ r w,rs[n]?=some r→qaq W r.1=some w→∃ v,qaq S r.2.1=some v∧qbO rs v≤qbO rs (w++[n])) ∨
  ∃ r w,rs[n]?=some r∧qaq W r.1=some w∧qbH rs W S n=qcF S r.2.1 (w++[n])∧∀ v,qaq S r.2.1=some v→qbO rs (w++[n])<qbO rs v:=by
 cases h:rs[n]? with
 | none=>exact .inl ⟨by unfold qbH;rw[h],fun r w h2=>(by cases h2)⟩
 | some r =>
  cases hw:qaq W r.1 with
  | none=>exact .inl ⟨qgO h hw,fun r' w h2 h3=>by cases h2;rw[hw] at h3;cases h3⟩
  | some w =>
   cases hs:qaq S r.2.1 with
   | none=>exact .inr ⟨r,w,rfl,hw,qgA h hw hs,fun v hv=>by rw[hs] at hv;cases hv⟩
   | some v =>
    by_cases c:qbO rs (w++[n])<qbO rs v
    ·exact .inr ⟨r,w,rfl,hw,by rw[qdf h hw hs,if_pos c],fun v' hv=>by rw[hs] at hv;cases hv;exact c⟩
    ·exact .inl ⟨by rw[qdf h hw hs,if_neg c],fun r' w' h2 h3=>by cases h2;rw[hw] at h3;cases h3;exact⟨v,hs,by omega⟩⟩
theorem qct {rs:Rds α}{W:List (α × List Nat)}:∀ (l:List Nat) (S:List (α × List Nat)),
  (∀ x v,qaq S x=some v→∃ v',qaq (l.foldl (qbH rs W) S) x=some v'∧qbO rs v'≤qbO rs v) ∧
  (∀ x,qaq (l.foldl (qbH rs W) S) x=qaq S x∨∃ n∈l,∃ r w,rs[n]?=some r∧r.2.1=x∧qaq W r.1=some w∧qaq (l.foldl (qbH rs W) S) x=some (w++[n])∧∀ v,qaq S x=some v→qbO rs (w++[n])<qbO rs v) ∧
  (∀ n∈l,∀ r w,rs[n]?=some r→qaq W r.1=some w→∃ v',qaq (l.foldl (qbH rs W) S) r.2.1=some v'∧qbO rs v'≤qbO rs (w++[n]))
 | [],S=>⟨fun x v h=>⟨v,h,Int.le_refl _⟩,fun x=>.inl rfl,fun n hn=>(by cases hn)⟩
 | n::l,S=>by
  obtain⟨A,B,C⟩:=qct (rs:=rs) (W:=W) l (qbH rs W S n)
  rw[List.foldl_cons]
  have A1:∀ x v,qaq S x=some v→∃ v',qaq (qbH rs W S n) x=some v'∧qbO rs v'≤qbO rs v:=by
   intro x v hv
   rcases qcw rs W S n with⟨h,_⟩ | ⟨r,w,h1,h2,h3,h4⟩
   ·rw[h];exact⟨v,hv,Int.le_refl _⟩
   ·rw[h3,qa1]
    by_cases c:x=r.2.1
    ·rw[if_pos c]
     exact⟨_,rfl,Int.le_of_lt (h4 v (by rw[← c];exact hv))⟩
    ·rw[if_neg c];exact⟨v,hv,Int.le_refl _⟩
  refine⟨fun x v hv=>?_,fun x=>?_,fun m hm r w hr hw=>?_⟩
  ·obtain⟨v1,h1,l1⟩:=A1 x v hv
   obtain⟨v2,h2,l2⟩:=A x v1 h1
   exact⟨v2,h2,Int.le_trans l2 l1⟩
  ·rcases B x with h | ⟨m,hm,r,w,h1,h2,h3,h4,h5⟩
   ·rcases qcw rs W S n with⟨e,_⟩ | ⟨r,w,h1,h2,h3,h4⟩
    ·left;rw[h,e]
    ·by_cases c:x=r.2.1
     ·right
      refine⟨n,List.mem_cons_self,r,w,h1,c.symm,h2,?_,fun v hv=>h4 v (by rw[← c];exact hv)⟩
      rw[h,h3,qa1,if_pos c]
     ·left;rw[h,h3,qa1,if_neg c]
   ·right
    refine⟨m,List.mem_cons_of_mem _ hm,r,w,h1,h2,h3,h4,fun v hv=>?_⟩
    obtain⟨v1,h6,l1⟩:=A1 x v hv
    exact Int.lt_of_lt_of_le (h5 v1 h6) l1
  ·rcases List.mem_cons.mp hm with rfl | hm
   ·rcases qcw rs W S m with⟨e,h⟩ | ⟨r',w',h1,h2,h3,h4⟩
    ·obtain⟨v,hv,lv⟩:=h r w hr hw
     obtain⟨v2,h2,l2⟩:=A r.2.1 v (by rw[e];exact hv)
     exact⟨v2,h2,Int.le_trans l2 lv⟩
    ·rw[hr] at h1;cases h1
     rw[hw] at h2;cases h2
     exact A r.2.1 (w++[m]) (by rw[h3,qa1,if_pos rfl])
   ·exact C m hm r w hr hw
variable {rs : Rds α} {ns : List Nat} {a : α}
theorem qcQ:∀ (k:Nat) {x:α} {l:List Nat},qaq (itH rs ns a k) x=some l→qam rs a l=some x∧l.length≤k∧∀ n∈l,n∈ns
 | 0,x,l,h=>by
  have h:qaq [(a,[])] x=some l:=h
  rw[qaG] at h
  by_cases c:a=x
  ·rw[if_pos c] at h;cases h
   exact⟨by rw[c];rfl,Nat.le_refl _,fun n hn=>(by cases hn)⟩
  ·rw[if_neg c] at h;cases h
 | k+1,x,l,h=>by
  have h:qaq (ns.foldl (qbH rs (itH rs ns a k)) (itH rs ns a k)) x=some l:=h
  rcases (qct (rs:=rs) (W:=itH rs ns a k) ns (itH rs ns a k)).2.1 x with e | ⟨n,hn,r,w,h1,h2,h3,h4,h5⟩
  ·rw[e] at h
   obtain⟨z1,z2,z3⟩:=qcQ k h
   exact⟨z1,by omega,z3⟩
  ·rw[h4] at h;cases h
   obtain⟨z1,z2,z3⟩:=qcQ k h3
   refine⟨by rw[← h2];exact qes z1 h1,by rw[List.length_append];show _+1≤_;omega,fun m hm=>?_⟩
   rcases List.mem_append.mp hm with hm | hm
   ·exact z3 m hm
   ·rw[List.mem_singleton.mp hm];exact hn
theorem ql7 (k:Nat){x:α}{v:List Nat}(h:qaq (itH rs ns a k) x=some v):∃ v',qaq (itH rs ns a (k+1)) x=some v'∧qbO rs v'≤qbO rs v :=
 (qct (rs:=rs) (W:=itH rs ns a k) ns (itH rs ns a k)).1 x v h
theorem qh1 (k:Nat){n:Nat}{r:α × α × Int}{w:List Nat}(hn:n∈ns)(hr:rs[n]?=some r)(hw:qaq (itH rs ns a k) r.1=some w):∃ v',qaq (itH rs ns a (k+1)) r.2.1=some v'∧qbO rs v'≤qbO rs w+r.2.2:=by
 obtain⟨v,h1,h2⟩:=(qct (rs:=rs) (W:=itH rs ns a k) ns (itH rs ns a k)).2.2 n hn r w hr hw
 rw[qeH hr] at h2
 exact⟨v,h1,h2⟩
theorem qgg (k:Nat):∃ v,qaq (itH rs ns a k) a=some v∧qbO rs v≤0:=by
 induction k with
 | zero=>exact⟨[],by show qaq [(a,[])] a=_;rw[qaG,if_pos rfl],Int.le_refl _⟩
 | succ k ih =>
  obtain⟨v,h1,h2⟩:=ih
  obtain⟨v',h3,h4⟩:=ql7 k h1
  exact⟨v',h3,Int.le_trans h4 h2⟩
theorem qj4:∀ (k:Nat) {x:α},qaq (itH rs ns a (k+1)) x≠qaq (itH rs ns a k) x→∃ l,qaq (itH rs ns a (k+1)) x=some l∧l.length=k+1∧∀ v,qaq (itH rs ns a k) x=some v→qbO rs l<qbO rs v
 | 0,x,h=>by
  rcases (qct (rs:=rs) (W:=itH rs ns a 0) ns (itH rs ns a 0)).2.1 x with e | ⟨n,hn,r,w,h1,h2,h3,h4,h5⟩
  ·exact absurd e h
  ·refine⟨_,h4,?_,h5⟩
   have:=(qcQ 0 h3).2.1
   rw[List.length_append]
   show w.length+1=1
   omega
 | k+1,x,h=>by
  rcases (qct (rs:=rs) (W:=itH rs ns a (k+1)) ns (itH rs ns a (k+1))).2.1 x with e | ⟨n,hn,r,w,h1,h2,h3,h4,h5⟩
  ·exact absurd e h
  ·refine⟨_,h4,?_,h5⟩
   rw[List.length_append]
   show w.length+1=_
   by_cases c:qaq (itH rs ns a (k+1)) r.1=qaq (itH rs ns a k) r.1
   ·exfalso
    rw[c] at h3
    obtain⟨v,hv,lv⟩:=qh1 k hn h1 h3
    rw[h2] at hv
    have:=h5 v hv
    rw[qeH h1] at this
    omega
   ·obtain⟨l,z1,z2,_⟩:=qj4 k c
    rw[h3] at z1;cases z1
    omega
theorem qid:∀ (k:Nat) {x:α} {l:List Nat},qam rs a l=some x→(∀ n∈l,n∈ns)→l.length≤k→∃ v,qaq (itH rs ns a k) x=some v∧qbO rs v≤qbO rs l:=by
 intro k
 induction k with
 | zero =>
  intro x l h _ hl
  have:l=[]:=List.length_eq_zero_iff.mp (by omega)
  subst this
  cases h
  exact qgg 0
 | succ k ih =>
  intro x l h hn hl
  rcases List.eq_nil_or_concat l with rfl | ⟨l',n,rfl⟩
  ·cases h;exact qgg _
  ·rw[List.concat_eq_append] at h hn hl ⊢
   obtain⟨r,h1,h2,h3⟩:=qcp h
   rw[List.length_append] at hl
   have hl:l'.length+1≤k+1:=hl
   obtain⟨v,h4,h5⟩:=ih h2 (fun m hm=>hn m (List.mem_append_left _ hm)) (by omega)
   obtain⟨v',h6,h7⟩:=qh1 k (hn n (List.mem_append_right _ (List.mem_singleton.mpr rfl))) h1 h4
   refine⟨v',by rw[← h3];exact h6,?_⟩
   rw[qeH h1]
   omega
def qb2 (rs:Rds α):List (α × Nat)→Nat→List Nat→Option (Nat × Nat)
 | _,_,[]=>none
 | came,i,n::l=>match rs[n]? with
  | none=>none
  | some r=>match qaq came r.2.1 with
   | some c=>some (c,i+1)
   | none=>qb2 rs (qcF came r.2.1 (i+1)) (i+1) l
theorem qey {came:List (α × Nat)}{i n c:Nat}{l:List Nat}{r:α × α × Int}(hr:rs[n]?=some r)(h:qaq came r.2.1=some c):qb2 rs came i (n::l)=some (c,i+1):=by
 unfold qb2;rw[hr]
 show (match qaq came r.2.1 with | some c=>some (c,i+1) | none=>_)=_
 rw[h]
theorem qfz {came:List (α × Nat)}{i n:Nat}{l:List Nat}{r:α × α × Int}(hr:rs[n]?=some r)(h:qaq came r.2.1=none):qb2 rs came i (n::l)=qb2 rs (qcF came r.2.1 (i+1)) (i+1) l:=by
 conv=>lhs;unfold qb2
 rw[hr]
 show (match qaq came r.2.1 with | some c=>some (c,i+1) | none=>qb2 rs (qcF came r.2.1 (i+1)) (i+1) l)=_
 rw[h]
theorem qeK {γ:Type}{w:List γ}{i:Nat}{n:γ}{l:List γ}(h:w.drop i=n::l):w[i]?=some n∧w.drop (i+1)=l∧w.take (i+1)=w.take i++[n]∧i<w.length:=by
 have h1:w[i]?=some n:=by
  have:=congrArg (fun z=>z[0]?) h
  simpa using this
 refine⟨h1,?_,by rw[List.take_add_one,h1];rfl,(List.getElem?_eq_some_iff.mp h1).1⟩
 rw[← List.tail_drop,h];rfl
theorem qi8 {w:List Nat}{b:α}(hw:qam rs a w=some b){i n:Nat}{l:List Nat}(h:w.drop i=n::l):∃ r,rs[n]?=some r∧qam rs a (w.take i)=some r.1∧qam rs a (w.take (i+1))=some r.2.1:=by
 obtain⟨_,h2,h3,_⟩:=qeK h
 have e:w=w.take (i+1)++w.drop (i+1):=(List.take_append_drop _ _).symm
 rw[e] at hw
 obtain⟨q,h4,_⟩:=qbv hw
 rw[h3] at h4
 obtain⟨r,z1,z2,z3⟩:=qcp h4
 exact⟨r,z1,z2,by rw[h3,h4,z3]⟩
theorem qfb {w:List Nat}{b:α}(hw:qam rs a w=some b):∀ (l:List Nat) (i:Nat) (came:List (α × Nat)),w.drop i=l→(∀ e c,qaq came e=some c→c≤i∧qam rs a (w.take c)=some e)→∀ {c e:Nat},qb2 rs came i l=some (c,e)→c<e∧e≤w.length∧∃ p,qam rs a (w.take c)=some p∧qam rs a (w.take e)=some p
 | [],_,_,_,_,_,_,h=>by cases h
 | n::l,i,came,hd,hc,c,e,h=>by
  obtain⟨_,h2,h3,h4⟩:=qeK hd
  obtain⟨r,z1,z2,z3⟩:=qi8 hw hd
  cases hg:qaq came r.2.1 with
  | some c' =>
   rw[qey z1 hg] at h
   cases h
   obtain⟨y1,y2⟩:=hc _ _ hg
   exact⟨by omega,h4,r.2.1,y2,z3⟩
  | none =>
   rw[qfz z1 hg] at h
   refine qfb hw l (i+1) _ h2 (fun e' c' hg'=>?_) h
   rw[qa1] at hg'
   by_cases ce:e'=r.2.1
   ·rw[if_pos ce] at hg';cases hg';exact⟨Nat.le_refl _,by rw[ce];exact z3⟩
   ·rw[if_neg ce] at hg'
    obtain⟨y1,y2⟩:=hc _ _ hg'
    exact⟨by omega,y2⟩
theorem qf5 {γ:Type}[DecidableEq γ]:∀ {l m:List γ},l.Nodup→(∀ x∈l,x∈m)→l.length≤m.length
 | [],_,_,_=>Nat.zero_le _
 | x::l,m,h,hs=>by
  have hx:=hs x List.mem_cons_self
  obtain⟨h1,h2⟩:=List.nodup_cons.mp h
  have:=qf5 (m:=m.erase x) h2 fun y hy=>by
   have hne:y≠x:=fun e=>h1 (e ▸ hy)
   exact (List.mem_erase_of_ne hne).mpr (hs y (List.mem_cons_of_mem _ hy))
  rw[List.length_erase_of_mem hx] at this
  have:=List.length_pos_of_mem hx
  rw[List.length_cons]
  omega
theorem qkX {β:Type}(l:List (α × β))(k:α):qaq l k=none→k∉l.map (·.1):=by
 intro h hk
 obtain⟨x,hx,rfl⟩:=List.mem_map.mp hk
 have:l.any (fun kv=>decide (kv.1=x.1))=true:=List.any_eq_true.mpr ⟨x,hx,decide_eq_true rfl⟩
 rw[qoQ,h] at this
 cases this
theorem qe6 {us:List α}{w:List Nat}{b:α}(hw:qam rs a w=some b)(hu:∀ n∈w,∀ r,rs[n]?=some r→r.2.1∈us):∀ (l:List Nat) (i:Nat) (came:List (α × Nat)),w.drop i=l→i≤w.length→(came.map (·.1)).Nodup→(∀ k∈came.map (·.1),k∈us)→came.length=i+1→qb2 rs came i l=none→w.length+1≤us.length
 | [],i,came,hd,hi,hn,hk,hl,_=>by
  have:w.length≤i:=List.drop_eq_nil_iff.mp hd
  have:=qf5 hn hk
  rw[List.length_map] at this
  omega
 | n::l,i,came,hd,hi,hn,hk,hl,h=>by
  obtain⟨h1,h2,h3,h4⟩:=qeK hd
  obtain⟨r,z1,z2,z3⟩:=qi8 hw hd
  cases hg:qaq came r.2.1 with
  | some c'=>rw[qey z1 hg] at h;cases h
  | none =>
   rw[qfz z1 hg,qfF hg] at h
   have hnm:=qkX came _ hg
   refine qe6 hw hu l (i+1) _ h2 h4 ?_ ?_ ?_ h
   ·rw[List.map_append]
    refine List.nodup_append.mpr ⟨hn,by simp,fun x hx y hy=>?_⟩
    have:y=r.2.1:=by simpa using hy
    rw[this]
    exact fun e=>hnm (e ▸ hx)
   ·intro k hk'
    rw[List.map_append] at hk'
    rcases List.mem_append.mp hk' with hk' | hk'
    ·exact hk k hk'
    ·have:k=r.2.1:=by simpa using hk'
     rw[this]
     exact hu n (List.mem_of_getElem? h1) r z1
   ·rw[List.length_append,hl];rfl
theorem qjd {us:List α}{w:List Nat}{b:α}(ha:a∈us)(hw:qam rs a w=some b)(hu:∀ n∈w,∀ r,rs[n]?=some r→r.2.1∈us)(hl:us.length≤w.length):∃ c e p,qb2 rs [(a,0)] 0 w=some (c,e)∧c<e∧e≤w.length∧qam rs a (w.take c)=some p∧qam rs a (w.take e)=some p:=by
 cases h:qb2 rs [(a,0)] 0 w with
 | none =>
  have:=qe6 (us:=us) hw hu w 0 [(a,0)] rfl (Nat.zero_le _) (by simp) (fun k hk=>by have e:k=a:=(by simpa using hk);rw[e];exact ha) rfl h
  omega
 | some x =>
  obtain⟨c,e⟩:=x
  obtain⟨h1,h2,p,h3,h4⟩:=qfb hw w 0 [(a,0)] rfl (fun e' c' hg=>by
   rw[qaG] at hg
   by_cases ce:a=e'
   ·rw[if_pos ce] at hg;cases hg;exact⟨Nat.le_refl _,by rw[ce];rfl⟩
   ·rw[if_neg ce] at hg;cases hg) h
  exact⟨c,e,p,rfl,h1,h2,h3,h4⟩
theorem qif {w:List Nat}{b p:α}{c e:Nat}(hw:qam rs a w=some b)(hce:c<e)(he:e≤w.length)(h1:qam rs a (w.take c)=some p)(h2:qam rs a (w.take e)=some p) :
  qam rs p ((w.take e).drop c)=some p∧((w.take e).drop c).length=e - c∧qam rs a (w.take c++w.drop e)=some b∧qbO rs w=qbO rs (w.take c++w.drop e)+qbO rs ((w.take e).drop c)∧(w.take c++w.drop e).length+(e - c)=w.length:=by
 have t1:w.take e=w.take c++(w.take e).drop c:=by
  have:=(List.take_append_drop c (w.take e)).symm
  rw[List.take_take,Nat.min_eq_left (Nat.le_of_lt hce)] at this
  exact this
 have t2:w=w.take e++w.drop e:=(List.take_append_drop e w).symm
 have hl:((w.take e).drop c).length=e - c:=by rw[List.length_drop,List.length_take];omega
 refine⟨?_,hl,?_,?_,?_⟩
 ·rw[t1] at h2
  obtain⟨q,y1,y2⟩:=qbv h2
  rw[h1] at y1;cases y1
  exact y2
 ·rw[t2] at hw
  obtain⟨q,y1,y2⟩:=qbv hw
  rw[h2] at y1;cases y1
  rw[qd8,h1]
  exact y2
 ·conv=>lhs;rw[t2,qd9,t1,qd9]
  rw[qd9]
  omega
 ·rw[List.length_append,List.length_take,List.length_drop];omega
theorem qkz {w:List Nat}{c e:Nat}{n:Nat}(h:n∈w.take c++w.drop e):n∈w:=by
 rcases List.mem_append.mp h with h | h
 ·exact List.mem_of_mem_take h
 ·exact List.mem_of_mem_drop h
structure Inn (rs:Rds α)(ns:List Nat)(us:List α)(a:α):Prop where
 st:a∈us
 n:∀ n∈ns,∃ r,rs[n]?=some r∧r.1∈us∧r.2.1∈us
 w:∀ v∈us,∃ l,qam rs a l=some v∧∀ n∈l,n∈ns
theorem Inn.e {us:List α}(h:Inn rs ns us a){w:List Nat}(hw:∀ n∈w,n∈ns):∀ n∈w,∀ r,rs[n]?=some r→r.2.1∈us:=by
 intro n hn r hr
 obtain⟨r',h1,_,h2⟩:=h.n n (hw n hn)
 rw[hr] at h1;cases h1
 exact h2
theorem Inn.short {us:List α}(h:Inn rs ns us a):∀ (m:Nat) (l:List Nat) {v:α},l.length≤m→qam rs a l=some v→(∀ n∈l,n∈ns)→∃ l',qam rs a l'=some v∧(∀ n∈l',n∈ns)∧l'.length+1≤us.length
 | 0,l,v,hm,hw,hn=>⟨l,hw,hn,by have:=List.length_pos_of_mem h.st;omega⟩
 | m+1,l,v,hm,hw,hn=>by
  by_cases c:l.length+1≤us.length
  ·exact⟨l,hw,hn,c⟩
  ·obtain⟨c,e,p,_,h1,h2,h3,h4⟩:=qjd h.st hw (h.e hn) (by omega)
   obtain⟨_,_,y3,_,y5⟩:=qif hw h1 h2 h3 h4
   exact Inn.short h m _ (by omega) y3 fun n z=>hn n (qkz z)
theorem Inn.all {us:List α}(h:Inn rs ns us a){v:α}(hv:v∈us):∃ w,qaq (itH rs ns a (us.length - 1)) v=some w:=by
 obtain⟨l,h1,h2⟩:=h.w v hv
 obtain⟨l',h3,h4,h5⟩:=h.short l.length l (Nat.le_refl _) h1 h2
 obtain⟨w,h6,_⟩:=qid (us.length - 1) h3 h4 (by omega)
 exact⟨w,h6⟩
theorem Inn.ring {us:List α}(h:Inn rs ns us a){v:α}(hv:v∈us)(hc:qaq (itH rs ns a (us.length - 1+1)) v≠qaq (itH rs ns a (us.length - 1)) v) :
  ∃ w c e p,qaq (itH rs ns a (us.length - 1+1)) v=some w∧qb2 rs [(a,0)] 0 w=some (c,e)∧c<e∧e≤w.length∧qam rs a (w.take c)=some p∧qam rs p ((w.take e).drop c)=some p∧qbO rs ((w.take e).drop c)<0∧(∀ n∈w,n∈ns)∧w.length≤us.length:=by
 have hpos:=List.length_pos_of_mem h.st
 obtain⟨w,h1,h2,h3⟩:=qj4 _ hc
 obtain⟨y1,y2,y3⟩:=qcQ _ h1
 obtain⟨c,e,p,z1,z2,z3,z4,z5⟩:=qjd h.st y1 (h.e y3) (by omega)
 obtain⟨x1,x2,x3,x4,x5⟩:=qif y1 z2 z3 z4 z5
 obtain⟨b,b1,b2⟩:=qid (us.length - 1) x3 (fun n z=>y3 n (qkz z)) (by omega)
 have:=h3 b b1
 exact⟨w,c,e,p,h1,z1,z2,z3,z4,x1,by omega,y3,by omega⟩
theorem walk_of {b:α}(h:Rch rs a b):∃ l,qam rs a l=some b:=by
 induction h with
 | refl=>exact⟨[],rfl⟩
 | step _ hr e ih =>
  obtain⟨l,hl⟩:=ih
  obtain⟨n,hn⟩:=List.getElem?_of_mem hr
  exact⟨l++[n],qes (by rw[hl,e]) hn⟩
theorem qk8 {l:List Nat}{b:α}(hw:qam rs a l=some b){n:Nat}(hn:n∈l):∃ r,rs[n]?=some r∧Rch rs a r.1∧Rch rs r.2.1 b:=by
 obtain⟨l1,l2,rfl⟩:=List.append_of_mem hn
 obtain⟨q,h1,h2⟩:=qbv hw
 obtain⟨q2,h3,h4⟩:=qbv (l:=[n]) (m:=l2) h2
 obtain⟨r,z1,z2,z3⟩:=qcO h3
 exact⟨r,z1,by rw[z2];exact qcT h1,by rw[z3];exact qcT h4⟩
theorem qoT {us:List α}{g:α}(hn:∀ n,n∈ns↔∃ r,rs[n]?=some r∧r.1∈us∧r.2.1∈us)(hu:∀ (n:Nat) (r:α × α × Int),rs[n]?=some r→Rch rs a r.1→Rch rs r.2.1 g→r.1∈us∧r.2.1∈us)(ha:a∈us)(hv:∀ v∈us,Rch rs a v∧Rch rs v g):Inn rs ns us a where
 st:=ha
 n n h:=(hn n).mp h
 w v h:=by
  obtain⟨h1,h2⟩:=hv v h
  obtain⟨l,hl⟩:=walk_of h1
  refine⟨l,hl,fun n hm=>?_⟩
  obtain⟨r,z1,z2,z3⟩:=qk8 hl hm
  exact (hn n).mpr ⟨r,z1,hu n r z1 z2 (z3.trans h2)⟩
end
end Wl
namespace Kx
open PySem L2
section
variable {P : Program} {w : World} {K : PySem.W.Frag} {mg : Str → Option Value} {base : Heap}
def top (i:Nat):Stmt:=PySem.Challenge.pw_cutyard_k62_roads_refused.main.body.getD i (.Pass ⟨0,0,0,0⟩)
abbrev qbn:Stmt:=top 11
theorem qc1:FnScope ["count","most"] ["count","most"] (qah qbn):=⟨rfl,rfl,rfl,by decide +kernel,rfl,by decide +kernel,by decide +kernel⟩
abbrev qa7:Stmt:=top 12
theorem sc_refuse_twice:FnScope ["names","came","name"] ["names"] (qah qa7):=⟨rfl,rfl,rfl,by decide +kernel,rfl,by decide +kernel,by decide +kernel⟩
abbrev qa3:Stmt:=top 13
theorem sc_refuse_strange:FnScope ["names","known","name"] ["names","known"] (qah qa3):=⟨rfl,rfl,rfl,by decide +kernel,rfl,by decide +kernel,by decide +kernel⟩
abbrev qbp:Stmt:=top 17
theorem qeU:FnScope ["roads","walk"] ["roads","walk"] (qah qbp):=⟨rfl,rfl,rfl,by decide +kernel,rfl,by decide +kernel,by decide +kernel⟩
abbrev qb3:Stmt:=top 18
theorem sc_walks_from:FnScope ["roads","start","walks","waiting","place","number","road"] ["roads","start"] (qah qb3):=⟨rfl,rfl,rfl,by decide +kernel,rfl,by decide +kernel,by decide +kernel⟩
abbrev qa5:Stmt:=top 19
theorem sc_useful_places:FnScope ["places","roads","start","goal","reached"] ["places","roads","start","goal"] (qah qa5):=⟨rfl,rfl,rfl,by decide +kernel,rfl,by decide +kernel,by decide +kernel⟩
abbrev qa8:Stmt:=top 20
theorem qec:FnScope ["roads","places"] ["roads","places"] (qah qa8):=⟨rfl,rfl,rfl,by decide +kernel,rfl,by decide +kernel,by decide +kernel⟩
abbrev qcy:Stmt:=top 21
theorem sc_shortened:FnScope ["roads","numbers","walks","shorter","number","road","walk"] ["roads","numbers","walks"] (qah qcy):=⟨rfl,rfl,rfl,by decide +kernel,rfl,by decide +kernel,by decide +kernel⟩
abbrev qb9:Stmt:=top 22
theorem sc_ring_parts:FnScope ["roads","start","walk","came","place","number","end"] ["roads","start","walk"] (qah qb9):=⟨rfl,rfl,rfl,by decide +kernel,rfl,by decide +kernel,by decide +kernel⟩
abbrev qbd:Stmt:=top 23
theorem sc_shortest_walks:FnScope ["roads","places","start","numbers","walks","turn","last","place"] ["roads","places","start"] (qah qbd):=⟨rfl,rfl,rfl,by decide +kernel,rfl,by decide +kernel,by decide +kernel⟩
abbrev qba:Stmt:=top 25
theorem sc_refuse_roads:FnScope ["places","roads","start","goal","leg"] ["places","roads","start","goal"] (qah qba):=⟨rfl,rfl,rfl,by decide +kernel,rfl,by decide +kernel,by decide +kernel⟩
abbrev qbm:Stmt:=top 26
theorem qeZ:FnScope ["names","one","other"] ["names","one","other"] (qah qbm):=⟨rfl,rfl,rfl,by decide +kernel,rfl,by decide +kernel,by decide +kernel⟩
abbrev qbT:Stmt:=top 27
theorem sc_road_plan:FnScope ["places","roads","start","goal","useful","rows","number","leg"] ["places","roads","start","goal"] (qah qbT):=⟨rfl,rfl,rfl,by decide +kernel,rfl,by decide +kernel,by decide +kernel⟩
abbrev qdj:Stmt:=top 28
theorem sc_road:FnScope ["places","roads","start","goal","reached","told","ring","walks","heights"] ["places","roads","start","goal"] (qah qdj):=⟨rfl,rfl,rfl,by decide +kernel,rfl,by decide +kernel,by decide +kernel⟩
abbrev qcm:Stmt:=top 30
theorem sc__law_pool:FnScope ["_law_script","_law_at_here","_law_rest"] ["_law_script","_law_at_here"] (qah qcm):=⟨rfl,rfl,rfl,by decide +kernel,rfl,by decide +kernel,by decide +kernel⟩
abbrev qco:Stmt:=top 31
theorem sc__law_next:FnScope ["_law_pool_here","_law_size","_law_drawn","_law_cell","_law_stir"] ["_law_pool_here","_law_size"] (qah qco):=⟨rfl,rfl,rfl,by decide +kernel,rfl,by decide +kernel,by decide +kernel⟩
abbrev qcb:Stmt:=top 32
theorem sc__law_names:FnScope ["_law_pool_here","_law_count","_law_way","_law_turn","_law_at_here","_law_names_here","_law_k","_law_letter","_law_odd"] ["_law_pool_here","_law_count"] (qah qcb):=⟨rfl,rfl,rfl,by decide +kernel,rfl,by decide +kernel,by decide +kernel⟩
abbrev qbK:Stmt:=top 33
theorem qe4:FnScope ["_law_pool_here","_law_row"] ["_law_pool_here","_law_row"] (qah qbK):=⟨rfl,rfl,rfl,by decide +kernel,rfl,by decide +kernel,by decide +kernel⟩
abbrev qcU:Stmt:=top 34
theorem sc__law_put:FnScope ["_law_pool_here","_law_rows","_law_fault","_law_strange","_law_places","_law_roads","_law_ends","_law_many","_law_name","_law_at_here"] ["_law_pool_here","_law_rows","_law_fault","_law_strange"] (qah qcU):=⟨rfl,rfl,rfl,by decide +kernel,rfl,by decide +kernel,by decide +kernel⟩
abbrev qbM:Stmt:=top 35
theorem sc__law_spoilt:FnScope ["_law_pool_here","_law_way","_law_many","_law_places","_law_strange","_law_roads","_law_k","_law_begin","_law_rows","_law_faults","_law_fault"] ["_law_pool_here"] (qah qbM):=⟨rfl,rfl,rfl,by decide +kernel,rfl,by decide +kernel,by decide +kernel⟩
abbrev qcW:Stmt:=top 36
theorem sc__law_due:FnScope ["_law_places","_law_roads","_law_start","_law_goal","_law_k","_law_one"] ["_law_places","_law_roads","_law_start","_law_goal"] (qah qcW):=⟨rfl,rfl,rfl,by decide +kernel,rfl,by decide +kernel,by decide +kernel⟩
abbrev qb5:Stmt:=top 37
theorem sc__law_kinds:FnScope ["_law_way","_law_asked","_law_kinds_here","e"] ["_law_way","_law_asked"] (qah qb5):=⟨rfl,rfl,rfl,by decide +kernel,rfl,by decide +kernel,by decide +kernel⟩
abbrev qdg:Stmt:=top 38
theorem sc__law_at:FnScope ["_law_way","_law_asked","_law_at_here","e"] ["_law_way","_law_asked"] (qah qdg):=⟨rfl,rfl,rfl,by decide +kernel,rfl,by decide +kernel,by decide +kernel⟩
abbrev qlC:Stmt:=top 39
theorem sc_law:FnScope ["_law_script","_law_asked","_law_due_here","_law_kinds_here","_law_way"] ["_law_script"] (qah qlC):=⟨rfl,rfl,rfl,by decide +kernel,rfl,by decide +kernel,by decide +kernel⟩
def exN:List Str:=["YardError","NoNumber","NoName","Twice","TooGreat","NoText","NoRow","NoChange","BelowNought"]
def qeS:Str→Str→Bool:=fun a b=>a == b || b == "YardError"
abbrev qcG:Stmt:=qfI (top 3) 0
theorem qiw:FnScope ["self","at"] ["self","at"] (qah qcG):=⟨rfl,rfl,rfl,by decide +kernel,rfl,by decide +kernel,by decide +kernel⟩
abbrev qdp:Stmt:=qfI (top 4) 0
theorem qj2:FnScope ["self","at"] ["self","at"] (qah qdp):=⟨rfl,rfl,rfl,by decide +kernel,rfl,by decide +kernel,by decide +kernel⟩
abbrev qbZ:Stmt:=qfI (top 5) 0
theorem qga:FnScope ["self","at"] ["self","at"] (qah qbZ):=⟨rfl,rfl,rfl,by decide +kernel,rfl,by decide +kernel,by decide +kernel⟩
abbrev qjk:Stmt:=qfI (top 6) 0
def qcv:SpD:=fun ds R=>∃ (a b:Int),ds=[.int a,.int b]∧a≤b∧R .non
theorem qe2 {n:Nat}{f:Addr}{fd:FuncData}(F:Fun K "refuse_more" "refuse_more" qbn f fd) :FnOk P w K mg base CX0 (n+1) f fd ["count","most"] (lSp K qcv):=by
 refine F.okD qc1 (fun ds R h=>?_) (fun cdv A outer s H E ds R hr h=>?_)
 ·obtain⟨a,b,rfl,_⟩:=h;rfl
 obtain⟨a,b,rfl,h,q⟩:=h
 refine⟨_,(qbw (qkS (qaT qkP (dvq 0) (dvq 1) (qaI _)) (qbw qkd) qfp)),?_⟩
 exact⟨fun e=>by have:=dP e;omega,fun _=>q⟩
theorem qbQ (xs:List Str):xs.map D.str=(xs.map Sum.inr).map qeT:=by rw[List.map_map];rfl
theorem qdJ {x:Str}{xs:List Str}:qjD (.inr x) (xs.map Sum.inr)=decide (x∈xs):=by
 by_cases c:x∈xs
 ·rw[decide_eq_true c,(qhL _ _).mpr (List.mem_map.mpr ⟨x,c,rfl⟩)]
 ·rw[decide_eq_false c]
  cases h:qjD (.inr x) (xs.map Sum.inr) with
  | false=>rfl
  | true =>
   obtain⟨y,hy,e⟩:=List.mem_map.mp ((qhL _ _).mp h)
   cases e
   exact absurd hy c
theorem qdd {d:D}{ds:List D}{R:List D→Prop}{ρ:Rho}(h:qe1 d=some ds)(q:R ds):qq3 (fun _ k=>k d) ρ R:=by
 cases d with
 | lst _=>cases h;exact q
 | tup _=>cases h;exact q
 | fzl _=>cases h;exact q
 | _=>cases h
def qbD:SpD:=fun ds R=>∃ (d e:D) (xs ys:List Str),ds=[d,e]∧qe1 d=some (xs.map D.str)∧qe1 e=some (ys.map D.str)∧(∀ x∈xs,x∈ys)∧R .non
theorem qdH {n:Nat}{f:Addr}{fd:FuncData}(F:Fun K "refuse_strange" "refuse_strange" qa3 f fd) :FnOk P w K mg base CX0 (n+1) f fd ["names","known"] (lSp K qbD):=by
 refine F.okD sc_refuse_strange (fun ds R h=>?_) (fun cdv A outer s H E ds R hr h=>?_)
 ·obtain⟨d,e,xs,ys,rfl,_⟩:=h;rfl
 obtain⟨d,e,xs,ys,rfl,hd,he,hx,q⟩:=h
 refine⟨_,(qbw (qhm PassesOwn.never rfl (qcd (dv 0)) (qbG (i:=2) sc_refuse_strange.nd rfl (Or.inl rfl)) (qbw (qkS (qaT qdG (dvq 2) (dvq 1) (by with_unfolding_all rfl)) (qbw qkd) qfp)))),?_⟩
 refine qdd (ρ:=[]) hd ?_
 refine⟨fun i ρ=>∃ u2:Option Sl,ρ=[some (.v d),some (.v e),u2],⟨_,rfl⟩,?_,?_⟩
 ·rintro i f ρ hf ⟨u2,rfl⟩
  obtain⟨x,rfl,hx2⟩:=qbh hf
  have hm:=hx x (List.mem_of_getElem? hx2)
  refine⟨.inr x,ys.map Sum.inr,rfl,by rw[← qbQ];exact he,?_⟩
  rw[qdJ,decide_eq_true hm]
  exact⟨fun h=>(by cases h),fun _=>⟨_,rfl⟩⟩
 ·rintro ρ ⟨u2,rfl⟩
  exact q
open Wl
abbrev Rod:=Str × Str × Int
def rdD (r:Rod):D:=.tup [.str r.1,.str r.2.1,.int r.2.2]
def qbW (l:List Nat):D:=.tup (l.map fun n=>D.int (n:Nat))
def wKV (x:Str × List Nat):Key × D:=(.inr x.1,qbW x.2)
theorem qb4 (W:List (Str × List Nat))(p:Str):qdy (W.map wKV) (.inr p)=(qaq W p).map qbW:=by
 induction W with
 | nil=>rfl
 | cons x W ih =>
  rw[qaG]
  unfold qdy at ih ⊢
  rw[List.map_cons]
  by_cases c:x.1=p
  ·rw[List.find?_cons_of_pos (by simp [wKV,c]),if_pos c];rfl
  ·rw[List.find?_cons_of_neg (by simp [wKV,c]),if_neg c,ih]
theorem qkt (W:List (Str × List Nat))(p:Str)(l:List Nat):qiU (W.map wKV) (.inr p) (qbW l)=(qcF W p l).map wKV:=by
 have h1:=qcr (W.map wKV) (.inr p)
 rw[qb4,Option.isSome_map,← qoQ] at h1
 unfold qiU qcF
 rw[← h1]
 split
 ·rw[List.map_map,List.map_map]
  refine List.map_congr_left fun x _=>?_
  show (if (Sum.inr x.1:Key)=Sum.inr p then _ else _)=wKV (if x.1=p then _ else _)
  by_cases c:x.1=p
  ·rw[if_pos (by rw[c]),if_pos c];rfl
  ·rw[if_neg (fun e=>c (Sum.inr.inj e)),if_neg c]
 ·rw[List.map_append];rfl
theorem qe9 {α β:Type}(f:β→α→β)(l:List α)(s:β){i:Nat}{x:α}(h:l[i]?=some x):(l.take (i+1)).foldl f s=f ((l.take i).foldl f s) x:=by
 rw[List.take_add_one,h,List.foldl_append]
 rfl
theorem qhY {κ β:Type}[DecidableEq κ](l:List (κ × β))(k:κ)(v:β):(qcF l k v).length≤l.length+1:=by
 unfold qcF
 split
 ·rw[List.length_map];omega
 ·rw[List.length_append];exact Nat.le_refl _
theorem qjB (p:Str)(s:List (Str × List Nat) × List Str)(x:Rod × Nat):(qaS p s x).1.length+s.2.length=s.1.length+(qaS p s x).2.length:=by
 unfold qaS
 split
 ·next c =>
  show (qcF s.1 _ _).length+s.2.length=s.1.length+(s.2++[x.1.2.1]).length
  rw[qfF c.2,List.length_append,List.length_append]
  show s.1.length+1+_=_+(_+1)
  omega
 ·rfl
theorem qfD (p:Str):∀ (l:List (Rod × Nat)) (s:List (Str × List Nat) × List Str),(l.foldl (qaS p) s).1.length+s.2.length=s.1.length+(l.foldl (qaS p) s).2.length
 | [],s=>rfl
 | x::l,s=>by
  have h1:=qjB p s x
  have h2:=qfD p l (qaS p s x)
  rw[List.foldl_cons]
  omega
def qju (s:List (Str × List Nat)):Prop:=∀ x l,qaq s x=some l→l.length<s.length
theorem qiJ {p:Str}{s:List (Str × List Nat) × List Str}{x:Rod × Nat}(h:qju s.1)(hp:qaq s.1 p≠none):qju (qaS p s x).1:=by
 unfold qaS
 split
 ·next c =>
  intro y l hl
  have hl:qaq (qcF s.1 x.1.2.1 ((qaq s.1 p).getD []++[x.2])) y=some l:=hl
  show l.length<(qcF s.1 _ _).length
  rw[qfF c.2,List.length_append]
  rw[qa1] at hl
  by_cases e:y=x.1.2.1
  ·rw[if_pos e] at hl
   cases hl
   cases hg:qaq s.1 p with
   | none=>exact absurd hg hp
   | some w =>
    have:=h p w hg
    show (w++[x.2]).length<_
    rw[List.length_append]
    show w.length+1<_+1
    omega
  ·rw[if_neg e] at hl
   have:=h y l hl
   omega
 ·exact h
theorem qdL {p:Str}:∀ (l:List (Rod × Nat)) (s:List (Str × List Nat) × List Str),qju s.1→qaq s.1 p≠none→qju (l.foldl (qaS p) s).1
 | [],_,h,_=>h
 | x::l,s,h,hp=>by
  rw[List.foldl_cons]
  refine qdL l _ (qiJ h hp) ?_
  cases hg:qaq s.1 p with
  | none=>exact absurd hg hp
  | some w=>rw[qdE hg];simp
def qca:SpD:=fun ds R=>∃ (d:D) (rs:List Rod) (a:Str),ds=[d,.str a]∧qe1 d=some (rs.map rdD)∧rs.length≤100∧R (.map ((qaY rs a).map wKV))
theorem qh5 (l:List Nat)(n:Nat):(l.map fun n=>D.int (n:Nat))++[D.int (n:Nat)]=(l++[n]).map fun n=>D.int (n:Nat):=by rw[List.map_append];rfl
theorem qfQ {n:Nat}{f:Addr}{fd:FuncData}(F:Fun K "walks_from" "walks_from" qb3 f fd)(qaU:mg "len"=none)(qa2:mg "enumerate"=none):FnOk P w K mg base CX0 (n+1) f fd ["roads","start"] (qf2 K (zM qca)):=by
 refine F.okM sc_walks_from (fun as R Rx h=>?_) (fun cdv A outer s H E as R Rx qs hcd hr h hqs=>?_)
 ·obtain⟨_,rfl,d,rs,a,rfl,_⟩:=h;rfl
 obtain⟨_,rfl,d,rs,a,rfl,hd,hl,q⟩:=h
 obtain rfl:=ql1 hqs
 refine⟨_,(qap (qaJ (i:=2) sc_walks_from.nd rfl (Or.inl rfl) (qkE (dv 1) (qbt qau)))
   (qap (qaJ (i:=3) sc_walks_from.nd rfl (Or.inl rfl) (qpf (qdM (qad (dv 1) qau qaa))))
   (qap (qhf PassesOwn.never (qbu (qaT qkP (PD.q (qaR qb0 rfl qaU PySem.boot_len (qaB (dvq 3) qaQ qaa) qaa qae)) (PD.q qag) (qaI _))) (qap (qaJ (i:=4) sc_walks_from.nd rfl (Or.inl rfl) (qqx 3))
   (qaz (qdF PassesOwn.never rfl (qd2 (qho rfl qa2 (qad (dv 0) qau qaa))) (qn2 (n:=2) rfl (qfq (qbU (i:=5) sc_walks_from.nd rfl (Or.inl rfl)) (qfq (qbU (i:=6) sc_walks_from.nd rfl (Or.inl rfl)) ql9))) (qaz (qde (PXW.toB (qou (qbu (qaT (qeY hr.units) (PD.q (qaX (dvq 6) (PD.q qag) (fun _ _=>rfl))) (dvq 4) (qaI _))) (qnr (qgu 2 hr.units (qaX (dvq 6) (PD.q qag) (fun _ _=>rfl)))))) (qap (qmD 2 hr.units (qaX (dvq 6) (PD.q qag) (fun _ _=>rfl)) (qmF qbe (qmn 2 hr.units (dv 4) (fun _ _=>rfl)) (qaE (qbt (qad (dv 5) qau qaa)))))
   (qaz (qb8 3 (qaE (qaX (dvq 6) (PD.q qag) (fun _ _=>rfl))) (qc0 qab) qab))) qbq))))))
   (qaz (qcA (qps (qkg 2))))))),?_⟩
 obtain⟨s1,s2,s3⟩:=qfW rs a
 have hop:qcf rs ([(a,[])]:List (Str × List Nat))≤rs.length:=List.length_filter_le _ _
 refine⟨.inr a,rfl,?_⟩
 refine⟨fun m ρ=>∃ (W:List (Str × List Nat)) (qs:List Str) (u4 u5 u6:Option Sm),ρ=[some (.v d),some (.v (.str a)),some (.ob none (.map (W.map wKV))),some (.own (qs.map D.str)),u4,u5,u6]∧Wv rs a (W,qs)∧qcX rs m (W,qs)=qaY rs a∧qs.length+qcf rs W≤m∧qju W∧W.length+qcf rs W≤rs.length+1∧qs.length≤W.length,
  ⟨rs.length+1,[(a,[])],[a],_,_,_,rfl,s1,rfl,s3,?_,(by show 1+_≤_;omega),Nat.le_refl _⟩,?_⟩
 ·intro x l h
  rw[qaG] at h
  by_cases c:a=x
  ·rw[if_pos c] at h;cases h;exact Nat.zero_lt_one
  ·rw[if_neg c] at h;cases h
 rintro m ρ ⟨W,qs,u4,u5,u6,rfl,hW,hF,hm,hS,hB,hqW⟩
 refine⟨fun c=>?_,fun c=>?_⟩
 ·have c:=dP c
  rw[List.length_map] at c
  have hne:qs≠[]:=fun e=>by rw[e] at c;exact absurd c (by decide)
  have hq':=(List.dropLast_concat_getLast hne).symm
  have hlen:qs.dropLast.length+1=qs.length:=by rw[List.length_dropLast];omega
  generalize hp:qs.getLast hne=p at hq'
  have hpq:p∈qs:=by rw[hq'];exact List.mem_append_right _ (List.mem_singleton.mpr rfl)
  have h0:Wv rs a (W,qs.dropLast):=⟨hW.s0,hW.w,fun x hx=>hW.q x (by rw[hq'];exact List.mem_append_left _ hx)⟩
  have hgp:=hW.q p hpq
  obtain⟨m,rfl⟩:∃ m',m=m'+1:=⟨m - 1,by omega⟩
  have hstep:qcX rs (m+1) (W,qs)=qcX rs m (qdU rs p (W,qs.dropLast)):=by
   have:(W,qs).2.getLast?=some p:=by show qs.getLast?=some p;rw[List.getLast?_eq_some_getLast hne,hp]
   conv=>lhs;unfold qcX;rw[this]
  have hz:∀ i,(∀ x∈rs.zipIdx.take i,rs[x.2]?=some x.1):=fun i x hx=>qcI (List.mem_of_mem_take hx)
  refine⟨.str p,?_,qs.dropLast.map D.str,by rw[List.map_dropLast],?_⟩
  ·rw[hq',List.map_append]
   rw[List.getElem?_append_right (by rw[List.length_append];show _≤_+1 - 1;omega)]
   rw[List.length_append]
   show [D.str p][_+1 - 1 - _]?=_
   rw[Nat.add_sub_cancel,Nat.sub_self];rfl
  refine⟨_,hd,fun i ρ=>∃ (u5 u6:Option Sm),ρ=[some (.v d),some (.v (.str a)),some (.ob none (.map (((rs.zipIdx.take i).foldl (qaS p) (W,qs.dropLast)).1.map wKV))),some (.own (((rs.zipIdx.take i).foldl (qaS p) (W,qs.dropLast)).2.map D.str)),some (.v (.str p)),u5,u6],⟨_,_,rfl⟩,?_,?_⟩
  ·rintro i e ρ he ⟨u5,u6,rfl⟩
   obtain⟨r',hr',rfl⟩:=qfr he
   obtain⟨r,rfl,hr⟩:=qbh hr'
   have hxi:rs.zipIdx[i]?=some (r,i):=by rw[List.getElem?_zipIdx,hr];simp
   have hf:=qe9 (qaS p) rs.zipIdx (W,qs.dropLast) hxi
   obtain⟨r1,r2,_,_,_,r6⟩:=qcL (p:=p) (rs.zipIdx.take i) (W,qs.dropLast) (hz i) h0 hgp
   have hfl:=qfD p (rs.zipIdx.take i) (W,qs.dropLast)
   have hsh:=qdL (p:=p) (rs.zipIdx.take i) (W,qs.dropLast) hS hgp
   generalize (rs.zipIdx.take i).foldl (qaS p) (W,qs.dropLast)=s' at hf r1 r2 r6 hfl hsh
   obtain⟨W',q'⟩:=s'
   have r6:q'.length+qcf rs W'≤qs.dropLast.length+qcf rs W:=r6
   have hfl:W'.length+qs.dropLast.length=W.length+q'.length:=hfl
   refine⟨rfl,_,rfl,fun c=>?_,fun c=>?_⟩
   ·have c1:r.1=p:=eq_of_beq c
    refine⟨_,rfl,.inr r.2.1,rfl,fun c2=>?_,fun c2=>?_⟩
    ·rw[qb4,qgM,Option.isSome_map] at c2
     have c3:qaq W' r.2.1=none:=by
      cases hg:qaq W' r.2.1 with
      | none=>rfl
      | some w=>rw[hg] at c2;cases c2
     cases hg:qaq W p with
     | none=>exact absurd hg hgp
     | some w =>
      have hg':=r2 p w hg
      have hst:qaS p (W',q') (r,i)=(qcF W' r.2.1 (w++[i]),q'++[r.2.1]):=by
       unfold qaS
       rw[if_pos ⟨c1,c3⟩]
       show (qcF W' r.2.1 ((qaq W' p).getD []++[i]),_)=_
       rw[hg'];rfl
      have hwl:w.length<W'.length:=hsh p w hg'
      refine⟨.inr p,rfl,qbW w,by rw[qb4,hg'];rfl,qeo (by rw[List.length_map];show _+1≤1000;omega),_,qh5 w i,trivial,_,rfl,.inr r.2.1,rfl,?_,_,qkt W' r.2.1 (w++[i]),_,rfl,?_,_,qkG D.str q' r.2.1,some (.v (.int (i:Int))),some (.v (rdD r)),?_⟩
      ·rw[List.length_map];exact qaA (by show W'.length≤1000;omega)
      ·rw[List.length_map];exact qaA (by show q'.length≤1000;omega)
      ·rw[hf,hst];rfl
    ·rw[qb4,qgM,Option.isSome_map] at c2
     have hst:qaS p (W',q') (r,i)=(W',q'):=by
      unfold qaS
      rw[if_neg fun z=>?_]
      have z2:qaq W' r.2.1=none:=z.2
      rw[z2] at c2;cases c2
     refine⟨some (.v (.int (i:Int))),some (.v (rdD r)),?_⟩
     rw[hf,hst];rfl
   ·have hst:qaS p (W',q') (r,i)=(W',q'):=by
     unfold qaS
     rw[if_neg fun z=>?_]
     have z1:r.1=p:=z.1
     have:(r.1 == p)=false:=c
     rw[z1,beq_self_eq_true] at this;cases this
    refine⟨fun h=>(by cases h),fun _=>⟨some (.v (.int (i:Int))),some (.v (rdD r)),?_⟩⟩
    rw[hf,hst];rfl
  ·rintro ρ ⟨u5,u6,rfl⟩
   have hLl:(qdZ (rs.map rdD)).length=rs.zipIdx.length:=by unfold qdZ;simp
   rw[hLl,List.take_length]
   obtain⟨r1,r2,_,_,_,r6⟩:=qcL (p:=p) rs.zipIdx (W,qs.dropLast) (fun x hx=>qcI hx) h0 hgp
   have hfl:=qfD p rs.zipIdx (W,qs.dropLast)
   have hsh:=qdL (p:=p) rs.zipIdx (W,qs.dropLast) hS hgp
   have hro:qdU rs p (W,qs.dropLast)=rs.zipIdx.foldl (qaS p) (W,qs.dropLast):=rfl
   rw[hstep,hro] at hF
   generalize rs.zipIdx.foldl (qaS p) (W,qs.dropLast)=s' at r1 r2 r6 hfl hsh hF
   obtain⟨W',q'⟩:=s'
   have r6:q'.length+qcf rs W'≤qs.dropLast.length+qcf rs W:=r6
   have hfl:W'.length+qs.dropLast.length=W.length+q'.length:=hfl
   exact⟨m,by omega,W',q',_,_,_,rfl,r1,hF,by omega,hsh,by omega,by omega⟩
 ·have c:=of_decide_eq_false c
  rw[List.length_map] at c
  have hq0:qs=[]:=List.length_eq_zero_iff.mp (by omega)
  subst hq0
  have:W=qaY rs a:=by
   rw[← hF]
   cases m with
   | zero=>rfl
   | succ m=>rfl
  rw[← this] at q
  exact q
section
variable {κ : Type} [DecidableEq κ]
theorem qfL {l:List κ}{x:κ}{d:D}(h:x∉l):qdy (l.map fun k=>(k,d)) x=none:=by
 unfold qdy
 rw[List.find?_eq_none.mpr fun kv hkv=>?_]
 ·rfl
 obtain⟨k,hk,rfl⟩:=List.mem_map.mp hkv
 intro e
 have:=of_decide_eq_true e
 exact h (this ▸ hk)
theorem qdD {l:List κ}{i:Nat}{x:κ}(hn:l.Nodup)(hx:l[i]?=some x):x∉l.take i:=fun hm=>by
 obtain⟨j,hj⟩:=List.getElem?_of_mem hm
 have hji:j<i:=by have:=qak hj;rw[List.length_take] at this;omega
 rw[List.getElem?_take_of_lt hji] at hj
 have hi:=qak hx
 have:=(List.getElem?_inj (by omega) hn).mp (hj.trans hx.symm)
 omega
theorem qgH {l:List κ}{i:Nat}{x:κ}{d:D}(hn:l.Nodup)(hx:l[i]?=some x):qiU ((l.take i).map fun k=>(k,d)) x d=(l.take (i+1)).map fun k=>(k,d):=by
 rw[qh7 (qfL (qdD hn hx)),List.take_add_one,hx,List.map_append]
 rfl
end
def qq5 (ks:List Key):D:=.tup (ks.map qeT)
def qcc:SpD:=fun ds R=>∃ d:D,ds=[d]∧((∃ xs:List Key,qe1 d=some (xs.map qeT)∧xs.Nodup∧xs.length≤1000)∨∃ xs:List (List Key),qe1 d=some (xs.map qq5)∧xs.Nodup∧xs.length≤1000)∧R .non
theorem qet {n:Nat}{f:Addr}{fd:FuncData}(F:Fun K "refuse_twice" "refuse_twice" qa7 f fd) :FnOk P w K mg base CX0 (n+1) f fd ["names"] (qf2 K (zM qcc)):=by
 refine F.okM sc_refuse_twice (fun as R Rx h=>?_) (fun cdv A outer s H E as R Rx qs hcd hr h hqs=>?_)
 ·obtain⟨_,rfl,d,rfl,_⟩:=h;rfl
 obtain⟨_,rfl,d,rfl,hd,q⟩:=h
 obtain rfl:=ql1 hqs
 rcases hd with⟨xs,hd,hn,hl⟩ | ⟨xs,hd,hn,hl⟩
 ·refine⟨_,(qap (qaJ (i:=1) sc_refuse_twice.nd rfl (Or.inl rfl) qi6)
   (qaz (qdF PassesOwn.never rfl (qd2 (qcd (dv 0))) (qbU (i:=2) sc_refuse_twice.nd rfl (Or.inl rfl)) (qce (qde (qkK 1 hr.units (dv 2)) (qaz qjU) qbq)
   (qaz (qh9 1 hr.units (dv 2) qd3)))))),?_⟩
  refine qdd (ρ:=[]) hd ?_
  refine⟨fun i ρ=>∃ u2:Option Sm,ρ=[some (.v d),some (.ob none (.map ((xs.take i).map fun k=>(k,D.bl true)))),u2],⟨_,rfl⟩,?_,?_⟩
  ·rintro i e ρ he ⟨u2,rfl⟩
   obtain⟨x,rfl,hx⟩:=qbh he
   have hi:=qak hx
   have hf:=qfL (d:=.bl true) (qdD hn hx)
   refine⟨fun ρ=>ρ=[some (.v d),some (.ob none (.map ((xs.take i).map fun k=>(k,D.bl true)))),some (.v (qeT x))],⟨x,rfl,fun h=>?_,fun _=>rfl⟩,?_⟩
   ·rw[hf] at h;cases h
   rintro ρ rfl
   exact⟨trivial,x,rfl,by rw[List.length_map,List.length_take];exact qaA (by omega),_,qgH hn hx,_,rfl⟩
  ·rintro ρ ⟨u2,rfl⟩
   exact q
 ·refine⟨_,(qap (qaJ (i:=1) sc_refuse_twice.nd rfl (Or.inl rfl) qmu)
   (qaz (qdF PassesOwn.never rfl (qd2 (qcd (dv 0))) (qbU (i:=2) sc_refuse_twice.nd rfl (Or.inl rfl)) (qce (qde (qmt 1 hr.units (dv 2)) (qaz qjU) qbq)
   (qaz (qmC 1 hr.units (dv 2) qd3)))))),?_⟩
  refine qdd (ρ:=[]) hd ?_
  refine⟨fun i ρ=>∃ u2:Option Sm,ρ=[some (.v d),some (.ob none (.mpT ((xs.take i).map fun k=>(k,D.bl true)))),u2],⟨_,rfl⟩,?_,?_⟩
  ·rintro i e ρ he ⟨u2,rfl⟩
   obtain⟨x,rfl,hx⟩:=qbh he
   have hi:=qak hx
   have hf:=qfL (d:=.bl true) (qdD hn hx)
   refine⟨fun ρ=>ρ=[some (.v d),some (.ob none (.mpT ((xs.take i).map fun k=>(k,D.bl true)))),some (.v (qq5 x))],⟨x,rfl,fun h=>?_,fun _=>rfl⟩,?_⟩
   ·rw[hf] at h;cases h
   rintro ρ rfl
   exact⟨trivial,x,rfl,by rw[List.length_map,List.length_take];exact qaA (by omega),_,qgH hn hx,_,rfl⟩
  ·rintro ρ ⟨u2,rfl⟩
   exact q
open Wl
def qaw (ps:List Str)(rs:List Rod)(a g:Str):List Str:=ps.filter fun p=>(qaq (qaY rs a) p).isSome && (qaq (qaY rs p) g).isSome
theorem useful_mem {ps:List Str}{rs:List Rod}{a g p:Str}:p∈qaw ps rs a g↔p∈ps∧Rch rs a p∧Rch rs p g:=by
 unfold qaw
 rw[List.mem_filter,Bool.and_eq_true,walksF_some,walksF_some]
theorem qdk (W:List (Str × List Nat))(p:Str):(qdy (W.map wKV) (.inr p)).isSome=(qaq W p).isSome:=by rw[qb4,Option.isSome_map]
def qa4:SpD:=fun ds R=>∃ (d e:D) (ps:List Str) (rs:List Rod) (a g:Str),ds=[d,e,.str a,.str g]∧qe1 d=some (ps.map D.str)∧qe1 e=some (rs.map rdD)∧ps.length≤100∧rs.length≤100∧R (.tup ((qaw ps rs a g).map D.str))
theorem qd1 {n:Nat}{f:Addr}{fd:FuncData}(F:Fun K "useful_places" "useful_places" qa5 f fd)(Q_walks_from:Cl P w K mg base n "walks_from" ["roads","start"] qca)(qaM:mg "tuple"=none):FnOk P w K mg base CX0 (n+1) f fd ["places","roads","start","goal"] (lSp K qa4):=by
 refine F.okD sc_useful_places (fun ds R h=>?_) (fun cdv A outer s H E ds R hr h=>?_)
 ·obtain⟨d,e,ps,rs,a,g,rfl,_⟩:=h;rfl
 obtain⟨d,e,ps,rs,a,g,rfl,hd,he,hl,hr',q⟩:=h
 refine⟨_,(qa6 (qdW (i:=4) sc_useful_places.nd rfl (Or.inr rfl) (qaL Q_walks_from hr rfl (qad (dv 1) (qad (dv 2) qau qaa) qaa) qaa (qac qaa qae)))
   (qbw (qc9 (qbo qbY rfl qaM PyProof.Rows.boot_tuple (qaB (PD.q (PF.d (qih (k:=1) (N':=["place","reached","goal","roads"]) (cap:=[none,some 4,some 3,some 1]) rfl (.ok (show qc2 ["places","roads","start","goal","reached"] (qah qa5) _ ["place","reached","goal","roads"] [none,some 4,some 3,some 1]=true by decide +kernel)) (by decide +kernel) (qdt (by decide)) (qcd (dv 0)) (fun _ _ _ _ _=>(qbG (i:=0) (show List.Nodup (["place","reached","goal","roads"]:List Str) by decide +kernel) rfl (Or.inl rfl))) (fun _ _ _ _ _=>(qh0 (PWD.td (qlH (qgV hr.units (dv 0) (dv 1)) (qic (qgV hr.units (dv 2) (qaL Q_walks_from hr rfl (qad (dv 3) (qad (dv 0) qau qaa) qaa) qaa (qac qaa qae)))))))) (fun _ _ _ _ _=>(dv 0))))) qaQ qaC) qaC qae)))),?_⟩
 refine⟨e,rs,a,rfl,he,hr',?_⟩
 refine qdd (ρ:=[]) hd ?_
 refine⟨by rw[List.length_map];exact qaA (by omega),fun i y=>qnO (fun p=>(qaq (qaY rs a) p).isSome && (qaq (qaY rs p) g).isSome) D.str ps[i]? y,qfP (fun p _=>?_),fun ys hl hy=>by rw[qgY hl hy];exact q⟩
 refine⟨.inr p,rfl,fun h=>?_,fun h=>?_⟩
 ·rw[qb1,qdk] at h
  refine⟨e,rs,p,rfl,he,hr',.inr g,rfl,fun h2=>?_,fun h2=>?_⟩
  ·rw[qb1,qdk] at h2
   exact⟨by rw[h,h2];rfl,rfl⟩
  ·rw[qb1,qdk] at h2
   show ((qaq (qaY rs a) p).isSome && (qaq (qaY rs p) g).isSome)=false
   rw[h2,Bool.and_false]
 ·rw[qb1,qdk] at h
  exact⟨fun h2=>(by cases h2),fun _=>by show ((qaq (qaY rs a) p).isSome && (qaq (qaY rs p) g).isSome)=false;rw[h];rfl⟩
def qan (rs:List Rod)(us:List Str):List Nat:=(rs.zipIdx.filter fun x=>decide (x.1.1∈us) && decide (x.1.2.1∈us)).map (·.2)
theorem within_mem {rs:List Rod}{us:List Str}{n:Nat}:n∈qan rs us↔∃ r,rs[n]?=some r∧r.1∈us∧r.2.1∈us:=by
 unfold qan
 rw[List.mem_map]
 constructor
 ·rintro⟨x,hx,rfl⟩
  obtain⟨h1,h2⟩:=List.mem_filter.mp hx
  rw[Bool.and_eq_true] at h2
  exact⟨x.1,qcI h1,of_decide_eq_true h2.1,of_decide_eq_true h2.2⟩
 ·rintro⟨r,hr,h1,h2⟩
  refine⟨(r,n),List.mem_filter.mpr ⟨List.mem_of_getElem? (i:=n) (by rw[List.getElem?_zipIdx,hr];simp),?_⟩,rfl⟩
  rw[Bool.and_eq_true]
  exact⟨decide_eq_true h1,decide_eq_true h2⟩
def qby:SpD:=fun ds R=>∃ (d e:D) (rs:List Rod) (us:List Str),ds=[d,e]∧qe1 d=some (rs.map rdD)∧qe1 e=some (us.map D.str)∧rs.length≤100∧R (.tup ((qan rs us).map fun n=>D.int (n:Nat)))
theorem qrz (rs:List Rod)(us:List Str):((rs.zipIdx.filter fun x:Rod × Nat=>decide (x.1.1∈us) && decide (x.1.2.1∈us)).map fun x=>D.int (x.2:Nat))=(qan rs us).map fun n=>D.int (n:Nat):=by unfold qan;rw[List.map_map];rfl
theorem qed {n:Nat}{f:Addr}{fd:FuncData}(F:Fun K "roads_within" "roads_within" qa8 f fd)(qaM:mg "tuple"=none)(qa2:mg "enumerate"=none):FnOk P w K mg base CX0 (n+1) f fd ["roads","places"] (lSp K qby):=by
 refine F.okD qec (fun ds R h=>?_) (fun cdv A outer s H E ds R hr h=>?_)
 ·obtain⟨d,e,rs,us,rfl,_⟩:=h;rfl
 obtain⟨d,e,rs,us,rfl,hd,he,hl,q⟩:=h
 refine⟨_,(qbw (qc9 (qbo qbY rfl qaM PyProof.Rows.boot_tuple (qaB (PD.q (PF.d (qih (k:=2) (N':=["number","road","places"]) (cap:=[none,none,some 1]) rfl (.ok (show qc2 ["roads","places"] (qah qa8) _ ["number","road","places"] [none,none,some 1]=true by decide +kernel)) (by decide +kernel) (qo6 (n:=2) (qjO (qdt (by decide)) (qjO (qdt (by decide)) qoO))) (qho rfl qa2 (qad (dv 0) qau qaa)) (fun _ _ _ _ _=>(qqy (n:=2) rfl (qkk (qbG (i:=0) (show List.Nodup (["number","road","places"]:List Str) by decide +kernel) rfl (Or.inl rfl)) (qkk (qbG (i:=1) (show List.Nodup (["number","road","places"]:List Str) by decide +kernel) rfl (Or.inl rfl)) qof)))) (fun _ _ _ _ _=>(qh0 (PWD.td (qlH (qaT qp8 (PD.q (qaX (dvq 1) (PD.q qag) (fun _ _=>rfl))) (dvq 2) (by with_unfolding_all rfl)) (qic (qaT qp8 (PD.q (qaX (dvq 1) (PD.q qag) (fun _ _=>rfl))) (dvq 2) (by with_unfolding_all rfl))))))) (fun _ _ _ _ _=>(dv 0))))) qaQ qaC) qaC qae))),?_⟩
 refine⟨_,hd,?_⟩
 rw[qk6]
 refine⟨by rw[List.length_map,List.length_zipIdx];exact qaA (by omega),fun i y=>qnO (fun x:Rod × Nat=>decide (x.1.1∈us) && decide (x.1.2.1∈us)) (fun x=>D.int (x.2:Nat)) rs.zipIdx[i]? y,qfP (fun x _=>?_),fun ys hl hy=>by rw[qgY hl hy,qrz];exact q⟩
 obtain⟨r,i⟩:=x
 have hm:∀ x:Str,qjD (.inr x) (us.map Sum.inr)=decide (x∈us):=fun x=>qdJ
 refine⟨rfl,_,rfl,.inr r.1,us.map Sum.inr,rfl,by rw[← qbQ];exact he,fun h=>?_,fun h=>?_⟩
 ·rw[qb1,hm] at h
  refine⟨_,rfl,.inr r.2.1,us.map Sum.inr,rfl,by rw[← qbQ];exact he,fun h2=>?_,fun h2=>?_⟩
  ·rw[qb1,hm] at h2
   exact⟨by show (decide (r.1∈us) && decide (r.2.1∈us))=true;rw[h,h2];rfl,rfl⟩
  ·rw[qb1,hm] at h2
   show (decide (r.1∈us) && decide (r.2.1∈us))=false
   rw[h2,Bool.and_false]
 ·rw[qb1,hm] at h
  exact⟨fun h2=>(by cases h2),fun _=>by show (decide (r.1∈us) && decide (r.2.1∈us))=false;rw[h];rfl⟩
structure MapOk (ps:List Str)(rs:List Rod)(a g:Str):Prop where
 pn:ps.Nodup
 pl:ps.length≤8
 rl:rs.length≤12
 r:∀ r∈rs,r.1∈ps∧r.2.1∈ps
 a:a∈ps
 g:g∈ps
theorem qjb {xs:List Str}(h:xs.Nodup):(xs.map (Sum.inr:Str→Key)).Nodup:=by
 unfold List.Nodup at h ⊢
 rw[List.pairwise_map]
 exact List.Pairwise.imp (fun hne e=>hne (Sum.inr.inj e)) h
def qa9:SpD:=fun ds R=>∃ (ps:List Str) (rs:List Rod) (a g:Str),ds=[.tup (ps.map D.str),.tup (rs.map rdD),.str a,.str g]∧MapOk ps rs a g∧R .non
theorem qeO {n:Nat}{f:Addr}{fd:FuncData}(F:Fun K "refuse_roads" "refuse_roads" qba f fd)(Q_refuse_more:Cl P w K mg base n "refuse_more" ["count","most"] qcv)(Q_refuse_twice:Cl P w K mg base n "refuse_twice" ["names"] qcc)(Q_refuse_strange:Cl P w K mg base n "refuse_strange" ["names","known"] qbD)(z_MOST_UNKNOWNS:∃ tk,mg "MOST_UNKNOWNS"=some (.int 8 tk))(z_MOST_ROWS:∃ tk,mg "MOST_ROWS"=some (.int 12 tk))(qaU:mg "len"=none):FnOk P w K mg base CX0 (n+1) f fd ["places","roads","start","goal"] (lSp K qa9):=by
 refine F.okD sc_refuse_roads (fun ds R h=>?_) (fun cdv A outer s H E ds R hr h=>?_)
 ·obtain⟨ps,rs,a,g,rfl,_⟩:=h;rfl
 obtain⟨ps,rs,a,g,rfl,hc,q⟩:=h
 refine⟨_,(qa6 (qer (qaL Q_refuse_more hr rfl (qad (qaR qb0 rfl qaU PySem.boot_len (qaB (dvq 0) qaQ qaa) qaa qae) (qad (qfw rfl z_MOST_UNKNOWNS.choose_spec) qau qaa) qao) qao (qac qaa qae)))
   (qa6 (qer (qaL Q_refuse_more hr rfl (qad (qaR qb0 rfl qaU PySem.boot_len (qaB (dvq 1) qaQ qaa) qaa qae) (qad (qfw rfl z_MOST_ROWS.choose_spec) qau qaa) qao) qao (qac qaa qae)))
   (qa6 (qer (qaL Q_refuse_twice hr rfl (qad (dv 0) qau qaa) qaa qae))
   (qa6 (qhm PassesOwn.never rfl (qcd (dv 1)) (qbG (i:=4) sc_refuse_roads.nd rfl (Or.inl rfl)) (qbw (qer (qaL Q_refuse_strange hr rfl (qad (qbt (qad (qaX (dvq 4) (PD.q qag) (fun _ _=>rfl)) (qad (qaX (dvq 4) (PD.q qag) (fun _ _=>rfl)) qau qab) qab)) (qad (dv 0) qau qaa) qaF) qaF (qac qaa qae)))))
   (qbw (qer (qaL Q_refuse_strange hr rfl (qad (qbt (qad (dv 2) (qad (dv 3) qau qaa) qaa)) (qad (dv 0) qau qaa) qaF) qaF (qac qaa qae)))))))),?_⟩
 have hpl:=hc.pl
 have hrl:=hc.rl
 refine⟨_,_,rfl,by rw[List.length_map];omega,_,_,rfl,by rw[List.length_map];omega,?_⟩
 refine⟨_,rfl,.inl ⟨ps.map Sum.inr,by rw[← qbQ];rfl,qjb hc.pn,by rw[List.length_map];omega⟩,?_⟩
 refine⟨fun i ρ=>∃ u4:Option Sl,ρ=[some (.v (.tup (ps.map D.str))),some (.v (.tup (rs.map rdD))),some (.v (.str a)),some (.v (.str g)),u4],⟨_,rfl⟩,?_,?_⟩
 ·rintro i e ρ he ⟨u4,rfl⟩
  obtain⟨r,rfl,hr'⟩:=qbh he
  have hm:=hc.r r (List.mem_of_getElem? hr')
  refine⟨_,rfl,_,rfl,_,_,[r.1,r.2.1],ps,rfl,rfl,rfl,fun x hx=>?_,_,rfl⟩
  rcases List.mem_cons.mp hx with rfl | hx
  ·exact hm.1
  ·rw[List.mem_singleton.mp hx];exact hm.2
 rintro ρ ⟨u4,rfl⟩
 refine⟨_,_,[a,g],ps,rfl,rfl,rfl,fun x hx=>?_,q⟩
 rcases List.mem_cons.mp hx with rfl | hx
 ·exact hc.a
 ·rw[List.mem_singleton.mp hx];exact hc.g
open Wl
def qmp (xs:List Str)(x y:Str):List Int:=xs.map fun n=>(if n=x then 1 else 0) - (if n=y then 1 else 0)
def qcz:SpD:=fun ds R=>∃ (d:D) (xs:List Str) (x y:Str),ds=[d,.str x,.str y]∧qe1 d=some (xs.map D.str)∧xs.length≤1000∧R (.tup ((qmp xs x y).map D.int))
theorem qeW {n:Nat}{f:Addr}{fd:FuncData}(F:Fun K "differences" "differences" qbm f fd)(qaM:mg "tuple"=none):FnOk P w K mg base CX0 (n+1) f fd ["names","one","other"] (lSp K qcz):=by
 refine F.okD qeZ (fun ds R h=>?_) (fun cdv A outer s H E ds R hr h=>?_)
 ·obtain⟨d,xs,x,y,rfl,_⟩:=h;rfl
 obtain⟨d,xs,x,y,rfl,hd,hl,q⟩:=h
 refine⟨_,(qbw (qc9 (qbo qbY rfl qaM PyProof.Rows.boot_tuple (qaB (PD.q (PF.d (qfU (k:=1) (N':=["name","one","other"]) (cap:=[none,some 1,some 2]) rfl (.ok (show qc2 ["names","one","other"] (qah qbm) _ ["name","one","other"] [none,some 1,some 2]=true by decide +kernel)) (by decide +kernel) (qdt (by decide)) (qcd (dv 0)) (fun _ _ _ _ _=>(qbG (i:=0) (show List.Nodup (["name","one","other"]:List Str) by decide +kernel) rfl (Or.inl rfl))) (fun _ _ _ _ _=>(qbS qiX (PD.q (qpv (qaT (qeY hr.units) (dvq 0) (dvq 1) (qaI _)) qag qag)) (PD.q (qpv (qaT (qeY hr.units) (dvq 0) (dvq 2) (qaI _)) qag qag))))))) qaQ qaC) qaC qae))),?_⟩
 refine qdd (ρ:=[]) hd ?_
 refine qgk (f:=D.str) (fun n=>(if n=x then 1 else 0) - (if n=y then 1 else 0)) (qaA hl) (fun n _=>?_) q
 have pos:∀ {a b:Str},(a == b)=true→(if a=b then (1:Int) else 0)=1:=fun h=>if_pos (eq_of_beq h)
 have neg:∀ {a b:Str},(a == b)=false→(if a=b then (1:Int) else 0)=0:=fun {a b} h=>if_neg fun e=>by rw[e,beq_self_eq_true] at h;cases h
 refine⟨fun h=>⟨fun h2=>?_,fun h2=>?_⟩,fun h=>⟨fun h2=>?_,fun h2=>?_⟩⟩
 ·rw[pos h,pos h2];rfl
 ·rw[pos h,neg h2];rfl
 ·rw[neg h,pos h2];rfl
 ·rw[neg h,neg h2];rfl
def qnj (us:List Str)(r:Rod):Row:=(qmp us r.1 r.2.1,-r.2.2)
def qe5 (rs:List Rod)(us:List Str)(l:List Nat):List Row:=l.filterMap fun n=>(rs[n]?).map (qnj us)
def qkM (rs:List Rod)(us:List Str)(a g:Str):D:=.tup [.tup (List.replicate us.length (.tup [.int 0,.non])),.tup ((qe5 rs us (qan rs us)).map qp4),.tup ((qmp us g a).map D.int)]
theorem qhh (rs:List Rod)(us:List Str)(l:List Nat){n:Nat}{r:Rod}(h:rs[n]?=some r):qe5 rs us (l++[n])=qe5 rs us l++[qnj us r]:=by
 unfold qe5
 rw[List.filterMap_append]
 congr 1
 show List.filterMap _ [n]=_
 rw[List.filterMap_cons,h]
 rfl
theorem qix (rs:List Rod)(us:List Str):(qan rs us).length≤rs.length:=by
 unfold qan
 rw[List.length_map]
 refine Nat.le_trans (List.length_filter_le _ _) ?_
 rw[List.length_zipIdx]
 exact Nat.le_refl _
theorem qlD (k:Nat)(d:D):(List.replicate k [d]).flatten=List.replicate k d:=by
 induction k with
 | zero=>rfl
 | succ k ih=>rw[List.replicate_succ,List.flatten_cons,ih];rfl
def qc6:SpD:=fun ds R=>∃ (ps:List Str) (rs:List Rod) (a g:Str),ds=[.tup (ps.map D.str),.tup (rs.map rdD),.str a,.str g]∧MapOk ps rs a g∧R (qkM rs (qaw ps rs a g) a g)
theorem qf7 {n:Nat}{f:Addr}{fd:FuncData}(F:Fun K "road_plan" "road_plan" qbT f fd)(Q_refuse_roads:Cl P w K mg base n "refuse_roads" ["places","roads","start","goal"] qa9)(Q_useful_places:Cl P w K mg base n "useful_places" ["places","roads","start","goal"] qa4)(Q_roads_within:Cl P w K mg base n "roads_within" ["roads","places"] qby)(Q_differences:Cl P w K mg base n "differences" ["names","one","other"] qcz)(qaM:mg "tuple"=none)(qaU:mg "len"=none):FnOk P w K mg base CX0 (n+1) f fd ["places","roads","start","goal"] (lSp K qc6):=by
 refine F.okD sc_road_plan (fun ds R h=>?_) (fun cdv A outer s H E ds R hr h=>?_)
 ·obtain⟨ps,rs,a,g,rfl,_⟩:=h;rfl
 obtain⟨ps,rs,a,g,rfl,hc,q⟩:=h
 refine⟨_,(qa6 (qer (qaL Q_refuse_roads hr rfl (qad (dv 0) (qad (dv 1) (qad (dv 2) (qad (dv 3) qau qaa) qaa) qaa) qaa) qaa (qac qaa (qac qaa (qac qaa qae)))))
   (qa6 (qdW (i:=4) sc_road_plan.nd rfl (Or.inl rfl) (qaL Q_useful_places hr rfl (qad (dv 0) (qad (dv 1) (qad (dv 2) (qad (dv 3) qau qaa) qaa) qaa) qaa) qaa (qac qaa (qac qaa (qac qaa qae)))))
   (qa6 (qpR (i:=5) sc_road_plan.nd rfl (Or.inl rfl) (qdM qau))
   (qa6 (qhm PassesOwn.never rfl (qcd (qaL Q_roads_within hr rfl (qad (dv 1) (qad (dv 4) qau qaa) qaa) qaa (qac qaa qae))) (qbG (i:=6) sc_road_plan.nd rfl (Or.inl rfl)) (qa6 (qdW (i:=7) sc_road_plan.nd rfl (Or.inl rfl) (qaX (dvq 1) (dvq 6) (fun _ _=>rfl)))
   (qbw (qle 5 (qbt (qad (qaL Q_differences hr rfl (qad (dv 4) (qad (qaX (dvq 7) (PD.q qag) (fun _ _=>rfl)) (qad (qaX (dvq 7) (PD.q qag) (fun _ _=>rfl)) qau qab) qab) qaa) qaa (qac qab (qac qab qae))) (qad (qm6 (PD.q (qaX (dvq 7) (PD.q qag) (fun _ _=>rfl)))) qau qdz) qao)) (qc0 qaF) qaF))))
   (qbw (qc9 (qbt (qad (qbS qf1 (PD.q (qbt (qad (qbt (qad qag (qad qdv qau qaf) qaf)) qau qaF))) (PD.q (qaR qb0 rfl qaU PySem.boot_len (qaB (dvq 4) qaQ qaa) qaa qae))) (qad (qbo qbY rfl qaM PyProof.Rows.boot_tuple (qaB (dvq 5) qaQ qaa) qaa qae) (qad (qaL Q_differences hr rfl (qad (dv 4) (qad (dv 3) (qad (dv 2) qau qaa) qaa) qaa) qaa (qac qaa (qac qaa qae))) qau qao) qao) qaD)))))))),?_⟩
 have hpl:=hc.pl
 have hrl:=hc.rl
 have hul:(qaw ps rs a g).length≤8:=Nat.le_trans (List.length_filter_le _ _) hpl
 refine⟨ps,rs,a,g,rfl,hc,_,_,ps,rs,a,g,rfl,rfl,rfl,by omega,by omega,?_⟩
 refine⟨_,_,rs,qaw ps rs a g,rfl,rfl,rfl,by omega,?_⟩
 generalize hu:qaw ps rs a g=us at q hul
 have hwl:=qix rs us
 refine⟨fun i ρ=>∃ u6 u7:Option Sl,ρ=[some (.v (.tup (ps.map D.str))),some (.v (.tup (rs.map rdD))),some (.v (.str a)),some (.v (.str g)),some (.v (.tup (us.map D.str))),some (.own ((qe5 rs us ((qan rs us).take i)).map qp4)),u6,u7],⟨_,_,rfl⟩,?_,?_⟩
 ·rintro i e ρ he ⟨u6,u7,rfl⟩
  obtain⟨n,rfl,hn⟩:=qbh he
  obtain⟨r,hr',_,_⟩:=within_mem.mp (List.mem_of_getElem? hn)
  have hi:=qak hn
  refine⟨rdD r,?_,?_⟩
  ·exact qdh hr' rfl
  refine⟨_,rfl,_,rfl,_,us,r.1,r.2.1,rfl,rfl,by omega,_,rfl,?_,_,qkG qp4 _ (qnj us r),some (.v (.int (n:Nat))),some (.v (rdD r)),?_⟩
  ·rw[List.length_map]
   have:(qe5 rs us ((qan rs us).take i)).length≤((qan rs us).take i).length:=List.length_filterMap_le _ _
   rw[List.length_take] at this
   exact qaA (by omega)
  ·rw[qbB hn,qhh rs us _ hr']
   rfl
 rintro ρ ⟨u6,u7,rfl⟩
 rw[List.length_map,List.take_length]
 have hL:((us.map D.str).length:Int)=(us.length:Int):=by rw[List.length_map]
 refine⟨⟨List.cons_ne_nil _ _,by omega,by omega,by show ((us.map D.str).length:Int).toNat*1≤1000;omega⟩,_,by rw[qlD,hL,Int.toNat_natCast],?_⟩
 exact⟨_,us,g,a,rfl,rfl,by omega,q⟩
open Wl
theorem qmM {rs:List Rod}{n:Nat}(h:n<rs.length):∃ r,rs[n]?=some r:=⟨rs[n],qaP h⟩
def qbJ:SpD:=fun ds R=>∃ (rs:List Rod) (l:List Nat),ds=[.tup (rs.map rdD),qbW l]∧l.length≤100∧(∀ n∈l,n<rs.length)∧R (.int (qbO rs l))
theorem qeV {n:Nat}{f:Addr}{fd:FuncData}(F:Fun K "walk_length" "walk_length" qbp f fd)(qnM:mg "sum"=none):FnOk P w K mg base CX0 (n+1) f fd ["roads","walk"] (lSp K qbJ):=by
 refine F.okD qeU (fun ds R h=>?_) (fun cdv A outer s H E ds R hr h=>?_)
 ·obtain⟨rs,l,rfl,_⟩:=h;rfl
 obtain⟨rs,l,rfl,hl,hn,q⟩:=h
 refine⟨_,(qbw (qc9 (qaR (qqp rfl) rfl qnM PyProof.Rows.boot_sum (qaB (PD.q (PF.d (qfU (k:=1) (N':=["number","roads"]) (cap:=[none,some 0]) rfl (.ok (show qc2 ["roads","walk"] (qah qbp) _ ["number","roads"] [none,some 0]=true by decide +kernel)) (by decide +kernel) (qdt (by decide)) (qcd (dv 1)) (fun _ _ _ _ _=>(qbG (i:=0) (show List.Nodup (["number","roads"]:List Str) by decide +kernel) rfl (Or.inl rfl))) (fun _ _ _ _ _=>(qaX (PD.q (qaX (dvq 1) (dvq 0) (fun _ _=>rfl))) (PD.q qag) (fun _ _=>rfl)))))) qaQ qaC) qaC qae))),?_⟩
 refine qgk (f:=fun n=>D.int (n:Nat)) (qpA rs) (qaA (by omega)) (fun n hm=>?_) ?_
 ·obtain⟨r,hr'⟩:=qmM (hn n hm)
  refine⟨rdD r,qdh hr' rfl,_,rfl,?_⟩
  rw[qkq hr']
 ·exact⟨_,rfl,q⟩
theorem qjz (rs:List Rod)(W S:List (Str × List Nat))(n:Nat):(qbH rs W S n).length≤S.length+1:=by
 rcases qcw rs W S n with⟨e,_⟩ | ⟨r,w,_,_,e,_⟩
 ·rw[e];omega
 ·rw[e];exact qhY _ _ _
theorem qep (rs:List Rod)(W:List (Str × List Nat)):∀ (l:List Nat) (S:List (Str × List Nat)),(l.foldl (qbH rs W) S).length≤S.length+l.length
 | [],S=>Nat.le_refl _
 | n::l,S=>by
  have h1:=qjz rs W S n
  have h2:=qep rs W l (qbH rs W S n)
  rw[List.foldl_cons,List.length_cons]
  omega
def qew:SpD:=fun ds R=>∃ (rs:List Rod) (ns:List Nat) (W:List (Str × List Nat)),ds=[.tup (rs.map rdD),qbW ns,.map (W.map wKV)]∧ns.length≤100∧(∀ n∈ns,n<rs.length)∧W.length≤200∧(∀ p l,qaq W p=some l→l.length≤50∧∀ n∈l,n<rs.length)∧R (.map ((qma rs ns W).map wKV))
theorem qgK {n:Nat}{f:Addr}{fd:FuncData}(F:Fun K "shortened" "shortened" qcy f fd)(Q_walk_length:Cl P w K mg base n "walk_length" ["roads","walk"] qbJ)(qkO:mg "dict"=none):FnOk P w K mg base CX0 (n+1) f fd ["roads","numbers","walks"] (qf2 K (zM qew)):=by
 refine F.okM sc_shortened (fun as R Rx h=>?_) (fun cdv A outer s H E as R Rx qs hcd hr h hqs=>?_)
 ·obtain⟨_,rfl,rs,ns,W,rfl,_⟩:=h;rfl
 obtain⟨_,rfl,rs,ns,W,rfl,hnl,hn,hWl,hW,q⟩:=h
 obtain rfl:=ql1 hqs
 refine⟨_,(qap (qaJ (i:=3) sc_shortened.nd rfl (Or.inl rfl) (qos rfl qkO (dv 2) qaa))
   (qap (qdF PassesOwn.never rfl (qd2 (qcd (dv 1))) (qbU (i:=4) sc_shortened.nd rfl (Or.inl rfl)) (qap (qaJ (i:=5) sc_shortened.nd rfl (Or.inl rfl) (qaE (qaX (dvq 0) (dvq 4) (fun _ _=>rfl))))
   (qaz (qde (qbu (qgV hr.units (qaX (dvq 5) (PD.q qag) (fun _ _=>rfl)) (dv 2))) (qap (qaJ (i:=6) sc_shortened.nd rfl (Or.inl rfl) (qaE (qbS qbe (PD.q (qb7 hr.units (dv 2) (qaX (dvq 5) (PD.q qag) (fun _ _=>rfl)) (fun _ _=>rfl))) (PD.q (qbt (qad (dv 4) qau qaa))))))
   (qaz (qde (PXW.toB (qqw (qgu 3 hr.units (qaX (dvq 5) (PD.q qag) (fun _ _=>rfl))) (qoH (qn8 qpC (qaE (qaL Q_walk_length hr rfl (qad (dv 0) (qad (dv 6) qau qaa) qaa) qaa (qac qaa qae))) (qnJ Q_walk_length hr rfl (qai (qaE (dv 0)) (qai (qmn 3 hr.units (qaX (dvq 5) (PD.q qag) (fun _ _=>rfl)) (fun _ _=>rfl)) qax qab) qaa) qaa (qac qab qae)) (qaI _))))) (qaz (qh9 3 hr.units (qaX (dvq 5) (PD.q qag) (fun _ _=>rfl)) (dv 6))) qbq))) qbq))))
   (qaz (qcA (qps (qkg 3)))))),?_⟩
 refine⟨fun i ρ=>∃ (u4 u5 u6:Option Sm),ρ=[some (.v (.tup (rs.map rdD))),some (.v (qbW ns)),some (.v (.map (W.map wKV))),some (.ob none (.map (((ns.take i).foldl (qbH rs W) W).map wKV))),u4,u5,u6],⟨_,_,_,rfl⟩,?_,?_⟩
 ·rintro i e ρ he ⟨u4,u5,u6,rfl⟩
  obtain⟨n,rfl,hni⟩:=qbh he
  have hnm:=List.mem_of_getElem? hni
  obtain⟨r,hr'⟩:=qmM (hn n hnm)
  have hf:=qe9 (qbH rs W) ns W hni
  obtain⟨_,B,_⟩:=qct (rs:=rs) (W:=W) (ns.take i) W
  have hlen:=qep rs W (ns.take i) W
  have hti:(ns.take i).length≤100:=by rw[List.length_take];omega
  have hS:∀ p l,qaq ((ns.take i).foldl (qbH rs W) W) p=some l→l.length≤51∧∀ n∈l,n<rs.length:=by
   intro p l hp
   rcases B p with h | ⟨m,hm,r',w',h1,h2,h3,h4,_⟩
   ·rw[h] at hp
    obtain⟨z1,z2⟩:=hW p l hp
    exact⟨by omega,z2⟩
   ·rw[h4] at hp
    cases hp
    obtain⟨z1,z2⟩:=hW _ _ h3
    refine⟨by rw[List.length_append];show _+1≤_;omega,fun k hk=>?_⟩
    rcases List.mem_append.mp hk with hk | hk
    ·exact z2 k hk
    ·rw[List.mem_singleton.mp hk];exact hn m (List.mem_of_mem_take hm)
  generalize (ns.take i).foldl (qbH rs W) W=S at hf hS hlen
  refine⟨rdD r,qdh hr' rfl,_,rfl,.inr r.1,rfl,fun c=>?_,fun c=>?_⟩
  ·rw[qb1,qdk] at c
   obtain⟨w',hw'⟩:=Option.isSome_iff_exists.mp c
   obtain⟨wl,wn⟩:=hW _ _ hw'
   refine⟨_,rfl,.inr r.1,qbW w',rfl,by rw[qb4,hw'];rfl,qeo (by rw[List.length_map];show _+1≤1000;omega),_,qh5 w' n,_,rfl,.inr r.2.1,rfl,fun c2=>?_,fun c2=>?_⟩
   ·rw[qgM,qdk] at c2
    have hs0:qaq S r.2.1=none:=by
     cases hg:qaq S r.2.1 with
     | none=>rfl
     | some v=>rw[hg] at c2;cases c2
    refine⟨fun _=>⟨trivial,_,rfl,.inr r.2.1,rfl,?_,_,qkt S r.2.1 (w'++[n]),some (.v (.int (n:Nat))),some (.v (rdD r)),some (.v (qbW (w'++[n]))),?_⟩,fun h=>(by cases h)⟩
    ·rw[List.length_map];exact qaA (by omega)
    ·rw[hf,qgA hr' hw' hs0];rfl
   ·rw[qgM,qdk] at c2
    cases hg:qaq S r.2.1 with
    | none=>rw[hg] at c2;cases c2
    | some v =>
     obtain⟨vl,vn⟩:=hS _ _ hg
     refine⟨rs,w'++[n],rfl,by rw[List.length_append];show _+1≤_;omega,fun k hk=>?_,_,rfl,.inr r.2.1,rfl,qbW v,by rw[qb4,hg];rfl,rs,v,rfl,by omega,vn,fun c3=>?_,fun c3=>?_⟩
     ·rcases List.mem_append.mp hk with hk | hk
      ·exact wn k hk
      ·rw[List.mem_singleton.mp hk];exact hn n hnm
     ·refine⟨trivial,_,rfl,.inr r.2.1,rfl,?_,_,qkt S r.2.1 (w'++[n]),some (.v (.int (n:Nat))),some (.v (rdD r)),some (.v (qbW (w'++[n]))),?_⟩
      ·rw[List.length_map];exact qaA (by omega)
      ·rw[hf,qdf hr' hw' hg,if_pos (dP c3)];rfl
     ·refine⟨some (.v (.int (n:Nat))),some (.v (rdD r)),some (.v (qbW (w'++[n]))),?_⟩
      rw[hf,qdf hr' hw' hg,if_neg (of_decide_eq_false c3)];rfl
  ·rw[qb1,qdk] at c
   refine⟨some (.v (.int (n:Nat))),some (.v (rdD r)),u6,?_⟩
   have hw0:qaq W r.1=none:=by
    cases hg:qaq W r.1 with
    | none=>rfl
    | some v=>rw[hg] at c;cases c
   rw[hf,qgO hr' hw0];rfl
 ·rintro ρ ⟨u4,u5,u6,rfl⟩
  rw[List.length_map,List.take_length]
  exact q
def qpX (w:List Nat):Option (Nat × Nat)→D
 | none=>.non
 | some (c,e)=>.tup [qbW (w.take c),qbW ((w.take e).drop c)]
def qdO:SpD:=fun ds R=>∃ (rs:List Rod) (a:Str) (w:List Nat),ds=[.tup (rs.map rdD),.str a,qbW w]∧w.length≤100∧(∀ n∈w,n<rs.length)∧R (qpX w (qb2 rs [(a,0)] 0 w))
def kvF {β:Type}(f:β→D)(x:Str × β):Key × D:=(.inr x.1,f x.2)
theorem qla {β:Type}(f:β→D)(W:List (Str × β))(p:Str):qdy (W.map (kvF f)) (.inr p)=(qaq W p).map f:=by
 induction W with
 | nil=>rfl
 | cons x W ih =>
  rw[qaG]
  unfold qdy at ih ⊢
  rw[List.map_cons]
  by_cases c:x.1=p
  ·rw[List.find?_cons_of_pos (by simp [kvF,c]),if_pos c];rfl
  ·rw[List.find?_cons_of_neg (by simp [kvF,c]),if_neg c,ih]
theorem qqj {β:Type}(f:β→D)(W:List (Str × β))(p:Str)(l:β):qiU (W.map (kvF f)) (.inr p) (f l)=(qcF W p l).map (kvF f):=by
 have h1:=qcr (W.map (kvF f)) (.inr p)
 rw[qla,Option.isSome_map,← qoQ] at h1
 unfold qiU qcF
 rw[← h1]
 split
 ·rw[List.map_map,List.map_map]
  refine List.map_congr_left fun x _=>?_
  show (if (Sum.inr x.1:Key)=Sum.inr p then _ else _)=kvF f (if x.1=p then _ else _)
  by_cases c:x.1=p
  ·rw[if_pos (by rw[c]),if_pos c];rfl
  ·rw[if_neg (fun e=>c (Sum.inr.inj e)),if_neg c]
 ·rw[List.map_append];rfl
theorem qlI (w:List Nat){k:Nat}(h:k≤w.length):qeD (w.map fun n=>D.int (n:Nat)) none (some (k:Int))=(w.take k).map fun n=>D.int (n:Nat):=by
 rw[qfE]
 unfold qeD
 rw[HT.sIx_none,HT.sIx_nat,Nat.min_eq_left h,List.drop_zero,Nat.sub_zero]
theorem qnI (w:List Nat){k e:Nat}(h:k≤w.length)(he:e≤w.length):qeD (w.map fun n=>D.int (n:Nat)) (some (k:Int)) (some (e:Int))=((w.take e).drop k).map fun n=>D.int (n:Nat):=by
 rw[qfE]
 unfold qeD
 rw[HT.sIx_nat,HT.sIx_nat,Nat.min_eq_left h,Nat.min_eq_left he,List.drop_take]
def nD (n:Nat):D:=.int (n:Int)
theorem qfn {n:Nat}{f:Addr}{fd:FuncData}(F:Fun K "ring_parts" "ring_parts" qb9 f fd)(qa2:mg "enumerate"=none):FnOk P w K mg base CX0 (n+1) f fd ["roads","start","walk"] (qf2 K (zM qdO)):=by
 refine F.okM sc_ring_parts (fun as R Rx h=>?_) (fun cdv A outer s H E as R Rx qs hcd hr h hqs=>?_)
 ·obtain⟨_,rfl,rs,a,w0,rfl,_⟩:=h;rfl
 obtain⟨_,rfl,rs,a,w0,rfl,hl,hn,q⟩:=h
 obtain rfl:=ql1 hqs
 refine⟨_,(qap (qaJ (i:=3) sc_ring_parts.nd rfl (Or.inl rfl) (qkE (dv 1) qag))
   (qap (qdF PassesOwn.never rfl (qd2 (qho rfl qa2 (qad (dv 2) qau qaa))) (qn2 (n:=2) rfl (qfq (qbU (i:=4) sc_ring_parts.nd rfl (Or.inl rfl)) (qfq (qbU (i:=5) sc_ring_parts.nd rfl (Or.inl rfl)) ql9))) (qap (qaJ (i:=6) sc_ring_parts.nd rfl (Or.inl rfl) (qaE (qaX (PD.q (qaX (dvq 0) (dvq 5) (fun _ _=>rfl))) (PD.q qag) (fun _ _=>rfl))))
   (qce (qde (qkK 3 hr.units (dv 6)) (qpH 3 (qaz (qcA (qaE (qbt (qad (qpr (dvq 2) qhM (qff (PD.q (qb7 hr.units (dv 3) (dv 6) (fun _ _=>rfl))))) (qad (qpr (dvq 2) (qff (PD.q (qb7 hr.units (dv 3) (dv 6) (fun _ _=>rfl)))) (qff (PD.q (qbS qbe (dvq 4) (PD.q qag))))) qau qab) qab)))))) qbq)
   (qaz (qh9 3 hr.units (dv 6) (qbS qbe (dvq 4) (PD.q qag)))))))
   (qaz (qcA (qaE qdv))))),?_⟩
 refine⟨.inr a,rfl,_,rfl,fun i ρ=>∃ (cm:List (Str × Nat)) (u4 u5 u6:Option Sm),ρ=[some (.v (.tup (rs.map rdD))),some (.v (.str a)),some (.v (qbW w0)),some (.ob none (.map (cm.map (kvF nD)))),u4,u5,u6]∧qb2 rs cm i (w0.drop i)=qb2 rs [(a,0)] 0 w0∧(∀ e c,qaq cm e=some c→c≤i)∧cm.length≤i+1,⟨[(a,0)],_,_,_,rfl,rfl,fun e c h=>?_,Nat.le_refl _⟩,?_,?_⟩
 ·rw[qaG] at h
  by_cases z:a=e
  ·rw[if_pos z] at h;cases h;exact Nat.le_refl _
  ·rw[if_neg z] at h;cases h
 ·rintro i e ρ he ⟨cm,u4,u5,u6,rfl,hF,hc,hcl⟩
  obtain⟨e',he',rfl⟩:=qfr he
  obtain⟨n,rfl,hni⟩:=qbh he'
  have hi:=qak hni
  obtain⟨r,hr'⟩:=qmM (hn n (List.mem_of_getElem? hni))
  have hdr:w0.drop i=n::w0.drop (i+1):=by rw[List.drop_eq_getElem_cons hi];congr 1;rw[qaP hi] at hni;exact Option.some.inj hni
  rw[hdr] at hF
  refine⟨rfl,rdD r,qdh hr' rfl,_,rfl,fun ρ=>ρ=[some (.v (.tup (rs.map rdD))),some (.v (.str a)),some (.v (qbW w0)),some (.ob none (.map (cm.map (kvF nD)))),some (.v (.int (i:Nat))),some (.v (.int (n:Nat))),some (.v (.str r.2.1))]∧qaq cm r.2.1=none,⟨.inr r.2.1,rfl,fun c=>?_,fun c=>?_⟩,?_⟩
  ·rw[qb1,qla,Option.isSome_map] at c
   obtain⟨k,hk⟩:=Option.isSome_iff_exists.mp c
   have hki:=hc _ _ hk
   rw[qey hr' hk] at hF
   rw[← hF] at q
   have hg1:qdy (cm.map (kvF nD)) (.inr r.2.1)=some (.int (k:Nat)):=by rw[qla,hk];rfl
   refine⟨.inr r.2.1,_,rfl,hg1,_,qlI w0 (by omega),.inr r.2.1,_,rfl,hg1,_,qnI w0 (k:=k) (e:=i+1) (by omega) (by omega),q⟩
  ·rw[qb1,qla,Option.isSome_map] at c
   refine⟨rfl,?_⟩
   cases hg:qaq cm r.2.1 with
   | none=>rfl
   | some k=>rw[hg] at c;cases c
  ·rintro ρ ⟨rfl,hg⟩
   rw[qfz hr' hg] at hF
   refine⟨trivial,.inr r.2.1,rfl,?_,_,qqj nD cm r.2.1 (i+1),_,_,_,_,rfl,hF,fun e c h=>?_,?_⟩
   ·rw[List.length_map];exact qaA (by omega)
   ·rw[qa1] at h
    by_cases z:e=r.2.1
    ·rw[if_pos z] at h;cases h;exact Nat.le_refl _
    ·rw[if_neg z] at h;have:=hc e c h;omega
   ·have:=qhY cm r.2.1 (i+1);omega
 ·rintro ρ ⟨cm,u4,u5,u6,rfl,hF,hc,hcl⟩
  have hLl:(qdZ (w0.map fun n=>D.int (n:Nat))).length=w0.length:=by unfold qdZ;simp
  rw[hLl,List.drop_length] at hF
  rw[← hF] at q
  exact q
open Wl
theorem qji (n:Nat):∀ (xs ys:List Int),cmL (cmB n) (xs.map D.int) (ys.map D.int)=some (decide (xs=ys))
 | [],[]=>rfl
 | [],y::ys=>rfl
 | x::xs,[]=>rfl
 | x::xs,y::ys=>by
  have e:cmB n (D.int x) (D.int y)=some (x == y):=by cases n <;> rfl
  show ((cmB n (D.int x) (D.int y)).bind fun b=>(cmL (cmB n) (xs.map D.int) (ys.map D.int)).map (b && ·))=_
  rw[e,qji n xs ys]
  show some ((x == y) && decide (xs=ys))=_
  congr 1
  rw[Bool.eq_iff_iff,Bool.and_eq_true,decide_eq_true_iff,decide_eq_true_iff,beq_iff_eq,List.cons.injEq]
theorem qiM {l m:List Nat}(h:l.map (fun n:Nat=>(n:Int))=m.map (fun n:Nat=>(n:Int))):l=m:=by
 induction l generalizing m with
 | nil=>cases m with
  | nil=>rfl
  | cons=>cases h
 | cons x l ih=>cases m with
  | nil=>cases h
  | cons y m =>
   rw[List.map_cons,List.map_cons] at h
   injection h with h1 h2
   rw[ih h2]
   congr 1
   exact Int.ofNat.inj h1
theorem qh3 (l:List Nat):qbW l=.tup ((l.map fun n:Nat=>(n:Int)).map D.int):=by unfold qbW;rw[List.map_map];rfl
theorem qrR {l m:List Nat}{X Y:Prop}(k1:l≠m→X)(k2:l=m→Y):zNe (qbW l) (qbW m) fun d=>match d with | .bl b=>(b=true→X)∧(b=false→Y) | _=>False:=by
 rw[qh3,qh3]
 unfold zNe
 show (match cmL (cmB 39) _ _ with | some b=>_ | none=>False)
 rw[qji]
 by_cases c:l=m
 ·rw[decide_eq_true (by rw[c])]
  exact⟨fun h=>ff h,fun _=>k2 c⟩
 ·rw[decide_eq_false fun h=>c (qiM h)]
  exact⟨fun _=>k1 c,fun h=>tf h⟩
def qio (rs:List Rod)(us:List Str)(a:Str):Option Str:=us.find? fun p=>decide (qaq (itH rs (qan rs us) a (us.length - 1+1)) p≠qaq (itH rs (qan rs us) a (us.length - 1)) p)
def qdr (w:List Nat):Option (Nat × Nat)→List D
 | none=>[]
 | some (c,e)=>[qbW (w.take c),qbW ((w.take e).drop c)]
def qbr (rs:List Rod)(us:List Str)(a:Str):D:=match qio rs us a with
 | some p=>.tup (.str "ring"::qdr ((qaq (itH rs (qan rs us) a (us.length - 1+1)) p).getD []) (qb2 rs [(a,0)] 0 ((qaq (itH rs (qan rs us) a (us.length - 1+1)) p).getD [])))
 | none=>.tup [.str "short",.map ((itH rs (qan rs us) a (us.length - 1)).map wKV)]
theorem qch {rs:List Rod}{us:List Str}{n:Nat}(h:n∈qan rs us):n<rs.length:=by
 obtain⟨r,hr,_⟩:=within_mem.mp h
 exact qak hr
theorem qg0 (rs:List Rod)(us:List Str):(qan rs us).length≤rs.length:=by
 unfold qan
 rw[List.length_map]
 refine Nat.le_trans (List.length_filter_le _ _) ?_
 rw[List.length_zipIdx]
 exact Nat.le_refl _
theorem qjx (rs:List Rod)(ns:List Nat)(a:Str):∀ k,(itH rs ns a k).length≤1+k*ns.length
 | 0=>by rw[Nat.zero_mul];exact Nat.le_refl _
 | k+1=>by
  have h1:=qjx rs ns a k
  have h2:=qep rs (itH rs ns a k) ns (itH rs ns a k)
  have h3:(itH rs ns a (k+1)).length≤(itH rs ns a k).length+ns.length:=h2
  rw[Nat.succ_mul]
  omega
theorem qm7 {α:Type}{p:α→Bool}{l:List α}{i:Nat}{x:α}(h:l[i]?=some x)(hp:p x=true)(hn:∀ y∈l.take i,p y=false):l.find? p=some x:=by
 have hi:=(List.getElem?_eq_some_iff.mp h).1
 have e:l=l.take i++(x::l.drop (i+1)):=by
  have:l.drop i=x::l.drop (i+1):=by rw[List.drop_eq_getElem_cons hi];congr 1;exact (List.getElem?_eq_some_iff.mp h).2
  rw[← this,List.take_append_drop]
 rw[e,List.find?_append]
 have:(l.take i).find? p=none:=List.find?_eq_none.mpr fun y hy=>by rw[hn y hy];simp
 rw[this,List.find?_cons_of_pos hp]
 rfl
def qbE:SpD:=fun ds R=>∃ (rs:List Rod) (us:List Str) (a:Str),ds=[.tup (rs.map rdD),.tup (us.map D.str),.str a]∧us.length≤8∧rs.length≤12∧Inn rs (qan rs us) us a∧R (qbr rs us a)
theorem qdC {n:Nat}{f:Addr}{fd:FuncData}(F:Fun K "shortest_walks" "shortest_walks" qbd f fd)(Q_roads_within:Cl P w K mg base n "roads_within" ["roads","places"] qby)(Q_shortened:Cl P w K mg base n "shortened" ["roads","numbers","walks"] qew)(Q_ring_parts:Cl P w K mg base n "ring_parts" ["roads","start","walk"] qdO)(qbF:mg "range"=none)(qaU:mg "len"=none):FnOk P w K mg base CX0 (n+1) f fd ["roads","places","start"] (lSp K qbE):=by
 refine F.okD sc_shortest_walks (fun ds R h=>?_) (fun cdv A outer s H E ds R hr h=>?_)
 ·obtain⟨rs,us,a,rfl,_⟩:=h;rfl
 obtain⟨rs,us,a,rfl,hul,hrl,hi,q⟩:=h
 refine⟨_,(qa6 (qdW (i:=3) sc_shortest_walks.nd rfl (Or.inl rfl) (qaL Q_roads_within hr rfl (qad (dv 0) (qad (dv 1) qau qaa) qaa) qaa (qac qaa qae)))
   (qa6 (qdW (i:=4) sc_shortest_walks.nd rfl (Or.inl rfl) (qmJ (dv 2) (qbt qau)))
   (qa6 (qhm PassesOwn.never rfl (qfV rfl qbF (qad (qbS qiX (PD.q (qaR qb0 rfl qaU PySem.boot_len (qaB (dvq 1) qaQ qaa) qaa qae)) (PD.q qag)) qau qaD)) (qbG (i:=5) sc_shortest_walks.nd rfl (Or.inl rfl)) (qbw (qdW (i:=4) sc_shortest_walks.nd rfl (Or.inl rfl) (qaL Q_shortened hr rfl (qad (dv 0) (qad (dv 3) (qad (dv 4) qau qaa) qaa) qaa) qaa (qac qaa (qac qaa qae))))))
   (qa6 (qdW (i:=6) sc_shortest_walks.nd rfl (Or.inl rfl) (qaL Q_shortened hr rfl (qad (dv 0) (qad (dv 3) (qad (dv 4) qau qaa) qaa) qaa) qaa (qac qaa (qac qaa qae))))
   (qa6 (qhm PassesOwn.never rfl (qcd (dv 1)) (qbG (i:=7) sc_shortest_walks.nd rfl (Or.inl rfl)) (qbw (qkS (qaT (qq2 hr.units) (PD.q (qb7 hr.units (dv 6) (dv 7) (fun _ _=>rfl))) (PD.q (qb7 hr.units (dv 4) (dv 7) (fun _ _=>rfl))) (qaI _)) (qbw (qc9 (qbS qbe (PD.q (qbt (qad qaW qau qaf))) (PD.q (qaL Q_ring_parts hr rfl (qad (dv 0) (qad (dv 2) (qad (qb7 hr.units (dv 6) (dv 7) (fun _ _=>rfl)) qau qab) qaa) qaa) qaa (qac qaa (qac qab qae))))))) qfp)))
   (qbw (qc9 (qbt (qad qaW (qad (dv 4) qau qaa) qaf))))))))),?_⟩
 have hnl:=qg0 rs us
 have hpos:=List.length_pos_of_mem hi.st
 have hW:∀ k,k≤8→(itH rs (qan rs us) a k).length≤200:=fun k hk=>by
  have h1:=qjx rs (qan rs us) a k
  have h2:k*(qan rs us).length≤8*12:=Nat.mul_le_mul hk (by omega)
  omega
 have hWw:∀ k,k≤8→∀ p l,qaq (itH rs (qan rs us) a k) p=some l→l.length≤50∧∀ n∈l,n<rs.length:=fun k hk p l h=>by
  obtain⟨_,z2,z3⟩:=qcQ k h
  exact⟨by omega,fun n hn=>qch (z3 n hn)⟩
 refine⟨_,_,rs,us,rfl,rfl,rfl,by omega,.inr a,rfl,?_⟩
 have hul':((us.map D.str).length:Int)=us.length:=by rw[List.length_map]
 refine⟨⟨by omega,by omega⟩,fun k ρ=>∃ u5:Option Sl,ρ=[some (.v (.tup (rs.map rdD))),some (.v (.tup (us.map D.str))),some (.v (.str a)),some (.v (qbW (qan rs us))),some (.v (.map ((itH rs (qan rs us) a k).map wKV))),u5,none,none],⟨_,rfl⟩,?_,?_⟩
 ·rintro k e ρ he ⟨u5,rfl⟩
  obtain⟨hk,rfl⟩:=qcJ he
  have hk:k<us.length - 1:=by omega
  exact⟨rs,qan rs us,itH rs (qan rs us) a k,rfl,by omega,fun n hn=>qch hn,hW k (by omega),hWw k (by omega),_,rfl⟩
 rintro ρ ⟨u5,rfl⟩
 rw[qbx]
 have hlen:(((us.map D.str).length:Int) - 1).toNat=us.length - 1:=by omega
 rw[hlen]
 refine⟨rs,qan rs us,itH rs (qan rs us) a (us.length - 1),rfl,by omega,fun n hn=>qch hn,hW _ (by omega),hWw _ (by omega),?_⟩
 refine⟨fun i ρ=>(∃ u7:Option Sl,ρ=[some (.v (.tup (rs.map rdD))),some (.v (.tup (us.map D.str))),some (.v (.str a)),some (.v (qbW (qan rs us))),some (.v (.map ((itH rs (qan rs us) a (us.length - 1)).map wKV))),u5,some (.v (.map ((itH rs (qan rs us) a (us.length - 1+1)).map wKV))),u7])∧∀ p∈us.take i,qaq (itH rs (qan rs us) a (us.length - 1+1)) p=qaq (itH rs (qan rs us) a (us.length - 1)) p,⟨⟨_,rfl⟩,fun _ h=>(by cases h)⟩,?_,?_⟩
 ·rintro i e ρ he ⟨⟨u7,rfl⟩,hu⟩
  obtain⟨p,rfl,hp⟩:=qbh he
  have hpm:=List.mem_of_getElem? hp
  obtain⟨v,hv⟩:=hi.all hpm
  obtain⟨v',hv',_⟩:=ql7 _ hv
  refine⟨.inr p,qbW v',rfl,by rw[qb4,hv'];rfl,.inr p,qbW v,rfl,by rw[qb4,hv];rfl,?_⟩
  refine qrR (fun c=>?_) (fun c=>?_)
  ·have hne:qaq (itH rs (qan rs us) a (us.length - 1+1)) p≠qaq (itH rs (qan rs us) a (us.length - 1)) p:=by rw[hv,hv'];exact fun h=>c (Option.some.inj h)
   have ht:qio rs us a=some p:=qm7 hp (decide_eq_true hne) fun y hy=>decide_eq_false fun h=>h (hu y hy)
   obtain⟨w',c',e',pl,z1,z2,z3,z4,z5,z6,z7,z8,z9⟩:=hi.ring hpm hne
   cases hv'.symm.trans z1
   have hq:qbr rs us a=.tup [.str "ring",qbW (v'.take c'),qbW ((v'.take e').drop c')]:=by
    unfold qbr
    rw[ht]
    show D.tup (.str "ring"::qdr ((qaq (itH rs (qan rs us) a (us.length - 1+1)) p).getD []) (qb2 rs [(a,0)] 0 ((qaq (itH rs (qan rs us) a (us.length - 1+1)) p).getD [])))=_
    rw[hv']
    show D.tup (.str "ring"::qdr v' (qb2 rs [(a,0)] 0 v'))=_
    rw[z2]
    rfl
   rw[hq] at q
   refine⟨.inr p,qbW v',rfl,by rw[qb4,hv'];rfl,rs,a,v',rfl,by omega,fun n hn=>qch (z8 n hn),?_⟩
   rw[z2]
   exact⟨by show 1+2≤sizeLine;rw[sizeLine_eq];decide,_,rfl,q⟩
  ·refine⟨⟨_,rfl⟩,fun x hx=>?_⟩
   rw[qbB hp] at hx
   rcases List.mem_append.mp hx with hx | hx
   ·exact hu x hx
   ·rw[List.mem_singleton.mp hx,hv,hv',c]
 ·rintro ρ ⟨⟨u7,rfl⟩,hu⟩
  rw[List.length_map,List.take_length] at hu
  have ht:qio rs us a=none:=List.find?_eq_none.mpr fun y hy=>by rw[decide_eq_false fun h=>h (hu y hy)];simp
  have hq:qbr rs us a=.tup [.str "short",.map ((itH rs (qan rs us) a (us.length - 1)).map wKV)]:=by unfold qbr;rw[ht]
  rw[hq] at q
  exact q
open Wl
def qi3 (rs:List Rod):List Nat→Str
 | n::_=>((rs[n]?).map (·.1)).getD ""
 | []=>""
def qfy (rs:List Rod)(a g:Str)(w:List Nat):D:=match qb2 rs [(a,0)] 0 w with
 | some (c,e)=>.tup [.str "ring",qbW (w.take c),qbW ((w.take e).drop c),qbW ((qaq (qaY rs (qi3 rs ((w.take e).drop c))) g).getD [])]
 | none=>.non
def qpk (rs:List Rod)(W:List (Str × List Nat))(p:Str):D:=match qaq W p with
 | some l=>.int (qbO rs l)
 | none=>.non
def qhu (ps:List Str)(rs:List Rod)(a g:Str):D:=if (qaq (qaY rs a) g).isSome=true then (match qio rs (qaw ps rs a g) a with
  | some p=>qfy rs a g ((qaq (itH rs (qan rs (qaw ps rs a g)) a ((qaw ps rs a g).length - 1+1)) p).getD [])
  | none=>.tup [.str "road",qbW ((qaq (itH rs (qan rs (qaw ps rs a g)) a ((qaw ps rs a g).length - 1)) g).getD []),.int (qbO rs ((qaq (itH rs (qan rs (qaw ps rs a g)) a ((qaw ps rs a g).length - 1)) g).getD [])),.tup (ps.map (qpk rs (itH rs (qan rs (qaw ps rs a g)) a ((qaw ps rs a g).length - 1))))])
 else .tup [.str "wall",.tup ((ps.filter fun p=>(qaq (qaY rs a) p).isSome).map D.str)]
theorem qi1 {ps:List Str}{rs:List Rod}{a g:Str}(hc:MapOk ps rs a g)(h:Rch rs a g):Inn rs (qan rs (qaw ps rs a g)) (qaw ps rs a g) a :=
 qoT (g:=g) (fun n=>within_mem) (fun n r hr h1 h2=>by
  have hm:=List.mem_of_getElem? hr
  obtain⟨p1,p2⟩:=hc.r r hm
  have h3:Rch rs r.1 r.2.1:=.one hm
  exact⟨useful_mem.mpr ⟨p1,h1,h3.trans h2⟩,useful_mem.mpr ⟨p2,h1.trans h3,h2⟩⟩) (useful_mem.mpr ⟨hc.a,.refl,h⟩) (fun v hv=>(useful_mem.mp hv).2)
theorem qm1 {rs:List Rod}{ns:List Nat}{us:List Str}{a v:Str}{w:List Nat}(h:Inn rs ns us a)(h1:qam rs a w=some v)(h3:∀ n∈w,n∈ns):v∈us:=by
 rcases List.eq_nil_or_concat w with rfl | ⟨l',n,rfl⟩
 ·cases h1;exact h.st
 ·rw[List.concat_eq_append] at h1 h3
  obtain⟨r,z1,_,z3⟩:=qcp h1
  rw[← z3]
  exact h.e h3 n (List.mem_append_right _ (List.mem_singleton.mpr rfl)) r z1
structure RingW (rs:List Rod)(us:List Str)(a g:Str)(w:List Nat)(c e:Nat)(p:Str)(n0:Nat)(r0:Rod)(l3:List Nat):Prop where
 ring:qb2 rs [(a,0)] 0 w=some (c,e)
 e1:qam rs a (w.take c)=some p
 e2:qam rs p ((w.take e).drop c)=some p
 neg:qbO rs ((w.take e).drop c)<0
 hd:((w.take e).drop c)[0]?=some n0
 at0:rs[n0]?=some r0
 rp:r0.1=p
 to:qaq (qaY rs p) g=some l3
 w3:qam rs p l3=some g
 len:w.length≤8
 lt:∀ n∈w,n<rs.length
 pl:qi3 rs ((w.take e).drop c)=p
 pu:p∈us
theorem qiG {ps:List Str}{rs:List Rod}{a g:Str}(hc:MapOk ps rs a g)(h:Rch rs a g){p:Str}(ht:qio rs (qaw ps rs a g) a=some p) :
  ∃ w c e pl n0 r0 l3,qaq (itH rs (qan rs (qaw ps rs a g)) a ((qaw ps rs a g).length - 1+1)) p=some w∧RingW rs (qaw ps rs a g) a g w c e pl n0 r0 l3:=by
 have hi:=qi1 hc h
 have hul:(qaw ps rs a g).length≤8:=Nat.le_trans (List.length_filter_le _ _) hc.pl
 generalize hus:qaw ps rs a g=us at ht hi hul
 have hpm:p∈us:=List.mem_of_find?_eq_some ht
 have ht':us.find? (fun p=>decide (qaq (itH rs (qan rs us) a (us.length - 1+1)) p≠qaq (itH rs (qan rs us) a (us.length - 1)) p))=some p:=ht
 have hne:qaq (itH rs (qan rs us) a (us.length - 1+1)) p≠qaq (itH rs (qan rs us) a (us.length - 1)) p:=by
  have h5:=List.find?_some ht'
  exact of_decide_eq_true h5
 obtain⟨w,c,e,pl,z1,z2,z3,z4,z5,z6,z7,z8,z9⟩:=hi.ring hpm hne
 have hlen:((w.take e).drop c).length=e - c:=by rw[List.length_drop,List.length_take];omega
 cases hd:(w.take e).drop c with
 | nil=>rw[hd] at hlen;have:0=e - c:=hlen;omega
 | cons n0 rest =>
  have z6':=z6
  rw[hd] at z6'
  obtain⟨q,h1,_⟩:=qbv (l:=[n0]) (m:=rest) z6'
  obtain⟨r0,y1,y2,_⟩:=qcO h1
  have hpu:pl∈us:=qm1 hi z5 fun n hn=>z8 n (List.mem_of_mem_take hn)
  have hpg:Rch rs pl g:=by rw[← hus] at hpu;exact (useful_mem.mp hpu).2.2
  obtain⟨l3,hl3⟩:=Option.isSome_iff_exists.mp (walksF_some.mpr hpg)
  refine⟨w,c,e,pl,n0,r0,l3,z1,z2,z5,z6,z7,by rw[hd];rfl,y1,y2,hl3,qg7 hl3,by omega,fun n hn=>qch (z8 n hn),?_,hpu⟩
  rw[hd]
  show ((rs[n0]?).map (·.1)).getD ("":Str)=pl
  rw[y1]
  exact y2
def qjp:SpD:=fun ds R=>∃ (ps:List Str) (rs:List Rod) (a g:Str),ds=[.tup (ps.map D.str),.tup (rs.map rdD),.str a,.str g]∧MapOk ps rs a g∧R (qhu ps rs a g)
theorem qnm {n:Nat}{f:Addr}{fd:FuncData}(F:Fun K "road" "road" qdj f fd)(Q_refuse_roads:Cl P w K mg base n "refuse_roads" ["places","roads","start","goal"] qa9)(Q_walks_from:Cl P w K mg base n "walks_from" ["roads","start"] qca)(Q_shortest_walks:Cl P w K mg base n "shortest_walks" ["roads","places","start"] qbE)(Q_useful_places:Cl P w K mg base n "useful_places" ["places","roads","start","goal"] qa4)(Q_walk_length:Cl P w K mg base n "walk_length" ["roads","walk"] qbJ)(qaM:mg "tuple"=none):FnOk P w K mg base CX0 (n+1) f fd ["places","roads","start","goal"] (lSp K qjp):=by
 refine F.okD sc_road (fun ds R h=>?_) (fun cdv A outer s H E ds R hr h=>?_)
 ·obtain⟨ps,rs,a,g,rfl,_⟩:=h;rfl
 obtain⟨ps,rs,a,g,rfl,hc,q⟩:=h
 refine⟨_,(qa6 (qer (qaL Q_refuse_roads hr rfl (qad (dv 0) (qad (dv 1) (qad (dv 2) (qad (dv 3) qau qaa) qaa) qaa) qaa) qaa (qac qaa (qac qaa (qac qaa qae)))))
   (qa6 (qdW (i:=4) sc_road.nd rfl (Or.inr rfl) (qaL Q_walks_from hr rfl (qad (dv 1) (qad (dv 2) qau qaa) qaa) qaa (qac qaa qae)))
   (qlG (qkS (qhR hr.units (dv 3) (dv 4)) (qbw (qc9 (qbt (qad qaW (qad (qbo qbY rfl qaM PyProof.Rows.boot_tuple (qaB (PD.q (PF.d (qih (k:=1) (N':=["place","reached"]) (cap:=[none,some 4]) rfl (.ok (show qc2 ["places","roads","start","goal","reached","told","ring","walks","heights"] (qah qdj) _ ["place","reached"] [none,some 4]=true by decide +kernel)) (by decide +kernel) (qdt (by decide)) (qcd (dv 0)) (fun _ _ _ _ _=>(qbG (i:=0) (show List.Nodup (["place","reached"]:List Str) by decide +kernel) rfl (Or.inl rfl))) (fun _ _ _ _ _=>(qh0 (qgV hr.units (dv 0) (dv 1)))) (fun _ _ _ _ _=>(dv 0))))) qaQ qaC) qaC qae) qau qao) qaf)))) qfp)
   (qa6 (qdW (i:=5) sc_road.nd rfl (Or.inl rfl) (qaL Q_shortest_walks hr rfl (qad (dv 1) (qad (qaL Q_useful_places hr rfl (qad (dv 0) (qad (dv 1) (qad (dv 2) (qad (dv 3) qau qaa) qaa) qaa) qaa) qaa (qac qaa (qac qaa (qac qaa qae)))) (qad (dv 2) qau qaa) qao) qaa) qaa (qac qao (qac qaa qae))))
   (qlG (qkS (qaT (qeY hr.units) (PD.q (qaX (dvq 5) (PD.q qag) (fun _ _=>rfl))) (PD.q qaW) (qaI _)) (qa6 (qdW (i:=6) sc_road.nd rfl (Or.inl rfl) (qaX (dvq 5) (PD.q qag) (fun _ _=>rfl)))
   (qbw (qc9 (qbS qbe (dvq 5) (PD.q (qbt (qad (qb7 hr.units (qaL Q_walks_from hr rfl (qad (dv 1) (qad (qaX (PD.q (qaX (dvq 1) (PD.q (qaX (dvq 6) (PD.q qag) (fun _ _=>rfl))) (fun _ _=>rfl))) (PD.q qag) (fun _ _=>rfl)) qau qab) qaa) qaa (qac qab qae)) (dv 3) (fun _ _=>rfl)) qau qab))))))) qfp)
   (qa6 (qdW (i:=7) sc_road.nd rfl (Or.inr rfl) (qaX (dvq 5) (PD.q qag) (fun _ _=>rfl)))
   (qa6 (qdW (i:=8) sc_road.nd rfl (Or.inl rfl) (qbo qbY rfl qaM PyProof.Rows.boot_tuple (qaB (PD.q (PF.d (qfU (k:=1) (N':=["place","walks","roads"]) (cap:=[none,some 7,some 1]) rfl (.ok (show qc2 ["places","roads","start","goal","reached","told","ring","walks","heights"] (qah qdj) _ ["place","walks","roads"] [none,some 7,some 1]=true by decide +kernel)) (by decide +kernel) (qdt (by decide)) (qcd (dv 0)) (fun _ _ _ _ _=>(qbG (i:=0) (show List.Nodup (["place","walks","roads"]:List Str) by decide +kernel) rfl (Or.inl rfl))) (fun _ _ _ _ _=>(qpv (qgV hr.units (dv 0) (dv 1)) (qaL Q_walk_length hr rfl (qad (dv 2) (qad (qb7 hr.units (dv 1) (dv 0) (fun _ _=>rfl)) qau qab) qaa) qaa (qac qab qae)) qdv))))) qaQ qaC) qaC qae))
   (qbw (qc9 (qbt (qad qaW (qad (qb7 hr.units (dv 7) (dv 3) (fun _ _=>rfl)) (qad (qaL Q_walk_length hr rfl (qad (dv 1) (qad (qb7 hr.units (dv 7) (dv 3) (fun _ _=>rfl)) qau qab) qaa) qaa (qac qab qae)) (qad (dv 8) qau qaa) qao) qab) qaf))))))))))),?_⟩
 have hpl:=hc.pl
 have hrl:=hc.rl
 have hul:(qaw ps rs a g).length≤8:=Nat.le_trans (List.length_filter_le _ _) hpl
 refine⟨ps,rs,a,g,rfl,hc,_,rs,a,rfl,rfl,by omega,?_⟩
 refine⟨fun ρ=>(qaq (qaY rs a) g).isSome=true∧ρ=[some (.v (.tup (ps.map D.str))),some (.v (.tup (rs.map rdD))),some (.v (.str a)),some (.v (.str g)),some (.v (.map ((qaY rs a).map wKV))),none,none,none,none],⟨.inr g,rfl,fun c=>?_,fun c=>?_⟩,?_⟩
 ·rw[qgM,qdk] at c
  have hq:qhu ps rs a g=.tup [.str "wall",.tup ((ps.filter fun p=>(qaq (qaY rs a) p).isSome).map D.str)]:=by unfold qhu;rw[if_neg (fun h=>by rw[h] at c;cases c)]
  rw[hq] at q
  refine⟨by rw[List.length_map];exact qaA (by omega),fun i y=>qnO (fun p=>(qaq (qaY rs a) p).isSome) D.str ps[i]? y,qfP (fun p _=>?_),fun ys hl hy=>by rw[qgY hl hy];exact q⟩
  refine⟨.inr p,rfl,fun h=>?_,fun h=>?_⟩
  ·rw[qb1,qdk] at h
   exact⟨h,rfl⟩
  ·rw[qb1,qdk] at h
   exact h
 ·rw[qgM,qdk] at c
  refine⟨?_,rfl⟩
  cases h:(qaq (qaY rs a) g).isSome with
  | true=>rfl
  | false=>rw[h] at c;cases c
 rintro ρ ⟨hg,rfl⟩
 have hr0:=walksF_some.mp hg
 have hi:=qi1 hc hr0
 have hgu:g∈qaw ps rs a g:=useful_mem.mpr ⟨hc.g,hr0,.refl⟩
 refine⟨_,_,ps,rs,a,g,rfl,rfl,rfl,by omega,by omega,rs,qaw ps rs a g,a,rfl,hul,by omega,hi,?_⟩
 cases ht:qio rs (qaw ps rs a g) a with
 | some p =>
  obtain⟨w',c,e,pl,n0,r0,l3,hw,k⟩:=qiG hc hr0 ht
  have hs:qbr rs (qaw ps rs a g) a=.tup [.str "ring",qbW (w'.take c),qbW ((w'.take e).drop c)]:=by
   unfold qbr
   rw[ht]
   show D.tup (.str "ring"::qdr ((qaq _ p).getD []) (qb2 rs [(a,0)] 0 ((qaq _ p).getD [])))=_
   rw[hw]
   show D.tup (.str "ring"::qdr w' (qb2 rs [(a,0)] 0 w'))=_
   rw[k.ring]
   rfl
  have hq:qhu ps rs a g=.tup [.str "ring",qbW (w'.take c),qbW ((w'.take e).drop c),qbW l3]:=by
   unfold qhu
   rw[if_pos hg,ht]
   show qfy rs a g ((qaq _ p).getD [])=_
   rw[hw]
   show qfy rs a g w'=_
   unfold qfy
   rw[k.ring]
   show D.tup [.str "ring",qbW (w'.take c),qbW ((w'.take e).drop c),qbW ((qaq (qaY rs (qi3 rs ((w'.take e).drop c))) g).getD [])]=_
   rw[k.pl,k.to]
   rfl
  rw[hs]
  rw[hq] at q
  refine⟨fun ρ=>False,⟨_,rfl,fun _=>?_,fun h=>(by cases h)⟩,?_⟩
  ·refine⟨_,rfl,.int (n0:Nat),qdh k.hd rfl,rdD r0,qdh k.at0 rfl,_,rfl,.tup (rs.map rdD),rs,pl,?_,rfl,by omega,.inr g,qbW l3,rfl,by rw[qb4,k.to];rfl,by show 3+1≤sizeLine;rw[sizeLine_eq];decide,_,rfl,q⟩
   rw[k.rp]
  ·rintro ρ ⟨⟩
 | none =>
  have hs:qbr rs (qaw ps rs a g) a=.tup [.str "short",.map ((itH rs (qan rs (qaw ps rs a g)) a ((qaw ps rs a g).length - 1)).map wKV)]:=by unfold qbr;rw[ht]
  obtain⟨v,hv⟩:=hi.all hgu
  have hWw:∀ p l,qaq (itH rs (qan rs (qaw ps rs a g)) a ((qaw ps rs a g).length - 1)) p=some l→l.length≤50∧∀ n∈l,n<rs.length:=fun p l h=>by
   obtain⟨_,z2,z3⟩:=qcQ _ h
   exact⟨by omega,fun n hn=>qch (z3 n hn)⟩
  have hq:qhu ps rs a g=.tup [.str "road",qbW v,.int (qbO rs v),.tup (ps.map (qpk rs (itH rs (qan rs (qaw ps rs a g)) a ((qaw ps rs a g).length - 1))))]:=by
   unfold qhu
   rw[if_pos hg,ht,hv]
   rfl
  rw[hs]
  rw[hq] at q
  generalize itH rs (qan rs (qaw ps rs a g)) a ((qaw ps rs a g).length - 1)=W at hv hWw q
  obtain⟨vl,vn⟩:=hWw _ _ hv
  refine⟨fun ρ=>ρ=[some (.v (.tup (ps.map D.str))),some (.v (.tup (rs.map rdD))),some (.v (.str a)),some (.v (.str g)),some (.v (.map ((qaY rs a).map wKV))),some (.v (.tup [.str "short",.map (W.map wKV)])),none,none,none],⟨_,rfl,fun h=>(by cases h),fun _=>rfl⟩,?_⟩
  rintro ρ rfl
  refine⟨_,rfl,?_⟩
  refine qgw (f:=D.str) (qpk rs W) (qaA (by omega)) (fun p _=>?_) ?_
  ·refine⟨.inr p,rfl,fun c=>?_,fun c=>?_⟩
   ·rw[qb1,qdk] at c
    obtain⟨l,hl⟩:=Option.isSome_iff_exists.mp c
    obtain⟨ll,ln⟩:=hWw _ _ hl
    refine⟨.inr p,qbW l,rfl,by rw[qb4,hl];rfl,rs,l,rfl,by omega,ln,?_⟩
    unfold qpk
    rw[hl]
   ·rw[qb1,qdk] at c
    unfold qpk
    cases hl:qaq W p with
    | none=>rfl
    | some l=>rw[hl] at c;cases c
  ·exact⟨.inr g,qbW v,rfl,by rw[qb4,hv];rfl,.inr g,qbW v,rfl,by rw[qb4,hv];rfl,rs,v,rfl,by omega,vn,q⟩
def qdo:SpR:=fun ds W=>∃ (a b:Int),ds=[.int a,.int b]∧b<a∧W ⟨"TooGreat",some .non⟩
theorem qel {n:Nat}{f:Addr}{fd:FuncData}(F:Fun K "refuse_more" "refuse_more" qbn f fd)(Z_TooGreat:Rz1 P w K mg base "TooGreat"):FnOk P w K mg base (CXo P w) (n+3) f fd ["count","most"] (qhA K mg (qgl qdo)):=by
 refine F.okX qc1 (fun ds R W h=>?_) (fun cdv A outer s H E ds R W hcd hr h=>?_)
 ·obtain⟨a,b,rfl,_⟩:=h;rfl
 obtain⟨a,b,rfl,h,q⟩:=h
 refine⟨_,(qaz (qde (qbu (qaT qkP (dvq 0) (dvq 1) (qaI _))) (qaz (qm0 Z_TooGreat rfl rfl rfl (hr.mono (by omega)) qdv qaf)) qbq)),?_⟩
 exact⟨fun _=>⟨trivial,q⟩,fun e=>absurd h (of_decide_eq_false e)⟩
theorem qmw {kvs:List (Key × D)}{xs:List Str}{x:Str}(h:kvs.map (·.1)=xs.map Sum.inr):(qdy kvs (.inr x)).isSome=decide (x∈xs):=by
 rw[qcr]
 have e:(kvs.any fun kv=>decide (kv.1=.inr x))=((kvs.map (·.1)).any fun k=>decide (k=.inr x)):=by rw[List.any_map];rfl
 rw[e,h,List.any_map]
 by_cases c:x∈xs
 ·rw[decide_eq_true c]
  exact List.any_eq_true.mpr ⟨x,c,by show decide ((Sum.inr x:Key)=.inr x)=true;rw[decide_eq_true rfl]⟩
 ·rw[decide_eq_false c]
  refine Bool.eq_false_iff.mpr fun z=>?_
  obtain⟨y,hy,e⟩:=List.any_eq_true.mp z
  have:=Sum.inr.inj (of_decide_eq_true e)
  rw[this] at hy
  exact c hy
theorem qeQ {xs:List Str}{x:Str}(h:xs.Nodup)(hx:x∉xs):(xs++[x]).Nodup:=by
 rw[List.nodup_append]
 refine⟨h,by simp,fun a ha b hb=>?_⟩
 rw[List.mem_singleton.mp hb]
 exact fun e=>hx (e ▸ ha)
def qc3:SpR:=fun ds W=>∃ (d:D) (xs:List Str),ds=[d]∧qe1 d=some (xs.map D.str)∧¬ xs.Nodup∧xs.length≤1000∧W ⟨"Twice",some .non⟩
theorem qdY {n:Nat}{f:Addr}{fd:FuncData}(F:Fun K "refuse_twice" "refuse_twice" qa7 f fd)(Z_Twice:Rz1 P w K mg base "Twice"):FnOk P w K mg base (CXo P w) (n+3) f fd ["names"] (qhA K mg (qgl qc3)):=by
 refine F.okX sc_refuse_twice (fun ds R W h=>?_) (fun cdv A outer s H E ds R W hcd hr h=>?_)
 ·obtain⟨d,xs,rfl,_⟩:=h;rfl
 obtain⟨d,xs,rfl,hd,hn,hl,q⟩:=h
 refine⟨_,(qap (qaJ (i:=1) sc_refuse_twice.nd rfl (Or.inl rfl) qi6)
   (qaz (qdF PassesOwn.leaving rfl (qd2 (qcd (dv 0))) (qbU (i:=2) sc_refuse_twice.nd rfl (Or.inl rfl)) (qce (qde (qkK 1 hr.units (dv 2)) (qaz (qm0 Z_Twice rfl rfl rfl (hr.mono (by omega)) qdv qaf)) qbq)
   (qaz (qh9 1 hr.units (dv 2) qd3)))))),?_⟩
 refine qdd (ρ:=[]) hd ?_
 refine⟨fun i ρ=>(xs.take i).Nodup∧∃ (kvs:List (Key × D)) (u2:Option Sm),kvs.map (·.1)=(xs.take i).map Sum.inr∧ρ=[some (.v d),some (.ob none (.map kvs)),u2],⟨by simp,[],_,rfl,rfl⟩,?_,?_⟩
 ·rintro i e ρ he ⟨hnd,kvs,u2,hk,rfl⟩
  obtain⟨x,rfl,hx⟩:=qbh he
  have hi:=qak hx
  have hin:=qmw (x:=x) hk
  refine⟨fun ρ=>x∉xs.take i∧ρ=[some (.v d),some (.ob none (.map kvs)),some (.v (.str x))],⟨.inr x,rfl,fun h=>⟨trivial,q⟩,fun h=>?_⟩,?_⟩
  ·rw[qb1,hin] at h
   exact⟨of_decide_eq_false h,rfl⟩
  rintro ρ ⟨hx9,rfl⟩
  have hl2:kvs.length=(xs.take i).length:=by have:=congrArg List.length hk;rwa [List.length_map,List.length_map] at this
  have hno:qdy kvs (.inr x)=none:=by
   rw[decide_eq_false hx9] at hin
   cases e:qdy kvs (.inr x) with
   | none=>rfl
   | some v=>rw[e] at hin;cases hin
  refine⟨trivial,.inr x,rfl,?_,_,qh7 hno,?_,_,_,?_,rfl⟩
  ·rw[hl2,List.length_take];exact qaA (by omega)
  ·rw[qbB hx];exact qeQ hnd hx9
  ·rw[qbB hx,List.map_append,List.map_append,hk];rfl
 ·rintro ρ ⟨hnd,_⟩
  rw[List.length_map,List.take_length] at hnd
  exact absurd hnd hn
def qcD:SpR:=fun ds W=>∃ (d e:D) (xs ys:List Str),ds=[d,e]∧qe1 d=some (xs.map D.str)∧qe1 e=some (ys.map D.str)∧(∃ x∈xs,x∉ys)∧W ⟨"NoName",some .non⟩
theorem qdm {n:Nat}{f:Addr}{fd:FuncData}(F:Fun K "refuse_strange" "refuse_strange" qa3 f fd)(Z_NoName:Rz1 P w K mg base "NoName"):FnOk P w K mg base (CXo P w) (n+3) f fd ["names","known"] (qhA K mg (qgl qcD)):=by
 refine F.okX sc_refuse_strange (fun ds R W h=>?_) (fun cdv A outer s H E ds R W hcd hr h=>?_)
 ·obtain⟨d,e,xs,ys,rfl,_⟩:=h;rfl
 obtain⟨d,e,xs,ys,rfl,hd,he,hx,q⟩:=h
 refine⟨_,(qaz (qdF PassesOwn.leaving rfl (qd2 (qcd (dv 0))) (qbU (i:=2) sc_refuse_strange.nd rfl (Or.inl rfl)) (qaz (qde (qbu (qaT qdG (dvq 2) (dvq 1) (by with_unfolding_all rfl))) (qaz (qm0 Z_NoName rfl rfl rfl (hr.mono (by omega)) qdv qaf)) qbq)))),?_⟩
 refine qdd (ρ:=[]) hd ?_
 refine⟨fun i ρ=>(∀ x∈xs.take i,x∈ys)∧∃ u2:Option Sm,ρ=[some (.v d),some (.v e),u2],⟨by simp,_,rfl⟩,?_,?_⟩
 ·rintro i f ρ hf ⟨hall,u2,rfl⟩
  obtain⟨x,rfl,hx2⟩:=qbh hf
  refine⟨.inr x,ys.map Sum.inr,rfl,by rw[← qbQ];exact he,?_⟩
  rw[qdJ]
  refine⟨fun h=>⟨trivial,q⟩,fun h=>⟨fun y hy=>?_,_,rfl⟩⟩
  rw[qbB hx2] at hy
  rcases List.mem_append.mp hy with hy | hy
  ·exact hall y hy
  ·rw[List.mem_singleton.mp hy]
   by_cases c:x∈ys
   ·exact c
   ·rw[decide_eq_false c] at h;cases h
 ·rintro ρ ⟨hall,_⟩
  rw[List.length_map,List.take_length] at hall
  obtain⟨x,h1,h2⟩:=hx
  exact absurd (hall x h1) h2
inductive RdBad (ps:List Str) (rs:List Rod) (a g:Str):Str→Prop where
 | great:(8<ps.length∨12<rs.length)→RdBad ps rs a g "TooGreat"
 | twice:ps.length≤8→rs.length≤12→¬ ps.Nodup→RdBad ps rs a g "Twice"
 | strange:ps.length≤8→rs.length≤12→ps.Nodup→((∃ r∈rs,r.1∉ps∨r.2.1∉ps)∨a∉ps∨g∉ps)→RdBad ps rs a g "NoName"
def qbb:SpR:=fun ds W=>∃ (nm:Str) (ps:List Str) (rs:List Rod) (a g:Str),ds=[.tup (ps.map D.str),.tup (rs.map rdD),.str a,.str g]∧RdBad ps rs a g nm∧ps.length≤100∧rs.length≤100∧W ⟨nm,some .non⟩
theorem two_in {a b:Str}{ps:List Str}:(∃ x∈[a,b],x∉ps)↔a∉ps∨b∉ps:=by simp
theorem qd0 {n:Nat}{f:Addr}{fd:FuncData}(F:Fun K "refuse_roads" "refuse_roads" qba f fd)(U_refuse_more:ClX P w K mg base n "refuse_more" ["count","most"] (orX qcv qdo))(U_refuse_twice:ClX P w K mg base n "refuse_twice" ["names"] (orX qcc qc3))(U_refuse_strange:ClX P w K mg base n "refuse_strange" ["names","known"] (orX qbD qcD))(z_MOST_UNKNOWNS:∃ tk,mg "MOST_UNKNOWNS"=some (.int 8 tk))(z_MOST_ROWS:∃ tk,mg "MOST_ROWS"=some (.int 12 tk))(qaU:mg "len"=none):FnOk P w K mg base (CXo P w) (n+1) f fd ["places","roads","start","goal"] (qhA K mg (qgl qbb)):=by
 refine F.okX sc_refuse_roads (fun ds R W h=>?_) (fun cdv A outer s H E ds R W hcd hr h=>?_)
 ·obtain⟨nm,ps,rs,a,g,rfl,_⟩:=h;rfl
 obtain⟨nm,ps,rs,a,g,rfl,hc,tl,ol,q⟩:=h
 refine⟨_,(qap (qcC (qbR U_refuse_more hr rfl rfl (qai (qaE (qaR qb0 rfl qaU PySem.boot_len (qaB (dvq 0) qaQ qaa) qaa qae)) (qai (qaE (qfw rfl z_MOST_UNKNOWNS.choose_spec)) qax qaa) qao) qao (qac qaa qae)))
   (qap (qcC (qbR U_refuse_more hr rfl rfl (qai (qaE (qaR qb0 rfl qaU PySem.boot_len (qaB (dvq 1) qaQ qaa) qaa qae)) (qai (qaE (qfw rfl z_MOST_ROWS.choose_spec)) qax qaa) qao) qao (qac qaa qae)))
   (qap (qcC (qbR U_refuse_twice hr rfl rfl (qai (qaE (dv 0)) qax qaa) qaa qae))
   (qap (qdF PassesOwn.leaving rfl (qd2 (qcd (dv 1))) (qbU (i:=4) sc_refuse_roads.nd rfl (Or.inl rfl)) (qaz (qcC (qbR U_refuse_strange hr rfl rfl (qai (qaE (qbt (qad (qaX (dvq 4) (PD.q qag) (fun _ _=>rfl)) (qad (qaX (dvq 4) (PD.q qag) (fun _ _=>rfl)) qau qab) qab))) (qai (qaE (dv 0)) qax qaa) qaF) qaF (qac qaa qae)))))
   (qaz (qcC (qbR U_refuse_strange hr rfl rfl (qai (qaE (qbt (qad (dv 2) (qad (dv 3) qau qaa) qaa))) (qai (qaE (dv 0)) qax qaa) qaF) qaF (qac qaa qae)))))))),?_⟩
 have tL:(((ps.map D.str).length:Nat):Int)=ps.length:=by rw[List.length_map]
 have oL:(((rs.map rdD).length:Nat):Int)=rs.length:=by rw[List.length_map]
 by_cases c1:8<ps.length
 ·cases hc with
  | great _=>exact .inr ⟨_,_,rfl,by rw[tL];omega,q⟩
  | twice h _ _=>omega
  | strange h _ _ _=>omega
 refine .inl ⟨_,_,rfl,by rw[tL];omega,?_⟩
 by_cases c2:12<rs.length
 ·cases hc with
  | great _=>exact .inr ⟨_,_,rfl,by rw[oL];omega,q⟩
  | twice _ h _=>omega
  | strange _ h _ _=>omega
 refine .inl ⟨_,_,rfl,by rw[oL];omega,?_⟩
 by_cases c3:ps.Nodup
 rotate_left
 ·cases hc with
  | great h=>omega
  | twice _ _ _=>exact .inr ⟨_,ps,rfl,rfl,c3,by omega,q⟩
  | strange _ _ h _=>exact absurd h c3
 refine .inl ⟨_,rfl,.inl ⟨ps.map Sum.inr,by rw[← qbQ];rfl,qjb c3,by rw[List.length_map];omega⟩,?_⟩
 obtain⟨rfl,hb⟩:nm="NoName"∧((∃ r∈rs,r.1∉ps∨r.2.1∉ps)∨a∉ps∨g∉ps):=by
  cases hc with
  | great h=>omega
  | twice _ _ h=>exact absurd c3 h
  | strange _ _ _ h=>exact⟨rfl,h⟩
 refine⟨fun i ρ=>(∀ r∈rs.take i,r.1∈ps∧r.2.1∈ps)∧∃ u:Option Sm,ρ=[some (.v (.tup (ps.map D.str))),some (.v (.tup (rs.map rdD))),some (.v (.str a)),some (.v (.str g)),u],⟨by simp,_,rfl⟩,?_,?_⟩
 ·rintro i d ρ hd ⟨hall,u,rfl⟩
  obtain⟨r,rfl,hr'⟩:=qbh hd
  refine⟨_,rfl,_,rfl,?_⟩
  by_cases c4:r.1∉ps∨r.2.1∉ps
  ·exact .inr ⟨_,_,[r.1,r.2.1],ps,rfl,rfl,rfl,two_in.mpr c4,q⟩
  have c5:r.1∈ps∧r.2.1∈ps:=⟨Decidable.byContradiction fun h=>c4 (.inl h),Decidable.byContradiction fun h=>c4 (.inr h)⟩
  refine .inl ⟨_,_,[r.1,r.2.1],ps,rfl,rfl,rfl,fun x hx=>?_,fun y hy=>?_,_,rfl⟩
  ·simp only [List.mem_cons,List.not_mem_nil,or_false] at hx
   rcases hx with rfl | rfl
   ·exact c5.1
   ·exact c5.2
  ·rw[qbB hr'] at hy
   rcases List.mem_append.mp hy with hy | hy
   ·exact hall y hy
   ·rw[List.mem_singleton.mp hy];exact c5
 rintro ρ ⟨hall,u,rfl⟩
 rw[List.length_map,List.take_length] at hall
 refine .inr ⟨_,_,[a,g],ps,rfl,rfl,rfl,two_in.mpr ?_,q⟩
 rcases hb with⟨r,hr',h⟩ | h
 ·exact absurd (hall r hr') (by rcases h with h | h;exact fun z=>h z.1;exact fun z=>h z.2)
 ·exact h
def qc7:SpR:=qbb
theorem qfA {n:Nat}{f:Addr}{fd:FuncData}(F:Fun K "road_plan" "road_plan" qbT f fd)(U_refuse_roads:ClX P w K mg base n "refuse_roads" ["places","roads","start","goal"] (orX qa9 qbb))(Q_useful_places:Cl P w K mg base n "useful_places" ["places","roads","start","goal"] qa4)(Q_roads_within:Cl P w K mg base n "roads_within" ["roads","places"] qby)(Q_differences:Cl P w K mg base n "differences" ["names","one","other"] qcz)(qaM:mg "tuple"=none)(qaU:mg "len"=none):FnOk P w K mg base (CXo P w) (n+1) f fd ["places","roads","start","goal"] (qhA K mg (qgl qc7)):=by
 refine F.okX sc_road_plan (fun ds R W h=>?_) (fun cdv A outer s H E ds R W hcd hr h=>?_)
 ·obtain⟨nm,ps,rs,a,g,rfl,_⟩:=h;rfl
 obtain⟨nm,ps,rs,a,g,rfl,hc,tl,ol,q⟩:=h
 refine⟨_,(qap (qcC (qbR U_refuse_roads hr rfl rfl (qai (qaE (dv 0)) (qai (qaE (dv 1)) (qai (qaE (dv 2)) (qai (qaE (dv 3)) qax qaa) qaa) qaa) qaa) qaa (qac qaa (qac qaa (qac qaa qae)))))
   (qap (qaJ (i:=4) sc_road_plan.nd rfl (Or.inl rfl) (qaE (qaL Q_useful_places hr rfl (qad (dv 0) (qad (dv 1) (qad (dv 2) (qad (dv 3) qau qaa) qaa) qaa) qaa) qaa (qac qaa (qac qaa (qac qaa qae))))))
   (qap (qaJ (i:=5) sc_road_plan.nd rfl (Or.inl rfl) (qpf (qdM qau)))
   (qap (qdF PassesOwn.leaving rfl (qd2 (qcd (qaL Q_roads_within hr rfl (qad (dv 1) (qad (dv 4) qau qaa) qaa) qaa (qac qaa qae)))) (qbU (i:=6) sc_road_plan.nd rfl (Or.inl rfl)) (qap (qaJ (i:=7) sc_road_plan.nd rfl (Or.inl rfl) (qaE (qaX (dvq 1) (dvq 6) (fun _ _=>rfl))))
   (qaz (qb8 5 (qaE (qbt (qad (qaL Q_differences hr rfl (qad (dv 4) (qad (qaX (dvq 7) (PD.q qag) (fun _ _=>rfl)) (qad (qaX (dvq 7) (PD.q qag) (fun _ _=>rfl)) qau qab) qab) qaa) qaa (qac qab (qac qab qae))) (qad (qm6 (PD.q (qaX (dvq 7) (PD.q qag) (fun _ _=>rfl)))) qau qdz) qao))) (qc0 qaF) qaF))))
   (qaz (qcA (qaE (qbt (qad (qbS qf1 (PD.q (qbt (qad (qbt (qad qag (qad qdv qau qaf) qaf)) qau qaF))) (PD.q (qaR qb0 rfl qaU PySem.boot_len (qaB (dvq 4) qaQ qaa) qaa qae))) (qad (qbo qbY rfl qaM PyProof.Rows.boot_tuple (qaB (dvq 5) qaQ qaa) qaa qae) (qad (qaL Q_differences hr rfl (qad (dv 4) (qad (dv 3) (qad (dv 2) qau qaa) qaa) qaa) qaa (qac qaa (qac qaa qae))) qau qao) qao) qaD))))))))),?_⟩
 exact .inr ⟨nm,ps,rs,a,g,rfl,hc,tl,ol,q⟩
def qkm:SpR:=qbb
theorem qlR {n:Nat}{f:Addr}{fd:FuncData}(F:Fun K "road" "road" qdj f fd)(U_refuse_roads:ClX P w K mg base n "refuse_roads" ["places","roads","start","goal"] (orX qa9 qbb))(Q_walks_from:Cl P w K mg base n "walks_from" ["roads","start"] qca)(Q_shortest_walks:Cl P w K mg base n "shortest_walks" ["roads","places","start"] qbE)(Q_useful_places:Cl P w K mg base n "useful_places" ["places","roads","start","goal"] qa4)(Q_walk_length:Cl P w K mg base n "walk_length" ["roads","walk"] qbJ)(qaM:mg "tuple"=none):FnOk P w K mg base (CXo P w) (n+1) f fd ["places","roads","start","goal"] (qhA K mg (qgl qkm)):=by
 refine F.okX sc_road (fun ds R W h=>?_) (fun cdv A outer s H E ds R W hcd hr h=>?_)
 ·obtain⟨nm,ps,rs,a,g,rfl,_⟩:=h;rfl
 obtain⟨nm,ps,rs,a,g,rfl,hc,tl,ol,q⟩:=h
 refine⟨_,(qap (qcC (qbR U_refuse_roads hr rfl rfl (qai (qaE (dv 0)) (qai (qaE (dv 1)) (qai (qaE (dv 2)) (qai (qaE (dv 3)) qax qaa) qaa) qaa) qaa) qaa (qac qaa (qac qaa (qac qaa qae)))))
   (qap (qaJ (i:=4) sc_road.nd rfl (Or.inr rfl) (qaE (qaL Q_walks_from hr rfl (qad (dv 1) (qad (dv 2) qau qaa) qaa) qaa (qac qaa qae))))
   (qce (qde (qbu (qhR hr.units (dv 3) (dv 4))) (qaz (qcA (qaE (qbt (qad qaW (qad (qbo qbY rfl qaM PyProof.Rows.boot_tuple (qaB (PD.q (PF.d (qih (k:=1) (N':=["place","reached"]) (cap:=[none,some 4]) rfl (.ok (show qc2 ["places","roads","start","goal","reached","told","ring","walks","heights"] (qah qdj) _ ["place","reached"] [none,some 4]=true by decide +kernel)) (by decide +kernel) (qdt (by decide)) (qcd (dv 0)) (fun _ _ _ _ _=>(qbG (i:=0) (show List.Nodup (["place","reached"]:List Str) by decide +kernel) rfl (Or.inl rfl))) (fun _ _ _ _ _=>(qh0 (qgV hr.units (dv 0) (dv 1)))) (fun _ _ _ _ _=>(dv 0))))) qaQ qaC) qaC qae) qau qao) qaf))))) qbq)
   (qap (qaJ (i:=5) sc_road.nd rfl (Or.inl rfl) (qaE (qaL Q_shortest_walks hr rfl (qad (dv 1) (qad (qaL Q_useful_places hr rfl (qad (dv 0) (qad (dv 1) (qad (dv 2) (qad (dv 3) qau qaa) qaa) qaa) qaa) qaa (qac qaa (qac qaa (qac qaa qae)))) (qad (dv 2) qau qaa) qao) qaa) qaa (qac qao (qac qaa qae)))))
   (qce (qde (qbu (qaT (qeY hr.units) (PD.q (qaX (dvq 5) (PD.q qag) (fun _ _=>rfl))) (PD.q qaW) (qaI _))) (qap (qaJ (i:=6) sc_road.nd rfl (Or.inl rfl) (qaE (qaX (dvq 5) (PD.q qag) (fun _ _=>rfl))))
   (qaz (qcA (qaE (qbS qbe (dvq 5) (PD.q (qbt (qad (qb7 hr.units (qaL Q_walks_from hr rfl (qad (dv 1) (qad (qaX (PD.q (qaX (dvq 1) (PD.q (qaX (dvq 6) (PD.q qag) (fun _ _=>rfl))) (fun _ _=>rfl))) (PD.q qag) (fun _ _=>rfl)) qau qab) qaa) qaa (qac qab qae)) (dv 3) (fun _ _=>rfl)) qau qab)))))))) qbq)
   (qap (qaJ (i:=7) sc_road.nd rfl (Or.inr rfl) (qaE (qaX (dvq 5) (PD.q qag) (fun _ _=>rfl))))
   (qap (qaJ (i:=8) sc_road.nd rfl (Or.inl rfl) (qaE (qbo qbY rfl qaM PyProof.Rows.boot_tuple (qaB (PD.q (PF.d (qfU (k:=1) (N':=["place","walks","roads"]) (cap:=[none,some 7,some 1]) rfl (.ok (show qc2 ["places","roads","start","goal","reached","told","ring","walks","heights"] (qah qdj) _ ["place","walks","roads"] [none,some 7,some 1]=true by decide +kernel)) (by decide +kernel) (qdt (by decide)) (qcd (dv 0)) (fun _ _ _ _ _=>(qbG (i:=0) (show List.Nodup (["place","walks","roads"]:List Str) by decide +kernel) rfl (Or.inl rfl))) (fun _ _ _ _ _=>(qpv (qgV hr.units (dv 0) (dv 1)) (qaL Q_walk_length hr rfl (qad (dv 2) (qad (qb7 hr.units (dv 1) (dv 0) (fun _ _=>rfl)) qau qab) qaa) qaa (qac qab qae)) qdv))))) qaQ qaC) qaC qae)))
   (qaz (qcA (qaE (qbt (qad qaW (qad (qb7 hr.units (dv 7) (dv 3) (fun _ _=>rfl)) (qad (qaL Q_walk_length hr rfl (qad (dv 1) (qad (qb7 hr.units (dv 7) (dv 3) (fun _ _=>rfl)) qau qab) qaa) qaa (qac qab qae)) (qad (dv 8) qau qaa) qao) qab) qaf)))))))))))),?_⟩
 exact .inr ⟨nm,ps,rs,a,g,rfl,hc,tl,ol,q⟩
def Pl (n:Nat)(o:Om):Prop:=∃ (ns:List Int) (r st c:Int),o=.lst [.fzl (ns.map D.int),.int r,.int st,.int c]∧ns.length≤63∧0≤c∧c≤n
theorem Pl.mono {n m:Nat}{o:Om}(h:Pl n o)(hm:n≤m):Pl m o:=by
 obtain⟨ns,r,st,c,e,h1,h2,h3⟩:=h
 exact⟨ns,r,st,c,e,h1,h2,by omega⟩
def qej:SpM:=fun as R _=>∃ (ns:List Int) (k:Int),as=[.v (.fzl (ns.map D.int)),.v (.int k)]∧ns.length≤63∧0≤k∧∀ o,Pl 0 o→R (.ob none o) []
theorem qf9 {n:Nat}{f:Addr}{fd:FuncData}(F:Fun K "_law_pool" "_law_pool" qcm f fd)(qaU:mg "len"=none):FnOk P w K mg base CX0 (n+1) f fd ["_law_script","_law_at_here"] (qf2 K qej):=by
 refine F.okM sc__law_pool (fun as R Rx h=>?_) (fun cdv A outer s H E as R Rx qs hcd hr h hqs=>?_)
 ·obtain⟨ns,k,rfl,_⟩:=h;rfl
 obtain⟨ns,k,rfl,hl,hk,q⟩:=h
 obtain rfl:=ql1 hqs
 refine⟨_,(qap (qaJ (i:=2) sc__law_pool.nd rfl (Or.inl rfl) (qaE qag))
   (qce (qde (qbu (PWD.td (qlH (qaT qpC (dvq 1) (PD.q (qaR qb0 rfl qaU PySem.boot_len (qaB (dvq 0) qaQ qaa) qaa qae)) (qaI _)) (qic (qaT qrw (PD.q (qaX (dvq 0) (dvq 1) (fun _ _=>rfl))) (PD.q (qbS qqB (PD.q qag) (PD.q qag))) (qaI _)))))) (qaz (qaJ (i:=2) sc__law_pool.nd rfl (Or.inl rfl) (qaE (qaX (dvq 0) (dvq 1) (fun _ _=>rfl))))) qbq)
   (qaz (qcA (qpf (qdM (qad (dv 0) (qad (dv 2) (qad (qbS qbe (PD.q qag) (dvq 1)) (qad qag qau qaf) qaD) qaa) qaa))))))),?_⟩
 have hl63:(ns.map D.int).length≤63:=by rw[List.length_map];exact hl
 have fin:∀ r:Int,Pl 0 (.lst [.fzl (ns.map D.int),.int r,.int (7+k),.int 0]):=fun r=>⟨ns,r,7+k,0,rfl,hl,by omega,by omega⟩
 refine⟨fun ρ=>∃ r:Int,ρ=[some (.v (.fzl (ns.map D.int))),some (.v (.int k)),some (.v (.int r))],⟨fun h=>?_,fun h=>?_⟩,?_⟩
 ·have h:=dP h
  obtain⟨v,hv⟩:=qjW (ns:=ns) (k:=k) hk (by rw[List.length_map] at h;exact h)
  exact⟨_,hv,⟨by decide,by decide,by decide⟩,fun _=>⟨_,hv,_,rfl⟩,fun _=>⟨_,rfl⟩⟩
 ·exact⟨fun c=>(by cases c),fun _=>⟨_,rfl⟩⟩
 rintro ρ ⟨r,rfl⟩
 exact q _ (fin r)
def qbP:SpM:=fun as R _=>∃ (a:Option Addr) (o:Om) (z:Int) (n:Nat),as=[.ob a o,.v (.int z)]∧Pl n o∧n<2 ^ 20∧0<z∧z<2 ^ 9000∧∀ (x:Int) (o':Om),0≤x→x<z→Pl (n+1) o'→R (.v (.int x)) [o']
theorem qgc {n:Nat}{f:Addr}{fd:FuncData}(F:Fun K "_law_next" "_law_next" qco f fd)(qaU:mg "len"=none):FnOk P w K mg base CX0 (n+1) f fd ["_law_pool_here","_law_size"] (qf2 K qbP):=by
 refine F.okM sc__law_next (fun as R Rx h=>?_) (fun cdv A outer s H E as R Rx qs hcd hr h hqs=>?_)
 ·obtain⟨a,o,z,n,rfl,_⟩:=h;rfl
 obtain⟨a,o,z,n,rfl,hp,hn,h0,hz,q⟩:=h
 obtain⟨pa,rfl⟩:=qqd hqs
 refine⟨_,(qce (qde (qbu (qaT qkP (PD.q (qaX (dvq 0) (PD.q qag) (fun _ _=>rfl))) (PD.q qag) (qaI _))) (qap (qaJ (i:=2) sc__law_next.nd rfl (Or.inl rfl) (qaE (qbS qg3 (PD.q (qaX (dvq 0) (PD.q qag) (fun _ _=>rfl))) (dvq 1))))
   (qap (qny 0 (qaE (qbS qox (PD.q (qaX (dvq 0) (PD.q qag) (fun _ _=>rfl))) (dvq 1))) (qaE qag))
   (qaz (qcA (qaE (dv 2)))))) qbq)
   (qap (qlL 0 qn9 (qaE qag) (qaE qag))
   (qap (qaJ (i:=3) sc__law_next.nd rfl (Or.inl rfl) (qaE (qaX (dvq 0) (PD.q qag) (fun _ _=>rfl))))
   (qce (qde (qbu (qaT qkP (PD.q (qaR qb0 rfl qaU PySem.boot_len (qaB (PD.q (qaX (dvq 0) (PD.q qag) (fun _ _=>rfl))) qaQ qab) qab qae)) (PD.q qag) (qaI _))) (qaz (qaJ (i:=3) sc__law_next.nd rfl (Or.inl rfl) (qaE (qaX (PD.q (qaX (dvq 0) (PD.q qag) (fun _ _=>rfl))) (PD.q (qbS qg3 (PD.q (qaX (dvq 0) (PD.q qag) (fun _ _=>rfl))) (PD.q (qaR qb0 rfl qaU PySem.boot_len (qaB (PD.q (qaX (dvq 0) (PD.q qag) (fun _ _=>rfl))) qaQ qab) qab qae)))) (fun _ _=>rfl))))) qbq)
   (qap (qaJ (i:=4) sc__law_next.nd rfl (Or.inl rfl) (qaE (qbS qbe (PD.q (qbS qbe (PD.q (qbS qbe (PD.q (qbS qbe (PD.q (qaX (dvq 0) (PD.q qag) (fun _ _=>rfl))) (dvq 3))) (PD.q (qbS qf1 (PD.q (qbS qf1 (PD.q qag) (PD.q (qaX (dvq 0) (PD.q qag) (fun _ _=>rfl))))) (PD.q (qaX (dvq 0) (PD.q qag) (fun _ _=>rfl))))))) (PD.q (qbS qf1 (PD.q qag) (PD.q (qaX (dvq 0) (PD.q qag) (fun _ _=>rfl))))))) (PD.q qag))))
   (qap (qny 0 (qaE (qbS qg3 (PD.q (qbS qf1 (dvq 4) (PD.q qag))) (PD.q qag))) (qaE qag))
   (qaz (qcA (qaE (qbS qg3 (PD.q (qbS qg3 (PD.q (qbS qf1 (PD.q (qaX (dvq 0) (PD.q qag) (fun _ _=>rfl))) (PD.q qag))) (PD.q qag))) (dvq 1))))))))))),?_⟩
 obtain⟨ns,r,st,c,rfl,hl,hc0,hcn⟩:=hp
 refine⟨fun ρ=>ρ=[some (.ob (some pa) (.lst [.fzl (ns.map D.int),.int r,.int st,.int c])),some (.v (.int z)),none,none,none],⟨_,rfl,fun h=>?_,fun _=>rfl⟩,?_⟩
 ·exact⟨_,rfl,h0,_,rfl,CDivB.of h0 hz,_,rfl,_,rfl,_,rfl,q _ _ (Int.emod_nonneg _ (by omega)) (Int.emod_lt_of_pos _ h0) ⟨ns,_,st,c,rfl,hl,hc0,by omega⟩⟩
 rintro ρ rfl
 refine⟨trivial,3,c,rfl,rfl,(by show 3<4;decide),_,rfl,_,rfl,?_⟩
 refine⟨fun ρ=>∃ v:Int,ρ=[some (.ob (some pa) (.lst [.fzl (ns.map D.int),.int r,.int st,.int (c+1)])),some (.v (.int z)),none,some (.v (.int v)),none],⟨_,rfl,fun h=>?_,fun _=>⟨_,rfl⟩⟩,?_⟩
 ·have h:=dP h
  have hp:(0:Int)<((ns.map D.int).length:Int):=by omega
  obtain⟨v,hv⟩:=qjW (ns:=ns) (k:=(c+1) % ((ns.map D.int).length:Int)) (Int.emod_nonneg _ (by omega)) (by have:=Int.emod_lt_of_pos (c+1) hp;rw[List.length_map] at this ⊢;exact this)
  exact⟨_,rfl,_,rfl,_,rfl,hp,_,hv,_,rfl⟩
 rintro ρ ⟨v,rfl⟩
 have b1:-(2 ^ 64)<c+1:=by omega
 have b2:c+1<2 ^ 64:=by omega
 refine⟨_,rfl,_,rfl,qjY (by decide) (by decide),_,rfl,qg1 b1 b2,_,rfl,qjY (by decide) (by decide),qg1 (by decide) (by decide),(by decide:(0:Int)<2147483647),_,rfl,_,rfl,_,rfl,qg1 (by decide) (by decide),(by decide:(0:Int)<1000000007),h0,_,rfl,?_⟩
 exact q _ _ (Int.emod_nonneg _ (by omega)) (Int.emod_lt_of_pos _ h0) ⟨ns,r,_,c+1,rfl,hl,by omega,by omega⟩
theorem lt9 {z:Int}(h:z<2 ^ 64):z<2 ^ 9000:=by
 have h1:(2:Nat) ^ 64≤2 ^ 9000:=Nat.pow_le_pow_right (by decide) (by omega)
 have h2:(2:Int) ^ 64≤2 ^ 9000:=by exact_mod_cast h1
 omega
def nmA (t k:Nat):Str:=⟨#[97+(t+k) % 13]⟩
def nm0 (a t k:Nat):Str:=qjH "noon" none (some (a:Int))++nmA t k++qjH "noon" (some (a:Int)) none
def odds:List Str:=[""," ","-","0","A","a","a "," a","~","B1","None","a b","-1"]
def nm3 (t k:Nat):Str:=odds.getD ((t+k) % 13) ""
def nmF (w t a c k:Nat):Str:=if w=0 then nm0 a t k else if w=1 then qhn "a" (k+1) else if w=2 then qhn "a" (c - k) else nm3 t k
theorem qmT:∀ a<4,∀ x<13,∀ y<13,nm0 a 0 x=nm0 a 0 y→x=y:=by decide +kernel
theorem qlj:∀ x<13,∀ y<13,odds.getD x ""=odds.getD y ""→x=y:=by decide +kernel
theorem qmY {w t a c k j:Nat}(hw:w<4)(ha:a<4)(hc:c≤13)(hk:k<c)(hj:j<c)(h:nmF w t a c k=nmF w t a c j):k=j:=by
 unfold nmF at h
 by_cases h0:w=0
 ·rw[if_pos h0,if_pos h0] at h
  have:=qmT a ha ((t+k) % 13) (by omega) ((t+j) % 13) (by omega) (by unfold nm0 nmA at h ⊢;simpa using h)
  omega
 rw[if_neg h0,if_neg h0] at h
 by_cases h1:w=1
 ·rw[if_pos h1,if_pos h1] at h
  have:=congrArg Str.length h
  rw[qck,qck] at this
  have e:("a":Str).length=1:=rfl
  rw[e] at this
  omega
 rw[if_neg h1,if_neg h1] at h
 by_cases h2:w=2
 ·rw[if_pos h2,if_pos h2] at h
  have:=congrArg Str.length h
  rw[qck,qck] at this
  have e:("a":Str).length=1:=rfl
  rw[e] at this
  omega
 rw[if_neg h2,if_neg h2] at h
 have:=qlj ((t+k) % 13) (by omega) ((t+j) % 13) (by omega) h
 omega
def nmL (w t a c i:Nat):List Str:=(List.range i).map (nmF w t a c)
theorem qjM {w t a c i:Nat}(hw:w<4)(ha:a<4)(hc:c≤13)(hi:i≤c):(nmL w t a c i).Nodup:=by
 unfold nmL List.Nodup
 rw[List.pairwise_map]
 refine List.Pairwise.imp_of_mem ?_ (List.nodup_range (n:=i))
 intro x y hx hy hne e
 rw[List.mem_range] at hx hy
 exact hne (qmY hw ha hc (by omega) (by omega) e)
theorem qlb (w t a c i:Nat):nmL w t a c (i+1)=nmL w t a c i++[nmF w t a c i]:=by
 unfold nmL
 rw[List.range_succ,List.map_append]
 rfl
theorem qmo {a b:Int}(h:(a == b)=true):a=b:=eq_of_beq h
theorem qpB {a b:Int}(h:(a == b)=false):a≠b:=fun e=>by subst e;rw[beq_self_eq_true] at h;cases h
theorem qll (a b:Str):(a++b).length=a.length+b.length:=by
 show (a.cps++b.cps).size=a.cps.size+b.cps.size
 rw[Array.size_append]
theorem qok:∀ x:Nat,x<13→atI ("abcdefghijklm":Str).cps.toList (x:Int)=some (97+x):=by decide +kernel
theorem qol:∀ x:Nat,x<13→atI (odds.map D.str) (x:Int)=some (.str (odds.getD x "")):=by
 intro x hx
 have:x=0∨x=1∨x=2∨x=3∨x=4∨x=5∨x=6∨x=7∨x=8∨x=9∨x=10∨x=11∨x=12:=by omega
 rcases this with rfl | rfl | rfl | rfl | rfl | rfl | rfl | rfl | rfl | rfl | rfl | rfl | rfl <;> rfl
theorem qpa {w t a c k:Nat}(hw:w<4)(ha:a<4)(hc:c≤13)(hk:k<c):(nmF w t a c k).length≤20:=by
 unfold nmF
 split
 ·have:∀ a<4,∀ x<13,(nm0 a 0 x).length≤20:=by decide +kernel
  have:=this a ha ((t+k) % 13) (by omega)
  unfold nm0 nmA at this ⊢
  simpa using this
 ·split
  ·rw[qck];have e:("a":Str).length=1:=rfl;rw[e];omega
  ·split
   ·rw[qck];have e:("a":Str).length=1:=rfl;rw[e];omega
   ·have:∀ x<13,(odds.getD x "").length≤20:=by decide +kernel
    exact this ((t+k) % 13) (by omega)
def qdS:SpM:=fun as R _=>∃ (a:Option Addr) (o:Om) (c:Int) (n:Nat),as=[.ob a o,.v (.int c)]∧Pl n o∧n+3<2 ^ 20∧0≤c∧c≤13∧∀ (xs:List Str) (o':Om),xs.Nodup→(xs.length:Int)=c→(∀ x∈xs,x.length≤20)→Pl (n+3) o'→R (.own (xs.map D.str)) [o']
theorem qfX {n:Nat}{f:Addr}{fd:FuncData}(F:Fun K "_law_names" "_law_names" qcb f fd)(R__law_next:ClM P w K mg base n "_law_next" ["_law_pool_here","_law_size"] qbP)(qbF:mg "range"=none):FnOk P w K mg base CX0 (n+1) f fd ["_law_pool_here","_law_count"] (qf2 K qdS):=by
 refine F.okM sc__law_names (fun as R Rx h=>?_) (fun cdv A outer s H E as R Rx qs hcd hr h hqs=>?_)
 ·obtain⟨a,o,c,n,rfl,_⟩:=h;rfl
 obtain⟨a,o,c,n,rfl,hp,hn,h0,hc,q⟩:=h
 obtain⟨pa,rfl⟩:=qqd hqs
 refine⟨_,(qap (qaJ (i:=2) sc__law_names.nd rfl (Or.inl rfl) (qaH R__law_next hr rfl (qav 0 (qai (qaE qag) qax qaf) qaa) qaa (qac qaf qae)))
   (qap (qaJ (i:=3) sc__law_names.nd rfl (Or.inl rfl) (qaH R__law_next hr rfl (qav 0 (qai (qaE qag) qax qaf) qaa) qaa (qac qaf qae)))
   (qap (qaJ (i:=4) sc__law_names.nd rfl (Or.inl rfl) (qaH R__law_next hr rfl (qav 0 (qai (qaE qag) qax qaf) qaa) qaa (qac qaf qae)))
   (qap (qaJ (i:=5) sc__law_names.nd rfl (Or.inl rfl) (qpf (qdM qau)))
   (qap (qdF PassesOwn.never rfl (qd2 (qfV rfl qbF (qad (dv 1) qau qaa))) (qbU (i:=6) sc__law_names.nd rfl (Or.inl rfl)) (qce (qde (qbu (qaT (qeY hr.units) (dvq 2) (PD.q qag) (qaI _))) (qap (qaJ (i:=7) sc__law_names.nd rfl (Or.inl rfl) (qaE (qaX (PD.q qaW) (PD.q (qbS qg3 (PD.q (qbS qbe (dvq 3) (dvq 6))) (PD.q qag))) (fun _ _=>rfl))))
   (qaz (qb8 5 (qaE (qbS qbe (PD.q (qbS qbe (PD.q (qpr (PD.q qaW) qhM (qff (dvq 4)))) (dvq 7))) (PD.q (qpr (PD.q qaW) (qff (dvq 4)) qhM)))) (qc0 qaD) qaD))) qbq)
   (qce (qde (qbu (qaT (qeY hr.units) (dvq 2) (PD.q qag) (qaI _))) (qaz (qb8 5 (qaE (qbS qf1 (PD.q qaW) (PD.q (qbS qbe (dvq 6) (PD.q qag))))) (qc0 qaD) qaD)) qbq)
   (qce (qde (qbu (qaT (qeY hr.units) (dvq 2) (PD.q qag) (qaI _))) (qaz (qb8 5 (qaE (qbS qf1 (PD.q qaW) (PD.q (qbS qiX (dvq 1) (dvq 6))))) (qc0 qaD) qaD)) qbq)
   (qaz (qde (qbu (qaT (qeY hr.units) (dvq 2) (PD.q qag) (qaI _))) (qap (qaJ (i:=8) sc__law_names.nd rfl (Or.inl rfl) (qaE (qbt (qad qaW (qad qaW (qad qaW (qad qaW (qad qaW (qad qaW (qad qaW qau qaf) qaf) qaf) qaf) qaf) qaf) qaf))))
   (qap (qaJ (i:=8) sc__law_names.nd rfl (Or.inl rfl) (qaE (qbS qbe (dvq 8) (PD.q (qbt (qad qaW (qad qaW (qad qaW (qad qaW (qad qaW (qad qaW qau qaf) qaf) qaf) qaf) qaf) qaf))))))
   (qaz (qb8 5 (qaE (qaX (dvq 8) (PD.q (qbS qg3 (PD.q (qbS qbe (dvq 3) (dvq 6))) (PD.q qag))) (fun _ _=>rfl))) (qc0 qab) qab)))) qbq))))))
   (qaz (qcA (qkg 5)))))))),?_⟩
 refine⟨⟨_,_,rfl⟩,_,rfl,rfl,_,_,4,n,rfl,hp,by omega,by decide,lt9 (by decide),fun w o1 hw0 hw1 hp1=>?_⟩
 refine⟨⟨_,_,rfl⟩,_,rfl,rfl,_,_,13,n+1,rfl,hp1,by omega,by decide,lt9 (by decide),fun t o2 ht0 ht1 hp2=>?_⟩
 refine⟨⟨_,_,rfl⟩,_,rfl,rfl,_,_,4,n+2,rfl,hp2,by omega,by decide,lt9 (by decide),fun b o3 hb0 hb1 hp3=>?_⟩
 obtain⟨w,rfl⟩:=Int.eq_ofNat_of_zero_le hw0
 obtain⟨t,rfl⟩:=Int.eq_ofNat_of_zero_le ht0
 obtain⟨b,rfl⟩:=Int.eq_ofNat_of_zero_le hb0
 obtain⟨c,rfl⟩:=Int.eq_ofNat_of_zero_le h0
 have hw:w<4:=by omega
 have hb:b<4:=by omega
 have hc13:c≤13:=by omega
 have hcast:∀ i:Nat,((t:Int)+(0+(i:Int))) % 13=(((t+i) % 13:Nat):Int):=fun i=>by omega
 refine⟨⟨by omega,by omega⟩,fun i ρ=>∃ (u6 u7 u8:Option Sm),ρ=[some (.ob (some pa) o3),some (.v (.int (c:Int))),some (.v (.int (w:Int))),some (.v (.int (t:Int))),some (.v (.int (b:Int))),some (.own ((nmL w t b c i).map D.str)),u6,u7,u8],⟨_,_,_,rfl⟩,?_,?_⟩
 ·rintro i d ρ hd ⟨u6,u7,u8,rfl⟩
  obtain⟨hi,rfl⟩:=qcJ hd
  have hi:i<c:=by omega
  have sm:∀ j,j≤i+1→((nmL w t b c j).map D.str).length<sizeLine:=fun j hj=>by
   unfold nmL
   rw[List.length_map,List.length_map,List.length_range]
   exact qaA (by omega)
  have go:∀ x:Str,x=nmF w t b c i→(nmL w t b c i).map D.str++[D.str x]=(nmL w t b c (i+1)).map D.str:=fun x e=>by rw[qkG,qlb,e]
  refine⟨fun ρ=>∃ (u7 u8:Option Sm),ρ=[some (.ob (some pa) o3),some (.v (.int (c:Int))),some (.v (.int (w:Int))),some (.v (.int (t:Int))),some (.v (.int (b:Int))),some (.own ((nmL w t b c (if w<1 then i+1 else i)).map D.str)),some (.v (.int (0+(i:Int)))),u7,u8],⟨fun h=>?_,fun h=>?_⟩,?_⟩
  ·have h:w=0:=by have:=qmo h;omega
   subst h
   have l1:=qjV "noon" none (some (b:Int))
   have l2:=qjV "noon" (some (b:Int)) none
   have l0:("noon":Str).length=4:=rfl
   have l3:(nmA t i).length=1:=rfl
   have l4:(qjH "noon" none (some (b:Int))++nmA t i).length=(qjH "noon" none (some (b:Int))).length+1:=qll _ _
   exact⟨(by decide:(0:Int)<13),(by decide),_,by rw[hcast];exact qok _ (by omega),(by decide),_,rfl,qeo (by show _+(nmA t i).length≤1000;omega),(by decide),_,rfl,qeo (by show (qjH "noon" none (some (b:Int))++nmA t i).length+_≤1000;omega),sm i (by omega),_,go _ rfl,_,_,rfl⟩
  ·have h:=qpB h
   rw[if_neg (by omega)]
   exact⟨_,_,rfl⟩
  rintro ρ ⟨u7,u8,rfl⟩
  refine⟨fun ρ=>∃ (u7 u8:Option Sm),ρ=[some (.ob (some pa) o3),some (.v (.int (c:Int))),some (.v (.int (w:Int))),some (.v (.int (t:Int))),some (.v (.int (b:Int))),some (.own ((nmL w t b c (if w<2 then i+1 else i)).map D.str)),some (.v (.int (0+(i:Int)))),u7,u8],⟨fun h=>?_,fun h=>?_⟩,?_⟩
  ·have h:w=1:=by have:=qmo h;omega
   subst h
   have e:(0+(i:Int)+1).toNat=i+1:=by omega
   refine⟨⟨by show -(2 ^ 62)≤0+(i:Int)+1;omega,by show 0+(i:Int)+1<2 ^ 62;omega,qeo (by show 1*(0+(i:Int)+1).toNat≤1000;omega),by decide⟩,qhn "a" (i+1),by rw[e],sm i (by omega),_,go _ rfl,_,_,rfl⟩
  ·have h:=qpB h
   have:(if w<2 then i+1 else i)=(if w<1 then i+1 else i):=by by_cases c:w<1 <;> simp [c] <;> omega
   rw[this]
   exact⟨_,_,rfl⟩
  rintro ρ ⟨u7,u8,rfl⟩
  refine⟨fun ρ=>∃ (u7 u8:Option Sm),ρ=[some (.ob (some pa) o3),some (.v (.int (c:Int))),some (.v (.int (w:Int))),some (.v (.int (t:Int))),some (.v (.int (b:Int))),some (.own ((nmL w t b c (if w<3 then i+1 else i)).map D.str)),some (.v (.int (0+(i:Int)))),u7,u8],⟨fun h=>?_,fun h=>?_⟩,?_⟩
  ·have h:w=2:=by have:=qmo h;omega
   subst h
   have e:((c:Int) - (0+(i:Int))).toNat=c - i:=by omega
   refine⟨⟨by show -(2 ^ 62)≤(c:Int) - (0+(i:Int));omega,by show (c:Int) - (0+(i:Int))<2 ^ 62;omega,qeo (by show 1*((c:Int) - (0+(i:Int))).toNat≤1000;omega),by decide⟩,qhn "a" (c - i),by rw[e],sm i (by omega),_,go _ rfl,_,_,rfl⟩
  ·have h:=qpB h
   have:(if w<3 then i+1 else i)=(if w<2 then i+1 else i):=by by_cases c:w<2 <;> simp [c] <;> omega
   rw[this]
   exact⟨_,_,rfl⟩
  rintro ρ ⟨u7,u8,rfl⟩
  refine⟨fun h=>?_,fun h=>?_⟩
  ·have h:w=3:=by have:=qmo h;omega
   subst h
   exact⟨qeo (by decide),odds.map D.str,rfl,(by decide:(0:Int)<13),_,by rw[hcast];exact qol _ (by omega),sm i (by omega),_,go _ rfl,_,_,_,rfl⟩
  ·have h:=qpB h
   rw[if_pos (by omega)]
   exact⟨_,_,_,rfl⟩
 ·rintro ρ ⟨u6,u7,u8,rfl⟩
  rw[qbx,Int.toNat_natCast]
  refine⟨_,rfl,q _ _ (qjM hw hb hc13 (Nat.le_refl _)) ?_ ?_ hp3⟩
  ·unfold nmL;rw[List.length_map,List.length_range]
  ·intro x hx
   obtain⟨k,hk,rfl⟩:=List.mem_map.mp hx
   exact qpa hw hb hc13 (List.mem_range.mp hk)
def qcq:SpM:=fun as R _=>∃ (a b:Option Addr) (o:Om) (xs:List Str) (n:Nat),as=[.ob a o,.ob b (.lst (xs.map D.str))]∧Pl n o∧n+1<2 ^ 20∧0<xs.length∧xs.length≤100∧∀ (x:Str) (o':Om),x∈xs→Pl (n+1) o'→R (.v (.str x)) [o',.lst (xs.map D.str)]
theorem qeX {n:Nat}{f:Addr}{fd:FuncData}(F:Fun K "_law_one_of" "_law_one_of" qbK f fd)(R__law_next:ClM P w K mg base n "_law_next" ["_law_pool_here","_law_size"] qbP)(qaU:mg "len"=none):FnOk P w K mg base CX0 (n+1) f fd ["_law_pool_here","_law_row"] (qf2 K qcq):=by
 refine F.okM qe4 (fun as R Rx h=>?_) (fun cdv A outer s H E as R Rx qs hcd hr h hqs=>?_)
 ·obtain⟨a,b,o,xs,n,rfl,_⟩:=h;rfl
 obtain⟨a,b,o,xs,n,rfl,hp,hn,h0,hl,q⟩:=h
 obtain⟨pa,pb,rfl⟩:=qq6 hqs
 refine⟨_,(qaz (qcA (qqf 1 rfl (qaH R__law_next hr rfl (qav 0 (qai (qaE (qaR qb0 rfl qaU PySem.boot_len (qaB (dvq 1) qaQ qaa) qaa qae)) qax qao) qaa) qaa (qac qao qae)) (fun _ _=>rfl)))),?_⟩
 have hL:(((xs.map D.str).length:Nat):Int)=xs.length:=by rw[List.length_map]
 refine⟨⟨_,_,rfl⟩,⟨_,_,rfl⟩,_,rfl,rfl,_,_,_,n,rfl,hp,by omega,by omega,lt9 (by omega),fun x o1 hx0 hx1 hp1=>?_⟩
 dsimp only [qat,qar,qbc,qbj,qbN,qbz,qbL,List.set]
 obtain⟨k,rfl⟩:=Int.eq_ofNat_of_zero_le hx0
 have hk:k<xs.length:=by omega
 exact⟨_,_,_,_,rfl,rfl,qdh (i:=k) (List.getElem?_eq_getElem hk) rfl,_,rfl,_,rfl,q _ o1 (List.getElem_mem hk) hp1⟩
theorem qfv {α:Type}(g:α→D)(xs:List α)(k:Nat)(x:α):(xs.map g).take k++g x::(xs.map g).drop k=(xs.take k++x::xs.drop k).map g:=by
 rw[List.map_append,List.map_cons,List.map_take,List.map_drop]
theorem qda {α:Type}(xs:List α)(k:Nat)(x:α):(xs.take k++x::xs.drop k).length=xs.length+1:=by
 rw[List.length_append,List.length_cons,List.length_take,List.length_drop];omega
theorem qpY:∀ k:Nat,k<11→∃ c,atI (Str.ofString "abcdefghijk").cps.toList (k:Int)=some c:=by
 intro k hk
 have:k=0∨k=1∨k=2∨k=3∨k=4∨k=5∨k=6∨k=7∨k=8∨k=9∨k=10:=by omega
 rcases this with rfl | rfl | rfl | rfl | rfl | rfl | rfl | rfl | rfl | rfl | rfl <;> exact⟨_,rfl⟩
abbrev RP (pa pb q1 q2 q3:Addr)(f:Int)(sr:Str)(op:Om)(xs:List Str)(rs:List Rod)(es:List D)(u7 u8 u9:Option Sm):qaN:=[some (.ob (some pa) op),some (.ob (some pb) (.tl [(q1,none),(q2,none),(q3,none)])),some (.v (.int f)),some (.v (.str sr)),some (.ob (some q1) (.lst (xs.map D.str))),some (.ob (some q2) (.lst (rs.map rdD))),some (.ob (some q3) (.lst es)),u7,u8,u9]
def qfa:SpM:=fun as R _=>∃ (a b:Option Addr) (o:Om) (q1 q2 q3:Addr) (ps:List Str) (rs:List Rod) (st gl:Str) (f:Int) (sr:Str) (n:Nat),as=[.ob a o,.ob b (.tl [(q1,some (ps.map D.str)),(q2,some (rs.map rdD)),(q3,some [.str st,.str gl])]),.v (.int f),.v (.str sr)]∧Pl n o∧n+200<2 ^ 20∧0<ps.length∧ps.length≤20∧rs.length≤20 ∧
 ∀ (ps':List Str) (rs':List Rod) (st' gl':Str) (o':Om),ps.length≤ps'.length→(ps'.length≤ps.length+1∨ps'.length≤11)→(rs'.length≤rs.length+1∨rs'.length≤15)→Pl (n+200) o'→R (.v .non) [o',.tl [(q1,some (ps'.map D.str)),(q2,some (rs'.map rdD)),(q3,some [.str st',.str gl'])]]
theorem qgZ {n:Nat}{f:Addr}{fd:FuncData}(F:Fun K "_law_put" "_law_put" qcU f fd)(R__law_next:ClM P w K mg base n "_law_next" ["_law_pool_here","_law_size"] qbP)(R__law_one_of:ClM P w K mg base n "_law_one_of" ["_law_pool_here","_law_row"] qcq)(qaU:mg "len"=none):FnOk P w K mg base CX0 (n+1) f fd ["_law_pool_here","_law_rows","_law_fault","_law_strange"] (qf2 K qfa):=by
 refine F.okM sc__law_put (fun as R Rx h=>?_) (fun cdv A outer s H E as R Rx qs hcd hr h hqs=>?_)
 ·obtain⟨a,b,o,q1,q2,q3,ps,rs,st,gl,f,sr,n,rfl,_⟩:=h;rfl
 obtain⟨a,b,o,q1,q2,q3,ps,rs,st,gl,f,sr,n,rfl,hp,hn,h0,hl,hrl,q⟩:=h
 obtain⟨pa,pb,rfl⟩:=qq6 hqs
 refine⟨_,(qap (qoN 1 4 5 6 rfl sc__law_put.nd rfl rfl rfl rfl (Or.inl rfl) (Or.inl rfl) (Or.inl rfl))
   (qjE 4 1 0 (qjE 5 1 1 (qjE 6 1 2 (qce (qde (qbu (qaT (qeY hr.units) (dvq 2) (PD.q qag) (qaI _))) (qap (qaJ (i:=7) sc__law_put.nd rfl (Or.inl rfl) (qmF qbe (qaE qag) (qaH R__law_next hr rfl (qav 0 (qai (qaE qag) qax qaf) qaa) qaa (qac qaf qae))))
   (qaz (qhf PassesOwn.never (qbu (qaT qpC (PD.q (qaR qb0 rfl qaU PySem.boot_len (qaB (dvq 4) qaQ qaa) qaa qae)) (dvq 7) (qaI _))) (qaz (qeb 4 (qaH R__law_next hr rfl (qav 0 (qai (qaE (qbS qbe (PD.q (qaR qb0 rfl qaU PySem.boot_len (qaB (dvq 4) qaQ qaa) qaa qae)) (PD.q qag))) qax qaD) qaa) qaa (qac qaD qae)) (qaE (qbS qbe (PD.q qaW) (PD.q (qaX (PD.q qaW) (PD.q (qaR qb0 rfl qaU PySem.boot_len (qaB (dvq 4) qaQ qaa) qaa qae)) (fun _ _=>rfl))))) (qfl qao qaD) qao qaD (qac qaD qae)))))) qbq)
   (qce (qde (qbu (qaT (qeY hr.units) (dvq 2) (PD.q qag) (qaI _))) (qap (qaJ (i:=7) sc__law_put.nd rfl (Or.inl rfl) (qmF qbe (qaE qag) (qaH R__law_next hr rfl (qav 0 (qai (qaE qag) qax qaf) qaa) qaa (qac qaf qae))))
   (qaz (qhf PassesOwn.never (qbu (qaT qpC (PD.q (qaR qb0 rfl qaU PySem.boot_len (qaB (dvq 5) qaQ qaa) qaa qae)) (dvq 7) (qaI _))) (qaz (qb8 5 (qi5 (qai (qaH R__law_one_of hr rfl (qav 0 (qav 4 qax qaa) qaa) qaa (qac qaa qae)) (qai (qaH R__law_one_of hr rfl (qav 0 (qav 4 qax qaa) qaa) qaa (qac qaa qae)) (qai (qaE (qaR qb0 rfl qaU PySem.boot_len (qaB (dvq 5) qaQ qaa) qaa qae)) qax qao) qao) qao)) (qc0 qaF) qaF))))) qbq)
   (qce (qde (qbu (qaT (qeY hr.units) (dvq 2) (PD.q qag) (qaI _))) (qap (qaJ (i:=8) sc__law_put.nd rfl (Or.inl rfl) (qaH R__law_one_of hr rfl (qav 0 (qav 4 qax qaa) qaa) qaa (qac qaa qae)))
   (qaz (qeb 4 (qaH R__law_next hr rfl (qav 0 (qai (qaE (qbS qbe (PD.q (qaR qb0 rfl qaU PySem.boot_len (qaB (dvq 4) qaQ qaa) qaa qae)) (PD.q qag))) qax qaD) qaa) qaa (qac qaD qae)) (qaE (dv 8)) (qfl qao qaa) qao qaa (qac qaa qae)))) qbq)
   (qap (qaJ (i:=9) sc__law_put.nd rfl (Or.inl rfl) (qaH R__law_next hr rfl (qav 0 (qai (qaE (qbS qbe (PD.q (qaR qb0 rfl qaU PySem.boot_len (qaB (dvq 5) qaQ qaa) qaa qae)) (PD.q qag))) qax qaD) qaa) qaa (qac qaD qae)))
   (qce (qde (qbu (qaT (qeY hr.units) (dvq 2) (PD.q qag) (qaI _))) (qaz (qeb 5 (qaE (dv 9)) (qi5 (qai (qaE (dv 3)) (qai (qaH R__law_one_of hr rfl (qav 0 (qav 4 qax qaa) qaa) qaa (qac qaa qae)) (qai (qaE qag) qax qaf) qao) qaa)) (qfl qaa qaF) qaa qaF (qac qaF qae))) qbq)
   (qce (qde (qbu (qaT (qeY hr.units) (dvq 2) (PD.q qag) (qaI _))) (qaz (qeb 5 (qaE (dv 9)) (qi5 (qai (qaH R__law_one_of hr rfl (qav 0 (qav 4 qax qaa) qaa) qaa (qac qaa qae)) (qai (qaE (dv 3)) (qai (qaE (qm6 (PD.q qag))) qax qdz) qaa) qao)) (qfl qaa qaF) qaa qaF (qac qaF qae))) qbq)
   (qce (qde (qbu (PWD.td (qpx (qaT (qeY hr.units) (dvq 2) (PD.q qag) (qaI _)) (qlF (qaT (qeY hr.units) (dvq 2) (PD.q qag) (qaI _)))))) (qaz (qny 6 (qaE (dv 3)) (qaE (qbS qiX (dvq 2) (PD.q qag))))) qbq)
   (qks 4 1 0 (qks 5 1 1 (qks 6 1 2 qbq)))))))))))))),?_⟩
 refine⟨_,q1,q2,q3,_,_,_,rfl,?_⟩
 dsimp only [qat,qar,qbc,qbj,qbN,qbz,qbL,List.set]
 refine⟨q1,_,_,_,rfl,rfl,rfl,?_⟩
 dsimp only [qat,qar,qbc,qbj,qbN,qbz,qbL,List.set]
 refine⟨q2,_,_,_,rfl,rfl,rfl,?_⟩
 dsimp only [qat,qar,qbc,qbj,qbN,qbz,qbL,List.set]
 refine⟨q3,_,_,_,rfl,rfl,rfl,?_⟩
 dsimp only [qat,qar,qbc,qbj,qbN,qbz,qbL,List.set]
 refine⟨fun ρ=>∃ (xs:List Str) (op:Om) (u7:Option Sm),(ps.length≤xs.length∧(xs.length≤ps.length∨xs.length≤10))∧Pl (n+40) op∧ρ=RP pa pb q1 q2 q3 f sr op xs rs [.str st,.str gl] u7 none none,⟨fun h=>?_,fun h=>⟨ps,o,_,⟨Nat.le_refl _,.inl (Nat.le_refl _)⟩,hp.mono (by omega),rfl⟩⟩,?_⟩
 ·refine⟨⟨_,_,rfl⟩,_,rfl,rfl,_,_,2,n,rfl,hp,by omega,by decide,lt9 (by decide),fun x o1 hx0 hx1 hp1=>?_⟩
  dsimp only [qat,qar,qbc,qbj,qbN,qbz,qbL,List.set]
  refine⟨fun m ρ=>∃ (xs:List Str) (op:Om),m=30 - xs.length∧(ps.length≤xs.length∧(xs.length≤ps.length∨xs.length≤10))∧Pl (n+1+xs.length) op∧ρ=RP pa pb q1 q2 q3 f sr op xs rs [.str st,.str gl] (some (.v (.int (9+x)))) none none,⟨_,ps,o1,rfl,⟨Nat.le_refl _,.inl (Nat.le_refl _)⟩,hp1.mono (by omega),rfl⟩,?_⟩
  rintro m ρ ⟨xs,op,rfl,hx,hpx,rfl⟩
  have hL:(((xs.map D.str).length:Nat):Int)=xs.length:=by rw[List.length_map]
  refine⟨fun c=>?_,fun c=>⟨xs,op,_,hx,hpx.mono (by omega),rfl⟩⟩
  have c:=dP c
  have hx10:xs.length<10:=by omega
  refine⟨⟨_,_,rfl⟩,_,rfl,rfl,_,_,_,_,rfl,hpx,by omega,by omega,lt9 (by omega),fun y o2 hy0 hy1 hp2=>?_⟩
  dsimp only [qat,qar,qbc,qbj,qbN,qbz,qbL,List.set]
  obtain⟨k,rfl⟩:=Int.eq_ofNat_of_zero_le hy0
  obtain⟨ch,hch⟩:=qpY xs.length (by omega)
  refine⟨(by decide),ch,by rw[hL];exact hch,qeo (by show 2+1≤1000;decide),k,rfl,by omega,by rw[List.length_map];exact qaA (by omega),_,qfv D.str xs k _,?_⟩
  dsimp only [qat,qar,qbc,qbj,qbN,qbz,qbL,List.set]
  exact⟨_,by rw[qda];omega,_,o2,rfl,⟨by rw[qda];omega,.inr (by rw[qda];omega)⟩,hp2.mono (by rw[qda];omega),rfl⟩
 rintro ρ ⟨xs,op,u7,hx,hpx,rfl⟩
 have hL:(((xs.map D.str).length:Nat):Int)=xs.length:=by rw[List.length_map]
 refine⟨fun ρ=>∃ (rs':List Rod) (op:Om) (u7:Option Sm),(rs'.length≤rs.length∨rs'.length≤14)∧Pl (n+120) op∧ρ=RP pa pb q1 q2 q3 f sr op xs rs' [.str st,.str gl] u7 none none,⟨fun h=>?_,fun h=>⟨rs,op,_,.inl (Nat.le_refl _),hpx.mono (by omega),rfl⟩⟩,?_⟩
 ·refine⟨⟨_,_,rfl⟩,_,rfl,rfl,_,_,2,n+40,rfl,hpx,by omega,by decide,lt9 (by decide),fun x o1 hx0 hx1 hp1=>?_⟩
  dsimp only [qat,qar,qbc,qbj,qbN,qbz,qbL,List.set]
  refine⟨fun m ρ=>∃ (rs':List Rod) (op:Om),m=30 - rs'.length∧(rs'.length≤rs.length∨rs'.length≤14)∧Pl (n+41+2*rs'.length) op∧ρ=RP pa pb q1 q2 q3 f sr op xs rs' [.str st,.str gl] (some (.v (.int (13+x)))) none none,⟨_,rs,o1,rfl,.inl (Nat.le_refl _),hp1.mono (by omega),rfl⟩,?_⟩
  rintro m ρ ⟨rs',op',rfl,hr',hpr,rfl⟩
  have hR:(((rs'.map rdD).length:Nat):Int)=rs'.length:=by rw[List.length_map]
  refine⟨fun c=>?_,fun c=>⟨rs',op',_,hr',hpr.mono (by omega),rfl⟩⟩
  have c:=dP c
  have hr14:rs'.length<14:=by omega
  refine⟨⟨_,_,rfl⟩,⟨_,_,rfl⟩,_,rfl,rfl,_,_,_,xs,_,rfl,hpr,by omega,by omega,by omega,fun y1 o2 _ hp2=>?_⟩
  dsimp only [qat,qar,qbc,qbj,qbN,qbz,qbL,List.set]
  refine⟨⟨_,_,rfl⟩,⟨_,_,rfl⟩,_,rfl,rfl,_,_,_,xs,_,rfl,hp2,by omega,by omega,by omega,fun y2 o3 _ hp3=>?_⟩
  dsimp only [qat,qar,qbc,qbj,qbN,qbz,qbL,List.set]
  refine⟨by rw[List.length_map];exact qaA (by omega),_,qkG rdD rs' (y1,y2,(((rs'.map rdD).length:Nat):Int)),?_⟩
  dsimp only [qat,qar,qbc,qbj,qbN,qbz,qbL,List.set]
  exact⟨_,by rw[List.length_append];show _ - (_+1)<_;omega,_,o3,rfl,.inr (by rw[List.length_append];show _+1≤_;omega),hp3.mono (by rw[List.length_append];show _≤_+2*(_+1);omega),rfl⟩
 rintro ρ ⟨rs',op,u7,hr',hpx,rfl⟩
 refine⟨fun ρ=>∃ (xs:List Str) (op:Om) (u8:Option Sm),(ps.length≤xs.length∧(xs.length≤ps.length+1∨xs.length≤11))∧Pl (n+122) op∧ρ=RP pa pb q1 q2 q3 f sr op xs rs' [.str st,.str gl] u7 u8 none,⟨fun h=>?_,fun h=>⟨xs,op,_,by omega,hpx.mono (by omega),rfl⟩⟩,?_⟩
 ·refine⟨⟨_,_,rfl⟩,⟨_,_,rfl⟩,_,rfl,rfl,_,_,_,xs,_,rfl,hpx,by omega,by omega,by omega,fun y1 o2 _ hp2=>?_⟩
  dsimp only [qat,qar,qbc,qbj,qbN,qbz,qbL,List.set]
  refine⟨⟨_,_,rfl⟩,_,rfl,rfl,_,_,_,_,rfl,hp2,by omega,by omega,lt9 (by omega),fun y o3 hy0 hy1 hp3=>?_⟩
  dsimp only [qat,qar,qbc,qbj,qbN,qbz,qbL,List.set]
  obtain⟨k,rfl⟩:=Int.eq_ofNat_of_zero_le hy0
  refine⟨k,rfl,by omega,by rw[List.length_map];exact qaA (by omega),_,qfv D.str xs k _,?_⟩
  dsimp only [qat,qar,qbc,qbj,qbN,qbz,qbL,List.set]
  exact⟨_,o3,_,by rw[qda];omega,hp3,rfl⟩
 rintro ρ ⟨xs,op,u8,hx,hpx,rfl⟩
 have hL:(((xs.map D.str).length:Nat):Int)=xs.length:=by rw[List.length_map]
 have hR:(((rs'.map rdD).length:Nat):Int)=rs'.length:=by rw[List.length_map]
 refine⟨⟨_,_,rfl⟩,_,rfl,rfl,_,_,_,_,rfl,hpx,by omega,by omega,lt9 (by omega),fun at_ o2 ha0 ha1 hp2=>?_⟩
 dsimp only [qat,qar,qbc,qbj,qbN,qbz,qbL,List.set]
 obtain⟨k,rfl⟩:=Int.eq_ofNat_of_zero_le ha0
 refine⟨fun ρ=>∃ (rs2:List Rod) (op:Om),(rs2.length≤rs'.length+1)∧(f=6→rs2=rs')∧Pl (n+124) op∧ρ=RP pa pb q1 q2 q3 f sr op xs rs2 [.str st,.str gl] u7 u8 (some (.v (.int (k:Int)))),⟨fun h=>?_,fun h=>⟨rs',o2,by omega,fun _=>rfl,hp2.mono (by omega),rfl⟩⟩,?_⟩
 ·refine⟨⟨_,_,rfl⟩,⟨_,_,rfl⟩,_,rfl,rfl,_,_,_,xs,_,rfl,hp2,by omega,by omega,by omega,fun y1 o3 _ hp3=>?_⟩
  dsimp only [qat,qar,qbc,qbj,qbN,qbz,qbL,List.set]
  refine⟨k,rfl,by omega,by rw[List.length_map];exact qaA (by omega),_,qfv rdD rs' k (sr,y1,2),?_⟩
  dsimp only [qat,qar,qbc,qbj,qbN,qbz,qbL,List.set]
  have h:=qmo h
  exact⟨_,o3,by rw[qda];omega,fun e=>by omega,hp3.mono (by omega),rfl⟩
 rintro ρ ⟨rs2,op,hr2,h26,hpx,rfl⟩
 refine⟨fun ρ=>∃ (rs3:List Rod) (op:Om),(rs3.length≤rs'.length+1)∧Pl (n+126) op∧ρ=RP pa pb q1 q2 q3 f sr op xs rs3 [.str st,.str gl] u7 u8 (some (.v (.int (k:Int)))),⟨fun h=>?_,fun h=>⟨rs2,op,by omega,hpx.mono (by omega),rfl⟩⟩,?_⟩
 ·have h6:=h26 (qmo h)
  subst h6
  refine⟨⟨_,_,rfl⟩,⟨_,_,rfl⟩,_,rfl,rfl,_,_,_,xs,_,rfl,hpx,by omega,by omega,by omega,fun y1 o3 _ hp3=>?_⟩
  dsimp only [qat,qar,qbc,qbj,qbN,qbz,qbL,List.set]
  refine⟨k,rfl,by omega,by rw[List.length_map];exact qaA (by omega),_,qfv rdD rs2 k (y1,sr,-2),?_⟩
  dsimp only [qat,qar,qbc,qbj,qbN,qbz,qbL,List.set]
  exact⟨_,o3,by rw[qda];omega,hp3.mono (by omega),rfl⟩
 rintro ρ ⟨rs3,op,hr3,hpx,rfl⟩
 refine⟨fun ρ=>∃ (st' gl':Str),ρ=RP pa pb q1 q2 q3 f sr op xs rs3 [.str st',.str gl'] u7 u8 (some (.v (.int (k:Int)))),?_,?_⟩
 ·refine⟨fun h=>⟨fun _=>?_,fun h=>tf h⟩,fun h=>⟨fun h2=>?_,fun _=>⟨_,_,rfl⟩⟩⟩
  ·have h:=qmo h
   subst h
   exact⟨0,rfl,_,rfl,sr,gl,rfl⟩
  ·have h2:=qmo h2
   subst h2
   exact⟨1,rfl,_,rfl,st,sr,rfl⟩
 rintro ρ ⟨st',gl',rfl⟩
 refine⟨q1,_,_,_,rfl,rfl,rfl,?_⟩
 dsimp only [qat,qar,qbc,qbj,qbN,qbz,qbL,List.set]
 refine⟨q2,_,_,_,rfl,rfl,rfl,?_⟩
 dsimp only [qat,qar,qbc,qbj,qbN,qbz,qbL,List.set]
 refine⟨q3,_,_,_,rfl,rfl,rfl,?_⟩
 dsimp only [qat,qar,qbc,qbj,qbN,qbz,qbL,List.set]
 exact⟨_,rfl,_,rfl,q xs rs3 st' gl' op (by omega) (by omega) (by omega) (hpx.mono (by omega))⟩
def qdi:SpM:=fun as R _=>∃ (a:Option Addr) (o:Om) (n:Nat),as=[.ob a o]∧Pl n o∧n+1000<2 ^ 20∧∀ (ps:List Str) (rs:List Rod) (st gl:Str) (o':Om),ps.length≤100→rs.length≤100→R (.v (.tup [.tup (ps.map D.str),.tup (rs.map rdD),.str st,.str gl])) [o']
theorem qjn {α:Type}(g:α→D)(xs:List α)(j:Nat):(xs.map g).eraseIdx j=(xs.eraseIdx j).map g:=by
 rw[List.eraseIdx_eq_take_drop_succ,List.eraseIdx_eq_take_drop_succ,List.map_append,List.map_take,List.map_drop]
theorem qe3 {n:Nat}{f:Addr}{fd:FuncData}(F:Fun K "_law_spoilt" "_law_spoilt" qbM f fd)(R__law_next:ClM P w K mg base n "_law_next" ["_law_pool_here","_law_size"] qbP)(R__law_names:ClM P w K mg base n "_law_names" ["_law_pool_here","_law_count"] qdS)(R__law_one_of:ClM P w K mg base n "_law_one_of" ["_law_pool_here","_law_row"] qcq)(R__law_put:ClM P w K mg base n "_law_put" ["_law_pool_here","_law_rows","_law_fault","_law_strange"] qfa)(qbF:mg "range"=none)(qaM:mg "tuple"=none):FnOk P w K mg base CX0 (n+1) f fd ["_law_pool_here"] (qf2 K qdi):=by
 refine F.okM sc__law_spoilt (fun as R Rx h=>?_) (fun cdv A outer s H E as R Rx qs hcd hr h hqs=>?_)
 ·obtain⟨a,o,n,rfl,_⟩:=h;rfl
 obtain⟨a,o,n,rfl,hp,hn,q⟩:=h
 obtain⟨pa,rfl⟩:=qqd hqs
 refine⟨_,(qap (qaJ (i:=1) sc__law_spoilt.nd rfl (Or.inl rfl) (qaH R__law_next hr rfl (qav 0 (qai (qaE qag) qax qaf) qaa) qaa (qac qaf qae)))
   (qap (qaJ (i:=2) sc__law_spoilt.nd rfl (Or.inl rfl) (qmF qbe (qaE qag) (qaH R__law_next hr rfl (qav 0 (qai (qaE qag) qax qaf) qaa) qaa (qac qaf qae))))
   (qap (qaJ (i:=3) sc__law_spoilt.nd rfl (Or.inl rfl) (qaH R__law_names hr rfl (qav 0 (qai (qaE (qbS qbe (dvq 2) (PD.q qag))) qax qaD) qaa) qaa (qac qaD qae)))
   (qap (qaJ (i:=4) sc__law_spoilt.nd rfl (Or.inl rfl) (qmQ 3 (qaH R__law_next hr rfl (qav 0 (qai (qaE (qbS qbe (dvq 2) (PD.q qag))) qax qaD) qaa) qaa (qac qaD qae)) (qc0 qao) qao))
   (qap (qaJ (i:=5) sc__law_spoilt.nd rfl (Or.inl rfl) (qpf (qdM qau)))
   (qap (qdF PassesOwn.never rfl (qjJ rfl qbF (qai (qaH R__law_next hr rfl (qav 0 (qai (qaE qag) qax qaf) qaa) qaa (qac qaf qae)) qax qao)) (qbU (i:=6) sc__law_spoilt.nd rfl (Or.inl rfl)) (qap (qaJ (i:=7) sc__law_spoilt.nd rfl (Or.inl rfl) (qaH R__law_one_of hr rfl (qav 0 (qav 3 qax qaa) qaa) qaa (qac qaa qae)))
   (qaz (qb8 5 (qi5 (qai (qaE (dv 7)) (qai (qaH R__law_one_of hr rfl (qav 0 (qav 3 qax qaa) qaa) qaa (qac qaa qae)) (qai (qmF qiX (qaH R__law_next hr rfl (qav 0 (qai (qaE qag) qax qaf) qaa) qaa (qac qaf qae)) (qaE qag)) qax qaD) qao) qaa)) (qc0 qaF) qaF))))
   (qop 3 (qop 5 (qap (qaJ (i:=8) sc__law_spoilt.nd rfl (Or.inl rfl) (qpl (qav 3 (qav 5 (qai (qnW (qai (qaH R__law_one_of hr rfl (qav 0 (qav 3 qax qaa) qaa) qaa (qac qaa qae)) (qai (qaH R__law_one_of hr rfl (qav 0 (qav 3 qax qaa) qaa) qaa (qac qaa qae)) qax qao) qao)) qax qmZ) qaa) qaa)))
   (qap (qaJ (i:=9) sc__law_spoilt.nd rfl (Or.inl rfl) (qaE (PF.d (qdM (qad (dv 1) qau qaa)))))
   (qce (qde (qbu (qaT qkP (dvq 1) (PD.q qag) (qaI _))) (qaz (qaJ (i:=9) sc__law_spoilt.nd rfl (Or.inl rfl) (qrr (qnW (qai (qmF qbe (qaE qag) (qaH R__law_next hr rfl (qav 0 (qai (qaE qag) qax qaf) qaa) qaa (qac qaf qae))) (qai (qmF qbe (qaE qag) (qaH R__law_next hr rfl (qav 0 (qai (qaE qag) qax qaf) qaa) qaa (qac qaf qae))) qax qaD) qaD))))) qbq)
   (qks 3 8 0 (qks 5 8 1 (qap (qdF PassesOwn.never rfl (qd2 (qcd (dv 9))) (qbU (i:=10) sc__law_spoilt.nd rfl (Or.inl rfl)) (qaz (qcC (qaH R__law_put hr rfl (qav 0 (qav 8 (qai (qaE (dv 10)) (qai (qaE (dv 4)) qax qaa) qaa) qaa) qaa) qaa (qac qaa (qac qaa (qac qaa qae)))))))
   (qjE 3 8 0 (qjE 5 8 1 (qaz (qcA (qi5 (qai (qaE (qbo qbY rfl qaM PyProof.Rows.boot_tuple (qaB (dvq 3) qaQ qaa) qaa qae)) (qai (qaE (qbo qbY rfl qaM PyProof.Rows.boot_tuple (qaB (dvq 5) qaQ qaa) qaa qae)) (qai (ql5 8 2 0 rfl (fun _ _=>rfl) (fun _ _=>rfl)) (qai (ql5 8 2 1 rfl (fun _ _=>rfl) (fun _ _=>rfl)) qax qab) qab) qao) qao)))))))))))))))))))),?_⟩
 refine⟨⟨_,_,rfl⟩,_,rfl,rfl,_,_,12,n,rfl,hp,by omega,by decide,lt9 (by decide),fun way o1 hw0 hw1 hp1=>?_⟩
 dsimp only [qat,qar,qbc,qbj,qbN,qbz,qbL,List.set]
 refine⟨⟨_,_,rfl⟩,_,rfl,rfl,_,_,6,n+1,rfl,hp1,by omega,by decide,lt9 (by decide),fun x o2 hx0 hx1 hp2=>?_⟩
 dsimp only [qat,qar,qbc,qbj,qbN,qbz,qbL,List.set]
 refine⟨⟨_,_,rfl⟩,_,rfl,rfl,_,_,1+x+1,n+2,rfl,hp2,by omega,by omega,by omega,fun ns o3 hnd hlen _ hp3=>?_⟩
 dsimp only [qat,qar,qbc,qbj,qbN,qbz,qbL,List.set]
 refine⟨⟨_,_,rfl⟩,_,rfl,rfl,_,_,1+x+1,n+5,rfl,hp3,by omega,by omega,lt9 (by omega),fun y o4 hy0 hy1 hp4=>?_⟩
 dsimp only [qat,qar,qbc,qbj,qbN,qbz,qbL,List.set]
 obtain⟨j,rfl⟩:=Int.eq_ofNat_of_zero_le hy0
 have hj:j<ns.length:=by omega
 refine⟨j,.str ns[j],rfl,by omega,by rw[List.getElem?_map,List.getElem?_eq_getElem hj];rfl,_,qjn D.str ns j,?_⟩
 dsimp only [qat,qar,qbc,qbj,qbN,qbz,qbL,List.set]
 have hps:(ns.eraseIdx j).length=ns.length - 1:=List.length_eraseIdx_of_lt hj
 generalize ns.eraseIdx j=ps at hps
 generalize ns[j]=sr
 have hp0:0<ps.length∧ps.length≤7:=by omega
 refine⟨⟨_,_,rfl⟩,_,rfl,rfl,_,_,7,n+6,rfl,hp4,by omega,by decide,lt9 (by decide),fun m o5 hm0 hm1 hp5=>?_⟩
 dsimp only [qat,qar,qbc,qbj,qbN,qbz,qbL,List.set]
 refine⟨⟨by omega,by omega⟩,fun i ρ=>∃ (rs:List Rod) (op:Om) (u6 u7:Option Sm),rs.length=i∧Pl (n+7+3*i) op∧ρ=[some (.ob (some pa) op),some (.v (.int way)),some (.v (.int (1+x))),some (.own (ps.map D.str)),some (.v (.str sr)),some (.own (rs.map rdD)),u6,u7,none,none,none],⟨[],o5,_,_,rfl,hp5,rfl⟩,?_,?_⟩
 ·rintro i d ρ hd ⟨rs,op,u6,u7,rfl,hpi,rfl⟩
  obtain⟨hi,rfl⟩:=qcJ hd
  refine⟨⟨_,_,rfl⟩,⟨_,_,rfl⟩,_,rfl,rfl,_,_,_,ps,_,rfl,hpi,by omega,by omega,by omega,fun y1 o6 _ hp6=>?_⟩
  dsimp only [qat,qar,qbc,qbj,qbN,qbz,qbL,List.set]
  refine⟨⟨_,_,rfl⟩,⟨_,_,rfl⟩,_,rfl,rfl,_,_,_,ps,_,rfl,hp6,by omega,by omega,by omega,fun y2 o7 _ hp7=>?_⟩
  dsimp only [qat,qar,qbc,qbj,qbN,qbz,qbL,List.set]
  refine⟨⟨_,_,rfl⟩,_,rfl,rfl,_,_,9,_,rfl,hp7,by omega,by decide,lt9 (by decide),fun y3 o8 _ _ hp8=>?_⟩
  dsimp only [qat,qar,qbc,qbj,qbN,qbz,qbL,List.set]
  refine⟨by rw[List.length_map];exact qaA (by omega),_,qkG rdD rs (y1,y2,y3 - 2),?_⟩
  dsimp only [qat,qar,qbc,qbj,qbN,qbz,qbL,List.set]
  exact⟨_,o8,_,_,by rw[List.length_append];rfl,hp8.mono (by omega),rfl⟩
 rintro ρ ⟨rs,op,u6,u7,hrl,hpi,rfl⟩
 rw[qbx] at hrl hpi
 have hr7:rs.length≤7:=by omega
 have hpi:=hpi.mono (show _≤n+30 by omega)
 refine⟨_,rfl,fun qa=>⟨_,rfl,fun qb=>?_⟩⟩
 dsimp only [qat,qar,qbc,qbj,qbN,qbz,qbL,List.set]
 refine⟨⟨_,_,rfl⟩,⟨_,_,rfl⟩,⟨_,_,rfl⟩,⟨_,_,rfl⟩,_,rfl,rfl,_,_,_,ps,_,rfl,hpi,by omega,by omega,by omega,fun st o6 _ hp6=>?_⟩
 dsimp only [qat,qar,qbc,qbj,qbN,qbz,qbL,List.set]
 refine⟨⟨_,_,rfl⟩,⟨_,_,rfl⟩,_,rfl,rfl,_,_,_,ps,_,rfl,hp6,by omega,by omega,by omega,fun gl o7 _ hp7=>?_⟩
 dsimp only [qat,qar,qbc,qbj,qbN,qbz,qbL,List.set]
 refine⟨3,5,qa,qb,_,_,[.str st,.str gl],rfl,rfl,rfl,fun qc=>?_⟩
 dsimp only [qat,qar,qbc,qbj,qbN,qbz,qbL,List.set]
 refine⟨fun ρ=>∃ (fs:List Int) (op:Om),fs.length≤2∧Pl (n+50) op∧ρ=[some (.ob (some pa) op),some (.v (.int way)),some (.v (.int (1+x))),some (.ob (some qa) (.lst (ps.map D.str))),some (.v (.str sr)),some (.ob (some qb) (.lst (rs.map rdD))),u6,u7,some (.ob none (.tl [(qa,none),(qb,none),(qc,some [.str st,.str gl])])),some (.v (.lst (fs.map D.int))),none],⟨fun _=>?_,fun _=>⟨[way],o7,by show 1≤2;decide,hp7.mono (by omega),rfl⟩⟩,?_⟩
 ·refine⟨⟨_,_,rfl⟩,_,rfl,rfl,_,_,7,_,rfl,hp7,by omega,by decide,lt9 (by decide),fun f1 o8 _ _ hp8=>?_⟩
  dsimp only [qat,qar,qbc,qbj,qbN,qbz,qbL,List.set]
  refine⟨⟨_,_,rfl⟩,_,rfl,rfl,_,_,7,_,rfl,hp8,by omega,by decide,lt9 (by decide),fun f2 o9 _ _ hp9=>?_⟩
  dsimp only [qat,qar,qbc,qbj,qbN,qbz,qbL,List.set]
  exact⟨[2+f1,2+f2],o9,by show 2≤2;decide,hp9.mono (by omega),rfl⟩
 rintro ρ ⟨fs,op2,hfl,hpf,rfl⟩
 refine⟨qa,_,_,_,rfl,rfl,rfl,?_⟩
 dsimp only [qat,qar,qbc,qbj,qbN,qbz,qbL,List.set]
 refine⟨qb,_,_,_,rfl,rfl,rfl,?_⟩
 dsimp only [qat,qar,qbc,qbj,qbN,qbz,qbL,List.set]
 refine⟨fun i ρ=>∃ (ps':List Str) (rs':List Rod) (st' gl':Str) (op:Om) (u10:Option Sm),(0<ps'.length∧(ps'.length≤7+i∨ps'.length≤11+i)∧rs'.length≤15+i)∧Pl (n+50+200*i) op∧ρ=[some (.ob (some pa) op),some (.v (.int way)),some (.v (.int (1+x))),some (.ob (some qa) .ptr),some (.v (.str sr)),some (.ob (some qb) .ptr),u6,u7,some (.ob none (.tl [(qa,some (ps'.map D.str)),(qb,some (rs'.map rdD)),(qc,some [.str st',.str gl'])])),some (.v (.lst (fs.map D.int))),u10],⟨ps,rs,st,gl,op2,_,by omega,hpf,rfl⟩,?_,?_⟩
 ·rintro i d ρ hd ⟨ps',rs',st',gl',op,u10,hb,hpi,rfl⟩
  obtain⟨f,rfl,hf⟩:=qbh hd
  have hi:i<2:=by have:=qak hf;omega
  refine⟨⟨_,_,rfl⟩,⟨_,_,rfl⟩,_,rfl,rfl,_,_,op,qa,qb,qc,ps',rs',st',gl',f,sr,_,rfl,hpi,by omega,by omega,by omega,by omega,fun ps2 rs2 st2 gl2 o2 c1 c2 c3 hp2=>?_⟩
  dsimp only [qat,qar,qbc,qbj,qbN,qbz,qbL,List.set]
  exact⟨ps2,rs2,st2,gl2,o2,_,by omega,hp2.mono (by omega),rfl⟩
 rintro ρ ⟨ps',rs',st',gl',op,u10,hb,hpi,rfl⟩
 rw[List.length_map] at hb hpi
 refine⟨qa,_,_,_,rfl,rfl,rfl,?_⟩
 dsimp only [qat,qar,qbc,qbj,qbN,qbz,qbL,List.set]
 refine⟨qb,_,_,_,rfl,rfl,rfl,?_⟩
 dsimp only [qat,qar,qbc,qbj,qbN,qbz,qbL,List.set]
 exact⟨_,_,_,_,_,rfl,rfl,rfl,_,_,_,_,_,rfl,rfl,rfl,_,rfl,q ps' rs' st' gl' op (by omega) (by omega)⟩
theorem qpe {ps:List Str}{rs:List Rod}{a g nm:Str}(h:RdBad ps rs a g nm):nm∈exN∧qeS nm "YardError"=true:=by
 cases h <;> exact⟨by decide +kernel,by decide +kernel⟩
def qjs (nm:Str):Int:=if nm="TooGreat" then 1 else if nm="Twice" then 2 else 3
theorem qmm:qjs "TooGreat"=1:=by decide +kernel
theorem qml:qjs "Twice"=2:=by decide +kernel
theorem qmk:qjs "NoName"=3:=by decide +kernel
def qe8:SpD:=fun ds R=>∃ (ps:List Str) (rs:List Rod) (a g:Str),ds=[.tup (ps.map D.str),.tup (rs.map rdD),.str a,.str g]∧ps.length≤100∧rs.length≤100∧(∀ nm,RdBad ps rs a g nm→R (.int (qjs nm)))∧(MapOk ps rs a g→R (.int 0))
theorem qoj {xs:List Str}{i:Nat}{x:Str}(h:xs[i]?=some x)(hm:x∈xs.take i):¬ xs.Nodup:=fun hn=>by
 obtain⟨j,hj⟩:=List.getElem?_of_mem hm
 have hi:=qak h
 have hji:j<i:=by have:=qak hj;rw[List.length_take] at this;omega
 rw[List.getElem?_take_of_lt hji] at hj
 have:=(List.getElem?_inj (by omega) hn).mp (hj.trans h.symm)
 omega
theorem qfg {x:Str}{xs:List Str}:(true != qjD (.inr x) (xs.map Sum.inr))=!decide (x∈xs):=by rw[qdJ];cases decide (x∈xs) <;> rfl
theorem qgX {n:Nat}{f:Addr}{fd:FuncData}(F:Fun K "_law_due" "_law_due" qcW f fd)(qbF:mg "range"=none)(qaU:mg "len"=none):FnOk P w K mg base CX0 (n+1) f fd ["_law_places","_law_roads","_law_start","_law_goal"] (lSp K qe8):=by
 refine F.okD sc__law_due (fun ds R h=>?_) (fun cdv A outer s H E ds R hr h=>?_)
 ·obtain⟨ps,rs,a,g,rfl,_⟩:=h;rfl
 obtain⟨ps,rs,a,g,rfl,hl,hk,qb,qo⟩:=h
 refine⟨_,(qlG (qkS (PWD.td (qpx (qaT qkP (PD.q (qaR qb0 rfl qaU PySem.boot_len (qaB (dvq 0) qaQ qaa) qaa qae)) (PD.q qag) (qaI _)) (qlF (qaT qkP (PD.q (qaR qb0 rfl qaU PySem.boot_len (qaB (dvq 1) qaQ qaa) qaa qae)) (PD.q qag) (qaI _))))) (qbw (qc9 qag)) qfp)
   (qa6 (qhm PassesOwn.never rfl (qfV rfl qbF (qad (qaR qb0 rfl qaU PySem.boot_len (qaB (dvq 0) qaQ qaa) qaa qae) qau qao)) (qbG (i:=4) sc__law_due.nd rfl (Or.inl rfl)) (qbw (qkS (qaT qp8 (PD.q (qaX (dvq 0) (dvq 4) (fun _ _=>rfl))) (PD.q (qpr (dvq 0) qhM (qff (dvq 4)))) (by with_unfolding_all rfl)) (qbw (qc9 qag)) qfp)))
   (qa6 (qhm PassesOwn.never rfl (qcd (dv 1)) (qbG (i:=5) sc__law_due.nd rfl (Or.inl rfl)) (qbw (qkS (PWD.td (qpx (qaT qdG (PD.q (qaX (dvq 5) (PD.q qag) (fun _ _=>rfl))) (dvq 0) (by with_unfolding_all rfl)) (qlF (qaT qdG (PD.q (qaX (dvq 5) (PD.q qag) (fun _ _=>rfl))) (dvq 0) (by with_unfolding_all rfl))))) (qbw (qc9 qag)) qfp)))
   (qlG (qkS (PWD.td (qpx (qaT qdG (dvq 2) (dvq 0) (by with_unfolding_all rfl)) (qlF (qaT qdG (dvq 3) (dvq 0) (by with_unfolding_all rfl))))) (qbw (qc9 qag)) qfp)
   (qbw (qc9 qag)))))),?_⟩
 have tL:(((ps.map D.str).length:Nat):Int)=ps.length:=by rw[List.length_map]
 have oL:(((rs.map rdD).length:Nat):Int)=rs.length:=by rw[List.length_map]
 have q1:(8<ps.length∨12<rs.length)→R (.int 1):=fun h=>by have:=qb _ (.great h);rwa [qmm] at this
 refine⟨fun ρ=>(ps.length≤8∧rs.length≤12)∧ρ=[some (.v (.tup (ps.map D.str))),some (.v (.tup (rs.map rdD))),some (.v (.str a)),some (.v (.str g)),none,none],⟨fun h=>⟨fun _=>q1 (.inl (by have:=of_decide_eq_true h;omega)),fun h=>tf h⟩,fun h=>⟨fun h2=>q1 (.inr (by have:=of_decide_eq_true h2;omega)),fun h2=>⟨⟨by have:=of_decide_eq_false h;omega,by have:=of_decide_eq_false h2;omega⟩,rfl⟩⟩⟩,?_⟩
 rintro ρ ⟨⟨l1,l2⟩,rfl⟩
 have q2:¬ ps.Nodup→R (.int 2):=fun h=>by have:=qb _ (.twice l1 l2 h);rwa [qml] at this
 refine⟨⟨by omega,by omega⟩,fun i ρ=>(ps.take i).Nodup∧∃ u4:Option Sl,ρ=[some (.v (.tup (ps.map D.str))),some (.v (.tup (rs.map rdD))),some (.v (.str a)),some (.v (.str g)),u4,none],⟨by simp,_,rfl⟩,?_,?_⟩
 ·rintro i d ρ hd ⟨hnd,u4,rfl⟩
  obtain⟨hi,rfl⟩:=qcJ hd
  have hi':i<ps.length:=by rw[tL,Int.toNat_natCast] at hi;exact hi
  have hx:ps[i]?=some ps[i]:=List.getElem?_eq_getElem hi'
  have ec:qeD (ps.map D.str) none (some (0+(i:Int)))=(ps.take i).map D.str:=by
   rw[Int.zero_add,qfE]
   unfold qeD
   rw[HT.sIx_none,HT.sIx_nat,Nat.min_eq_left (by omega),List.drop_zero,Nat.sub_zero]
  refine⟨_,qdh (i:=i) hx (by omega),_,ec,.inr ps[i],(ps.take i).map Sum.inr,rfl,by rw[← qbQ];rfl,fun h=>?_,fun h=>?_⟩
  ·rw[qb1,qdJ] at h
   exact q2 (qoj hx (of_decide_eq_true h))
  ·rw[qb1,qdJ] at h
   refine⟨?_,_,rfl⟩
   rw[qbB hx]
   exact qeQ hnd (of_decide_eq_false h)
 rintro ρ ⟨hnd,u4,rfl⟩
 rw[qbx,tL,Int.toNat_natCast,List.take_length] at hnd
 have q3:((∃ r∈rs,r.1∉ps∨r.2.1∉ps)∨a∉ps∨g∉ps)→R (.int 3):=fun h=>by have:=qb _ (.strange l1 l2 hnd h);rwa [qmk] at this
 refine⟨fun i ρ=>(∀ r∈rs.take i,r.1∈ps∧r.2.1∈ps)∧∃ u5:Option Sl,ρ=[some (.v (.tup (ps.map D.str))),some (.v (.tup (rs.map rdD))),some (.v (.str a)),some (.v (.str g)),u4,u5],⟨by simp,_,rfl⟩,?_,?_⟩
 ·rintro i d ρ hd ⟨hall,u5,rfl⟩
  obtain⟨r,rfl,hr'⟩:=qbh hd
  have hm:=List.mem_of_getElem? hr'
  refine⟨_,rfl,.inr r.1,ps.map Sum.inr,rfl,by rw[← qbQ];rfl,fun h=>⟨fun _=>?_,fun h=>tf h⟩,fun h=>⟨_,rfl,.inr r.2.1,ps.map Sum.inr,rfl,by rw[← qbQ];rfl,fun h2=>?_,fun h2=>?_⟩⟩
  ·rw[qfg,Bool.not_eq_true'] at h
   exact q3 (.inl ⟨r,hm,.inl (of_decide_eq_false h)⟩)
  ·rw[qfg,Bool.not_eq_true'] at h2
   exact q3 (.inl ⟨r,hm,.inr (of_decide_eq_false h2)⟩)
  ·rw[qfg,Bool.not_eq_false'] at h h2
   refine⟨fun y hy=>?_,_,rfl⟩
   rw[qbB hr'] at hy
   rcases List.mem_append.mp hy with hy | hy
   ·exact hall y hy
   ·rw[List.mem_singleton.mp hy];exact⟨of_decide_eq_true h,of_decide_eq_true h2⟩
 rintro ρ ⟨hall,u5,rfl⟩
 rw[List.length_map,List.take_length] at hall
 refine⟨fun ρ=>a∈ps∧g∈ps,⟨.inr a,ps.map Sum.inr,rfl,by rw[← qbQ];rfl,fun h=>⟨fun _=>?_,fun h=>tf h⟩,fun h=>⟨.inr g,ps.map Sum.inr,rfl,by rw[← qbQ];rfl,fun h2=>?_,fun h2=>?_⟩⟩,?_⟩
 ·rw[qfg,Bool.not_eq_true'] at h
  exact q3 (.inr (.inl (of_decide_eq_false h)))
 ·rw[qfg,Bool.not_eq_true'] at h2
  exact q3 (.inr (.inr (of_decide_eq_false h2)))
 ·rw[qfg,Bool.not_eq_false'] at h h2
  exact⟨of_decide_eq_true h,of_decide_eq_true h2⟩
 rintro ρ ⟨ha,hg⟩
 exact qo ⟨hnd,l1,l2,hall,ha,hg⟩
def qcK (nm:Str):List D:=((["TooGreat","Twice","NoName","NoText","NoRow","NoChange","NoNumber","BelowNought"]:List Str).map fun c=>D.bl (qeS nm c))++[.bl true]
def qqm (ps:List Str)(rs:List Rod)(a g:Str):D:=.tup [.tup (ps.map D.str),.tup (rs.map rdD),.str a,.str g]
def qdQ:SpD:=fun ds R=>∃ (w:Int) (ps:List Str) (rs:List Rod) (a g:Str),ds=[.int w,qqm ps rs a g]∧ps.length≤100∧rs.length≤100∧((MapOk ps rs a g∧R (.lst []))∨∃ nm,RdBad ps rs a g nm∧R (.lst (qcK nm)))
theorem qfN {n:Nat}{f:Addr}{fd:FuncData}(F:Fun K "_law_kinds" "_law_kinds" qb5 f fd)(U_road_plan:ClX P w K mg base n "road_plan" ["places","roads","start","goal"] (orX qc6 qc7))(U_road:ClX P w K mg base n "road" ["places","roads","start","goal"] (orX qjp qkm))(qaO:mg "isinstance"=none)(qcP:mg "ValueError"=none)(Ex:Exs K mg qeS exN)(Is:Isa K mg qeS exN)(e_YardError:∃ D,mg "YardError"=some (.ref D))(e_TooGreat:∃ D,mg "TooGreat"=some (.ref D))(e_Twice:∃ D,mg "Twice"=some (.ref D))(e_NoName:∃ D,mg "NoName"=some (.ref D))(e_NoText:∃ D,mg "NoText"=some (.ref D))(e_NoRow:∃ D,mg "NoRow"=some (.ref D))(e_NoChange:∃ D,mg "NoChange"=some (.ref D))(e_NoNumber:∃ D,mg "NoNumber"=some (.ref D))(e_BelowNought:∃ D,mg "BelowNought"=some (.ref D)):FnOk P w K mg base CX0 (n+1) f fd ["_law_way","_law_asked"] (qf2 K (zM qdQ)):=by
 refine F.okM sc__law_kinds (fun as R Rx h=>?_) (fun cdv A outer s H E as R Rx qs hcd hr h hqs=>?_)
 ·obtain⟨_,rfl,w,ps,rs,a,g,rfl,_⟩:=h;rfl
 obtain⟨_,rfl,w,ps,rs,a,g,rfl,hl,hk,q⟩:=h
 obtain rfl:=ql1 hqs
 refine⟨_,(qap (qaJ (i:=2) sc__law_kinds.nd rfl (Or.inl rfl) (qaE (PF.d (qdM qau))))
   (qap (qo5 (fun _ _=>(qaz (qde (qbu (qaT (qeY hr.units) (dvq 0) (PD.q qag) (qaI _))) (qaz (qcC (qbR U_road_plan hr rfl rfl (qai (qaE (qaX (dvq 1) (PD.q qag) (fun _ _=>rfl))) (qai (qaE (qaX (dvq 1) (PD.q qag) (fun _ _=>rfl))) (qai (qaE (qaX (dvq 1) (PD.q qag) (fun _ _=>rfl))) (qai (qaE (qaX (dvq 1) (PD.q qag) (fun _ _=>rfl))) qax qab) qab) qab) qab) qab (qac qab (qac qab (qac qab qae)))))) (qaz (qcC (qbR U_road hr rfl rfl (qai (qaE (qaX (dvq 1) (PD.q qag) (fun _ _=>rfl))) (qai (qaE (qaX (dvq 1) (PD.q qag) (fun _ _=>rfl))) (qai (qaE (qaX (dvq 1) (PD.q qag) (fun _ _=>rfl))) (qai (qaE (qaX (dvq 1) (PD.q qag) (fun _ _=>rfl))) qax qab) qab) qab) qab) qab (qac qab (qac qab (qac qab qae))))))))) (qhB 3 Ex e_YardError (by decide +kernel) rfl sc__law_kinds.nd (fun _ _=>(qap (qaJ (i:=2) sc__law_kinds.nd rfl (Or.inl rfl) (qaE (PF.d (qdM (qad (qdP Ex Is e_TooGreat (by decide +kernel) rfl rfl qaO (dv 3) qaa qaa) (qad (qdP Ex Is e_Twice (by decide +kernel) rfl rfl qaO (dv 3) qaa qaa) (qad (qdP Ex Is e_NoName (by decide +kernel) rfl rfl qaO (dv 3) qaa qaa) (qad (qdP Ex Is e_NoText (by decide +kernel) rfl rfl qaO (dv 3) qaa qaa) qau qao) qao) qao) qao)))))
   (qap (qaJ (i:=2) sc__law_kinds.nd rfl (Or.inl rfl) (qaE (qbS qbe (dvq 2) (PD.q (PF.d (qdM (qad (qdP Ex Is e_NoRow (by decide +kernel) rfl rfl qaO (dv 3) qaa qaa) (qad (qdP Ex Is e_NoChange (by decide +kernel) rfl rfl qaO (dv 3) qaa qaa) (qad (qdP Ex Is e_NoNumber (by decide +kernel) rfl rfl qaO (dv 3) qaa qaa) qau qao) qao) qao)))))))
   (qaz (qaJ (i:=2) sc__law_kinds.nd rfl (Or.inl rfl) (qaE (qbS qbe (dvq 2) (PD.q (PF.d (qdM (qad (qdP Ex Is e_BelowNought (by decide +kernel) rfl rfl qaO (dv 3) qaa qaa) (qad (qqE Ex Is rfl qcP rfl qaO (dv 3) qaa qaa) qau qao) qao))))))))))) qmc) rfl rfl)
   (qaz (qcA (qaE (dv 2)))))),?_⟩
 rcases q with⟨hc,q⟩ | ⟨nm,hb,q⟩
 ·refine⟨fun _=>?_,fun _=>?_⟩
  ·exact⟨_,rfl,_,rfl,_,rfl,_,rfl,.inl ⟨ps,rs,a,g,rfl,hc,q⟩⟩
  ·exact⟨_,rfl,_,rfl,_,rfl,_,rfl,.inl ⟨ps,rs,a,g,rfl,hc,q⟩⟩
 ·obtain⟨h1,h2⟩:=qpe hb
  have no:¬ (qeS nm "YardError"=false):=fun h=>by rw[h2] at h;cases h
  have sz1:4+3≤sizeLine:=by rw[sizeLine_eq];decide
  have sz2:7+2≤sizeLine:=by rw[sizeLine_eq];decide
  refine⟨fun _=>?_,fun _=>?_⟩
  all_goals
   refine⟨_,rfl,_,rfl,_,rfl,_,rfl,.inr ⟨nm,ps,rs,a,g,rfl,hb,hl,hk,h1,fun _=>?_,fun h=>no h⟩⟩
   dsimp only [qat,qar,qbc,qbj,qbN,qbz,qbL,List.set]
   refine⟨_,_,rfl,h1,_,_,rfl,h1,_,_,rfl,h1,_,_,rfl,h1,?_⟩
   dsimp only [qat,qar,qbc,qbj,qbN,qbz,qbL,List.set]
   refine⟨_,_,rfl,h1,_,_,rfl,h1,_,_,rfl,h1,sz1,_,rfl,?_⟩
   dsimp only [qat,qar,qbc,qbj,qbN,qbz,qbL,List.set]
   exact⟨_,_,rfl,h1,_,_,rfl,h1,sz2,_,rfl,q⟩
def qgT:SpD:=fun ds R=>∃ (w:Int) (ps:List Str) (rs:List Rod) (a g:Str) (nm:Str),ds=[.int w,qqm ps rs a g]∧ps.length≤100∧rs.length≤100∧RdBad ps rs a g nm∧R .non
theorem qli {ps:List Str}{rs:List Rod}{a g nm:Str}(h:RdBad ps rs a g nm):qeS nm "TooGreat"=true∨(qeS nm "TooGreat"=false∧qeS nm "Twice"=true)∨(qeS nm "TooGreat"=false∧qeS nm "Twice"=false∧qeS nm "NoName"=true):=by
 cases h with
 | great _=>exact .inl (by decide +kernel)
 | twice _ _ _=>exact .inr (.inl ⟨by decide +kernel,by decide +kernel⟩)
 | strange _ _ _ _=>exact .inr (.inr ⟨by decide +kernel,by decide +kernel,by decide +kernel⟩)
theorem qiz {n:Nat}{f:Addr}{fd:FuncData}(F:Fun K "_law_at" "_law_at" qdg f fd)(U_road_plan:ClX P w K mg base n "road_plan" ["places","roads","start","goal"] (orX qc6 qc7))(U_road:ClX P w K mg base n "road" ["places","roads","start","goal"] (orX qjp qkm))(Ex:Exs K mg qeS exN)(Is:Isa K mg qeS exN)(e_TooGreat:∃ D,mg "TooGreat"=some (.ref D))(e_Twice:∃ D,mg "Twice"=some (.ref D))(e_NoName:∃ D,mg "NoName"=some (.ref D)):FnOk P w K mg base CX0 (n+1) f fd ["_law_way","_law_asked"] (qf2 K (zM qgT)):=by
 refine F.okM sc__law_at (fun as R Rx h=>?_) (fun cdv A outer s H E as R Rx qs hcd hr h hqs=>?_)
 ·obtain⟨_,rfl,w,ps,rs,a,g,nm,rfl,_⟩:=h;rfl
 obtain⟨_,rfl,w,ps,rs,a,g,nm,rfl,hl,hk,hb,q⟩:=h
 obtain rfl:=ql1 hqs
 refine⟨_,(qap (qaJ (i:=2) sc__law_at.nd rfl (Or.inl rfl) (qaE qag))
   (qap (qo5 (fun _ _=>(qaz (qde (qbu (qaT (qeY hr.units) (dvq 0) (PD.q qag) (qaI _))) (qaz (qcC (qbR U_road_plan hr rfl rfl (qai (qaE (qaX (dvq 1) (PD.q qag) (fun _ _=>rfl))) (qai (qaE (qaX (dvq 1) (PD.q qag) (fun _ _=>rfl))) (qai (qaE (qaX (dvq 1) (PD.q qag) (fun _ _=>rfl))) (qai (qaE (qaX (dvq 1) (PD.q qag) (fun _ _=>rfl))) qax qab) qab) qab) qab) qab (qac qab (qac qab (qac qab qae)))))) (qaz (qcC (qbR U_road hr rfl rfl (qai (qaE (qaX (dvq 1) (PD.q qag) (fun _ _=>rfl))) (qai (qaE (qaX (dvq 1) (PD.q qag) (fun _ _=>rfl))) (qai (qaE (qaX (dvq 1) (PD.q qag) (fun _ _=>rfl))) (qai (qaE (qaX (dvq 1) (PD.q qag) (fun _ _=>rfl))) qax qab) qab) qab) qab) qab (qac qab (qac qab (qac qab qae))))))))) (qhB 3 Ex e_TooGreat (by decide +kernel) rfl sc__law_at.nd (fun _ _=>(qaz (qaJ (i:=2) sc__law_at.nd rfl (Or.inl rfl) (qaE (qmE Ex Is (dv 3)))))) (qhB 3 Ex e_Twice (by decide +kernel) rfl sc__law_at.nd (fun _ _=>(qaz (qaJ (i:=2) sc__law_at.nd rfl (Or.inl rfl) (qaE (qmE Ex Is (dv 3)))))) (qhB 3 Ex e_NoName (by decide +kernel) rfl sc__law_at.nd (fun _ _=>(qaz (qaJ (i:=2) sc__law_at.nd rfl (Or.inl rfl) (qaE (qmE Ex Is (dv 3)))))) qmc))) rfl rfl)
   (qaz (qcA (qaE (dv 2)))))),?_⟩
 obtain⟨h1,_⟩:=qpe hb
 refine⟨fun _=>?_,fun _=>?_⟩
 all_goals
  refine⟨_,rfl,_,rfl,_,rfl,_,rfl,.inr ⟨nm,ps,rs,a,g,rfl,hb,hl,hk,h1,fun c1=>?_,fun c1=>⟨h1,fun c2=>?_,fun c2=>⟨h1,fun c3=>?_,fun c3=>?_⟩⟩⟩⟩
  ·exact⟨nm,.non,rfl,h1,trivial,q⟩
  ·exact⟨nm,.non,rfl,h1,trivial,q⟩
  ·exact⟨nm,.non,rfl,h1,trivial,q⟩
  ·rcases qli hb with h | ⟨_,h⟩ | ⟨_,_,h⟩
   ·rw[h] at c1;cases c1
   ·rw[h] at c2;cases c2
   ·rw[h] at c3;cases c3
theorem qh8 {f:D→D→Option Bool}:∀ {xs:List D},(∀ x∈xs,f x x=some true)→cmL f xs xs=some true
 | [],_=>rfl
 | x::xs,h=>by
  show ((f x x).bind fun b=>(cmL f xs xs).map (b && ·))=_
  rw[h x List.mem_cons_self,qh8 fun y hy=>h y (List.mem_cons_of_mem _ hy)]
  rfl
theorem qqN {n:Nat}(b:Bool):cmB (n+1) (.bl b) (.bl b)=some true:=by cases b <;> rfl
theorem qnH {n:Nat}{xs:List D}(h:∀ x∈xs,cmB n x x=some true):cmB (n+1) (.lst xs) (.lst xs)=some true:=by
 show (if xs.length=xs.length then cmL (cmB n) xs xs else some false)=some true
 rw[if_pos rfl]
 exact qh8 h
theorem qkf (nm:Str):∀ k∈qcK nm,∃ b,k=D.bl b:=fun k hk=>by
 unfold qcK at hk
 rcases List.mem_append.mp hk with hk | hk
 ·obtain⟨c,_,rfl⟩:=List.mem_map.mp hk
  exact⟨_,rfl⟩
 ·rw[List.mem_singleton.mp hk];exact⟨_,rfl⟩
theorem qnp (nm:Str):cmB 40 (.lst (qcK nm)) (.lst (qcK nm))=some true:=qnH fun x hx=>by
 obtain⟨b,rfl⟩:=qkf nm x hx
 exact qqN b
theorem qhU {d:D}{R:D→Prop}(h:cmB 40 d d=some true)(q:R (.bl false)):zNe d d R:=by
 unfold zNe
 rw[h]
 exact q
theorem qex {nm:Str}{b1 b2 b3 b4 b5 b6 b7 b8:Bool}(h1:qeS nm "TooGreat"=b1)(h2:qeS nm "Twice"=b2)(h3:qeS nm "NoName"=b3)(h4:qeS nm "NoText"=b4)(h5:qeS nm "NoRow"=b5)(h6:qeS nm "NoChange"=b6)(h7:qeS nm "NoNumber"=b7)(h8:qeS nm "BelowNought"=b8):[D.bl b1,.bl b2,.bl b3,.bl b4,.bl b5,.bl b6,.bl b7,.bl b8,.bl true]=qcK nm:=by
 subst h1 h2 h3 h4 h5 h6 h7 h8
 rfl
theorem qnL {ps:List Str}{rs:List Rod}{a g nm:Str}(h:RdBad ps rs a g nm):[D.bl (qjs nm == 1),.bl (qjs nm == 2),.bl (qjs nm == 3),.bl false,.bl false,.bl false,.bl false,.bl false,.bl true]=qcK nm∧0<qjs nm:=by
 cases h with
 | great _=>rw[qmm];exact⟨qex (by decide +kernel) (by decide +kernel) (by decide +kernel) (by decide +kernel) (by decide +kernel) (by decide +kernel) (by decide +kernel) (by decide +kernel),by decide⟩
 | twice _ _ _=>rw[qml];exact⟨qex (by decide +kernel) (by decide +kernel) (by decide +kernel) (by decide +kernel) (by decide +kernel) (by decide +kernel) (by decide +kernel) (by decide +kernel),by decide⟩
 | strange _ _ _ _=>rw[qmk];exact⟨qex (by decide +kernel) (by decide +kernel) (by decide +kernel) (by decide +kernel) (by decide +kernel) (by decide +kernel) (by decide +kernel) (by decide +kernel),by decide⟩
theorem qqX {i:Nat}{ρ:Rho}{d:D}{R:D→Prop}(h:ρ[i]?=some (some (.v d)))(k:R d):qld i ρ R:=by
 unfold qld
 rw[h]
 exact k
abbrev SW (ns:List Int)(ps:List Str)(rs:List Rod)(a g:Str)(due:Int)(ks:List D)(u4:Option Sm):qaN:=[some (.v (.fzl (ns.map D.int))),some (.v (qqm ps rs a g)),some (.v (.int due)),some (.v (.lst ks)),u4]
theorem qkr {i:Nat}{d:D}(h:[D.int 0,D.int 1][i]?=some d):∃ w,d=.int w:=by
 match i,h with
 | 0,h=>cases h;exact⟨_,rfl⟩
 | 1,h=>cases h;exact⟨_,rfl⟩
abbrev sp_law:=qoE
abbrev qpW:=qmh
theorem qoC {n:Nat}{f:Addr}{fd:FuncData}(F:Fun K "law" "law" qlC f fd)(R__law_spoilt:ClM P w K mg base n "_law_spoilt" ["_law_pool_here"] qdi)(Q__law_due:Cl P w K mg base n "_law_due" ["_law_places","_law_roads","_law_start","_law_goal"] qe8)(R__law_pool:ClM P w K mg base n "_law_pool" ["_law_script","_law_at_here"] qej)(Q__law_kinds:Cl P w K mg base n "_law_kinds" ["_law_way","_law_asked"] qdQ)(Q__law_at:Cl P w K mg base n "_law_at" ["_law_way","_law_asked"] qgT):FnOk P w K mg base CX0 (n+1) f fd ["_law_script"] (qf2 K (zM qpW)):=by
 refine F.okM sc_law (fun as R Rx h=>?_) (fun cdv A outer s H E as R Rx qs hcd hr h hqs=>?_)
 ·obtain⟨_,rfl,ns,rfl,_⟩:=h;rfl
 obtain⟨_,rfl,ns,rfl,hz,q⟩:=h
 obtain rfl:=ql1 hqs
 refine⟨_,(qap (qaJ (i:=1) sc_law.nd rfl (Or.inl rfl) (qaH R__law_spoilt hr rfl (qai (qaH R__law_pool hr rfl (qai (qaE (dv 0)) (qai (qaE qag) qax qaf) qaa) qaa (qac qaf qae)) qax qao) qao qae))
   (qap (qaJ (i:=2) sc_law.nd rfl (Or.inl rfl) (qaE (qaL Q__law_due hr rfl (qad (qaX (dvq 1) (PD.q qag) (fun _ _=>rfl)) (qad (qaX (dvq 1) (PD.q qag) (fun _ _=>rfl)) (qad (qaX (dvq 1) (PD.q qag) (fun _ _=>rfl)) (qad (qaX (dvq 1) (PD.q qag) (fun _ _=>rfl)) qau qab) qab) qab) qab) qab (qac qab (qac qab (qac qab qae))))))
   (qap (qaJ (i:=3) sc_law.nd rfl (Or.inl rfl) (qaE (PF.d (qdM qau))))
   (qce (qde (qbu (qaT qkP (dvq 2) (PD.q qag) (qaI _))) (qaz (qaJ (i:=3) sc_law.nd rfl (Or.inl rfl) (qaE (PF.d (qdM (qad (qne (qeY hr.units) (dvq 2) (PD.q qag) (qaI _)) (qad (qne (qeY hr.units) (dvq 2) (PD.q qag) (qaI _)) (qad (qne (qeY hr.units) (dvq 2) (PD.q qag) (qaI _)) (qad qd3 (qad qd3 (qad qd3 (qad qd3 (qad qd3 (qad qd3 qau qaf) qaf) qaf) qaf) qaf) qaf) qdN) qdN) qdN)))))) qbq)
   (qap (qdF PassesOwn.never rfl (qd2 (qcd (qbt (qad qag (qad qag qau qaf) qaf)))) (qbU (i:=4) sc_law.nd rfl (Or.inl rfl)) (qce (qde (qbu (qaT (qq2 hr.units) (PD.q (qaL Q__law_kinds hr rfl (qad (dv 4) (qad (dv 1) qau qaa) qaa) qaa (qac qaa qae))) (dvq 3) (qaI _))) (qaz (qcA (qaE qd3))) qbq)
   (qaz (qde (qbu (PWD.td (qlH (qaT qkP (dvq 2) (PD.q qag) (qaI _)) (qic (qaT qm8 (PD.q (qaL Q__law_at hr rfl (qad (dv 4) (qad (dv 1) qau qaa) qaa) qaa (qac qaa qae))) (PD.q qdv) (qaI _)))))) (qaz (qcA (qaE qd3))) qbq))))
   (qaz (qcA (qaE qd3)))))))),?_⟩
 refine⟨_,rfl,rfl,ns,0,rfl,hz,by decide,fun o hp=>?_⟩
 refine⟨_,rfl,rfl,none,o,0,rfl,hp,by decide,fun ps rs a g o' l1 l2=>?_⟩
 dsimp only [qat,qar,qbc,qbj,qbN,qbz,qbL,List.set]
 refine⟨_,rfl,_,rfl,_,rfl,_,rfl,ps,rs,a,g,rfl,l1,l2,fun nm hb=>?_,fun hc=>?_⟩
 ·obtain⟨hr1,hpos⟩:=qnL hb
  refine⟨fun ρ=>ρ=SW ns ps rs a g (qjs nm) (qcK nm) none,⟨fun _=>?_,fun h=>absurd hpos (of_decide_eq_false h)⟩,?_⟩
  ·rw[SW,← hr1]
   rfl
  rintro ρ rfl
  refine⟨fun i ρ=>∃ u4:Option Sm,ρ=SW ns ps rs a g (qjs nm) (qcK nm) u4,⟨_,rfl⟩,?_,?_⟩
  ·rintro i d ρ hd ⟨u4,rfl⟩
   obtain⟨w,rfl⟩:=qkr hd
   refine⟨fun ρ=>ρ=SW ns ps rs a g (qjs nm) (qcK nm) (some (.v (.int w))),⟨w,ps,rs,a,g,rfl,l1,l2,.inr ⟨nm,hb,?_⟩⟩,?_⟩
   ·refine qqX (d:=.lst (qcK nm)) rfl ?_
    refine qhU (qnp nm) ?_
    exact⟨fun h=>ff h,fun _=>rfl⟩
   rintro ρ rfl
   exact⟨fun _=>⟨w,ps,rs,a,g,nm,rfl,l1,l2,hb,fun h=>(by cases h),fun _=>⟨_,rfl⟩⟩,fun h=>absurd hpos (of_decide_eq_false h)⟩
  rintro ρ ⟨u4,rfl⟩
  exact q
 ·refine⟨fun ρ=>ρ=SW ns ps rs a g 0 [] none,⟨fun h=>ff h,fun _=>rfl⟩,?_⟩
  rintro ρ rfl
  refine⟨fun i ρ=>∃ u4:Option Sm,ρ=SW ns ps rs a g 0 [] u4,⟨_,rfl⟩,?_,?_⟩
  ·rintro i d ρ hd ⟨u4,rfl⟩
   obtain⟨w,rfl⟩:=qkr hd
   refine⟨fun ρ=>ρ=SW ns ps rs a g 0 [] (some (.v (.int w))),⟨w,ps,rs,a,g,rfl,l1,l2,.inl ⟨hc,?_⟩⟩,?_⟩
   ·refine qqX (d:=.lst []) rfl ?_
    refine qhU rfl ?_
    exact⟨fun h=>ff h,fun _=>rfl⟩
   rintro ρ rfl
   exact⟨fun h=>ff h,fun _=>⟨fun h=>ff h,fun _=>⟨_,rfl⟩⟩⟩
  rintro ρ ⟨u4,rfl⟩
  exact q
end
theorem qp5 {A:Type}{p:List A→Prop}(h:∀ a0,p [a0]):∀ us:List A,us.length=1→p us
 | [a0],_=>h a0
theorem qgU {A:Type}{p:List A→Prop}(h:∀ a0 a1,p [a0,a1]):∀ us:List A,us.length=2→p us
 | [a0,a1],_=>h a0 a1
theorem qpz {A:Type}{p:List A→Prop}(h:∀ a0 a1 a2,p [a0,a1,a2]):∀ us:List A,us.length=3→p us
 | [a0,a1,a2],_=>h a0 a1 a2
theorem qkY {A:Type}{p:List A→Prop}(h:∀ a0 a1 a2 a3,p [a0,a1,a2,a3]):∀ us:List A,us.length=4→p us
 | [a0,a1,a2,a3],_=>h a0 a1 a2 a3
theorem all_mk {l:PySem.W.OpenLaw}{w:World}{K:PySem.W.Frag}{h:Heap}{mg:Str→Option Value}{fa:Addr}(X:K.In h)(G:h.Ns mainGlobals mg)(hfa:mg "law"=some (.ref fa))

  (a1:Has K qbn "refuse_more")
  (a2:Has K qa7 "refuse_twice")
  (a3:Has K qa3 "refuse_strange")
  (a4:Has K qbp "walk_length")
  (a5:Has K qb3 "walks_from")
  (a6:Has K qa5 "useful_places")
  (a7:Has K qa8 "roads_within")
  (a8:Has K qcy "shortened")
  (a9:Has K qb9 "ring_parts")
  (a10:Has K qbd "shortest_walks")
  (a11:Has K qba "refuse_roads")
  (a12:Has K qbm "differences")
  (a13:Has K qbT "road_plan")
  (a14:Has K qdj "road")
  (a15:Has K qcm "_law_pool")
  (a16:Has K qco "_law_next")
  (a17:Has K qcb "_law_names")
  (a18:Has K qbK "_law_one_of")
  (a19:Has K qcU "_law_put")
  (a20:Has K qbM "_law_spoilt")
  (a21:Has K qcW "_law_due")
  (a22:Has K qb5 "_law_kinds")
  (a23:Has K qdg "_law_at")
  (a24:Has K qlC "law")
  (y_sum:PySem.W.nsIn K mainGlobals "sum"=some none)
  (y_len:PySem.W.nsIn K mainGlobals "len"=some none)
  (y_enumerate:PySem.W.nsIn K mainGlobals "enumerate"=some none)
  (y_tuple:PySem.W.nsIn K mainGlobals "tuple"=some none)
  (y_dict:PySem.W.nsIn K mainGlobals "dict"=some none)
  (y_range:PySem.W.nsIn K mainGlobals "range"=some none)
  {tk_MOST_UNKNOWNS:Tok} (y_MOST_UNKNOWNS:PySem.W.nsIn K mainGlobals "MOST_UNKNOWNS"=some (some (.int 8 tk_MOST_UNKNOWNS)))
  {tk_MOST_ROWS:Tok} (y_MOST_ROWS:PySem.W.nsIn K mainGlobals "MOST_ROWS"=some (some (.int 12 tk_MOST_ROWS)))
  (y_isinstance:PySem.W.nsIn K mainGlobals "isinstance"=some none)
  (y_ValueError:PySem.W.nsIn K mainGlobals "ValueError"=some none)
  (ex9:qiT K qeS exN=true)
  {EC_TooGreat fi_TooGreat:Addr} {eod_TooGreat ean_TooGreat:Option Addr} {ekV_TooGreat edc_TooGreat epm_TooGreat ecd_TooGreat ect_TooGreat:Value} {esl_TooGreat:Array (Option Value)} (eg_TooGreat:PySem.W.nsIn K mainGlobals "TooGreat"=some (some (.ref EC_TooGreat))) (ef_TooGreat:PySem.W.findIn K (.ref EC_TooGreat) "__init__"=some (some (.ref fi_TooGreat))) (el_TooGreat:K.lookup fi_TooGreat=some ⟨.type "function",eod_TooGreat,.func (PySem.W.fnOf "__init__" "TooGreat.__init__" (qbk qbZ) (qaV qbZ) (qah qbZ) .none ekV_TooGreat edc_TooGreat epm_TooGreat ean_TooGreat ecd_TooGreat ect_TooGreat),esl_TooGreat⟩) (ec_TooGreat:PySem.W.codeIn K ecd_TooGreat "TooGreat.__init__"=true) (ek_TooGreat:PySem.W.keepIn K (.ref fi_TooGreat)=true) (ei_TooGreat:initOf K "TooGreat"=some (some (.ref fi_TooGreat)))
  {EC_Twice fi_Twice:Addr} {eod_Twice ean_Twice:Option Addr} {ekV_Twice edc_Twice epm_Twice ecd_Twice ect_Twice:Value} {esl_Twice:Array (Option Value)} (eg_Twice:PySem.W.nsIn K mainGlobals "Twice"=some (some (.ref EC_Twice))) (ef_Twice:PySem.W.findIn K (.ref EC_Twice) "__init__"=some (some (.ref fi_Twice))) (el_Twice:K.lookup fi_Twice=some ⟨.type "function",eod_Twice,.func (PySem.W.fnOf "__init__" "Twice.__init__" (qbk qdp) (qaV qdp) (qah qdp) .none ekV_Twice edc_Twice epm_Twice ean_Twice ecd_Twice ect_Twice),esl_Twice⟩) (ec_Twice:PySem.W.codeIn K ecd_Twice "Twice.__init__"=true) (ek_Twice:PySem.W.keepIn K (.ref fi_Twice)=true) (ei_Twice:initOf K "Twice"=some (some (.ref fi_Twice)))
  {EC_NoName fi_NoName:Addr} {eod_NoName ean_NoName:Option Addr} {ekV_NoName edc_NoName epm_NoName ecd_NoName ect_NoName:Value} {esl_NoName:Array (Option Value)} (eg_NoName:PySem.W.nsIn K mainGlobals "NoName"=some (some (.ref EC_NoName))) (ef_NoName:PySem.W.findIn K (.ref EC_NoName) "__init__"=some (some (.ref fi_NoName))) (el_NoName:K.lookup fi_NoName=some ⟨.type "function",eod_NoName,.func (PySem.W.fnOf "__init__" "NoName.__init__" (qbk qcG) (qaV qcG) (qah qcG) .none ekV_NoName edc_NoName epm_NoName ean_NoName ecd_NoName ect_NoName),esl_NoName⟩) (ec_NoName:PySem.W.codeIn K ecd_NoName "NoName.__init__"=true) (ek_NoName:PySem.W.keepIn K (.ref fi_NoName)=true) (ei_NoName:initOf K "NoName"=some (some (.ref fi_NoName))) :
  ∃ fd:FuncData,(∀ (s:Shared) (v:Value),BindsTo s fd ⟨[v],[]⟩ [("_law_script",v)])∧∀ base:Heap,K.In base→base.Ns mainGlobals mg→FnOk l.prog w K mg base CX0 7 fa fd ["_law_script"] (sp_law K):=by
 obtain⟨f1,d1,F1,m1,_⟩:=a1.fn X G
 obtain⟨f2,d2,F2,m2,_⟩:=a2.fn X G
 obtain⟨f3,d3,F3,m3,_⟩:=a3.fn X G
 obtain⟨f4,d4,F4,m4,_⟩:=a4.fn X G
 obtain⟨f5,d5,F5,m5,_⟩:=a5.fn X G
 obtain⟨f6,d6,F6,m6,_⟩:=a6.fn X G
 obtain⟨f7,d7,F7,m7,_⟩:=a7.fn X G
 obtain⟨f8,d8,F8,m8,_⟩:=a8.fn X G
 obtain⟨f9,d9,F9,m9,_⟩:=a9.fn X G
 obtain⟨f10,d10,F10,m10,_⟩:=a10.fn X G
 obtain⟨f11,d11,F11,m11,_⟩:=a11.fn X G
 obtain⟨f12,d12,F12,m12,_⟩:=a12.fn X G
 obtain⟨f13,d13,F13,m13,_⟩:=a13.fn X G
 obtain⟨f14,d14,F14,m14,_⟩:=a14.fn X G
 obtain⟨f15,d15,F15,m15,_⟩:=a15.fn X G
 obtain⟨f16,d16,F16,m16,_⟩:=a16.fn X G
 obtain⟨f17,d17,F17,m17,_⟩:=a17.fn X G
 obtain⟨f18,d18,F18,m18,_⟩:=a18.fn X G
 obtain⟨f19,d19,F19,m19,_⟩:=a19.fn X G
 obtain⟨f20,d20,F20,m20,_⟩:=a20.fn X G
 obtain⟨f21,d21,F21,m21,_⟩:=a21.fn X G
 obtain⟨f22,d22,F22,m22,_⟩:=a22.fn X G
 obtain⟨f23,d23,F23,m23,_⟩:=a23.fn X G
 obtain⟨f24,d24,F24,m24,_,_,_,e⟩:=a24.fn X G
 cases hfa.symm.trans m24
 refine⟨d24,fun s v=>by rw[e];exact .of_eq rfl,fun base _ _=>?_⟩
 have qnM:=PySem.W.mg_none_of X G y_sum
 have qaU:=PySem.W.mg_none_of X G y_len
 have qa2:=PySem.W.mg_none_of X G y_enumerate
 have qaM:=PySem.W.mg_none_of X G y_tuple
 have qkO:=PySem.W.mg_none_of X G y_dict
 have qbF:=PySem.W.mg_none_of X G y_range
 have z_MOST_UNKNOWNS:∃ tk,mg "MOST_UNKNOWNS"=some (.int 8 tk):=⟨_,PySem.W.mg_of X G y_MOST_UNKNOWNS⟩
 have z_MOST_ROWS:∃ tk,mg "MOST_ROWS"=some (.int 12 tk):=⟨_,PySem.W.mg_of X G y_MOST_ROWS⟩
 have qaO:=PySem.W.mg_none_of X G y_isinstance
 have qcP:=PySem.W.mg_none_of X G y_ValueError
 have Ex:=qm4 X G ex9
 have Is:=qnG X G ex9
 have e_YardError:=qcs X G ex9 (nm:="YardError") (by decide +kernel)
 have e_NoNumber:=qcs X G ex9 (nm:="NoNumber") (by decide +kernel)
 have e_NoName:=qcs X G ex9 (nm:="NoName") (by decide +kernel)
 have e_Twice:=qcs X G ex9 (nm:="Twice") (by decide +kernel)
 have e_TooGreat:=qcs X G ex9 (nm:="TooGreat") (by decide +kernel)
 have e_NoText:=qcs X G ex9 (nm:="NoText") (by decide +kernel)
 have e_NoRow:=qcs X G ex9 (nm:="NoRow") (by decide +kernel)
 have e_NoChange:=qcs X G ex9 (nm:="NoChange") (by decide +kernel)
 have e_BelowNought:=qcs X G ex9 (nm:="BelowNought") (by decide +kernel)
 have Z_TooGreat:Rz1 l.prog w K mg base "TooGreat":=qhq X G ex9 (by decide +kernel) ei_TooGreat el_TooGreat rfl ec_TooGreat ek_TooGreat qga rfl (Or.inl rfl) (Or.inl rfl) (fun _=>rfl) (fun _ _ _ _ _ _=>qgU fun _ _=>rfl)
 have Z_Twice:Rz1 l.prog w K mg base "Twice":=qhq X G ex9 (by decide +kernel) ei_Twice el_Twice rfl ec_Twice ek_Twice qj2 rfl (Or.inl rfl) (Or.inl rfl) (fun _=>rfl) (fun _ _ _ _ _ _=>qgU fun _ _=>rfl)
 have Z_NoName:Rz1 l.prog w K mg base "NoName":=qhq X G ex9 (by decide +kernel) ei_NoName el_NoName rfl ec_NoName ek_NoName qiw rfl (Or.inl rfl) (Or.inl rfl) (fun _=>rfl) (fun _ _ _ _ _ _=>qgU fun _ _=>rfl)
 have H1:=qe2 (P:=l.prog) (w:=w) (mg:=mg) (base:=base) (n:=2) F1
 have Q1:=F1.cl m1 H1 <| fun _ _ _ _ _ _=>qgU fun _ _=>rfl
 have HX1:=qel (P:=l.prog) (w:=w) (mg:=mg) (base:=base) (n:=0) F1 Z_TooGreat
 have U1:=F1.clX m1 (H1.orX HX1) <| fun _ _ _ _ _ _=>qgU fun _ _=>rfl
 have H2:=qet (P:=l.prog) (w:=w) (mg:=mg) (base:=base) (n:=2) F2
 have Q2:=F2.cl m2 (H2.imp qcN) <| fun _ _ _ _ _ _=>qp5 fun _=>rfl
 have HX2:=qdY (P:=l.prog) (w:=w) (mg:=mg) (base:=base) (n:=0) F2 Z_Twice
 have U2:=F2.clX m2 ((H2.imp qcN).orX HX2) <| fun _ _ _ _ _ _=>qp5 fun _=>rfl
 have H3:=qdH (P:=l.prog) (w:=w) (mg:=mg) (base:=base) (n:=2) F3
 have Q3:=F3.cl m3 H3 <| fun _ _ _ _ _ _=>qgU fun _ _=>rfl
 have HX3:=qdm (P:=l.prog) (w:=w) (mg:=mg) (base:=base) (n:=0) F3 Z_NoName
 have U3:=F3.clX m3 (H3.orX HX3) <| fun _ _ _ _ _ _=>qgU fun _ _=>rfl
 have H4:=qeV (P:=l.prog) (w:=w) (mg:=mg) (base:=base) (n:=0) F4 qnM
 have Q4:=F4.cl m4 H4 <| fun _ _ _ _ _ _=>qgU fun _ _=>rfl
 have H5:=qfQ (P:=l.prog) (w:=w) (mg:=mg) (base:=base) (n:=0) F5 qaU qa2
 have Q5:=F5.cl m5 (H5.imp qcN) <| fun _ _ _ _ _ _=>qgU fun _ _=>rfl
 have H6:=qd1 (n:=1) F6 (Q5.mono (by decide)) qaM
 have Q6:=F6.cl m6 H6 <| fun _ _ _ _ _ _=>qkY fun _ _ _ _=>rfl
 have H7:=qed (P:=l.prog) (w:=w) (mg:=mg) (base:=base) (n:=0) F7 qaM qa2
 have Q7:=F7.cl m7 H7 <| fun _ _ _ _ _ _=>qgU fun _ _=>rfl
 have H8:=qgK (n:=1) F8 (Q4.mono (by decide)) qkO
 have Q8:=F8.cl m8 (H8.imp qcN) <| fun _ _ _ _ _ _=>qpz fun _ _ _=>rfl
 have H9:=qfn (P:=l.prog) (w:=w) (mg:=mg) (base:=base) (n:=0) F9 qa2
 have Q9:=F9.cl m9 (H9.imp qcN) <| fun _ _ _ _ _ _=>qpz fun _ _ _=>rfl
 have H10:=qdC (n:=2) F10 (Q7.mono (by decide)) (Q8.mono (by decide)) (Q9.mono (by decide)) qbF qaU
 have Q10:=F10.cl m10 H10 <| fun _ _ _ _ _ _=>qpz fun _ _ _=>rfl
 have H11:=qeO (P:=l.prog) (w:=w) (mg:=mg) (base:=base) (n:=3) F11 (Q1.mono (by decide)) (Q2.mono (by decide)) (Q3.mono (by decide)) z_MOST_UNKNOWNS z_MOST_ROWS qaU
 have Q11:=F11.cl m11 H11 <| fun _ _ _ _ _ _=>qkY fun _ _ _ _=>rfl
 have HX11:=qd0 (P:=l.prog) (w:=w) (mg:=mg) (base:=base) (n:=3) F11 (U1.mono (by decide)) (U2.mono (by decide)) (U3.mono (by decide)) z_MOST_UNKNOWNS z_MOST_ROWS qaU
 have U11:=F11.clX m11 (H11.orX HX11) <| fun _ _ _ _ _ _=>qkY fun _ _ _ _=>rfl
 have H12:=qeW (P:=l.prog) (w:=w) (mg:=mg) (base:=base) (n:=0) F12 qaM
 have Q12:=F12.cl m12 H12 <| fun _ _ _ _ _ _=>qpz fun _ _ _=>rfl
 have H13:=qf7 (P:=l.prog) (w:=w) (mg:=mg) (base:=base) (n:=4) F13 (Q11.mono (by decide)) (Q6.mono (by decide)) (Q7.mono (by decide)) (Q12.mono (by decide)) qaM qaU
 have Q13:=F13.cl m13 H13 <| fun _ _ _ _ _ _=>qkY fun _ _ _ _=>rfl
 have HX13:=qfA (P:=l.prog) (w:=w) (mg:=mg) (base:=base) (n:=4) F13 (U11.mono (by decide)) (Q6.mono (by decide)) (Q7.mono (by decide)) (Q12.mono (by decide)) qaM qaU
 have U13:=F13.clX m13 (H13.orX HX13) <| fun _ _ _ _ _ _=>qkY fun _ _ _ _=>rfl
 have H14:=qnm (P:=l.prog) (w:=w) (mg:=mg) (base:=base) (n:=4) F14 (Q11.mono (by decide)) (Q5.mono (by decide)) (Q10.mono (by decide)) (Q6.mono (by decide)) (Q4.mono (by decide)) qaM
 have Q14:=F14.cl m14 H14 <| fun _ _ _ _ _ _=>qkY fun _ _ _ _=>rfl
 have HX14:=qlR (P:=l.prog) (w:=w) (mg:=mg) (base:=base) (n:=4) F14 (U11.mono (by decide)) (Q5.mono (by decide)) (Q10.mono (by decide)) (Q6.mono (by decide)) (Q4.mono (by decide)) qaM
 have U14:=F14.clX m14 (H14.orX HX14) <| fun _ _ _ _ _ _=>qkY fun _ _ _ _=>rfl
 have H15:=qf9 (P:=l.prog) (w:=w) (mg:=mg) (base:=base) (n:=0) F15 qaU
 have R15:=F15.clM m15 H15 <| fun _ _ _ _ _ _=>qgU fun _ _=>rfl
 have H16:=qgc (P:=l.prog) (w:=w) (mg:=mg) (base:=base) (n:=0) F16 qaU
 have R16:=F16.clM m16 H16 <| fun _ _ _ _ _ _=>qgU fun _ _=>rfl
 have H17:=qfX (n:=1) F17 (R16.mono (by decide)) qbF
 have R17:=F17.clM m17 H17 <| fun _ _ _ _ _ _=>qgU fun _ _=>rfl
 have H18:=qeX (n:=1) F18 (R16.mono (by decide)) qaU
 have R18:=F18.clM m18 H18 <| fun _ _ _ _ _ _=>qgU fun _ _=>rfl
 have H19:=qgZ (n:=2) F19 (R16.mono (by decide)) (R18.mono (by decide)) qaU
 have R19:=F19.clM m19 H19 <| fun _ _ _ _ _ _=>qkY fun _ _ _ _=>rfl
 have H20:=qe3 (n:=3) F20 (R16.mono (by decide)) (R17.mono (by decide)) (R18.mono (by decide)) (R19.mono (by decide)) qbF qaM
 have R20:=F20.clM m20 H20 <| fun _ _ _ _ _ _=>qp5 fun _=>rfl
 have H21:=qgX (P:=l.prog) (w:=w) (mg:=mg) (base:=base) (n:=0) F21 qbF qaU
 have Q21:=F21.cl m21 H21 <| fun _ _ _ _ _ _=>qkY fun _ _ _ _=>rfl
 have H22:=qfN (P:=l.prog) (w:=w) (mg:=mg) (base:=base) (n:=5) F22 (U13.mono (by decide)) (U14.mono (by decide)) qaO qcP Ex Is e_YardError e_TooGreat e_Twice e_NoName e_NoText e_NoRow e_NoChange e_NoNumber e_BelowNought
 have Q22:=F22.cl m22 (H22.imp qcN) <| fun _ _ _ _ _ _=>qgU fun _ _=>rfl
 have H23:=qiz (P:=l.prog) (w:=w) (mg:=mg) (base:=base) (n:=5) F23 (U13.mono (by decide)) (U14.mono (by decide)) Ex Is e_TooGreat e_Twice e_NoName
 have Q23:=F23.cl m23 (H23.imp qcN) <| fun _ _ _ _ _ _=>qgU fun _ _=>rfl
 have H24:=qoC (n:=6) F24 (R20.mono (by decide)) (Q21.mono (by decide)) (R15.mono (by decide)) (Q22.mono (by decide)) (Q23.mono (by decide))
 exact (H24.imp qcN).imp qk2
theorem walk {l:PySem.W.OpenLaw}{q:Program}{loose:List Str}{XP:(Str→Option Value)→Heap→Prop}{YP:World→Heap→Prop}{d:DefRec}{K:Params→PySem.W.Frag}(hn:l.most=some 63)(hdf:d.params.defaults=[])(him:PyProof.Rows.importsNone q=true)
  (hY:∀ (w:World) (h:Heap),YP w h→(K w.params).In h) (hN:∀ w:World,PySem.W.nsIn (K w.params) mainGlobals "least_grown"=some none∧PySem.W.nsIn (K w.params) mainGlobals "greatest_first"=some none)
  (F:∀ (w:World) (mg:Str→Option Value) (fa:Addr) (h:Heap),(K w.params).In h→h.Ns mainGlobals mg→mg d.name=some (.ref fa) →
   ∃ fd:FuncData,(∀ (s:Shared) (u:Value),BindsTo s fd ⟨[u],[]⟩ [("_law_script",u)])∧∀ base:Heap,(K w.params).In base→base.Ns mainGlobals mg→FnOk l.prog w (K w.params) mg base CX0 7 fa fd ["_law_script"] (sp_law (K w.params))) :
  PySem.W.WalkO q loose XP YP l.row.toRowW d [] (fun f vs=>PySem.call f vs) :=
 L2.walk_of (n:=63) (k:=7) (x:="_law_script") (CX:=fun _=>CX0) (sp:=fun w=>sp_law (K w.params)) hn (by decide) hdf him ⟨rfl,by decide,by decide⟩ hY F (fun w H a ns hl _ hS=>⟨a,ns,rfl,hS,hl,(fun t ht=>by rw[qjh (hN w)] at ht;cases ht),fun _=>rfl⟩) fun _ _ _ _ _ z=>z
end Kx
namespace Kx
open PySem PySem.W L2
def KK:Params→Frag:=fun P =>
 (nat_lit 2,⟨.none,none,(.dict #[] 0),#[]⟩) ::
 (nat_lit 3,⟨(.type "dict"),none,(.dict #[dE P "__name__" 165 ((.str "law_cutyard_k62_roads_refused" 515)),dE P "__doc__" 166 (.none),dE P "__package__" 167 (.none),dE P "__loader__" 168 ((.builtin "__main__.__loader__#opaque")),dE P "__spec__" 169 (.none),dE P "__annotations__" 170 ((.ref 6)),dE P "__builtins__" 171 ((.ref 4)),dE P "__file__" 173 ((.str "/claim/cut.py" 172)),dE P "__cached__" 174 (.none),dE P "YardError" 206 ((.ref 24)),dE P "NoNumber" 222 ((.ref 37)),dE P "NoName" 247 ((.ref 56)),dE P "Twice" 272 ((.ref 75)),dE P "TooGreat" 297 ((.ref 94)),dE P "NoText" 322 ((.ref 113)),dE P "NoRow" 338 ((.ref 125)),dE P "NoChange" 354 ((.ref 137)),dE P "BelowNought" 370 ((.ref 149)),dE P "refuse_more" 380 ((.ref 158)),dE P "refuse_twice" 389 ((.ref 165)),dE P "refuse_strange" 398 ((.ref 172)),dE P "MOST_UNKNOWNS" 400 ((.int 8 399)),dE P "MOST_ROWS" 402 ((.int 12 401)),dE P "walk_length" 410 ((.ref 177)),dE P "walks_from" 423 ((.ref 184)),dE P "useful_places" 429 ((.ref 189)),dE P "roads_within" 435 ((.ref 194)),dE P "shortened" 448 ((.ref 201)),dE P "ring_parts" 461 ((.ref 208)),dE P "shortest_walks" 475 ((.ref 215)),dE P "refuse_roads" 488 ((.ref 222)),dE P "differences" 494 ((.ref 227)),dE P "road_plan" 508 ((.ref 234)),dE P "road" 514 ((.ref 239)),dE P "_law_pool" 525 ((.ref 246)),dE P "_law_next" 536 ((.ref 253)),dE P "_law_names" 551 ((.ref 260)),dE P "_law_one_of" 559 ((.ref 267)),dE P "_law_put" 575 ((.ref 274)),dE P "_law_spoilt" 592 ((.ref 281)),dE P "_law_due" 604 ((.ref 288)),dE P "_law_kinds" 614 ((.ref 295)),dE P "_law_at" 624 ((.ref 302)),dE P "law" 635 ((.ref 309))] 44),#[]⟩) ::
 (nat_lit 15,⟨(.type "tuple"),none,(.seq #[(.type "ValueError")] 0),#[]⟩) ::
 (nat_lit 22,⟨(.type "tuple"),none,(.seq #[] 0),#[]⟩) ::
 (nat_lit 23,⟨(.type "dict"),none,(.dict #[dE P "__module__" 196 ((.str "cutyard.errors" 187)),dE P "__firstlineno__" 200 ((.int 2 199)),dE P "__static_attributes__" 201 ((.ref 22)),dE P "__weakref__" 203 ((.ref 25)),dE P "__doc__" 204 (.none)] 3),#[]⟩) ::
 (nat_lit 24,⟨(.type "type"),none,(.cls ⟨"YardError",[(.type "ValueError")],[(.ref 24),(.type "ValueError"),(.type "Exception"),(.type "BaseException"),(.type "object")],23,"YardError",true,[],[(.ref 37),(.ref 56),(.ref 75),(.ref 94),(.ref 113),(.ref 125),(.ref 137),(.ref 149)],false,none,false⟩),#[(some (.ref 15)),none,(some (.str "YardError" 189)),(some (.str "YardError" 197)),(some (.builtin "ValueError.__new__")),(some (.bool true))]⟩) ::
 (nat_lit 25,⟨(.type "getset_descriptor"),none,(.fields #[(.str "__weakref__" 202),(.ref 24),(.builtin "ExceptionGroup.__weakref__"),.none]),#[]⟩) ::
 (nat_lit 28,⟨(.type "tuple"),none,(.seq #[(.ref 24)] 0),#[]⟩) ::
 (nat_lit 35,⟨(.type "tuple"),none,(.seq #[] 0),#[]⟩) ::
 (nat_lit 36,⟨(.type "dict"),none,(.dict #[dE P "__module__" 214 ((.str "cutyard.errors" 187)),dE P "__firstlineno__" 218 ((.int 4 217)),dE P "__static_attributes__" 219 ((.ref 35)),dE P "__doc__" 220 (.none)] 2),#[]⟩) ::
 (nat_lit 37,⟨(.type "type"),none,(.cls ⟨"NoNumber",[(.ref 24)],[(.ref 37),(.ref 24),(.type "ValueError"),(.type "Exception"),(.type "BaseException"),(.type "object")],36,"NoNumber",true,[],[],false,none,false⟩),#[(some (.ref 28)),none,(some (.str "NoNumber" 207)),(some (.str "NoNumber" 215)),(some (.builtin "ValueError.__new__")),(some (.bool true))]⟩) ::
 (nat_lit 40,⟨(.type "tuple"),none,(.seq #[(.ref 24)] 0),#[]⟩) ::
(nat_lit 52,cO "__init__" 235 "NoName.__init__" 236 237 8 2 3 47 181 48 (.ref 49) (.ref 50) 51 240 241) ::
 (nat_lit 53,fO qcG "__init__" "NoName.__init__" "cutyard.errors" 187 52) ::
 (nat_lit 54,⟨(.type "tuple"),none,(.seq #[(.str "at" 243)] 0),#[]⟩) ::
 (nat_lit 55,⟨(.type "dict"),none,(.dict #[dE P "__module__" 230 ((.str "cutyard.errors" 187)),dE P "__firstlineno__" 234 ((.int 6 233)),dE P "__init__" 242 ((.ref 53)),dE P "__static_attributes__" 244 ((.ref 54)),dE P "__doc__" 245 (.none)] 2),#[]⟩) ::
 (nat_lit 56,⟨(.type "type"),none,(.cls ⟨"NoName",[(.ref 24)],[(.ref 56),(.ref 24),(.type "ValueError"),(.type "Exception"),(.type "BaseException"),(.type "object")],55,"NoName",true,[],[],false,none,false⟩),#[(some (.ref 40)),none,(some (.str "NoName" 223)),(some (.str "NoName" 231)),(some (.builtin "ValueError.__new__")),(some (.bool true))]⟩) ::
 (nat_lit 59,⟨(.type "tuple"),none,(.seq #[(.ref 24)] 0),#[]⟩) ::
(nat_lit 71,cO "__init__" 260 "Twice.__init__" 261 262 12 2 3 66 181 67 (.ref 68) (.ref 69) 70 265 266) ::
 (nat_lit 72,fO qdp "__init__" "Twice.__init__" "cutyard.errors" 187 71) ::
 (nat_lit 73,⟨(.type "tuple"),none,(.seq #[(.str "at" 268)] 0),#[]⟩) ::
 (nat_lit 74,⟨(.type "dict"),none,(.dict #[dE P "__module__" 255 ((.str "cutyard.errors" 187)),dE P "__firstlineno__" 259 ((.int 10 258)),dE P "__init__" 267 ((.ref 72)),dE P "__static_attributes__" 269 ((.ref 73)),dE P "__doc__" 270 (.none)] 2),#[]⟩) ::
 (nat_lit 75,⟨(.type "type"),none,(.cls ⟨"Twice",[(.ref 24)],[(.ref 75),(.ref 24),(.type "ValueError"),(.type "Exception"),(.type "BaseException"),(.type "object")],74,"Twice",true,[],[],false,none,false⟩),#[(some (.ref 59)),none,(some (.str "Twice" 248)),(some (.str "Twice" 256)),(some (.builtin "ValueError.__new__")),(some (.bool true))]⟩) ::
 (nat_lit 78,⟨(.type "tuple"),none,(.seq #[(.ref 24)] 0),#[]⟩) ::
(nat_lit 90,cO "__init__" 285 "TooGreat.__init__" 286 287 16 2 3 85 181 86 (.ref 87) (.ref 88) 89 290 291) ::
 (nat_lit 91,fO qbZ "__init__" "TooGreat.__init__" "cutyard.errors" 187 90) ::
 (nat_lit 92,⟨(.type "tuple"),none,(.seq #[(.str "at" 293)] 0),#[]⟩) ::
 (nat_lit 93,⟨(.type "dict"),none,(.dict #[dE P "__module__" 280 ((.str "cutyard.errors" 187)),dE P "__firstlineno__" 284 ((.int 14 283)),dE P "__init__" 292 ((.ref 91)),dE P "__static_attributes__" 294 ((.ref 92)),dE P "__doc__" 295 (.none)] 2),#[]⟩) ::
 (nat_lit 94,⟨(.type "type"),none,(.cls ⟨"TooGreat",[(.ref 24)],[(.ref 94),(.ref 24),(.type "ValueError"),(.type "Exception"),(.type "BaseException"),(.type "object")],93,"TooGreat",true,[],[],false,none,false⟩),#[(some (.ref 78)),none,(some (.str "TooGreat" 273)),(some (.str "TooGreat" 281)),(some (.builtin "ValueError.__new__")),(some (.bool true))]⟩) ::
 (nat_lit 97,⟨(.type "tuple"),none,(.seq #[(.ref 24)] 0),#[]⟩) ::
(nat_lit 109,cO "__init__" 310 "NoText.__init__" 311 312 20 2 3 104 181 105 (.ref 106) (.ref 107) 108 315 316) ::
 (nat_lit 110,fO qjk "__init__" "NoText.__init__" "cutyard.errors" 187 109) ::
 (nat_lit 111,⟨(.type "tuple"),none,(.seq #[(.str "at" 318)] 0),#[]⟩) ::
 (nat_lit 112,⟨(.type "dict"),none,(.dict #[dE P "__module__" 305 ((.str "cutyard.errors" 187)),dE P "__firstlineno__" 309 ((.int 18 308)),dE P "__init__" 317 ((.ref 110)),dE P "__static_attributes__" 319 ((.ref 111)),dE P "__doc__" 320 (.none)] 2),#[]⟩) ::
 (nat_lit 113,⟨(.type "type"),none,(.cls ⟨"NoText",[(.ref 24)],[(.ref 113),(.ref 24),(.type "ValueError"),(.type "Exception"),(.type "BaseException"),(.type "object")],112,"NoText",true,[],[],false,none,false⟩),#[(some (.ref 97)),none,(some (.str "NoText" 298)),(some (.str "NoText" 306)),(some (.builtin "ValueError.__new__")),(some (.bool true))]⟩) ::
 (nat_lit 116,⟨(.type "tuple"),none,(.seq #[(.ref 24)] 0),#[]⟩) ::
 (nat_lit 123,⟨(.type "tuple"),none,(.seq #[] 0),#[]⟩) ::
 (nat_lit 124,⟨(.type "dict"),none,(.dict #[dE P "__module__" 330 ((.str "cutyard.errors" 187)),dE P "__firstlineno__" 334 ((.int 22 333)),dE P "__static_attributes__" 335 ((.ref 123)),dE P "__doc__" 336 (.none)] 2),#[]⟩) ::
 (nat_lit 125,⟨(.type "type"),none,(.cls ⟨"NoRow",[(.ref 24)],[(.ref 125),(.ref 24),(.type "ValueError"),(.type "Exception"),(.type "BaseException"),(.type "object")],124,"NoRow",true,[],[],false,none,false⟩),#[(some (.ref 116)),none,(some (.str "NoRow" 323)),(some (.str "NoRow" 331)),(some (.builtin "ValueError.__new__")),(some (.bool true))]⟩) ::
 (nat_lit 128,⟨(.type "tuple"),none,(.seq #[(.ref 24)] 0),#[]⟩) ::
 (nat_lit 135,⟨(.type "tuple"),none,(.seq #[] 0),#[]⟩) ::
 (nat_lit 136,⟨(.type "dict"),none,(.dict #[dE P "__module__" 346 ((.str "cutyard.errors" 187)),dE P "__firstlineno__" 350 ((.int 24 349)),dE P "__static_attributes__" 351 ((.ref 135)),dE P "__doc__" 352 (.none)] 2),#[]⟩) ::
 (nat_lit 137,⟨(.type "type"),none,(.cls ⟨"NoChange",[(.ref 24)],[(.ref 137),(.ref 24),(.type "ValueError"),(.type "Exception"),(.type "BaseException"),(.type "object")],136,"NoChange",true,[],[],false,none,false⟩),#[(some (.ref 128)),none,(some (.str "NoChange" 339)),(some (.str "NoChange" 347)),(some (.builtin "ValueError.__new__")),(some (.bool true))]⟩) ::
 (nat_lit 140,⟨(.type "tuple"),none,(.seq #[(.ref 24)] 0),#[]⟩) ::
 (nat_lit 147,⟨(.type "tuple"),none,(.seq #[] 0),#[]⟩) ::
 (nat_lit 148,⟨(.type "dict"),none,(.dict #[dE P "__module__" 362 ((.str "cutyard.errors" 187)),dE P "__firstlineno__" 366 ((.int 26 365)),dE P "__static_attributes__" 367 ((.ref 147)),dE P "__doc__" 368 (.none)] 2),#[]⟩) ::
 (nat_lit 149,⟨(.type "type"),none,(.cls ⟨"BelowNought",[(.ref 24)],[(.ref 149),(.ref 24),(.type "ValueError"),(.type "Exception"),(.type "BaseException"),(.type "object")],148,"BelowNought",true,[],[],false,none,false⟩),#[(some (.ref 140)),none,(some (.str "BelowNought" 355)),(some (.str "BelowNought" 363)),(some (.builtin "ValueError.__new__")),(some (.bool true))]⟩) ::
(nat_lit 157,cO "refuse_more" 373 "refuse_more" 374 375 29 2 3 152 181 153 (.ref 154) (.ref 155) 156 378 379) ::
 (nat_lit 158,fO qbn "refuse_more" "refuse_more" "cutyard.doors" 371 157) ::
(nat_lit 164,cO "refuse_twice" 381 "refuse_twice" 382 383 32 1 3 159 181 160 (.ref 161) (.ref 162) 163 387 388) ::
 (nat_lit 165,fO qa7 "refuse_twice" "refuse_twice" "cutyard.doors" 371 164) ::
(nat_lit 171,cO "refuse_strange" 390 "refuse_strange" 391 392 38 2 3 166 181 167 (.ref 168) (.ref 169) 170 396 397) ::
 (nat_lit 172,fO qa3 "refuse_strange" "refuse_strange" "cutyard.doors" 371 171) ::
(nat_lit 176,cO "walk_length" 405 "walk_length" 406 407 45 2 3 173 181 174 .none .none 175 408 409) ::
 (nat_lit 177,fO qbp "walk_length" "walk_length" "cutyard.walks" 403 176) ::
(nat_lit 183,cO "walks_from" 411 "walks_from" 412 413 47 2 3 178 181 179 (.ref 180) (.ref 181) 182 421 422) ::
 (nat_lit 184,fO qb3 "walks_from" "walks_from" "cutyard.walks" 403 183) ::
(nat_lit 188,cO "useful_places" 424 "useful_places" 425 426 57 4 3 185 181 186 .none .none 187 427 428) ::
 (nat_lit 189,fO qa5 "useful_places" "useful_places" "cutyard.walks" 403 188) ::
(nat_lit 193,cO "roads_within" 430 "roads_within" 431 432 60 2 3 190 181 191 .none .none 192 433 434) ::
 (nat_lit 194,fO qa8 "roads_within" "roads_within" "cutyard.walks" 403 193) ::
(nat_lit 200,cO "shortened" 436 "shortened" 437 438 62 3 3 195 181 196 (.ref 197) (.ref 198) 199 446 447) ::
 (nat_lit 201,fO qcy "shortened" "shortened" "cutyard.walks" 403 200) ::
(nat_lit 207,cO "ring_parts" 449 "ring_parts" 450 451 71 3 3 202 181 203 (.ref 204) (.ref 205) 206 459 460) ::
 (nat_lit 208,fO qb9 "ring_parts" "ring_parts" "cutyard.walks" 403 207) ::
(nat_lit 214,cO "shortest_walks" 462 "shortest_walks" 463 464 79 3 3 209 181 210 (.ref 211) (.ref 212) 213 473 474) ::
 (nat_lit 215,fO qbd "shortest_walks" "shortest_walks" "cutyard.walks" 403 214) ::
(nat_lit 221,cO "refuse_roads" 478 "refuse_roads" 479 480 90 4 3 216 181 217 (.ref 218) (.ref 219) 220 486 487) ::
 (nat_lit 222,fO qba "refuse_roads" "refuse_roads" "cutyard.roads" 476 221) ::
(nat_lit 226,cO "differences" 489 "differences" 490 491 97 3 3 223 181 224 .none .none 225 492 493) ::
 (nat_lit 227,fO qbm "differences" "differences" "cutyard.roads" 476 226) ::
(nat_lit 233,cO "road_plan" 495 "road_plan" 496 497 99 4 3 228 181 229 (.ref 230) (.ref 231) 232 506 507) ::
 (nat_lit 234,fO qbT "road_plan" "road_plan" "cutyard.roads" 476 233) ::
(nat_lit 238,cO "road" 509 "road" 510 511 107 4 3 235 181 236 .none .none 237 512 513) ::
 (nat_lit 239,fO qdj "road" "road" "cutyard.roads" 476 238) ::
(nat_lit 245,cO "_law_pool" 517 "_law_pool" 518 519 120 2 3 240 181 241 (.ref 242) (.ref 243) 244 523 524) ::
 (nat_lit 246,fO qcm "_law_pool" "_law_pool" "law_cutyard_k62_roads_refused" 515 245) ::
(nat_lit 252,cO "_law_next" 526 "_law_next" 527 528 125 2 3 247 181 248 (.ref 249) (.ref 250) 251 534 535) ::
 (nat_lit 253,fO qco "_law_next" "_law_next" "law_cutyard_k62_roads_refused" 515 252) ::
(nat_lit 259,cO "_law_names" 537 "_law_names" 538 539 137 2 3 254 181 255 (.ref 256) (.ref 257) 258 549 550) ::
 (nat_lit 260,fO qcb "_law_names" "_law_names" "law_cutyard_k62_roads_refused" 515 259) ::
(nat_lit 266,cO "_law_one_of" 552 "_law_one_of" 553 554 155 2 3 261 181 262 (.ref 263) (.ref 264) 265 557 558) ::
 (nat_lit 267,fO qbK "_law_one_of" "_law_one_of" "law_cutyard_k62_roads_refused" 515 266) ::
(nat_lit 273,cO "_law_put" 560 "_law_put" 561 562 157 4 3 268 181 269 (.ref 270) (.ref 271) 272 573 574) ::
 (nat_lit 274,fO qcU "_law_put" "_law_put" "law_cutyard_k62_roads_refused" 515 273) ::
(nat_lit 280,cO "_law_spoilt" 576 "_law_spoilt" 577 578 177 1 3 275 181 276 (.ref 277) (.ref 278) 279 590 591) ::
 (nat_lit 281,fO qbM "_law_spoilt" "_law_spoilt" "law_cutyard_k62_roads_refused" 515 280) ::
(nat_lit 287,cO "_law_due" 593 "_law_due" 594 595 193 4 3 282 181 283 (.ref 284) (.ref 285) 286 602 603) ::
 (nat_lit 288,fO qcW "_law_due" "_law_due" "law_cutyard_k62_roads_refused" 515 287) ::
(nat_lit 294,cO "_law_kinds" 605 "_law_kinds" 606 607 205 2 3 289 181 290 (.ref 291) (.ref 292) 293 612 613) ::
 (nat_lit 295,fO qb5 "_law_kinds" "_law_kinds" "law_cutyard_k62_roads_refused" 515 294) ::
(nat_lit 301,cO "_law_at" 615 "_law_at" 616 617 217 2 3 296 181 297 (.ref 298) (.ref 299) 300 622 623) ::
 (nat_lit 302,fO qdg "_law_at" "_law_at" "law_cutyard_k62_roads_refused" 515 301) ::
(nat_lit 308,cO "law" 625 "law" 626 627 231 1 3 303 181 304 (.ref 305) (.ref 306) 307 633 634) ::
 (nat_lit 309,fO qlC "law" "law" "law_cutyard_k62_roads_refused" 515 308)::[]
end Kx
def PySem.W.Fast.tw892871096420484615:=PySem.Challenge.pw_cutyard_k62_roads_refused
theorem PySem.W.Fast.te892871096420484615:PySem.Challenge.pw_cutyard_k62_roads_refused=PySem.W.Fast.tw892871096420484615:=rfl
def PySem.W.Fast.tw5385739360559341639:=Kx.KK
theorem PySem.W.Fast.te5385739360559341639:Kx.KK=PySem.W.Fast.tw5385739360559341639:=rfl
theorem PySem.W.Fast.tw11092150965478282592:True:=trivial
theorem PySem.W.Fast.tw11620686968840855874:True:=trivial
theorem PySem.W.Fast.tw12247211334086551943:True:=trivial
theorem PySem.W.Fast.tw12929349992565624579:True:=trivial
theorem PySem.W.Fast.tw13103348506199783388:True:=trivial
theorem PySem.W.Fast.tw13709606086143307924:True:=trivial
theorem PySem.W.Fast.tw14084610722902128144:True:=trivial
theorem PySem.W.Fast.tw15079955451314262994:True:=trivial
theorem PySem.W.Fast.tw15163070478789626351:True:=trivial
theorem PySem.W.Fast.tw16298436211946669114:True:=trivial
theorem PySem.W.Fast.tw16348882008603927635:True:=trivial
theorem PySem.W.Fast.tw16783016431055940324:True:=trivial
theorem PySem.W.Fast.tw17848877207737748623:True:=trivial
theorem PySem.W.Fast.tw28012432113439367:True:=trivial
theorem PySem.W.Fast.tw4734781813569574685:True:=trivial
theorem PySem.W.Fast.tw4878442753187399884:True:=trivial
theorem PySem.W.Fast.tw4975677743750341271:True:=trivial
theorem PySem.W.Fast.tw7763930073668095208:True:=trivial
theorem PySem.W.Fast.tw7945484907571862641:True:=trivial
theorem PySem.W.Fast.tw8253159111339703132:True:=trivial
theorem PySem.W.Fast.tw8412316780314555501:True:=trivial
theorem PySem.W.Fast.tw8478545925664908572:True:=trivial
theorem PySem.W.Fast.tw8957919287725829947:True:=trivial
theorem PySem.W.Fast.tw9066156979700595518:True:=trivial
open PySem PySem.W PyProof.Rows
set_option maxRecDepth 100000 in
set_option maxHeartbeats 0 in
theorem PySem.Challenge.cw_cutyard_k62_roads_refused_holds : PySem.Challenge.rw_cutyard_k62_roads_refused.Holds := by
 w_on;o_law;o_head (kHook Kx.KK (2::3::15::22::23::24::25::28::35::36::37::40::52::53::54::55::56::59::71::72::73::74::75::78::90::91::92::93::94::97::109::110::111::112::113::116::123::124::125::128::135::136::137::140::147::148::149::157::158::164::165::171::172::176::177::183::184::188::189::193::194::200::201::207::208::214::215::221::222::226::227::233::234::238::239::245::246::252::253::259::260::266::267::273::274::280::281::287::288::294::295::301::302::308::309::[]) (fun _=>by kernel_rfl));(case hw=>w_witness2)
 k_fill
 refine Kx.walk (l:=PySem.Challenge.rw_cutyard_k62_roads_refused) rfl rfl (by decide +kernel) (fun w h Y=>PySem.W.kIn_of Y) (fun w=>⟨?N1,?N2⟩) ?F
 (case N1=>k_is);(case N2=>k_is)
 case F =>
  intro w mg fa h KX G hmg
  refine' Kx.all_mk KX G hmg ?a1 ?a2 ?a3 ?a4 ?a5 ?a6 ?a7 ?a8 ?a9 ?a10 ?a11 ?a12 ?a13 ?a14 ?a15 ?a16 ?a17 ?a18 ?a19 ?a20 ?a21 ?a22 ?a23 ?a24 ?y_sum ?y_len ?y_enumerate ?y_tuple ?y_dict ?y_range ?y_MOST_UNKNOWNS ?y_MOST_ROWS ?y_isinstance ?y_ValueError ?ex9 ?eg_TooGreat ?ef_TooGreat ?el_TooGreat ?ec_TooGreat ?ek_TooGreat ?ei_TooGreat ?eg_Twice ?ef_Twice ?el_Twice ?ec_Twice ?ek_Twice ?ei_Twice ?eg_NoName ?ef_NoName ?el_NoName ?ec_NoName ?ek_NoName ?ei_NoName
  (case y_sum=>k_is)
  (case y_len=>k_is)
  (case y_enumerate=>k_is)
  (case y_tuple=>k_is)
  (case y_dict=>k_is)
  (case y_range=>k_is)
  (case y_MOST_UNKNOWNS=>k_is)
  (case y_MOST_ROWS=>k_is)
  (case y_isinstance=>k_is)
  (case y_ValueError=>k_is)
  (case eg_TooGreat=>k_is);(case ef_TooGreat=>k_is);(case el_TooGreat=>k_is);(case ec_TooGreat=>k_is);(case ek_TooGreat=>k_is);(case ei_TooGreat=>kernel_rfl)
  (case eg_Twice=>k_is);(case ef_Twice=>k_is);(case el_Twice=>k_is);(case ec_Twice=>k_is);(case ek_Twice=>k_is);(case ei_Twice=>kernel_rfl)
  (case eg_NoName=>k_is);(case ef_NoName=>k_is);(case el_NoName=>k_is);(case ec_NoName=>k_is);(case ek_NoName=>k_is);(case ei_NoName=>kernel_rfl)
  (case ex9=>kernel_rfl)
  all_goals (refine' L2.Has.of ?a ?l ?c;(case a=>k_is);(case l=>k_is);(case c=>k_is))

