import PyProof.Rows.All
import Wide.All
import OpenK.AllK
import Wide.FinOn
import Lean
import PyProof.EqAt
import PyProof.EqKinds
import PyProof.TupleCall
import PyProof.NeKinds
import KE.KLam
import KE.KMinKey
import KE.KSortTup
import PyProof.AutoListH
import PyProof.MeetsStr
import PyProof.StrLawsJoin
import PyProof.FitsReplace
import PyProof.Rows.TupDisplay
import PyProof.ListRange
import PySem.Challenge.RW_cutyard_k21_endings_true
open PySem.W (instObj methodObj Frag lookIn InstAt plainGet hasDictIn findIn handedIn plainOver takerIn makesIn typeIn emptyDict mroIn keepIn callWith_K isFn cellsFrom_some fnOf codeIn kIn_of mg_of nsIn envX kla_obj kla_fn tabObj codeHdIn mg_none_of km_in_of)
set_option Elab.async false
set_option linter.all false
set_option maxRecDepth 100000
namespace L2
open PySem PySem.Spec PyProof.Rows
abbrev cM:=Sum Int Str
def o7:cM→Value→Bool
 | .inl k,v=>Value.isInt k v
 | .inr x,v=>Value.isStrOf x v
def Bu (w:World):cM→Int
 | .inl k=>hashInt k
 | .inr x=>hashStr w x
theorem fG:∀ {k:cM} {v:Value},o7 k v=true→(∃ i t,k=Sum.inl i∧v=Value.int i t)∨(∃ x t,k=Sum.inr x∧v=Value.str x t)
 | .inl i,v,h=>by
  obtain⟨t,e⟩:=Value.isInt_shape (k:=i) (v:=v) h
  exact .inl ⟨i,t,rfl,e⟩
 | .inr x,v,h=>by
  obtain⟨t,e⟩:=Value.isStrOf_shape (x:=x) (v:=v) h
  exact .inr ⟨x,t,rfl,e⟩
theorem AG (a b:Int):decide ((Sum.inl a:cM)=Sum.inl b)=(a == b):=by
 by_cases e:a=b
 ·subst e;simp
 ·have h:¬ (Sum.inl a:cM)=Sum.inl b:=fun q=>e (Sum.inl.inj q)
  rw[decide_eq_false h]
  exact (beq_eq_false_iff_ne.mpr e).symm
theorem xO (a b:Str):decide ((Sum.inr a:cM)=Sum.inr b)=decide (a=b):=by
 by_cases e:a=b
 ·subst e;simp
 ·have h:¬ (Sum.inr a:cM)=Sum.inr b:=fun q=>e (Sum.inr.inj q)
  rw[decide_eq_false h,decide_eq_false e]
theorem Cg (a:Int)(b:Str):decide ((Sum.inl a:cM)=Sum.inr b)=false:=decide_eq_false (fun q=>nomatch q)
theorem zv (a:Str)(b:Int):decide ((Sum.inr a:cM)=Sum.inl b)=false:=decide_eq_false (fun q=>nomatch q)
def md (prog:Program)(w:World):PySem.KeyKind prog w cM where
 is:=o7
 hash:=Bu w
 inj:=fun v a b ha hb=>by
  rcases fG ha with⟨i,t,rfl,rfl⟩ | ⟨x,t,rfl,rfl⟩
  ·rcases fG hb with⟨j,u,rfl,e⟩ | ⟨y,u,rfl,e⟩
   ·injection e with e1 _;rw[e1]
   ·exact nomatch e
  ·rcases fG hb with⟨j,u,rfl,e⟩ | ⟨y,u,rfl,e⟩
   ·exact nomatch e
   ·injection e with e1 _;rw[e1]
 byValue:=fun k v h=>by
  rcases fG h with⟨i,t,rfl,rfl⟩ | ⟨x,t,rfl,rfl⟩ <;> rfl
 pyHash:=fun hv h=>by
  rcases fG hv with⟨i,t,rfl,rfl⟩ | ⟨x,t,rfl,rfl⟩
  ·exact wpAny_pyHash_int h
  ·exact wpAny_pyHash_str h
 eqBool:=fun hu hv h=>by
  rcases fG hu with⟨i,t,rfl,rfl⟩ | ⟨x,t,rfl,rfl⟩
  ·rcases fG hv with⟨j,u,rfl,rfl⟩ | ⟨y,u,rfl,rfl⟩
   ·rw[AG] at h;exact wpAny_eqBool_int h
   ·rw[Cg] at h;exact SeqAt.EqAt.int_str i t y u _ _ _ _ h
  ·rcases fG hv with⟨j,u,rfl,rfl⟩ | ⟨y,u,rfl,rfl⟩
   ·rw[zv] at h;exact SeqAt.EqAt.str_int x t j u _ _ _ _ h
   ·rw[xO] at h;exact wpAny_eqBool_str h
 «strs»:=fun k x t v h=>by
  rcases fG h with⟨i,u,rfl,e⟩ | ⟨y,u,rfl,e⟩
  ·exact nomatch e
  ·injection e with e1 _
   subst e1
   cases v <;> rfl
inductive V where
 | non | bl (b:Bool) | int (i:Int) | str (x:Str) | byt (b:Array UInt8) | flt (b:UInt64) | ref (a:Addr) | ty (n:String)
 deriving DecidableEq
def RelV:V→Value→Prop
 | .non,u=>u=Value.none
 | .bl b,u=>u=Value.bool b
 | .int i,u=>∃ t,u=Value.int i t
 | .str x,u=>∃ t,u=Value.str x t
 | .byt b,u=>∃ t,u=Value.bytes b t
 | .flt b,u=>∃ t,u=Value.float b t
 | .ref a,u=>u=Value.ref a
 | .ty n,u=>u=Value.type n
abbrev Vals:List V→List Value→Prop:=Paired RelV
theorem Vals.length {xs:List V}{us:List Value}(r:Vals xs us):xs.length=us.length:=Paired.length r
theorem Vals.get:∀ {xs:List V} {us:List Value} {i:Nat} {x:V},Vals xs us→xs[i]?=some x→∃ u,us[i]?=some u∧RelV x u
 | _,_,_,_,.nil,e=>by simp at e
 | _,_,0,_,.cons r _,e=>by simp at e;subst e;exact⟨_,rfl,r⟩
 | _,_,i+1,x,.cons _ t,e=>by
  obtain⟨u,h1,h2⟩:=Vals.get (i:=i) (x:=x) t (by simpa using e)
  exact⟨u,by simpa using h1,h2⟩
theorem Vals.append:∀ {xs ys:List V} {us ws:List Value},Vals xs us→Vals ys ws→Vals (xs++ys) (us++ws)
 | _,_,_,_,.nil,s=>s
 | _,_,_,_,.cons r t,s=>.cons r (Vals.append t s)
theorem Vals.take:∀ {xs:List V} {us:List Value} (n:Nat),Vals xs us→Vals (xs.take n) (us.take n)
 | _,_,0,_=>.nil
 | _,_,_+1,.nil=>.nil
 | _,_,n+1,.cons r t=>.cons r (Vals.take n t)
theorem Vals.drop:∀ {xs:List V} {us:List Value} (n:Nat),Vals xs us→Vals (xs.drop n) (us.drop n)
 | _,_,0,r=>r
 | _,_,_+1,.nil=>.nil
 | _,_,n+1,.cons _ t=>Vals.drop n t
theorem Vals.none_of:∀ {xs:List V} {us:List Value} {i:Nat},Vals xs us→xs[i]?=none→us[i]?=none:=fun {xs us i} r e=>by
 have h1:=r.length
 have h2:xs.length≤i:=List.getElem?_eq_none_iff.mp e
 exact List.getElem?_eq_none_iff.mpr (by omega)
def RelO:Option V→Option Value→Prop
 | some v,some u=>RelV v u
 | none,none=>True
 | _,_=>False
def KV {κ:Type}:List (κ × V)→List (κ × Value)→Prop:=Paired fun (p:κ × V) (q:κ × Value)=>p.1=q.1∧RelV p.2 q.2
def kV:cM→V
 | .inl i=>.int i
 | .inr x=>.str x
inductive HO where
  | lst (xs:List V)
  | tup (xs:List V)
  | dK (kvs:List (cM × V)) | dT (kvs:List (List cM × V))
  | set (S:Int→Bool) (n:Nat)
  | ins (C dx:Addr) (fs:List (Str × V))
  | own (x:Addr)
  | xd (fs:List (Str × V))
  | met (f x:Addr)
  | rng (lo hi:Int)
  | frz (o:Obj) (u:HO)
  | tbl (ps:Array Value)
  | ext (φ:Heap→Prop)
abbrev Hp:=Addr→Option HO
def aJ (H:Hp)(a:Addr)(o:HO):Hp:=fun b=>if b=a then some o else H b
theorem bw {H:Hp}{a:Addr}{o:HO}:aJ H a o a=some o:=by unfold aJ;rw[if_pos rfl]
theorem ba {H:Hp}{a b:Addr}{o:HO}(h:b≠a):aJ H a o b=H b:=by unfold aJ;rw[if_neg h]
theorem cx {H:Hp}{a b:Addr}{o:HO}(h:H a=some o)(h':H b=none):a≠b:=by
 intro e;subst e;rw[h] at h';cases h'
section
variable (P:Program)(w:World)
def ObjOk (H:Hp)(h:Heap)(a:Addr):HO→Prop
 | .lst xs=>xs.length≤sizeLine∧∃ (its:List Value) (n:Nat),Vals xs its∧h.get? a=some { cls:=.type "list",data:=.seq its.toArray n }
 | .tup xs=>xs.length≤sizeLine∧∃ its:List Value,Vals xs its∧IsTup h a its.toArray
 | .dK kvs=>kvs.length≤sizeLine∧(a == sysModules)=false∧∃ vs,KV kvs vs∧h.DictOf (md P w) a vs
 | .dT kvs=>kvs.length≤sizeLine∧(a == sysModules)=false∧∃ xs:List (List cM × Addr × Value),
   Paired (fun (p:List cM × V) (q:List cM × Addr × Value)=>p.1=q.1∧H q.2.1=some (.tup (p.1.map kV))∧RelV p.2 q.2.2) kvs xs ∧
   ∃ o es ep,h.get? a=some o∧o.ExactDict∧o.data=.dict es ep∧es.toList=xs.map (entryOfKey (tupleKind (md P w)))∧(xs.map (·.1)).Nodup
 | .set S n=>h.SetOf (intKind P w) a S n
 | .ins C dx fs=>H dx=some (.own a)∧fs.length≤1000∧dx≠a∧h.get? a=some (instObj C dx) ∧
   ∃ mA,h.Ns1 dx mA∧(∀ f,RelO (fs.lookup f) (mA f))∧PySem.Within mA (fs.map (·.1))
 | .own _=>∃ o,h.get? a=some o
 | .xd fs=>∃ mA,h.Ns1 a mA∧∀ f,RelO (fs.lookup f) (mA f)
 | .rng lo hi=>∃ t u v,h.get? a=some { cls:=.type "range",data:=.fields #[.int lo t,.int hi u,.int 1 v] }
 | .frz o u=>h.get? a=some o∧ObjOk H h a u
 | .tbl ps=>h.get? a=some { cls:=.none,data:=.fields #[] }∨∃ (c:Addr) (o:Obj) (vs:Array Value) (x y:Value) (q:Str) (t t':Tok),ps=#[x,y,.str q t]∧H c=some (.frz o (.own a)) ∧
   h.get? a=some { cls:=.none,data:=.fields #[x,y,.ref c] }∧o.data=.fields vs∧vs[1]?=some (.str q t')
 | .met f x=>h.get? a=some (methodObj (.ref f) (.ref x))
 | .ext φ=>φ h∧(∃ o,h.get? a=some o)∧∀ h1 h2:Heap,φ h1→(∀ o,h1.get? a=some o→h2.get? a=some o)→φ h2
def HOk (H:Hp)(h:Heap):Prop:=∀ a o,H a=some o→ObjOk P w H h a o
end
section
variable {P:Program}{w:World}{H H':Hp}{h h':Heap}{a:Addr}{o:HO}
theorem ObjOk.lt (x:ObjOk P w H h a o):a<h.objs.size:=by
 cases o with
 | lst xs=>obtain⟨_,_,_,_,e⟩:=x;exact Heap.lt_size e
 | tup xs=>obtain⟨_,_,_,p⟩:=x;exact p.lt
 | dK kvs=>obtain⟨_,_,_,_,o,_,_,e,_⟩:=x;exact Heap.lt_size e
 | dT kvs=>obtain⟨_,_,_,_,o,_,_,e,_⟩:=x;exact Heap.lt_size e
 | set S n=>obtain⟨o,_,_,_,e,_⟩:=x;exact Heap.lt_size e
 | ins C dx fs=>obtain⟨_,_,_,e,_⟩:=x;exact Heap.lt_size e
 | own y=>obtain⟨_,e⟩:=x;exact Heap.lt_size e
 | xd fs=>obtain⟨_,⟨_,_,_,e,_⟩,_⟩:=x;exact Heap.lt_size e
 | rng lo hi=>obtain⟨_,_,_,e⟩:=x;exact Heap.lt_size e
 | frz ob u=>obtain⟨e,_⟩:=x;exact Heap.lt_size e
 | tbl ps=>rcases x with x | ⟨_,_,_,_,_,_,_,_,_,_,x,_⟩ <;> exact Heap.lt_size x
 | met f y=>exact Heap.lt_size (show h.get? a=some _ from x)
 | ext φ=>obtain⟨_,⟨_,e⟩,_⟩:=x;exact Heap.lt_size e
theorem Paired.mapP {α β:Type}{F G:α→β→Prop}:∀ {l₁:List α} {l₂:List β},Paired F l₁ l₂→(∀ a b,F a b→G a b)→Paired G l₁ l₂
 | _,_,.nil,_=>.nil
 | _,_,.cons r t,f=>.cons (f _ _ r) (Paired.mapP t f)
theorem ObjOk.stay (x:ObjOk P w H h a o)(k:∀ b u,(b=a∨H b=some (.own a))→h.get? b=some u→h'.get? b=some u)
  (ho:∀ b,H b=some (.own a)→H' b=some (.own a)) (ht:∀ b xs,H b=some (.tup xs)→H' b=some (.tup xs)) (hf:∀ b o u,H b=some (.frz o u)→H' b=some (.frz o u)):ObjOk P w H' h' a o:=by
 induction o with
 | lst xs=>obtain⟨z,its,n,r,e⟩:=x;exact⟨z,its,n,r,k _ _ (.inl rfl) e⟩
 | tup xs=>obtain⟨z,its,r,ob,e,c⟩:=x;exact⟨z,its,r,ob,k _ _ (.inl rfl) e,c⟩
 | dK kvs=>obtain⟨z,y,vs,r,ob,es,ep,e,c⟩:=x;exact⟨z,y,vs,r,ob,es,ep,k _ _ (.inl rfl) e,c⟩
 | dT kvs =>
  obtain⟨z,y,xs,r,ob,es,ep,e,c⟩:=x
  exact⟨z,y,xs,Paired.mapP r fun p q z=>⟨z.1,ht _ _ z.2.1,z.2.2⟩,ob,es,ep,k _ _ (.inl rfl) e,c⟩
 | set S n=>obtain⟨ob,es,ep,t,e,c⟩:=x;exact⟨ob,es,ep,t,k _ _ (.inl rfl) e,c⟩
 | ins C dx fs =>
  obtain⟨d,z,ne,e,mA,⟨od,es,ep,e2,c⟩,r⟩:=x
  exact⟨ho _ d,z,ne,k _ _ (.inl rfl) e,mA,⟨od,es,ep,k _ _ (.inr d) e2,c⟩,r⟩
 | own y=>obtain⟨ob,e⟩:=x;exact⟨ob,k _ _ (.inl rfl) e⟩
 | xd fs=>obtain⟨mA,⟨od,es,ep,e,c⟩,r⟩:=x;exact⟨mA,⟨od,es,ep,k _ _ (.inl rfl) e,c⟩,r⟩
 | rng lo hi=>obtain⟨t,u,v,e⟩:=x;exact⟨t,u,v,k _ _ (.inl rfl) e⟩
 | frz ob u ih=>obtain⟨e,q⟩:=x;exact⟨k _ _ (.inl rfl) e,ih q⟩
 | tbl ps =>
  rcases x with x | ⟨c,o,vs,y,z,q,t,t',e1,e2,e3,e4⟩
  ·exact .inl (k a _ (.inl rfl) x)
  ·exact .inr ⟨c,o,vs,y,z,q,t,t',e1,hf _ _ _ e2,k a _ (.inl rfl) e3,e4⟩
 | met f y =>
  have e:h.get? a=some (methodObj (.ref f) (.ref y)):=x
  show h'.get? a=some (methodObj (.ref f) (.ref y))
  exact k a _ (.inl rfl) e
 | ext φ=>obtain⟨p,⟨o,e⟩,st⟩:=x;exact⟨st _ _ p fun o q=>k _ _ (.inl rfl) q,⟨o,k _ _ (.inl rfl) e⟩,st⟩
theorem HOk.lt (x:HOk P w H h)(e:H a=some o):a<h.objs.size:=(x a o e).lt
theorem HOk.fresh (x:HOk P w H h)(e:h.objs.size≤a):H a=none:=by
 cases q:H a with
 | none=>rfl
 | some u=>exact absurd (Nat.lt_of_lt_of_le (x.lt q) e) (Nat.lt_irrefl _)
theorem HOk.kept (x:HOk P w H h)(k:∀ b u,h.get? b=some u→h'.get? b=some u):HOk P w H h':=fun a o e =>
 (x a o e).stay (fun b u _ q=>k b u q) (fun _ q=>q) (fun _ _ q=>q) fun _ _ _ q=>q
theorem HOk.laid (x:HOk P w H h)(k:∀ b u,h.get? b=some u→h'.get? b=some u)(hp:h.objs.size≤a)(new:ObjOk P w (aJ H a o) h' a o):HOk P w (aJ H a o) h':=fun b u e=>by
 have hn:=x.fresh hp
 by_cases hb:b=a
 ·subst hb;rw[bw] at e;cases e;exact new
 ·rw[ba hb] at e
  exact (x b u e).stay (fun c v _ q=>k c v q) (fun c q=>by rw[ba (cx q hn)];exact q) (fun c xs q=>by rw[ba (cx q hn)];exact q) fun c ob w' q=>by rw[ba (cx q hn)];exact q
end
def Rd (H:Hp)(a:Addr)(u:HO):Prop:=H a=some u∨∃ o,H a=some (.frz o u)
theorem Rd.ok {P:Program}{w:World}{H:Hp}{h:Heap}{a:Addr}{u:HO}(r:Rd H a u)(x:HOk P w H h):ObjOk P w H h a u:=by
 rcases r with r | ⟨o,r⟩
 ·exact x a u r
 ·obtain⟨_,q⟩:=x a _ r
  exact q
def kG:Option HO→Prop
 | some (.lst _)=>True
 | some (.dK _)=>True
 | some (.dT _)=>True
 | some (.set _ _)=>True
 | some (.ins _ _ _)=>True
 | some (.ext _)=>True
 | _=>False
section
variable {P:Program}{w:World}{H:Hp}{h h':Heap}{x e:Addr}{o':HO}
theorem HOk.write (ok:HOk P w H h)(mu:kG (H x))(he:e=x∨H e=some (.own x))(k:∀ b u,b≠e→h.get? b=some u→h'.get? b=some u)(heo:∃ u,h'.get? e=some u)
  (new:ObjOk P w (aJ H x o') h' x o'):HOk P w (aJ H x o') h':=fun b u q=>by
 have nown:∀ c y,H c=some (.own y)→c≠x:=fun c y r z=>by subst z;rw[r] at mu;exact mu
 have ntup:∀ c xs,H c=some (.tup xs)→c≠x:=fun c xs r z=>by subst z;rw[r] at mu;exact mu
 have nfrz:∀ c ob w',H c=some (.frz ob w')→c≠x:=fun c ob w' r z=>by subst z;rw[r] at mu;exact mu
 by_cases hb:b=x
 ·subst hb;rw[bw] at q;cases q;exact new
 ·rw[ba hb] at q
  by_cases hbe:b=e
  ·have q':H b=some (.own x):=by
    rcases he with z | z
    ·exact absurd (hbe.trans z) hb
    ·rw[hbe];exact z
   rw[q] at q';cases q'
   obtain⟨v,hv⟩:=heo
   exact⟨v,by rw[hbe];exact hv⟩
  ·refine (ok b u q).stay (fun c v hc r=>k c v ?_ r) (fun c r=>by rw[ba (nown c b r)];exact r) (fun c xs r=>by rw[ba (ntup c xs r)];exact r) fun c ob w' r=>by rw[ba (nfrz c ob w' r)];exact r
   rcases hc with rfl | hc
   ·exact hbe
   ·rintro rfl
    rcases he with z | z
    ·exact nown c b hc z
    ·rw[hc] at z;cases z;exact hb rfl
end
structure Un (fs ex:List Addr)(H H':Hp)(h h':Heap):Prop where
 keep:∀ b o,h.get? b=some o→H b=none→b∉fs→b∉ex→h'.get? b=some o
 slot:∀ b o,h.get? b=some o→H b=none→b∈fs→b∉ex→∃ sl,h'.get? b=some { o with slots:=sl }
 free:∀ b o,h.get? b=some o→H b=none→b∉ex→H' b=none
 there:∀ b o,h.get? b=some o→b∉ex→∃ o',h'.get? b=some o'
 tups:∀ b xs,H b=some (.tup xs)→H' b=some (.tup xs)
 frzs:∀ b o u,H b=some (.frz o u)→H' b=some (.frz o u)
 tbls:∀ b ps,H b=some (.tbl ps)→H' b=some (.tbl ps)
section
variable {fs fs' ex ex':List Addr}{H H1 H2:Hp}{h h1 h2 h':Heap}{a x e:Addr}{o:HO}
theorem Un.any (u:Un fs ex H H1 h h1){b:Addr}{ob:Obj}(q:h.get? b=some ob)(n:H b=none)(hx:b∉ex):∃ sl,h1.get? b=some { ob with slots:=sl }:=by
 by_cases hb:b∈fs
 ·exact u.slot b ob q n hb hx
 ·exact⟨ob.slots,u.keep b ob q n hb hx⟩
theorem Un.kept (k:∀ b u,h.get? b=some u→h'.get? b=some u):Un fs ex H H h h' :=
 ⟨fun b ob q _ _ _=>k b ob q,fun b ob q _ _ _=>⟨ob.slots,k b ob q⟩,fun _ _ _ n _=>n,fun b ob q _=>⟨ob,k b ob q⟩,fun _ _ q=>q,fun _ _ _ q=>q,fun _ _ q=>q⟩
theorem Un.refl:Un fs ex H H h h:=Un.kept fun _ _ q=>q
theorem Un.laid (k:∀ b u,h.get? b=some u→h'.get? b=some u)(hp:h.objs.size≤a)(hn:H a=none):Un fs ex H (aJ H a o) h h' where
 keep:=fun b u q _ _ _=>k b u q
 slot:=fun b u q _ _ _=>⟨u.slots,k b u q⟩
 free:=fun b u q n _=>by rw[ba (Nat.ne_of_lt (Nat.lt_of_lt_of_le (Heap.lt_size q) hp))];exact n
 there:=fun b u q _=>⟨u,k b u q⟩
 tups:=fun b xs q=>by rw[ba (cx q hn)];exact q
 frzs:=fun b u xs q=>by rw[ba (cx q hn)];exact q
 tbls:=fun b ps q=>by rw[ba (cx q hn)];exact q
theorem Un.write (mu:kG (H x))(he:e=x∨H e=some (.own x))(k:∀ b u,b≠e→h.get? b=some u→h'.get? b=some u)(heo:∃ u,h'.get? e=some u):Un fs ex H (aJ H x o) h h':=by
 have hx:∀ b,H b=none→b≠x:=fun b n z=>by subst z;rw[n] at mu;exact mu
 have hb:∀ b,H b=none→b≠e:=fun b n z=>by
  subst z
  rcases he with r | r
  ·exact hx b n r
  ·rw[n] at r;cases r
 have hm:∀ b u,H b=some u→¬ kG (some u)→b≠x:=fun b u q nm z=>by subst z;rw[q] at mu;exact nm mu
 refine⟨fun b u q n _ _=>k b u (hb b n) q,fun b u q n _ _=>⟨u.slots,k b u (hb b n) q⟩,fun b u q n _=>by rw[ba (hx b n)];exact n,fun b u q _=>?_,
  fun b xs q=>by rw[ba (hm b _ q fun z=>z)];exact q,fun b u xs q=>by rw[ba (hm b _ q fun z=>z)];exact q,fun b ps q=>by rw[ba (hm b _ q fun z=>z)];exact q⟩
 by_cases hbe:b=e
 ·subst hbe;exact heo
 ·exact⟨u,k b u hbe q⟩
end
def kd (h:Heap)(H:Hp):List Addr:=(List.range h.objs.size).filter fun a=>(H a).isSome
def fK (h:Heap)(H:Hp):Heap:=PySem.W.hideAll h (kd h H)
theorem wj (h:Heap)(H:Hp):(fK h H).objs.size=h.objs.size:=PySem.W.hideAll_size _ _
theorem By {h:Heap}{H:Hp}{b:Addr}{o:Obj}(e:h.get? b=some o)(n:H b=none):(fK h H).get? b=some o :=
 PySem.W.hideAll_get _ e fun hm=>by
  have q:(H b).isSome=true:=(List.mem_filter.mp hm).2
  rw[n] at q;simp at q
theorem zh {h:Heap}{H:Hp}{b:Addr}{o:Obj}(e:(fK h H).get? b=some o):h.get? b=some o∧H b=none:=by
 have e':h.get? b=some o:=PySem.W.of_hideAll (kd h H) e
 refine⟨e',?_⟩
 cases q:H b with
 | none=>rfl
 | some x =>
  have hm:b∈kd h H:=List.mem_filter.mpr ⟨List.mem_range.mpr (Heap.lt_size e'),by simp [q]⟩
  have z:(fK h H).get? b=none:=PySem.W.hideAll_none (kd h H) hm
  rw[z] at e;cases e
def jI (g h:Heap)(L:Addr):List (Addr × Obj):=(List.range h.objs.size).filterMap fun a=>if a=L∨(g.get? a).isSome=true then none else (h.get? a).map fun o=>(a,o)
theorem qK {g h:Heap}{L a:Addr}{o:Obj}(h1:a≠L)(h2:g.get? a=none)(h3:h.get? a=some o):(a,o)∈jI g h L :=
 List.mem_filterMap.mpr ⟨a,List.mem_range.mpr (Heap.lt_size h3),by simp [h1,h2,h3]⟩
theorem Be {g h:Heap}{L:Addr}{p:Addr × Obj}(hp:p∈jI g h L):p.1≠L∧g.get? p.1=none∧h.get? p.1=some p.2:=by
 obtain⟨b,_,e⟩:=List.mem_filterMap.mp hp
 split at e
 ·cases e
 ·rename_i hn
  cases q:h.get? b with
  | none=>rw[q] at e;simp at e
  | some u =>
   rw[q] at e
   simp only [Option.map_some,Option.some.injEq] at e
   subst e
   refine⟨fun z=>hn (.inl z),?_,q⟩
   show g.get? b=none
   cases r:g.get? b with
   | none=>rfl
   | some v=>exact (hn (.inr (by simp [r]))).elim
theorem vz {g h:Heap}{L:Addr}:News g L h (jI g h L):=fun p hp=>let ⟨a,b,c⟩:=Be hp;⟨c,a,b⟩
structure Mod (K:Frag)(mg:Str→Option Value)(base:Heap):Prop where
 kin:K.In base
 glob:base.Ns mainGlobals mg
 blt:∃ mb,base.Ns builtinsNs mb∧∀ x:Str,x≠"__name__"→mb x=bootBuiltins x
 nolimit:base.NoLimit
 bmod:∃ bm ob,mg "__builtins__"=some (.ref bm)∧bm≠builtinsNs∧base.get? bm=some ob∧ob.cls=.type "module"∧ob.dict=some builtinsNs∧ob.data=.plain
structure Cx where
 prog:Program
 w:World
 K:Frag
 mg:Str→Option Value
 base:Heap
 A:Around
 N:List Str
 s₀:Shared
 H₀:Hp
 env:Env
 outer:List Env
 stack:List Env
 ex:List Addr
 fn:Str→Bool
 calm:Bool
 pn:List (Addr × Obj)
 xe:Value→Shared→Prop
def eP (l:List Env):List Addr:=l.filterMap (·.frame)
abbrev Cx.fs (X:Cx):List Addr:=eP X.outer
def iK (sc:Scope)(x:Str):Prop:=sc.names.lookup x=some .local∨sc.names.lookup x=some .cell∨sc.names.lookup x=some .free
def eO (sc:Scope)(x:Str):Prop:=sc.names.lookup x=some .local∨sc.names.lookup x=some .cell
def uL (env:Env)(h:Heap)(m:Str→Option Value)(x:Str)(u:Value):Prop :=
 (env.kindOf x=some .local∧m x=some u)∨((env.kindOf x=some .cell∨env.kindOf x=some .free)∧∃ c,env.cells.lookup x=some c∧h.IsCell c (some u))
structure Cx.Ok (X:Cx):Prop where
 mod:Mod X.K X.mg X.base
 kind:X.env.scope.kind=.function
 glob:X.env.globals=mainGlobals
 blt:X.env.builtins=builtinsNs
 above:X.s₀.heap.objs.size≤X.env.locals
 inj:∀ x y c,X.env.cells.lookup x=some c→X.env.cells.lookup y=some c→x=y
 has:∀ x,(X.env.kindOf x=some .cell∨X.env.kindOf x=some .free)→∃ c,X.env.cells.lookup x=some c
 cab:∀ x c,X.fn x=true→X.env.cells.lookup x=some c→X.s₀.heap.objs.size≤c
 hd:X.calm=true→X.A.handled=none
 frames:X.A.frames=some X.stack
 stk:X.stack=X.outer∨(X.stack=X.env::X.outer∧X.env.frame=some X.env.locals)
 exf:∀ b∈X.ex,b≠X.env.locals∧∀ x c,X.env.cells.lookup x=some c→c≠b
 bs:∀ b o,X.base.get? b=some o→X.s₀.heap.get? b=some o∧X.H₀ b=none
 bsz:X.base.objs.size≤X.s₀.heap.objs.size
 noex:∀ b o,X.base.get? b=some o→b∉X.ex
 exfs:∀ b∈X.ex,b∉X.fs
 funs:X.s₀.heap.FunFrames X.base X.outer
 frf:∀ b∈X.fs,X.H₀ b=none
structure Inv (X:Cx)(pins:List (Addr × Obj))(σ:List (Option V))(H:Hp)(s:Shared):Prop where
 ok:X.Ok
 os:s.os=X.s₀.os
 bare:AllBare s.gens
 base:Un X.fs X.ex X.H₀ H X.s₀.heap s.heap
 loc:∃ m,s.heap.Ns X.env.locals m∧∀ (i:Nat) (x:Str) (v:V),X.N[i]?=some x→σ[i]?=some (some v)→iK X.env.scope x→∃ u,RelV v u∧uL X.env s.heap m x u
 cell:∀ x c,X.env.cells.lookup x=some c→∃ v,s.heap.IsCell c v
 free:H X.env.locals=none
 freeC:∀ x c,X.env.cells.lookup x=some c→H c=none
 pin:∀ p∈X.pn++pins,s.heap.get? p.1=some p.2∧H p.1=none∧p.1≠X.env.locals∧p.1∉X.fs∧∀ v,p.2.data≠.cell v
 hok:HOk X.prog X.w H s.heap
 len:σ.length=X.N.length
section
variable {X:Cx}{pins:List (Addr × Obj)}{σ:List (Option V)}{H H':Hp}{s:Shared}{h':Heap}
theorem Cx.Ok.nofr (ok:X.Ok){b:Addr}{o:Obj}(e:X.base.get? b=some o):b∉X.fs:=fun hb=>by
 have:=(ok.funs.mem hb).1
 rw[e] at this;cases this
theorem Inv.bs (I:Inv X pins σ H s):∀ b o,X.base.get? b=some o→s.heap.get? b=some o∧H b=none:=fun b o e =>
 ⟨I.base.keep b o (I.ok.bs b o e).1 (I.ok.bs b o e).2 (I.ok.nofr e) (I.ok.noex b o e),I.base.free b o (I.ok.bs b o e).1 (I.ok.bs b o e).2 (I.ok.noex b o e)⟩
theorem Inv.bk (I:Inv X pins σ H s):∀ b o,X.base.get? b=some o→s.heap.get? b=some o:=fun b o e=>(I.bs b o e).1
theorem Inv.mod (I:Inv X pins σ H s):Mod X.K X.mg X.base:=I.ok.mod
theorem Inv.kIn (I:Inv X pins σ H s):X.K.In s.heap:=I.ok.mod.kin.keeps I.bk
theorem Inv.nolimit (I:Inv X pins σ H s):s.heap.NoLimit:=I.ok.mod.nolimit.keeps I.bk
theorem Inv.lt (I:Inv X pins σ H s):X.env.locals<s.heap.objs.size:=let ⟨_,hn,_⟩:=I.loc;hn.lt
theorem Inv.sz (I:Inv X pins σ H s):X.s₀.heap.objs.size≤s.heap.objs.size:=Nat.le_trans I.ok.above (Nat.le_of_lt I.lt)
theorem Inv.nofs (I:Inv X pins σ H s){a:Addr}(h:s.heap.objs.size≤a):a∉X.fs:=fun hb=>by
 obtain⟨_,o,ho,_⟩:=I.ok.funs.mem hb
 exact absurd (Nat.lt_of_lt_of_le (Heap.lt_size ho) (Nat.le_trans I.sz h)) (Nat.lt_irrefl _)
theorem Inv.cne (I:Inv X pins σ H s):∀ x c,X.env.cells.lookup x=some c→c≠X.env.locals:=fun x c e z=>by
 obtain⟨v,o,ho,hd⟩:=I.cell x c e
 obtain⟨m,⟨o',es,ep,ho',hd',_⟩,_⟩:=I.loc
 rw[z,ho'] at ho;cases ho;rw[hd'] at hd;cases hd
theorem Inv.funs (I:Inv X pins σ H s):s.heap.FunFrames X.base X.outer:=by
 have all:∀ (l:List Env),(∀ b∈eP l,b∈X.fs)→X.s₀.heap.FunFrames X.base l→s.heap.FunFrames X.base l:=by
  intro l
  induction l with
  | nil=>intro _ _;trivial
  | cons env r ih =>
   intro hs hl
   obtain⟨hk,⟨L,o,hf,hn,ho,hd⟩,hr⟩:=hl
   have hL:L∈X.fs:=hs L (by unfold eP;rw[List.filterMap_cons,hf];exact List.mem_cons_self)
   obtain⟨sl,e⟩:=I.base.slot L o ho (I.ok.frf L hL) hL fun z=>I.ok.exfs L z hL
   exact⟨hk,⟨L,_,hf,hn,e,hd⟩,ih (fun b hb=>hs b (by unfold eP;rw[List.filterMap_cons,hf];exact List.mem_cons_of_mem _ hb)) hr⟩
 exact all X.outer (fun _ hb=>hb) I.ok.funs
theorem Inv.stack (I:Inv X pins σ H s):s.heap.FunFrames X.base X.stack:=by
 rcases I.ok.stk with e | ⟨e,hf⟩
 ·rw[e];exact I.funs
 ·rw[e]
  obtain⟨m,hn,_⟩:=I.loc
  refine .cons (by rw[I.ok.kind];decide) hf hn ?_ I.funs
  exact Heap.get?_none_of_le (Nat.le_trans I.ok.bsz I.ok.above)
theorem Inv.stkSub (I:Inv X pins σ H s):∀ b∈eP X.stack,b∈X.env.locals::X.fs:=fun b hb=>by
 rcases I.ok.stk with e | ⟨e,hf⟩
 ·rw[e] at hb;exact List.mem_cons_of_mem _ hb
 ·rw[e] at hb
  unfold eP at hb
  rw[List.filterMap_cons,hf] at hb
  exact hb
theorem Inv.stkFree (I:Inv X pins σ H s):∀ b∈eP X.stack,H b=none:=fun b hb=>by
 rcases List.mem_cons.mp (I.stkSub b hb) with e | hb
 ·rw[e];exact I.free
 ·obtain⟨_,o,ho,_⟩:=I.ok.funs.mem hb
  exact I.base.free b o ho (I.ok.frf b hb) fun z=>I.ok.exfs b z hb
theorem Inv.step {g':Array GenState}{t':Nat}{d':Drawn}{ch:List Addr}(I:Inv X pins σ H s)
  (hch:∀ b∈ch,(b∈X.ex∨X.s₀.heap.objs.size≤b)∧b≠X.env.locals∧(∀ x c,X.env.cells.lookup x=some c→c≠b)∧∀ p∈X.pn++pins,p.1≠b)
  (keep:∀ b o,b≠X.env.locals→b∉X.fs→b∉ch→s.heap.get? b=some o→H b=none→h'.get? b=some o)
  (slot:∀ b o,b≠X.env.locals→b∈X.fs→b∉ch→s.heap.get? b=some o→H b=none→∃ sl,h'.get? b=some { o with slots:=sl }) (free:∀ b o,b∉ch→s.heap.get? b=some o→H b=none→H' b=none)
  (there:∀ b o,b∉ch→s.heap.get? b=some o→∃ o',h'.get? b=some o')
  (tups:∀ b xs,H b=some (.tup xs)→H' b=some (.tup xs)) (frzs:∀ b o u,H b=some (.frz o u)→H' b=some (.frz o u)) (tbls:∀ b ps,H b=some (.tbl ps)→H' b=some (.tbl ps))
  (ns:∀ m,s.heap.Ns X.env.locals m→h'.Ns X.env.locals m) (hok:HOk X.prog X.w H' h') (hg:AllBare g') :
  Inv X pins σ H' { s with heap:=h',gens:=g',drawn:=d',toks:=t' }:=by
 have neL:∀ b o,X.s₀.heap.get? b=some o→b≠X.env.locals:=fun b o e=>Nat.ne_of_lt (Nat.lt_of_lt_of_le (Heap.lt_size e) I.ok.above)
 have neC:∀ b o,X.s₀.heap.get? b=some o→b∉X.ex→b∉ch:=fun b o e hx hb=>by
  rcases (hch b hb).1 with z | z
  ·exact hx z
  ·exact absurd (Nat.lt_of_lt_of_le (Heap.lt_size e) z) (Nat.lt_irrefl _)
 have cellK:∀ x c,X.env.cells.lookup x=some c→∀ v,s.heap.IsCell c v→h'.IsCell c v:=fun x c e v hq0=>by
  obtain⟨o,ho,hd⟩:=hq0
  have nch:c∉ch:=fun z=>(hch c z).2.2.1 x c e rfl
  by_cases hc:c∈X.fs
  ·obtain⟨sl,q⟩:=slot c o (I.cne x c e) hc nch ho (I.freeC x c e)
   exact⟨_,q,hd⟩
  ·exact⟨o,keep c o (I.cne x c e) hc nch ho (I.freeC x c e),hd⟩
 refine⟨I.ok,I.os,hg,⟨fun b o e n hb hx=>?_,fun b o e n hb hx=>?_,fun b o e n hx=>?_,fun b o e hx=>?_,fun b xs e=>tups b xs (I.base.tups b xs e),fun b o xs e=>frzs b o xs (I.base.frzs b o xs e),fun b ps e=>tbls b ps (I.base.tbls b ps e)⟩,?_,fun x c e=>?_,?_,fun x c e=>?_,fun p hp=>?_,hok,I.len⟩
 ·exact keep b o (neL b o e) hb (neC b o e hx) (I.base.keep b o e n hb hx) (I.base.free b o e n hx)
 ·obtain⟨sl,e1⟩:=I.base.slot b o e n hb hx
  obtain⟨sl',e2⟩:=slot b _ (neL b o e) hb (neC b o e hx) e1 (I.base.free b o e n hx)
  exact⟨sl',e2⟩
 ·obtain⟨o',e1⟩:=I.base.there b o e hx
  exact free b o' (neC b o e hx) e1 (I.base.free b o e n hx)
 ·obtain⟨o',e1⟩:=I.base.there b o e hx
  exact there b o' (neC b o e hx) e1
 ·obtain⟨m,hn,hl⟩:=I.loc
  refine⟨m,ns m hn,fun i x v e1 e2 e3=>?_⟩
  obtain⟨u,r,l⟩:=hl i x v e1 e2 e3
  refine⟨u,r,?_⟩
  rcases l with l | ⟨k,c,e,z⟩
  ·exact .inl l
  ·exact .inr ⟨k,c,e,cellK x c e _ z⟩
 ·obtain⟨v,z⟩:=I.cell x c e
  exact⟨v,cellK x c e v z⟩
 ·obtain⟨m,⟨o,_,_,ho,_⟩,_⟩:=I.loc
  exact free _ o (fun z=>(hch _ z).2.1 rfl) ho I.free
 ·obtain⟨v,o,ho,hd⟩:=I.cell x c e
  exact free c o (fun z=>(hch c z).2.2.1 x c e rfl) ho (I.freeC x c e)
 ·obtain⟨e,n,ne,nf,d⟩:=I.pin p hp
  have nch:p.1∉ch:=fun z=>(hch p.1 z).2.2.2 p hp rfl
  exact⟨keep p.1 p.2 ne nf nch e n,free p.1 p.2 nch e n,ne,nf,d⟩
theorem Inv.un {t':Nat}(I:Inv X pins σ H s)(u:Un X.fs [] H H' s.heap h')(hok:HOk X.prog X.w H' h'):Inv X pins σ H' { s with heap:=h',toks:=t' }:=by
 obtain⟨m,⟨o,es,ep,ho,r⟩,_⟩:=id I.loc
 obtain⟨sl,hL⟩:=u.any ho I.free (by simp)
 exact I.step (g':=s.gens) (d':=s.drawn) (ch:=[]) (fun _ z=>nomatch z) (fun b o _ hb _ e n=>u.keep b o e n hb (by simp)) (fun b o _ hb _ e n=>u.slot b o e n hb (by simp)) (fun b o _ e n=>u.free b o e n (by simp)) (fun b o _ e=>u.there b o e (by simp)) u.tups u.frzs u.tbls (fun m' hm=>by
  obtain⟨o',es',ep',ho',r'⟩:=hm
  rw[ho] at ho';cases ho'
  exact⟨_,es',ep',hL,r'⟩) hok I.bare
theorem Inv.call {g':Array GenState}{t':Nat}{d':Drawn}{ch:List Addr}(I:Inv X pins σ H s)(u:Un (eP X.stack) ch H H' s.heap h')(hok:HOk X.prog X.w H' h')(hg:AllBare g')
  (hch:∀ b∈ch,(b∈X.ex∨X.s₀.heap.objs.size≤b)∧b≠X.env.locals∧(∀ x c,X.env.cells.lookup x=some c→c≠b)∧∀ p∈X.pn++pins,p.1≠b) :
  Inv X pins σ H' { s with heap:=h',gens:=g',drawn:=d',toks:=t' }:=by
 obtain⟨m,⟨o,es,ep,ho,r⟩,_⟩:=id I.loc
 obtain⟨sl,hL⟩:=u.any ho I.free fun z=>(hch _ z).2.1 rfl
 exact I.step (ch:=ch) hch (fun b o hL hb hc e n=>u.keep b o e n (fun z=>(List.mem_cons.mp (I.stkSub b z)).elim hL hb) hc) (fun b o _ _ hc e n=>u.any e n hc) (fun b o hc e n=>u.free b o e n hc) (fun b o hc e=>u.there b o e hc) u.tups u.frzs u.tbls (fun m' hm=>by
  obtain⟨o',es',ep',ho',r'⟩:=hm
  rw[ho] at ho';cases ho'
  exact⟨_,es',ep',hL,r'⟩) hok hg
theorem Inv.turned {t':Nat}{it:Addr}(I:Inv X pins σ H s)(k:∀ b o,b≠it→s.heap.get? b=some o→h'.get? b=some o)(hn:H it=none)(hL:it≠X.env.locals)
  (h1:it∈X.ex∨X.s₀.heap.objs.size≤it) (h2:∀ x c,X.env.cells.lookup x=some c→c≠it) (h3:∀ p∈X.pn++pins,p.1≠it):Inv X pins σ H { s with heap:=h',toks:=t' }:=by
 have nit:∀ b u,H b=some u→b≠it:=fun b u e z=>by rw[z,hn] at e;cases e
 refine I.step (g':=s.gens) (d':=s.drawn) (ch:=[it]) (fun b hb=>?_) (fun b o _ _ hc e _=>k b o (fun z=>hc (by simp [z])) e) (fun b o _ _ hc e _=>⟨o.slots,k b o (fun z=>hc (by simp [z])) e⟩) (fun _ _ _ _ n=>n)
  (fun b o hc e=>⟨o,k b o (fun z=>hc (by simp [z])) e⟩) (fun _ _ e=>e) (fun _ _ _ e=>e) (fun b ps e=>e) (fun m hm=>?_) (fun b u e=>?_) I.bare
 ·have e:b=it:=by simpa using hb
  subst e
  exact⟨h1,hL,h2,h3⟩
 ·obtain⟨o,es,ep,ho,r⟩:=hm
  exact⟨o,es,ep,k _ o (Ne.symm hL) ho,r⟩
 ·refine (I.hok b u e).stay (fun c v hc q=>k c v ?_ q) (fun _ q=>q) (fun _ _ q=>q) fun _ _ _ q=>q
  rcases hc with z | z
  ·rw[z];exact nit b u e
  ·exact nit c _ z
theorem Inv.tok (I:Inv X pins σ H s)(t:Nat):Inv X pins σ H { s with toks:=t }:=I.un (h':=s.heap) (t':=t) Un.refl I.hok
theorem Inv.kept {t':Nat}(I:Inv X pins σ H s)(k:∀ b u,s.heap.get? b=some u→h'.get? b=some u):Inv X pins σ H { s with heap:=h',toks:=t' }:=I.un (Un.kept k) (I.hok.kept k)
theorem Inv.laid {a:Addr}{o:HO}{t':Nat}(I:Inv X pins σ H s)(k:∀ b u,s.heap.get? b=some u→h'.get? b=some u)(hp:s.heap.objs.size≤a)(new:ObjOk X.prog X.w (aJ H a o) h' a o) :
  Inv X pins σ (aJ H a o) { s with heap:=h',toks:=t' }:=I.un (Un.laid k hp (I.hok.fresh hp)) (I.hok.laid k hp new)
theorem Inv.write {x e:Addr}{o:HO}{t':Nat}(I:Inv X pins σ H s)(mu:kG (H x))(he:e=x∨H e=some (.own x))(k:∀ b u,b≠e→s.heap.get? b=some u→h'.get? b=some u)(heo:∃ u,h'.get? e=some u)
  (new:ObjOk X.prog X.w (aJ H x o) h' x o):Inv X pins σ (aJ H x o) { s with heap:=h',toks:=t' }:=I.un (Un.write mu he k heo) (I.hok.write mu he k heo new)
theorem Inv.pins_of {pins':List (Addr × Obj)}(I:Inv X pins σ H s)(h:∀ p∈pins',s.heap.get? p.1=some p.2∧H p.1=none∧p.1≠X.env.locals∧p.1∉X.fs∧∀ v,p.2.data≠.cell v):Inv X pins' σ H s :=
 ⟨I.ok,I.os,I.bare,I.base,I.loc,I.cell,I.free,I.freeC,fun p hp=>(List.mem_append.mp hp).elim (fun z=>I.pin p (List.mem_append_left _ z)) (h p),I.hok,I.len⟩
theorem sU {N:List Str}(hN:N.Nodup){i j:Nat}{x:Str}(a:N[i]?=some x)(b:N[j]?=some x):i=j:=by
 obtain⟨h1,e1⟩:=List.getElem?_eq_some_iff.mp a
 obtain⟨h2,e2⟩:=List.getElem?_eq_some_iff.mp b
 exact (List.getElem_inj hN).mp (e1.trans e2.symm)
theorem oX {M:Model}{A:Around}{E:Value→Shared→Prop}{i:Nat}{x:Str}{v:V}{u:Value}{Q:Unit→Shared→Prop}(I:Inv X pins σ H s)(hN:X.N.Nodup)(hi:X.N[i]?=some x)(hx:eO X.env.scope x)(r:RelV v u)
  (h:∀ s',Inv X pins (σ.set i (some v)) H s'→(∃ a,Heap.SameBut a s.heap s'.heap∧(a=X.env.locals∨X.env.cells.lookup x=some a))→Q () s') (hf:X.fn x=true∨X.env.scope.names.lookup x=some .local:=by first | exact .inl rfl | exact .inr rfl | assumption):wpAny M A (storeName X.env x u) Q E s:=by
 obtain⟨m,hn,hl⟩:=id I.loc
 have hcls:(X.env.scope.kind == .class || (X.env.scope.kind == .module && X.env.locals != X.env.globals))=false:=by rw[I.ok.kind];rfl
 have hiσ:i<σ.length:=by rw[I.len];exact (List.getElem?_eq_some_iff.mp hi).1
 have cne:=I.cne
 have tracked:∀ {a:Addr} {h':Heap},(∃ o,s.heap.get? a=some o∧H a=none)→Heap.SameBut a s.heap h'→HOk X.prog X.w H h':=fun {a h'} ha hs b ob e=>by
  obtain⟨_,_,hfree⟩:=ha
  refine (I.hok b ob e).stay (fun c w' hc q=>(hs.2 c ?_).trans q) (fun _ q=>q) (fun _ _ q=>q) fun _ _ _ q=>q
  rintro rfl
  rcases hc with rfl | hc
  ·rw[hfree] at e;cases e
  ·rw[hfree] at hc;cases hc
 rcases hx with hk | hk
 ·refine wpAny_storeName_local hk hn (fun h' hn' hs=>?_) hcls
  obtain⟨oL,_,_,hoL,_⟩:=id hn
  refine h _ ⟨I.ok,I.os,I.bare,⟨fun b o e n hb hx=>?_,fun b o e n hb hx=>?_,I.base.free,fun b o e hx=>?_,I.base.tups,I.base.frzs,I.base.tbls⟩,⟨_,hn',fun j y v' e1 e2 e3=>?_⟩,fun y c e=>?_,I.free,I.freeC,fun p hp=>?_,tracked ⟨oL,hoL,I.free⟩ hs,by simpa using I.len⟩ ⟨_,hs,.inl rfl⟩
  ·exact (hs.2 b (Nat.ne_of_lt (Nat.lt_of_lt_of_le (Heap.lt_size e) I.ok.above))).trans (I.base.keep b o e n hb hx)
  ·obtain⟨sl,e1⟩:=I.base.slot b o e n hb hx
   exact⟨sl,(hs.2 b (Nat.ne_of_lt (Nat.lt_of_lt_of_le (Heap.lt_size e) I.ok.above))).trans e1⟩
  ·obtain⟨o',e1⟩:=I.base.there b o e hx
   exact⟨o',(hs.2 b (Nat.ne_of_lt (Nat.lt_of_lt_of_le (Heap.lt_size e) I.ok.above))).trans e1⟩
  ·by_cases hj:j=i
   ·subst hj
    rw[hi] at e1;cases e1
    rw[List.getElem?_set_self hiσ] at e2
    cases e2
    exact⟨u,r,.inl ⟨hk,by simp⟩⟩
   ·rw[List.getElem?_set_ne (Ne.symm hj)] at e2
    obtain⟨u',r',q⟩:=hl j y v' e1 e2 e3
    refine⟨u',r',?_⟩
    rcases q with⟨k,e⟩ | ⟨k,c,e,z⟩
    ·refine .inl ⟨k,?_⟩
     have:y≠x:=fun e=>hj (sU hN e1 (e ▸ hi))
     simp [this,e]
    ·exact .inr ⟨k,c,e,z.sameBut hs (cne y c e)⟩
  ·obtain⟨w',z⟩:=I.cell y c e
   exact⟨w',z.sameBut hs (cne y c e)⟩
  ·obtain⟨e,n,ne,nf,d⟩:=I.pin p hp
   exact⟨(hs.2 p.1 ne).trans e,n,ne,nf,d⟩
 ·have hfn:X.fn x=true:=by
   rcases hf with z | z
   ·exact z
   ·rw[z] at hk;cases hk
  obtain⟨c,hc⟩:=I.ok.has x (.inl hk)
  obtain⟨w',z⟩:=I.cell x c hc
  refine wpAny_storeName_cell I.ok.kind hk hc z (fun h' hc' hs=>?_)
  obtain⟨oc,hoc,hocd⟩:=id z
  refine h { s with heap:=h' } ⟨I.ok,I.os,I.bare,⟨fun b o e n hb hx=>?_,fun b o e n hb hx=>?_,I.base.free,fun b o e hx=>?_,I.base.tups,I.base.frzs,I.base.tbls⟩,⟨m,hn.sameBut hs (Ne.symm (cne x c hc)),fun j y v' e1 e2 e3=>?_⟩,fun y c' e=>?_,I.free,I.freeC,fun p hp=>?_,tracked ⟨oc,hoc,I.freeC x c hc⟩ hs,by simpa using I.len⟩ ⟨c,hs,.inr hc⟩
  ·exact (hs.2 b (Nat.ne_of_lt (Nat.lt_of_lt_of_le (Heap.lt_size e) (I.ok.cab x c hfn hc)))).trans (I.base.keep b o e n hb hx)
  ·obtain⟨sl,e1⟩:=I.base.slot b o e n hb hx
   exact⟨sl,(hs.2 b (Nat.ne_of_lt (Nat.lt_of_lt_of_le (Heap.lt_size e) (I.ok.cab x c hfn hc)))).trans e1⟩
  ·obtain⟨o',e1⟩:=I.base.there b o e hx
   exact⟨o',(hs.2 b (Nat.ne_of_lt (Nat.lt_of_lt_of_le (Heap.lt_size e) (I.ok.cab x c hfn hc)))).trans e1⟩
  ·by_cases hj:j=i
   ·subst hj
    rw[hi] at e1;cases e1
    rw[List.getElem?_set_self hiσ] at e2
    cases e2
    exact⟨u,r,.inr ⟨.inl hk,c,hc,hc'⟩⟩
   ·rw[List.getElem?_set_ne (Ne.symm hj)] at e2
    obtain⟨u',r',q⟩:=hl j y v' e1 e2 e3
    refine⟨u',r',?_⟩
    rcases q with q | ⟨k,c',e,z'⟩
    ·exact .inl q
    ·refine .inr ⟨k,c',e,z'.sameBut hs ?_⟩
     rintro rfl
     exact hj (sU hN e1 (I.ok.inj _ _ _ e hc ▸ hi))
  ·by_cases hcc:c'=c
   ·subst hcc;exact⟨_,hc'⟩
   ·obtain⟨w2,z2⟩:=I.cell y c' e
    exact⟨w2,z2.sameBut hs hcc⟩
  ·obtain⟨e,n,ne,nf,d⟩:=I.pin p hp
   refine⟨(hs.2 p.1 ?_).trans e,n,ne,nf,d⟩
   intro q
   rw[q,hoc] at e
   have q':oc=p.2:=Option.some.inj e
   exact d w' (by rw[← q'];exact hocd)
theorem q5 {M:Model}{A:Around}{E:Value→Shared→Prop}{i:Nat}{x:Str}{v:V}{u:Value}{Q:Unit→Shared→Prop}(I:Inv X pins σ H s)(hN:X.N.Nodup)(hi:X.N[i]?=some x)(hx:eO X.env.scope x)(r:RelV v u)
  (h:∀ s',Inv X pins (σ.set i (some v)) H s'→Q () s') (hf:X.fn x=true∨X.env.scope.names.lookup x=some .local:=by first | exact .inl rfl | exact .inr rfl | assumption):wpAny M A (storeName X.env x u) Q E s :=
 oX I hN hi hx r (fun s' I' _=>h s' I') hf
theorem Inv.call' {s':Shared}{ch:List Addr}(I:Inv X pins σ H s)(ho:s'.os=s.os)(u:Un (eP X.stack) ch H H' s.heap s'.heap)(hok:HOk X.prog X.w H' s'.heap)(hg:AllBare s'.gens)
  (hch:∀ b∈ch,(b∈X.ex∨X.s₀.heap.objs.size≤b)∧b≠X.env.locals∧(∀ x c,X.env.cells.lookup x=some c→c≠b)∧∀ p∈X.pn++pins,p.1≠b):Inv X pins σ H' s':=by
 obtain⟨h',g',d',t',o'⟩:=s'
 have e:o'=s.os:=ho
 subst e
 exact I.call (g':=g') (t':=t') (d':=d') u hok hg hch
end
abbrev XK:=Value→Option Addr→Hp→Prop
abbrev St:=List (Option V)
abbrev VK:=V→Hp→Prop
abbrev TE:=St→Hp→VK→Prop
abbrev TT:=St→Hp→(Bool→Hp→Prop)→Prop
abbrev TA:=St→Hp→(List V→Hp→Prop)→Prop
structure Ends where
 nx:St→Hp→Prop
 rt:VK
 bk:St→Hp→Prop:=fun _ _=>False
 ct:St→Hp→Prop:=fun _ _=>False
abbrev TS:=Ends→St→Hp→Prop
def EP (X:Cx)(pins:List (Addr × Obj))(σ:St)(Q:VK)(u:Value)(s':Shared):Prop:=∃ v H',Inv X pins σ H' s'∧RelV v u∧Q v H'
def TP (X:Cx)(pins:List (Addr × Obj))(σ:St)(Q:Bool→Hp→Prop)(b:Bool)(s':Shared):Prop:=∃ H',Inv X pins σ H' s'∧Q b H'
def AP (X:Cx)(pins:List (Addr × Obj))(σ:St)(Q:List V→Hp→Prop)(us:List Value)(s':Shared):Prop:=∃ vs H',Inv X pins σ H' s'∧Vals vs us∧Q vs H'
def SP (X:Cx)(pins:List (Addr × Obj))(D:Ends)(f:Flow)(s':Shared):Prop :=
 match f with
 | .next=>∃ σ' H',Inv X pins σ' H' s'∧D.nx σ' H'
 | .brk=>∃ σ' H',Inv X pins σ' H' s'∧D.bk σ' H'
 | .cont=>∃ σ' H',Inv X pins σ' H' s'∧D.ct σ' H'
 | .ret u=>∃ v σ' H',Inv X pins σ' H' s'∧RelV v u∧D.rt v H'
def PE (X:Cx)(e:Expr)(t:TE):Prop :=
 ∀ (pins:List (Addr × Obj)) (s:Shared) (σ:St) (H:Hp) (Q:VK),Inv X pins σ H s→t σ H Q→wpAny (model X.prog X.w) X.A (eval e X.env) (EP X pins σ Q) X.xe s
def PT (X:Cx)(e:Expr)(t:TT):Prop :=
 ∀ (pins:List (Addr × Obj)) (s:Shared) (σ:St) (H:Hp) (Q:Bool→Hp→Prop),Inv X pins σ H s→t σ H Q→wpAny (model X.prog X.w) X.A (isTrue e X.env (eval e X.env)) (TP X pins σ Q) X.xe s
def PW (X:Cx)(e:Expr)(t:TT):Prop :=
 ∀ (whole:Sem Value) (pins:List (Addr × Obj)) (s:Shared) (σ:St) (H:Hp) (Q:Bool→Hp→Prop),Inv X pins σ H s→t σ H Q→wpAny (model X.prog X.w) X.A (isTrue e X.env whole) (TP X pins σ Q) X.xe s
theorem PW.pt {X:Cx}{e:Expr}{t:TT}(h:PW X e t):PT X e t:=h _
def PA (X:Cx)(es:List Expr)(t:TA):Prop :=
 ∀ (pos:Pos) (pins:List (Addr × Obj)) (s:Shared) (σ:St) (H:Hp) (Q:List V→Hp→Prop),Inv X pins σ H s→t σ H Q→wpAny (model X.prog X.w) X.A (spliced (backTo pos (starEach es X.env))) (AP X pins σ Q) X.xe s
def PS (X:Cx)(st:Stmt)(t:TS):Prop :=
 ∀ (pins:List (Addr × Obj)) (s:Shared) (σ:St) (H:Hp) (D:Ends),Inv X pins σ H s→t D σ H→wpAny (model X.prog X.w) X.A (exec st X.env) (SP X pins D) X.xe s
def PSs (X:Cx)(st:List Stmt)(t:TS):Prop :=
 ∀ (pins:List (Addr × Obj)) (s:Shared) (σ:St) (H:Hp) (D:Ends),Inv X pins σ H s→t D σ H→wpAny (model X.prog X.w) X.A (execs st X.env) (SP X pins D) X.xe s
theorem aT {α:Type}{t:Sem α}{Q Q':α→Shared→Prop}{M:Model}{A:Around}{E:Value→Shared→Prop}{s:Shared}(h:wpAny M A t Q E s)(hQ:∀ a s,Q a s→Q' a s):wpAny M A t Q' E s:=wpAny_mono h hQ fun _ _ x=>x
section
variable {X:Cx}
def sy (i:Nat):TE:=fun σ H Q=>∃ v,σ[i]?=some (some v)∧Q v H
def tC (v:V):TE:=fun _ H Q=>Q v H
theorem CG {i:Nat}{x:Str}{pos:Pos}(hN:X.N[i]?=some x)(hv:iK X.env.scope x)(hd:(x == ("__debug__":Str))=false:=by decide)(hcd:(x == ("__classdict__":Str))=false:=by decide):PE X (.Name x pos) (sy i):=by
 intro pins s σ H Q I h
 obtain⟨v,e,h⟩:=h
 obtain⟨m,hn,hl⟩:=I.loc
 obtain⟨u,r,l⟩:=hl i x v hN e hv
 have fin:EP X pins σ Q u s:=⟨v,H,I,r,h⟩
 rcases l with⟨hk,hm⟩ | ⟨hk,c,hc,hcell⟩
 ·exact wpAny_Name (wpAny_loadName_local I.ok.kind hk hn hm fin) hd
 ·rcases hk with hk | hk
  ·exact wpAny_Name (wpAny_loadName_cell I.ok.kind hk hc hcell fin) hd
  ·exact wpAny_Name (wpAny_loadName_free I.ok.kind hk hc hcell fin hcd) hd
theorem AO {i j pos}:PE X (.Constant (.int i) j pos) (tC (.int i)):=fun _ _ _ H _ I h=>wpAny_Constant_int ⟨.int i,H,I.tok _,⟨_,rfl⟩,h⟩
theorem Dq {b j pos}:PE X (.Constant (.bool b) j pos) (tC (.bl b)):=fun _ _ _ H _ I h=>Constant_bool ⟨.bl b,H,I,rfl,h⟩
theorem vX {j pos}:PE X (.Constant .none j pos) (tC .non):=fun _ _ _ H _ I h=>Constant_none ⟨.non,H,I,rfl,h⟩
theorem yc {x j pos}:PE X (.Constant (.str x) j pos) (tC (.str x)):=fun _ _ _ H _ I h=>Calls.Constant_str ⟨.str x,H,I.tok _,⟨_,rfl⟩,h⟩
def Gl (X:Cx)(x:Str):Prop:=X.env.kindOf x=some .globalImplicit
theorem sT {E:Value→Shared→Prop}{pins:List (Addr × Obj)}{s:Shared}{σ:St}{H:Hp}{x:Str}{u:Value}{pos:Pos}{Q:Value→Shared→Prop}(I:Inv X pins σ H s)(hg:Gl X x)(hm:X.mg x=some u)(h:Q u s)
  (hd:(x == ("__debug__":Str))=false:=by decide):wpAny (model X.prog X.w) X.A (eval (.Name x pos) X.env) Q E s :=
 Calls.Name_function_global I.ok.kind hg (Calls.loadGlobal_global (by rw[I.ok.glob];exact I.mod.glob.keeps I.bk) hm h) hd
theorem gC {E:Value→Shared→Prop}{pins:List (Addr × Obj)}{s:Shared}{σ:St}{H:Hp}{x:Str}{u:Value}{pos:Pos}{Q:Value→Shared→Prop}(I:Inv X pins σ H s)(hg:Gl X x)(hm:X.mg x=none)(hv:bootBuiltins x=some u)(h:Q u s)
  (hn:x≠"__name__":=by decide) (hd:(x == ("__debug__":Str))=false:=by decide):wpAny (model X.prog X.w) X.A (eval (.Name x pos) X.env) Q E s:=by
 obtain⟨mb,h1,h2⟩:=I.mod.blt
 exact Calls.Name_function_global I.ok.kind hg (Calls.loadGlobal_builtin (by rw[I.ok.glob];exact I.mod.glob.keeps I.bk) hm (by rw[I.ok.blt];exact h1.keeps I.bk) ((h2 x hn).trans hv) h) hd
variable {a b:Expr}{ta tb:TE}{pos:Pos}
variable {tA tB':TT}{rest:List Expr}
def zF (t u:TT):TT:=fun σ H Q=>t σ H fun c H1=>if c=true then u σ H1 Q else Q false H1
def zE (t u:TT):TT:=fun σ H Q=>t σ H fun c H1=>if c=true then Q true H1 else u σ H1 Q
def AE (t:TT):TT:=fun σ H Q=>t σ H fun c H1=>Q (!c) H1
theorem AR (ha:PT X a tA):PW X (.BoolOp .And [a] pos) tA:=by
 intro wh pins s σ H Q I h
 refine isTrue_and (aT (ha pins s σ H Q I h) fun c s1 e=>?_)
 cases c with
 | true=>exact isTrue_and_nil e
 | false=>exact e
theorem CJ (ha:PT X a tA):PW X (.BoolOp .Or [a] pos) tA:=by
 intro wh pins s σ H Q I h
 refine isTrue_or (aT (ha pins s σ H Q I h) fun c s1 e=>?_)
 cases c with
 | false=>exact isTrue_or_nil e
 | true=>exact e
theorem y4 (ha:PT X a tA)(hb:PW X (.BoolOp .And (b::rest) pos) tB'):PW X (.BoolOp .And (a::b::rest) pos) (zF tA tB'):=by
 intro wh pins s σ H Q I h
 refine isTrue_and (aT (ha pins s σ H _ I h) fun c s1 hq0=>?_)
 obtain⟨H1,I1,q1⟩:=hq0
 cases c with
 | true=>exact hb wh pins s1 σ H1 Q I1 q1
 | false=>exact⟨H1,I1,q1⟩
theorem xC (ha:PT X a tA)(hb:PW X (.BoolOp .Or (b::rest) pos) tB'):PW X (.BoolOp .Or (a::b::rest) pos) (zE tA tB'):=by
 intro wh pins s σ H Q I h
 refine isTrue_or (aT (ha pins s σ H _ I h) fun c s1 hq0=>?_)
 obtain⟨H1,I1,q1⟩:=hq0
 cases c with
 | true=>exact⟨H1,I1,q1⟩
 | false=>exact hb wh pins s1 σ H1 Q I1 q1
theorem y3 (ha:PT X a tA):PT X (.UnaryOp .Not a pos) (AE tA):=by
 intro pins s σ H Q I h
 exact isTrue_not (ha pins s σ H (fun c H1=>Q (!c) H1) I h)
def A1 (ta tb:TE):TE:=fun σ H Q=>ta σ H fun x H1=>∃ c,x=.bl c∧if c=true then tb σ H1 Q else Q (.bl false) H1
def AB (ta tb:TE):TE:=fun σ H Q=>ta σ H fun x H1=>∃ c,x=.bl c∧if c=true then Q (.bl true) H1 else tb σ H1 Q
theorem BG {op}{t:TE}(h:PE X a t):PE X (.BoolOp op [a] pos) t:=fun pins s σ H Q I hw=>BoolOp_one (h pins s σ H Q I hw)
theorem yt (ha:PE X a ta)(hb:PE X (.BoolOp .And (b::rest) pos) tb):PE X (.BoolOp .And (a::b::rest) pos) (A1 ta tb):=by
 intro pins s σ H Q I h
 refine BoolOp_and (aT (ha pins s σ H _ I h) fun v s1 hq0=>?_)
 obtain⟨x,H1,I1,r1,q1⟩:=hq0
 obtain⟨c,rfl,q1⟩:=q1
 cases r1
 refine wpAny_truthy_bool ?_
 cases c with
 | true=>exact hb pins s1 σ H1 Q I1 q1
 | false=>exact⟨.bl false,H1,I1,rfl,q1⟩
theorem ym (ha:PE X a ta)(hb:PE X (.BoolOp .Or (b::rest) pos) tb):PE X (.BoolOp .Or (a::b::rest) pos) (AB ta tb):=by
 intro pins s σ H Q I h
 refine BoolOp_or (aT (ha pins s σ H _ I h) fun v s1 hq0=>?_)
 obtain⟨x,H1,I1,r1,q1⟩:=hq0
 obtain⟨c,rfl,q1⟩:=q1
 cases r1
 refine wpAny_truthy_bool ?_
 cases c with
 | false=>exact hb pins s1 σ H1 Q I1 q1
 | true=>exact⟨.bl true,H1,I1,rfl,q1⟩
def C4 (t:TT)(ta tb:TE):TE:=fun σ H Q=>t σ H fun c H1=>if c=true then ta σ H1 Q else tb σ H1 Q
theorem zi {c:Expr}(hc:PT X c tA)(ha:PE X a ta)(hb:PE X b tb):PE X (.IfExp c a b pos) (C4 tA ta tb):=by
 intro pins s σ H Q I h
 refine wpAny_IfExp (aT (hc pins s σ H _ I h) fun d s1 hq0=>?_)
 obtain⟨H1,I1,q1⟩:=hq0
 cases d with
 | true=>exact ha pins s1 σ H1 Q I1 q1
 | false=>exact hb pins s1 σ H1 Q I1 q1
end
def SqL (K:Frag)(H:Hp)(a:Addr)(xs:List V):Prop :=
 Rd H a (.lst xs) ∨
  ∃ (o:Obj) (its:Array Value) (n:Nat),K.lookup a=some o∧o.cls=.type "list"∧o.dict=none∧o.data=.seq its n∧its.size≤sizeLine∧Vals xs its.toList
def SqT (K:Frag)(H:Hp)(a:Addr)(xs:List V):Prop :=
 Rd H a (.tup xs) ∨
  ∃ (o:Obj) (its:Array Value) (n:Nat),K.lookup a=some o∧o.cls=.type "tuple"∧o.data=.seq its n∧its.size≤sizeLine∧Vals xs its.toList
def yS:Value→Option V
 | .none=>some .non
 | .bool b=>some (.bl b)
 | .int i _=>some (.int i)
 | .str x _=>some (.str x)
 | .bytes b _=>some (.byt b)
 | .float b _=>some (.flt b)
 | .ref a=>some (.ref a)
 | .type n=>some (.ty n)
 | _=>none
theorem RelV.abs {x:V}{u:Value}(r:RelV x u):yS u=some x:=by
 cases x with
 | non=>cases r;rfl
 | bl _=>cases r;rfl
 | int _=>obtain⟨t,rfl⟩:=r;rfl
 | str _=>obtain⟨t,rfl⟩:=r;rfl
 | byt _=>obtain⟨t,rfl⟩:=r;rfl
 | flt _=>obtain⟨t,rfl⟩:=r;rfl
 | ref _=>cases r;rfl
 | ty _=>cases r;rfl
theorem RelV.inj {x y:V}{u:Value}(r:RelV x u)(q:RelV y u):x=y:=Option.some.inj (r.abs.symm.trans q.abs)
theorem Vals.inj:∀ {xs ys:List V} {us:List Value},Vals xs us→Vals ys us→xs=ys
 | _,_,_,.nil,.nil=>rfl
 | _,_,_,.cons r t,.cons r' t'=>by rw[r.inj r',Vals.inj t t']
section
variable {X:Cx}{pins:List (Addr × Obj)}{σ:St}{H:Hp}{s:Shared}{a:Addr}{xs ys:List V}
theorem SqL.of {K:Frag}(h:H a=some (.lst xs)):SqL K H a xs:=.inl (.inl h)
theorem SqT.of {K:Frag}(h:H a=some (.tup xs)):SqT K H a xs:=.inl (.inl h)
theorem Inv.list (I:Inv X pins σ H s)(h:SqL X.K H a xs):∃ its:List Value,Vals xs its∧PlainL s.heap a its.toArray∧xs.length≤sizeLine:=by
 rcases h with h | ⟨o,its,n,hk,hc,hd,hs,hz,r⟩
 ·obtain⟨z,its,n,r,e⟩:=h.ok I.hok
  exact⟨its,r,⟨_,n,e,rfl,rfl,rfl⟩,z⟩
 ·refine⟨its.toList,r,⟨o,n,I.kIn a o hk,hc,hd,by simpa using hs⟩,?_⟩
  have e:=r.length
  simp only [Array.length_toList] at e
  omega
theorem Inv.tuple (I:Inv X pins σ H s)(h:SqT X.K H a xs):∃ its:List Value,Vals xs its∧IsTup s.heap a its.toArray∧xs.length≤sizeLine:=by
 rcases h with h | ⟨o,its,n,hk,hc,hs,hz,r⟩
 ·obtain⟨z,its,r,p⟩:=h.ok I.hok
  exact⟨its,r,p,z⟩
 ·refine⟨its.toList,r,⟨o,I.kIn a o hk,hc,n,by simpa using hs⟩,?_⟩
  have e:=r.length
  simp only [Array.length_toList] at e
  omega
theorem Inv.list_inj (I:Inv X pins σ H s)(h:SqL X.K H a xs)(h':SqL X.K H a ys):xs=ys:=by
 obtain⟨its,r,⟨o,n,e,_,_,d⟩,_⟩:=I.list h
 obtain⟨its',r',⟨o',n',e',_,_,d'⟩,_⟩:=I.list h'
 rw[e] at e';cases e'
 rw[d] at d'
 injection d' with d1 _
 have:its=its':=by simpa using congrArg Array.toList d1
 subst this
 exact r.inj r'
theorem Inv.tuple_inj (I:Inv X pins σ H s)(h:SqT X.K H a xs)(h':SqT X.K H a ys):xs=ys:=by
 obtain⟨its,r,⟨o,e,_,n,d⟩,_⟩:=I.tuple h
 obtain⟨its',r',⟨o',e',_,n',d'⟩,_⟩:=I.tuple h'
 rw[e] at e';cases e'
 rw[d] at d'
 injection d' with d1 _
 have:its=its':=by simpa using congrArg Array.toList d1
 subst this
 exact r.inj r'
end
abbrev Cx.wish (X:Cx)(E:Value→Shared→Prop):Cx:={ X with xe:=E }
abbrev Cx.nox (X:Cx):Cx:=X.wish fun _ _=>False
theorem Cx.Ok.wish {X:Cx}(ok:X.Ok)(E:Value→Shared→Prop):(X.wish E).Ok :=
 ⟨ok.mod,ok.kind,ok.glob,ok.blt,ok.above,ok.inj,ok.has,ok.cab,ok.hd,ok.frames,ok.stk,ok.exf,ok.bs,ok.bsz,ok.noex,ok.exfs,ok.funs,ok.frf⟩
theorem Cx.Ok.unwish {X:Cx}{E:Value→Shared→Prop}(ok:(X.wish E).Ok):X.Ok :=
 ⟨ok.mod,ok.kind,ok.glob,ok.blt,ok.above,ok.inj,ok.has,ok.cab,ok.hd,ok.frames,ok.stk,ok.exf,ok.bs,ok.bsz,ok.noex,ok.exfs,ok.funs,ok.frf⟩
section
variable {X:Cx}{pins:List (Addr × Obj)}{σ:St}{H:Hp}{s:Shared}{E:Value→Shared→Prop}
theorem Inv.wish (I:Inv X pins σ H s)(E:Value→Shared→Prop):Inv (X.wish E) pins σ H s:=⟨I.ok.wish E,I.os,I.bare,I.base,I.loc,I.cell,I.free,I.freeC,I.pin,I.hok,I.len⟩
theorem Inv.unwish (I:Inv (X.wish E) pins σ H s):Inv X pins σ H s:=⟨I.ok.unwish,I.os,I.bare,I.base,I.loc,I.cell,I.free,I.freeC,I.pin,I.hok,I.len⟩
theorem SP.unwish {D:Ends}{f:Flow}{s':Shared}(h:SP (X.wish E) pins D f s'):SP X pins D f s':=by
 cases f with
 | next=>obtain⟨σ',H',I,q⟩:=h;exact⟨σ',H',I.unwish,q⟩
 | brk=>obtain⟨σ',H',I,q⟩:=h;exact⟨σ',H',I.unwish,q⟩
 | cont=>obtain⟨σ',H',I,q⟩:=h;exact⟨σ',H',I.unwish,q⟩
 | ret u=>obtain⟨v,σ',H',I,r,q⟩:=h;exact⟨v,σ',H',I.unwish,r,q⟩
theorem PSs.nox {st:List Stmt}{t:TS}(h:PSs X.nox st t):PSs X st t:=fun pins s σ H D I hw =>
 wpAny_mono (h pins s σ H D (I.wish _) hw) (fun _ _ q=>q.unwish) fun _ _ z=>False.elim z
end
section
variable {X:Cx}{st:Stmt}{rest:List Stmt}{t u:TS}{e:Expr}{te:TE}{pos:Pos}
def BI:TS:=fun D σ H=>D.nx σ H
def xI (t u:TS):TS:=fun D σ H=>t { D with nx:=u D } σ H
theorem pss_nil:PSs X [] BI:=fun _ _ σ H _ I h=>wpAny_execs_nil ⟨σ,H,I,h⟩
theorem jA (h1:PS X st t)(h2:PSs X rest u):PSs X (st::rest) (xI t u):=by
 intro pins s σ H D I h
 refine wpAny_execs_cons (aT (h1 pins s σ H { D with nx:=u D } I h) fun f s1 q=>?_)
 cases f with
 | next =>
  obtain⟨σ',H',I',q⟩:=q
  exact h2 pins s1 σ' H' D I' q
 | ret v=>exact q
 | brk=>exact q
 | cont=>exact q
theorem pJ (h1:PS X st t):PSs X [st] t:=by
 intro pins s σ H D I h
 refine wpAny_execs_cons (aT (h1 pins s σ H D I h) fun f s1 q=>?_)
 cases f with
 | next=>exact wpAny_execs_nil q
 | ret v=>exact q
 | brk=>exact q
 | cont=>exact q
theorem Inv.quiet {pins:List (Addr × Obj)}{σ:St}{H:Hp}{s:Shared}(I:Inv X pins σ H s):interactive X.env=false:=by simp [interactive,I.ok.kind]
def yi (te:TE):TS:=fun D σ H=>te σ H fun _ H1=>D.nx σ H1
theorem zj (he:PE X e te)(hs:swapsWith e none pos.line X.env=pure false:=by rfl):PS X (.Expr e pos) (yi te):=by
 intro pins s σ H D I h
 exact wpAny_Expr_any (aT (he pins s σ H _ I h) fun v s1 hq0=>by obtain⟨x,H1,I1,r1,q1⟩:=hq0;exact⟨σ,H1,I1,q1⟩) I.quiet hs
def Ah (te:TE):TS:=fun D σ H=>te σ H D.rt
theorem zH (he:PE X e te):PS X (.Return (some e) pos) (Ah te):=by
 intro pins s σ H D I h
 exact wpAny_Return_some (aT (he pins s σ H _ I h) fun v s1 hq0=>by obtain⟨x,H1,I1,r1,q1⟩:=hq0;exact⟨x,σ,H1,I1,r1,q1⟩)
def vd (c:TT)(t u:TS):TS:=fun D σ H=>c σ H fun b H1=>if b=true then t D σ H1 else u D σ H1
theorem yD {c:Expr}{a b:List Stmt}{tc:TT}(hc:PT X c tc)(ha:PSs X a t)(hb:PSs X b u):PS X (.If c a b pos) (vd tc t u):=by
 intro pins s σ H D I h
 refine wpAny_If (aT (hc pins s σ H _ I h) fun d s1 hq0=>?_)
 obtain⟨H1,I1,q1⟩:=hq0
 cases d with
 | true=>exact ha pins s1 σ H1 D I1 q1
 | false=>exact hb pins s1 σ H1 D I1 q1
def B0:TS:=fun _ _ _=>False
theorem ps_never:PS X st B0:=fun _ _ _ _ _ _ h=>h.elim
end
abbrev TG:=V→St→Hp→(St→Hp→Prop)→Prop
abbrev eE:=List V→St→Hp→(St→Hp→Prop)→Prop
def PG (X:Cx)(target:Expr)(t:TG):Prop :=
 ∀ (pins:List (Addr × Obj)) (s:Shared) (σ:St) (H:Hp) (v:V) (u:Value) (Q:St→Hp→Prop),Inv X pins σ H s→RelV v u→t v σ H Q →
  wpAny (model X.prog X.w) X.A (assign target X.env u) (fun _ s'=>∃ σ' H',Inv X pins σ' H' s'∧Q σ' H') X.xe s
def PGs (X:Cx)(ts:List Expr)(t:eE):Prop :=
 ∀ (pins:List (Addr × Obj)) (s:Shared) (σ:St) (H:Hp) (vs:List V) (us:List Value) (Q:St→Hp→Prop),Inv X pins σ H s→Vals vs us→t vs σ H Q →
  wpAny (model X.prog X.w) X.A (assignInOrder ((assignEach ts X.env).map (·.2)) us) (fun _ s'=>∃ σ' H',Inv X pins σ' H' s'∧Q σ' H') X.xe s
section
variable {X:Cx}{pos:Pos}
def gh (i:Nat):TG:=fun v σ H Q=>Q (σ.set i (some v)) H
theorem Bd {i:Nat}{x:Str}(hN:X.N.Nodup)(hi:X.N[i]?=some x)(hx:eO X.env.scope x)(hf:X.fn x=true∨X.env.scope.names.lookup x=some .local:=by first | exact .inl rfl | exact .inr rfl | assumption):PG X (.Name x pos) (gh i):=by
 intro pins s σ H v u Q I r h
 exact wpAny_assign_Name (q5 I hN hi hx r (fun s' I'=>⟨_,H,I',h⟩) hf)
def Ba:eE:=fun vs σ H Q=>vs=[]∧Q σ H
def zr (t:TG)(u:eE):eE:=fun vs σ H Q=>∃ v r,vs=v::r∧t v σ H fun σ' H'=>u r σ' H' Q
theorem pgs_nil:PGs X [] Ba:=by
 intro pins s σ H vs us Q I r h
 obtain⟨e,h⟩:=h
 subst e
 cases r
 exact assignInOrder_nil ⟨σ,H,I,h⟩
theorem wQ {e:Expr}{es:List Expr}{t:TG}{u:eE}(h1:PG X e t)(h2:PGs X es u)
  (hs:(assignEach (e::es) X.env).map (·.2)=assign e X.env::(assignEach es X.env).map (·.2):=by rfl):PGs X (e::es) (zr t u):=by
 intro pins s σ H vs us Q I r h
 obtain⟨v,vr,e1,h⟩:=h
 subst e1
 cases r with
 | cons r rr =>
  rw[hs]
  refine assignInOrder_cons (aT (h1 pins s σ H _ _ _ I r h) fun _ s1 hq0=>?_)
  obtain⟨σ1,H1,I1,q1⟩:=hq0
  exact h2 pins s1 σ1 H1 _ _ Q I1 rr q1
def ur (K:Frag)(n:Nat)(t:eE):TG:=fun v σ H Q=>∃ a xs,v=.ref a∧SqT K H a xs∧xs.length=n∧t xs σ H Q
theorem v8 {es:List Expr}{k:Nat}{t:eE}{n:Nat}(hc:X.calm=true)(h:PGs X es t)
  (hn:(assignEach es X.env).length=n:=by rfl) (hst:(assignEach es X.env).findIdx? (·.1)=none:=by rfl):PG X (.Tuple es k pos) (ur X.K n t):=by
 intro pins s σ H v u Q I r hw
 obtain⟨a,xs,e1,hq,hl,hw⟩:=hw
 subst e1
 cases r
 obtain⟨its,rv,ht,hz⟩:=I.tuple hq
 refine assign_Tuple_tuple (I.ok.hd hc) ht (by simp [hn,← hl,rv.length]) hst fun h' hx=>?_
 have I1:Inv X pins σ H { s with heap:=h' }:=I.kept (t':=s.toks) fun b o e=>hx b o (Nat.ne_of_lt (Heap.lt_size e)) e
 exact h pins _ σ H xs _ Q I1 (by simpa using rv) hw
def gO (te:TE)(g:TG):TS:=fun D σ H=>te σ H fun x H1=>g x σ H1 D.nx
theorem uT {tg e:Expr}{te:TE}{g:TG}(he:PE X e te)(hg:PG X tg g)(hs:swapsWithSole [tg] e pos.line X.env=pure false:=by rfl)(hw:swappedStores [tg] e X.env=pure none:=by rfl)
  (h1:(assignEach [tg] X.env).map (·.2)=[assign tg X.env]:=by rfl):PS X (.Assign [tg] e pos) (gO te g):=by
 intro pins s σ H D I h
 refine wpAny_Assign_stores (aT (he pins s σ H _ I h) fun v s1 hq0=>?_) hs hw
 obtain⟨x,H1,I1,r1,q1⟩:=hq0
 rw[h1]
 exact aT (hg pins s1 σ H1 x v _ I1 r1 q1) fun _ s2 q=>q
theorem om {i:Nat}{x:Str}{e:Expr}{te:TE}{pos':Pos}(hN:X.N.Nodup)(hi:X.N[i]?=some x)(hx:eO X.env.scope x)(he:PE X e te)(hs:swapsWith e (some (.Name x pos')) pos.line X.env=pure false:=by rfl)(hf:X.fn x=true∨X.env.scope.names.lookup x=some .local:=by first | exact .inl rfl | exact .inr rfl | assumption) :
  PS X (.Assign [.Name x pos'] e pos) (gO te (gh i)):=by
 intro pins s σ H D I h
 refine wpAny_Assign_Name (aT (he pins s σ H _ I h) fun v s1 hq0=>?_) hs
 obtain⟨y,H1,I1,r1,q1⟩:=hq0
 exact q5 I1 hN hi hx r1 (fun s2 I2=>⟨_,H1,I2,q1⟩) hf
end
section
variable {X:Cx}{pos:Pos}
def BA (c:TT)(tb:TS):TS:=fun D σ H=>∃ W:Nat→St→Hp→Prop,(∃ m,W m σ H)∧∀ m σ H,W m σ H →
 c σ H fun b H1=>if b=true then ∃ N:St→Hp→Prop,(∀ σ' H',N σ' H'→∃ m',m'<m∧W m' σ' H')∧tb { D with nx:=N,ct:=N,bk:=D.nx } σ H1 else D.nx σ H1
theorem w6 {c:Expr}{body:List Stmt}{tc:TT}{tb:TS}(hp:PassesOwn (model X.prog X.w) X.A X.env X.xe)(hc:PT X c tc)(hb:PSs X body tb):PS X (.While c body [] pos) (BA tc tb):=by
 intro pins s σ H D I h
 obtain⟨W,⟨m0,w0⟩,turn⟩:=h
 refine wpAny_While (codeAny_whileLoop (fun n s'=>∃ σ' H',Inv X pins σ' H' s'∧W n σ' H') ?_ m0 ⟨σ,H,I,w0⟩)
 rintro n s1 ⟨σ1,H1,I1,w1⟩
 refine wpAny_passesOwn hp (aT (hc pins s1 σ1 H1 _ I1 (turn n σ1 H1 w1)) fun b s2 hq0=>?_)
 obtain⟨H2,I2,q2⟩:=hq0
 cases b with
 | true =>
  obtain⟨N,hN,q2⟩:=q2
  rw[if_pos rfl]
  refine wpAny_passesOwn hp (aT (hb pins s2 σ1 H2 _ I2 q2) fun f s3 q3=>?_)
  cases f with
  | next =>
   obtain⟨σ3,H3,I3,n3⟩:=q3
   obtain⟨m',hm,w3⟩:=hN σ3 H3 n3
   exact⟨m',hm,σ3,H3,I3,w3⟩
  | cont =>
   obtain⟨σ3,H3,I3,n3⟩:=q3
   obtain⟨m',hm,w3⟩:=hN σ3 H3 n3
   exact⟨m',hm,σ3,H3,I3,w3⟩
  | brk=>exact q3
  | ret v=>exact q3
 | false =>
  rw[if_neg Bool.false_ne_true]
  exact wpAny_execs_nil ⟨σ1,H2,I2,q2⟩
end
structure It where
 go:Nat→Hp→Prop
 yld:Nat→Hp→V→Hp→Prop
 stop:Nat→Hp→Prop
def FpOk (X:Cx)(pins:List (Addr × Obj))(H:Hp)(b:Addr):Prop :=
 H b=none∧b≠X.env.locals∧b∉X.fs∧(b∈X.ex∨X.s₀.heap.objs.size≤b)∧(∀ x c,X.env.cells.lookup x=some c→c≠b)∧∀ p∈X.pn++pins,p.1≠b
theorem Inv.fpOk {X:Cx}{pins:List (Addr × Obj)}{σ:St}{H H':Hp}{s:Shared}{b:Addr}(I:Inv X pins σ H s)(hb:s.heap.objs.size≤b)(hn:H' b=none):FpOk X pins H' b:=by
 refine⟨hn,Nat.ne_of_gt (Nat.lt_of_lt_of_le I.lt hb),I.nofs hb,.inr (Nat.le_trans I.sz hb),fun x c e z=>?_,fun p hp z=>?_⟩
 ·obtain⟨v,q⟩:=I.cell x c e
  exact absurd (Nat.lt_of_lt_of_le q.lt (by rw[z];exact hb)) (Nat.lt_irrefl _)
 ·exact absurd (Nat.lt_of_lt_of_le (Heap.lt_size (I.pin p hp).1) (by rw[z];exact hb)) (Nat.lt_irrefl _)
structure Turn (P:Program)(w:World)(K:Frag)(tg:Expr)(J:It)(fp:List Addr)(it:Addr)(tn:Nat→Heap→Prop):Prop where
 mem:it∈fp
 obj:∀ i h,tn i h→∀ b∈fp,∃ o,h.get? b=some o∧∀ v,o.data≠.cell v
 keep:∀ i h h',tn i h→(∀ b∈fp,∀ o,h.get? b=some o→h'.get? b=some o)→tn i h'
 item:∀ (X:Cx),X.prog=P→X.w=w→X.K=K→X.calm=true→∀ (i:Nat) (pins:List (Addr × Obj)) (s:Shared) (σ:St) (H:Hp) (E:Value→Shared→Prop),Inv X pins σ H s→(∀ b∈fp,FpOk X pins H b)→tn i s.heap→J.go i H →
  wpAny (model P w) X.A (pyNext (.ref it)) (fun r s1=>∃ u,r=some u ∧
   wpAny (model P w) X.A (letOwnedTupleGo tg (.ref it) u) (fun _ s2=>∃ x H',Inv X pins σ H' s2∧RelV x u∧J.yld i H x H'∧tn (i+1) s2.heap∧∀ b∈fp,H' b=none) E s1) E s
 done:∀ (X:Cx),X.prog=P→X.w=w→X.K=K→X.calm=true→∀ (i:Nat) (pins:List (Addr × Obj)) (s:Shared) (σ:St) (H:Hp) (E:Value→Shared→Prop),Inv X pins σ H s→(∀ b∈fp,FpOk X pins H b)→tn i s.heap→J.stop i H →
  wpAny (model P w) X.A (pyNext (.ref it)) (fun r s1=>r=none∧Inv X pins σ H s1) E s
 self:∀ (A:Around) (i:Nat) (s:Shared) (Q:Value→Shared→Prop) (E:Value→Shared→Prop),tn i s.heap→Q (.ref it) s→wpAny (model P w) A (pyIter (.ref it)) Q E s
abbrev TI:=St→Hp→(It→Hp→Prop)→Prop
def se (X:Cx)(pins:List (Addr × Obj))(σ:St)(tg:Expr)(R:It→Hp→Prop)(itv:Value)(s2:Shared):Prop :=
 ∃ (it:Addr) (fp:List Addr) (tn:Nat→Heap→Prop) (J:It) (H':Hp),itv=.ref it∧Inv X pins σ H' s2∧Turn X.prog X.w X.K tg J fp it tn∧tn 0 s2.heap∧(∀ b∈fp,FpOk X pins H' b)∧R J H'
def PI (X:Cx)(tg iter:Expr)(wi:TI):Prop :=
 ∀ (pins:List (Addr × Obj)) (s:Shared) (σ:St) (H:Hp) (R:It→Hp→Prop),Inv X pins σ H s→wi σ H R →
  wpAny (model X.prog X.w) X.A (eval iter X.env) (fun v s1=>wpAny (model X.prog X.w) X.A (pyIter v) (se X pins σ tg R) X.xe s1) X.xe s
theorem mv {M:Model}{A:Around}{E:Value→Shared→Prop}{s:Shared}{tg:Expr}{it:Addr}{u:Value}{o:Obj}{n:String}{vs:Array Value}{Q:Unit→Shared→Prop}(ho:s.heap.get? it=some o)(hc:o.cls=.type n)(hd:o.data=.fields vs)
  (hn:["enumerate","zip","dict_itemiterator","dict_reverseitemiterator","odict_iterator","itertools.zip_longest","itertools.pairwise"].contains n=false) (hQ:Q () s):wpAny M A (letOwnedTupleGo tg (.ref it) u) Q E s:=by
 unfold letOwnedTupleGo
 cases tg <;> first
  | exact wpAny_pure hQ
  | (cases u <;> first
    | exact wpAny_pure hQ
    | (refine wpAny_bind (wpAny_load ho ?_)
       rw [hc, hd]
       show wpAny M A (if (["enumerate", "zip", "dict_itemiterator", "dict_reverseitemiterator", "odict_iterator", "itertools.zip_longest", "itertools.pairwise"].contains n && vs[0]? == some (rawInt _)) = true then _ else _) Q E s
       rw [if_neg (by intro h; rw [hn, Bool.false_and] at h; cases h)]
       exact wpAny_pure hQ))
def mY (K:Frag)(a:Addr):It :=
 ⟨fun i H=>∃ xs x,SqL K H a xs∧xs[i]?=some x,fun i H x H'=>H'=H∧∀ xs,SqL K H a xs→xs[i]?=some x,fun i H=>∃ xs,SqL K H a xs∧xs.length≤i⟩
def mm (K:Frag)(a:Addr):It :=
 ⟨fun i H=>∃ xs x,SqT K H a xs∧xs[i]?=some x,fun i H x H'=>H'=H∧∀ xs,SqT K H a xs→xs[i]?=some x,fun i H=>∃ xs,SqT K H a xs∧xs.length≤i⟩
def jH (lo:Int)(n:Nat):It:=⟨fun i _=>i<n,fun i H x H'=>H'=H∧x=.int (lo+i),fun i _=>n≤i⟩
theorem vv {P:Program}{w:World}{K:Frag}{tg:Expr}(a it:Addr):Turn P w K tg (mY K a) [it] it (fun i h=>h.IsListIter it a i) where
 mem:=by simp
 obj:=fun i h st b hb=>by
  have e:b=it:=by simpa using hb
  subst e
  obtain⟨o,e,c,d⟩:=st
  exact⟨o,e,fun v z=>by rw[d] at z;cases z⟩
 keep:=fun i h h' st k=>st.at fun o e=>k it (by simp) o e
 item:=by
  intro X hP hw hK hc i pins s σ H E I hf st hg
  subst hP hw hK
  obtain⟨xs,x,hq,hx⟩:=hg
  obtain⟨its,rv,p,hz⟩:=I.list hq
  obtain⟨u,hu,ru⟩:=rv.get hx
  obtain⟨f0,f1,f2,f3,f4,f5⟩:=hf it (by simp)
  refine wpAny_pyNext_list_item st p.isList (x:=u) (by simpa using hu) fun h' st' sb=>?_
  have I1:Inv X pins σ H { s with heap:=h' }:=I.turned (t':=s.toks) (fun b o hb e=>(sb.2 b hb).trans e) f0 f1 f3 f4 f5
  obtain⟨o,e,c,d⟩:=id st'
  exact⟨u,rfl,mv (s:={ s with heap:=h' }) e c d (by decide) ⟨x,H,I1,ru,⟨rfl,fun ys hy=>by rw[I.list_inj hy hq];exact hx⟩,st',fun b hb=>(hf b hb).1⟩⟩
 done:=by
  intro X hP hw hK hc i pins s σ H E I hf st hg
  subst hP hw hK
  obtain⟨xs,hq,hx⟩:=hg
  obtain⟨its,rv,p,hz⟩:=I.list hq
  obtain⟨f0,f1,f2,f3,f4,f5⟩:=hf it (by simp)
  have hl:=rv.length
  exact wpAny_pyNext_list_end (I.ok.hd hc) st p.isList (by simp;omega) fun h' eb=>⟨rfl,I.turned (t':=s.toks) (fun b o hb e=>eb b o hb e) f0 f1 f3 f4 f5⟩
 self:=fun _ _ _ _ _ st h=>wpAny_pyIter_listiter st h
theorem Bn {P:Program}{w:World}{K:Frag}{tg:Expr}(a it:Addr):Turn P w K tg (mm K a) [it] it (fun i h=>h.IsTupleIter it a i) where
 mem:=by simp
 obj:=fun i h st b hb=>by
  have e:b=it:=by simpa using hb
  subst e
  obtain⟨o,e,c,d⟩:=st
  exact⟨o,e,fun v z=>by rw[d] at z;cases z⟩
 keep:=fun i h h' st k=>st.at fun o e=>k it (by simp) o e
 item:=by
  intro X hP hw hK hc i pins s σ H E I hf st hg
  subst hP hw hK
  obtain⟨xs,x,hq,hx⟩:=hg
  obtain⟨its,rv,p,hz⟩:=I.tuple hq
  obtain⟨u,hu,ru⟩:=rv.get hx
  obtain⟨f0,f1,f2,f3,f4,f5⟩:=hf it (by simp)
  refine wpAny_pyNext_tuple_item st (show s.heap.IsTuple a its.toArray from p) (x:=u) (by simpa using hu) fun h' st' sb=>?_
  have I1:Inv X pins σ H { s with heap:=h' }:=I.turned (t':=s.toks) (fun b o hb e=>(sb.2 b hb).trans e) f0 f1 f3 f4 f5
  obtain⟨o,e,c,d⟩:=id st'
  exact⟨u,rfl,mv (s:={ s with heap:=h' }) e c d (by decide) ⟨x,H,I1,ru,⟨rfl,fun ys hy=>by rw[I.tuple_inj hy hq];exact hx⟩,st',fun b hb=>(hf b hb).1⟩⟩
 done:=by
  intro X hP hw hK hc i pins s σ H E I hf st hg
  subst hP hw hK
  obtain⟨xs,hq,hx⟩:=hg
  obtain⟨its,rv,p,hz⟩:=I.tuple hq
  obtain⟨f0,f1,f2,f3,f4,f5⟩:=hf it (by simp)
  have hl:=rv.length
  exact wpAny_pyNext_tuple_end (I.ok.hd hc) st (show s.heap.IsTuple a its.toArray from p) (by simp;omega) fun h' eb=>⟨rfl,I.turned (t':=s.toks) (fun b o hb e=>eb b o hb e) f0 f1 f3 f4 f5⟩
 self:=fun _ _ _ _ _ st h=>wpAny_pyIter_tupleiter st h
theorem BX {P:Program}{w:World}{K:Frag}{tg:Expr}(it:Addr)(lo:Int)(n:Nat):Turn P w K tg (jH lo n) [it] it (fun i h=>IsRangeIter h it (lo+(i:Nat)*1) ((n:Int) - (i:Nat)) 1) where
 mem:=by simp
 obj:=fun i h st b hb=>by
  have e:b=it:=by simpa using hb
  subst e
  exact⟨_,st,fun v z=>by
   have z':Data.fields _=Data.cell v:=z
   cases z'⟩
 keep:=fun i h h' st k=>k it (by simp) _ st
 item:=by
  intro X hP hw hK hc i pins s σ H E I hf st hg
  subst hP hw hK
  obtain⟨f0,f1,f2,f3,f4,f5⟩:=hf it (by simp)
  have W:=Walks.range (prog:=X.prog) (w:=X.w) (I.ok.hd hc) it lo 1 n
  refine W.item i s _ _ hg st fun v h' tk hv st' kk=>?_
  obtain⟨t,rfl⟩:=hv
  have I1:Inv X pins σ H { s with heap:=h',toks:=tk }:=I.turned (fun b o hb e=>kk b o (by simpa using hb) e) f0 f1 f3 f4 f5
  refine⟨_,rfl,mv (s:={ s with heap:=h',toks:=tk }) (n:="range_iterator") st' rfl rfl (by decide) ⟨.int (lo+i),H,I1,⟨t,?_⟩,⟨rfl,rfl⟩,st',fun b hb=>(hf b hb).1⟩⟩
  rw[Int.mul_one]
 done:=by
  intro X hP hw hK hc i pins s σ H E I hf st hg
  subst hP hw hK
  obtain⟨f0,f1,f2,f3,f4,f5⟩:=hf it (by simp)
  exact wpAny_pyNext_range_end (I.ok.hd hc) st (by have:n≤i:=hg;omega) fun h' eb=>⟨rfl,I.turned (t':=s.toks) (fun b o hb e=>eb b o hb e) f0 f1 f3 f4 f5⟩
 self:=fun _ _ _ _ _ st h=>wpAny_pyIter_rangeiter st h
section
variable {X:Cx}{tg:Expr}
theorem r9 {pins:List (Addr × Obj)}{σ:St}{H:Hp}{s:Shared}{R:It→Hp→Prop}{E:Value→Shared→Prop}{lo hi:Int}{t u v:Tok}{tk:Nat}(I:Inv X pins σ H s)(h1:-(2 ^ 62)≤lo)(h2:lo<2 ^ 62)(h3:-(2 ^ 62)≤hi)(h4:hi<2 ^ 62)
  (q:R (jH lo (hi - lo).toNat) H):wpAny (model X.prog X.w) X.A (pyIter (.ref s.heap.objs.size)) (se X pins σ tg R) E { s with heap:=s.heap.push { cls:=.type "range",data:=.fields #[.int lo t,.int hi u,.int 1 v] },toks:=tk }:=by
 refine wpAny_pyIter_range (IsRange.new ..) (small_one h1 h2 h3 h4) ?_
 have I1:Inv X pins σ H { s with heap:=s.heap.push { cls:=.type "range",data:=.fields #[.int lo t,.int hi u,.int 1 v] },toks:=tk }:=I.kept fun b o e=>Heap.get?_push_of_some _ e
 refine⟨(s.heap.push { cls:=.type "range",data:=.fields #[.int lo t,.int hi u,.int 1 v] }).objs.size,[(s.heap.push { cls:=.type "range",data:=.fields #[.int lo t,.int hi u,.int 1 v] }).objs.size],_,_,H,rfl,
  I1.kept (t':=tk) fun b o e=>Heap.get?_push_of_some _ e,BX _ lo (hi - lo).toNat,?_,fun b hb=>?_,q⟩
 ·have e1:lo+((0:Nat):Int)*1=lo:=by simp
  have e2:(((hi - lo).toNat:Nat):Int) - ((0:Nat):Int)=Builtin.Range.rangeSize lo hi 1:=by rw[rangeSize_one];split <;> omega
  show IsRangeIter _ _ (lo+((0:Nat):Int)*1) ((((hi - lo).toNat:Nat):Int) - ((0:Nat):Int)) 1
  rw[e1,e2]
  exact Heap.get?_push_size _ rfl
 ·have e:b=(s.heap.push { cls:=.type "range",data:=.fields #[.int lo t,.int hi u,.int 1 v] }).objs.size:=by simpa using hb
  subst e
  exact I1.fpOk (Nat.le_refl _) (I1.hok.fresh (Nat.le_refl _))
def wR (ta:TA):TI:=fun σ H R=>ta σ H fun vs H1=>∃ j:Int,vs=[.int j]∧-(2 ^ 62)≤j∧j<2 ^ 62∧R (jH 0 j.toNat) H1
def C6 (ta:TA):TI:=fun σ H R=>ta σ H fun vs H1=>∃ i j:Int,vs=[.int i,.int j]∧(-(2 ^ 62)≤i∧i<2 ^ 62∧-(2 ^ 62)≤j∧j<2 ^ 62)∧R (jH i (j - i).toNat) H1
theorem wC {a:Expr}{ta:TA}{p pos:Pos}(hg:Gl X "range")(hm:X.mg "range"=none)(ha:PA X [a] ta)(hs:starEach [a] X.env=[(false,eval a X.env)]:=by rfl):PI X tg (.Call (.Name "range" p) [a] [] pos) (wR ta):=by
 intro pins s σ H R I h
 refine Call_ (gC I hg hm boot_range (PyProof.Rows.callWith_type1 (aT (ha pos pins s σ H _ I h) fun us s1 hq0=>?_) hs rfl))
 obtain⟨vs,H1,I1,r1,q1⟩:=hq0
 obtain⟨j,e,q1,q2,q⟩:=q1
 subst e
 cases r1 with
 | cons r rr =>
  cases rr
  obtain⟨t,rfl⟩:=r
  exact call_range_1 (r9 I1 (by omega) (by omega) q1 q2 (by simpa using q))
theorem BN {a b:Expr}{ta:TA}{p pos:Pos}(hg:Gl X "range")(hm:X.mg "range"=none)(ha:PA X [a,b] ta)(hs:starEach [a,b] X.env=[(false,eval a X.env),(false,eval b X.env)]:=by rfl)(hs2:starEach [b] X.env=[(false,eval b X.env)]:=by rfl) :
  PI X tg (.Call (.Name "range" p) [a,b] [] pos) (C6 ta):=by
 intro pins s σ H R I h
 refine Call_ (gC I hg hm boot_range (PyProof.Rows.callWith_type1 (aT (ha pos pins s σ H _ I h) fun us s1 ⟨vs,H1,I1,r1,q1⟩=>?_) (by rw[hs,hs2]) (by rw[hs2];rfl)))
 obtain⟨i,j,e,⟨q1,q2,q3,q4⟩,q⟩:=q1
 subst e
 cases r1 with
 | cons r rr =>
  cases rr with
  | cons r' rr =>
   cases rr
   obtain⟨t,rfl⟩:=r
   obtain⟨t',rfl⟩:=r'
   exact call_range_2 (r9 I1 q1 q2 q3 q4 q)
def Ak (wi:TI)(g:TG)(tb:TS):TS:=fun D σ H=>wi σ H fun J H1=>∃ W:Nat→Nat→St→Hp→Prop,(∃ m,W 0 m σ H1)∧∀ i m σ H,W i m σ H →
 (J.stop i H∧D.nx σ H)∨(J.go i H∧∃ N:St→Hp→Prop,(∀ σ' H',N σ' H'→∃ m',m'<m∧W (i+1) m' σ' H')∧∀ x H',J.yld i H x H'→g x σ H' fun σ2 H2=>tb { D with nx:=N,ct:=N,bk:=D.nx } σ2 H2)
def jx (fp:List Addr)(h:Heap):List (Addr × Obj):=fp.filterMap fun b=>(h.get? b).map fun o=>(b,o)
theorem jZ {fp:List Addr}{h:Heap}{b:Addr}{o:Obj}(hb:b∈fp)(e:h.get? b=some o):(b,o)∈jx fp h:=List.mem_filterMap.mpr ⟨b,hb,by rw[e];rfl⟩
theorem wZ {fp:List Addr}{h:Heap}{p:Addr × Obj}(hp:p∈jx fp h):p.1∈fp∧h.get? p.1=some p.2:=by
 obtain⟨b,hb,e⟩:=List.mem_filterMap.mp hp
 cases q:h.get? b with
 | none=>rw[q] at e;cases e
 | some o =>
  rw[q] at e
  have e':(b,o)=p:=Option.some.inj e
  subst e'
  exact⟨hb,q⟩
theorem Inv.pinned {pins:List (Addr × Obj)}{σ:St}{H:Hp}{s:Shared}{fp:List Addr}(I:Inv X pins σ H s)(hf:∀ b∈fp,FpOk X pins H b)(ho:∀ b∈fp,∃ o,s.heap.get? b=some o∧∀ v,o.data≠.cell v):Inv X (pins++jx fp s.heap) σ H s :=
 I.pins_of fun p hp=>(List.mem_append.mp hp).elim (fun z=>I.pin p (List.mem_append_right _ z)) fun z=>by
  obtain⟨hb,e⟩:=wZ z
  obtain⟨f0,f1,f2,_⟩:=hf p.1 hb
  obtain⟨o,e',d⟩:=ho p.1 hb
  rw[e] at e';cases e'
  exact⟨e,f0,f1,f2,d⟩
theorem Inv.unpinned {pins pl:List (Addr × Obj)}{σ:St}{H:Hp}{s:Shared}(I:Inv X (pins++pl) σ H s):Inv X pins σ H s:=I.pins_of fun p hp=>I.pin p (List.mem_append_right _ (List.mem_append_left _ hp))
theorem vW {iter:Expr}{body:List Stmt}{wi:TI}{g:TG}{tb:TS}{pos:Pos}(hp:PassesOwn (model X.prog X.w) X.A X.env X.xe)(hc:X.calm=true)(hi:PI X tg iter wi)(hg:PG X tg g)(hb:PSs X body tb)
  (hs:∀ x,foldedSetIterable iter X.env x=pure x:=by intro _;rfl):PS X (.For tg iter body [] pos) (Ak wi g tb):=by
 intro pins s σ H D I h
 refine wpAny_For (aT (hi pins s σ H _ I h) fun v s1 h1=>aT h1 fun itv s2 h2=>?_) hs
 obtain⟨it,fp,tn,J,H2,e,I2,T,st2,f2,W,⟨m0,w0⟩,turn⟩:=h2
 subst e
 have stat:∀ {H':Hp},(∀ b∈fp,H' b=none)→∀ b∈fp,FpOk X pins H' b:=fun hn b hb=>⟨hn b hb,(f2 b hb).2⟩
 refine codeAny_forLoop_any (fun n s'=>∃ i σ' H',Inv X pins σ' H' s'∧tn i s'.heap∧(∀ b∈fp,H' b=none)∧W i n σ' H') ?_ m0 ⟨0,σ,H2,I2,st2,fun b hb=>(f2 b hb).1,w0⟩
 rintro n s3 ⟨i,σ3,H3,I3,st3,fr3,w3⟩
 rcases turn i n σ3 H3 w3 with⟨stop,qn⟩ | ⟨go,N,hN,step⟩
 ·refine wpAny_passesOwn hp (aT (T.done X rfl rfl rfl hc i pins s3 σ3 H3 X.xe I3 (stat fr3) st3 stop) fun r s4 hq0=>?_)
  obtain⟨hr,I4⟩:=hq0
  subst hr
  exact wpAny_execs_nil ⟨σ3,H3,I4,qn⟩
 ·refine wpAny_passesOwn hp (aT (T.item X rfl rfl rfl hc i pins s3 σ3 H3 X.xe I3 (stat fr3) st3 go) fun r s4 hq1=>?_)
  obtain⟨u,hr,h4⟩:=hq1
  subst hr
  refine wpAny_passesOwn hp (aT h4 fun _ s5 hq2=>?_)
  obtain⟨x,H5,I5,r5,y5,st5,fr5⟩:=hq2
  have I5':=I5.pinned (stat fr5) (T.obj _ _ st5)
  refine wpAny_passesOwn hp (aT (hg _ s5 σ3 H5 x u _ I5' r5 (step x H5 y5)) fun _ s6 hq3=>?_)
  obtain⟨σ6,H6,I6,q6⟩:=hq3
  refine wpAny_passesOwn hp (aT (hb _ s6 σ6 H6 _ I6 q6) fun f s7 q7=>?_)
  have again:∀ {σ7:St} {H7:Hp},Inv X (pins++jx fp s5.heap) σ7 H7 s7→N σ7 H7→∃ m,m<n∧∃ i σ' H',Inv X pins σ' H' s7∧tn i s7.heap∧(∀ b∈fp,H' b=none)∧W i m σ' H':=fun {σ7 H7} I7 n7=>by
   obtain⟨m',hm,w7⟩:=hN σ7 H7 n7
   refine⟨m',hm,i+1,σ7,H7,I7.unpinned,T.keep _ _ _ st5 fun b hb o e=>(I7.pin (b,o) (List.mem_append_right _ (List.mem_append_right _ (jZ hb e)))).1,fun b hb=>?_,w7⟩
   obtain⟨o,e,d⟩:=T.obj _ _ st5 b hb
   exact (I7.pin (b,o) (List.mem_append_right _ (List.mem_append_right _ (jZ hb e)))).2.1
  cases f with
  | next=>obtain⟨σ7,H7,I7,n7⟩:=q7;exact again I7 n7
  | cont=>obtain⟨σ7,H7,I7,n7⟩:=q7;exact again I7 n7
  | brk=>obtain⟨σ7,H7,I7,q7⟩:=q7;exact⟨σ7,H7,I7.unpinned,q7⟩
  | ret v=>obtain⟨x7,σ7,H7,I7,r7,q7⟩:=q7;exact⟨x7,σ7,H7,I7.unpinned,r7,q7⟩
end
abbrev R2:=V→V→Hp→VK→Prop
def bN (X:Cx)(f:Value→Value→Sem Value)(r:R2):Prop :=
 ∀ (pins:List (Addr × Obj)) (s:Shared) (σ:St) (H:Hp) (x y:V) (v u:Value) (Q:VK),Inv X pins σ H s→RelV x v→RelV y u→r x y H Q →
  wpAny (model X.prog X.w) X.A (f v u) (EP X pins σ Q) X.xe s
def my (X:Cx)(f:Value→Sem Value)(r:V→Hp→VK→Prop):Prop :=
 ∀ (pins:List (Addr × Obj)) (s:Shared) (σ:St) (H:Hp) (x:V) (v:Value) (Q:VK),Inv X pins σ H s→RelV x v→r x H Q →
  wpAny (model X.prog X.w) X.A (f v) (EP X pins σ Q) X.xe s
def dX (X:Cx)(f:Value)(r:List V→Hp→VK→Prop):Prop :=
 ∀ (pins:List (Addr × Obj)) (s:Shared) (σ:St) (H:Hp) (xs:List V) (us:List Value) (Q:VK),Inv X pins σ H s→Vals xs us→r xs H Q →
  wpAny (model X.prog X.w) X.A (call f us) (EP X pins σ Q) X.xe s
def BY (X:Cx)(r:V→Hp→(Bool→Hp→Prop)→Prop):Prop :=
 ∀ (pins:List (Addr × Obj)) (s:Shared) (σ:St) (H:Hp) (x:V) (v:Value) (Q:Bool→Hp→Prop),Inv X pins σ H s→RelV x v→r x H Q →
  wpAny (model X.prog X.w) X.A (truthy v) (TP X pins σ Q) X.xe s
def iO (r:R2)(ta tb:TE):TE:=fun σ H Q=>ta σ H fun x H1=>tb σ H1 fun y H2=>r x y H2 Q
def yp (r:V→Hp→VK→Prop)(ta:TE):TE:=fun σ H Q=>ta σ H fun x H1=>r x H1 Q
def rI (C:Int→Int→Prop)(g:Int→Int→V):R2:=fun x y H Q=>∃ i j,x=.int i∧y=.int j∧C i j∧Q (g i j) H
def fj (g:Int→Int→V):R2:=fun x y H Q=>∃ i j,x=.int i∧y=.int j∧Q (g i j) H
def rU (g:Int→V):V→Hp→VK→Prop:=fun x H Q=>∃ i,x=.int i∧Q (g i) H
section
variable {X:Cx}{a b c:Expr}{ta tb tc:TE}{pos:Pos}
theorem nQ (ha:PE X a ta)(hb:PE X b tb){pins:List (Addr × Obj)}{s:Shared}{σ:St}{H:Hp}{R:V→V→Hp→Prop}(I:Inv X pins σ H s)
  (h:ta σ H fun x H1=>tb σ H1 fun y H2=>R x y H2) {Q:Value→Shared→Prop} {f:Value→Value→Sem Value}
  (hf:∀ v u s2 x y H2,Inv X pins σ H2 s2→RelV x v→RelV y u→R x y H2→wpAny (model X.prog X.w) X.A (f v u) Q X.xe s2) :
  wpAny (model X.prog X.w) X.A (eval a X.env) (fun v s₁=>wpAny (model X.prog X.w) X.A (eval b X.env) (fun u s₂=>wpAny (model X.prog X.w) X.A (f v u) Q X.xe s₂) X.xe s₁) X.xe s:=by
 refine aT (ha pins s σ H _ I h) fun v s1 hq0=>?_
 obtain⟨x,H1,I1,r1,q1⟩:=hq0
 refine aT (hb pins s1 σ H1 _ I1 q1) fun u s2 hq1=>?_
 obtain⟨y,H2,I2,r2,q2⟩:=hq1
 exact hf v u s2 x y H2 I2 r1 r2 q2
theorem uh {op:Operator}{r:R2}(ho:bN X (binaryOp op) r)(ha:PE X a ta)(hb:PE X b tb):PE X (.BinOp a op b pos) (iO r ta tb):=by
 intro pins s σ H Q I h
 exact wpAny_BinOp (nQ ha hb I h fun v u s2 x y H2 I2 rx ry q=>ho pins s2 σ H2 x y v u Q I2 rx ry q)
theorem Ae {op:UnaryOp}{r:V→Hp→VK→Prop}(ho:my X (unaryOp op) r)(ha:PE X a ta):PE X (.UnaryOp op a pos) (yp r ta):=by
 intro pins s σ H Q I h
 exact UnaryOp_ (aT (ha pins s σ H _ I h) fun v s1 hq0=>by obtain⟨x,H1,I1,r1,q1⟩:=hq0;exact ho pins s1 σ H1 x v Q I1 r1 q1)
theorem lq {f:Value→Value→Sem Value}{C:Int→Int→Prop}{g:Int→Int→Int}
  (rule:∀ (i j:Int) (t u:Tok) (s:Shared) (Q:Value→Shared→Prop) (E:Value→Shared→Prop),C i j→Q (.int (g i j) s.toks) { s with toks:=s.toks+1 }→wpAny (model X.prog X.w) X.A (f (.int i t) (.int j u)) Q E s) :
  bN X f (rI C fun i j=>.int (g i j)):=by
 intro pins s σ H x y v u Q I rx ry h
 obtain⟨i,j,rfl,rfl,hc,q⟩:=h
 obtain⟨t,rfl⟩:=rx
 obtain⟨t',rfl⟩:=ry
 exact rule i j t t' s _ _ hc ⟨.int (g i j),H,I.tok _,⟨_,rfl⟩,q⟩
theorem qv {f:Value→Value→Sem Value}{g:Int→Int→Int}
  (rule:∀ (i j:Int) (t u:Tok) (s:Shared) (Q:Value→Shared→Prop) (E:Value→Shared→Prop),Q (.int (g i j) s.toks) { s with toks:=s.toks+1 }→wpAny (model X.prog X.w) X.A (f (.int i t) (.int j u)) Q E s) :
  bN X f (fj fun i j=>.int (g i j)):=by
 intro pins s σ H x y v u Q I rx ry h
 obtain⟨i,j,rfl,rfl,q⟩:=h
 obtain⟨t,rfl⟩:=rx
 obtain⟨t',rfl⟩:=ry
 exact rule i j t t' s _ _ ⟨.int (g i j),H,I.tok _,⟨_,rfl⟩,q⟩
theorem lu {f:Value→Value→Sem Value}{g:Int→Int→Bool}
  (rule:∀ (i j:Int) (t u:Tok) (s:Shared) (Q:Value→Shared→Prop) (E:Value→Shared→Prop),Q (.bool (g i j)) s→wpAny (model X.prog X.w) X.A (f (.int i t) (.int j u)) Q E s) :
  bN X f (fj fun i j=>.bl (g i j)):=by
 intro pins s σ H x y v u Q I rx ry h
 obtain⟨i,j,rfl,rfl,q⟩:=h
 obtain⟨t,rfl⟩:=rx
 obtain⟨t',rfl⟩:=ry
 exact rule i j t t' s _ _ ⟨.bl (g i j),H,I,rfl,q⟩
def ph (i j:Int):Prop:=0≤j∧j≤1000000∧i.natAbs<2 ^ 64
theorem yH:bN X (binaryOp .Add) (fj fun i j=>.int (i+j)):=qv fun _ _ _ _ _ _ _ q=>add_int q
theorem AA:bN X (binaryOp .Sub) (fj fun i j=>.int (i - j)):=qv fun _ _ _ _ _ _ _ q=>sub_int q
theorem zc:bN X (binaryOp .Mod) (rI (fun _ j=>0<j) fun i j=>.int (i % j)):=lq fun i j _ _ _ _ _ hc q=>by
 have h1:(0:Int)<j:=hc
 exact mod_int' (by omega) (by rw[Int.fmod_eq_emod_of_nonneg i (by omega)];exact q)
theorem yX:bN X (binaryOp .Pow) (rI ph fun i j=>.int (i ^ j.toNat)):=lq fun _ _ _ _ _ _ _ hc q=>pow_int_small hc.1 hc.2.1 hc.2.2 q
theorem BP {f:Value→Sem Value}{g:Int→Int}
  (rule:∀ (i:Int) (t:Tok) (s:Shared) (Q:Value→Shared→Prop) (E:Value→Shared→Prop),Q (.int (g i) s.toks) { s with toks:=s.toks+1 }→wpAny (model X.prog X.w) X.A (f (.int i t)) Q E s) :
  my X f (rU fun i=>.int (g i)):=by
 intro pins s σ H x v Q I rx h
 obtain⟨i,rfl,q⟩:=h
 obtain⟨t,rfl⟩:=rx
 exact rule i t s _ _ ⟨.int (g i),H,I.tok _,⟨_,rfl⟩,q⟩
theorem Bp:my X (unaryOp .USub) (rU fun i=>.int (-i)):=BP fun _ _ _ _ _ q=>neg_int q
end
section
variable {X:Cx}{a b c:Expr}{ta tb tc:TE}{pos:Pos}
theorem lz {pins:List (Addr × Obj)}{σ:St}{H:Hp}{s:Shared}{Q:VK}{k k':Bool}(I:Inv X pins σ H s)(q:Q (.bl k) H)(e:k=k'):EP X pins σ Q (.bool k') s:=by
 subst e
 exact⟨.bl k,H,I,rfl,q⟩
theorem vV:bN X (compareOp .Lt) (fj fun i j=>.bl (decide (i<j))):=lu fun _ _ _ _ _ _ _ q=>lt_int q
theorem vH:bN X (compareOp .LtE) (fj fun i j=>.bl (decide (i≤j))):=lu fun _ _ _ _ _ _ _ q=>le_int q
theorem vD:bN X (compareOp .Gt) (fj fun i j=>.bl (decide (j<i))):=lu fun _ _ _ _ _ _ _ q=>gt_int q
theorem Al:bN X (compareOp .GtE) (fj fun i j=>.bl (decide (j≤i))):=lu fun _ _ _ _ _ _ _ q=>ge_int q
theorem uG:bN X (compareOp .Is) (fun x y H Q=>y=.non∧Q (.bl (decide (x=.non))) H):=by
 intro pins s σ H x y v u Q I rx ry h
 obtain⟨rfl,q⟩:=h
 cases ry
 refine is_none_gen (lz I q ?_)
 cases x <;> first
  | (cases rx;rfl)
  | (obtain⟨t,rfl⟩:=rx;rfl)
theorem Ay:bN X (compareOp .IsNot) (fun x y H Q=>y=.non∧Q (.bl (!decide (x=.non))) H):=by
 intro pins s σ H x y v u Q I rx ry h
 obtain⟨rfl,q⟩:=h
 cases ry
 refine isnot_none_gen (lz I q ?_)
 cases x <;> first
  | (cases rx;rfl)
  | (obtain⟨t,rfl⟩:=rx;rfl)
theorem aO (b:Expr){op:CmpOp}(h:op≠.In:=by decide)(h2:op≠.NotIn:=by decide):behindInMarks op b=false:=by
 have e1:(op == CmpOp.In)=false:=by cases op <;> first | rfl | exact absurd rfl h
 have e2:(op == CmpOp.NotIn)=false:=by cases op <;> first | rfl | exact absurd rfl h2
 cases b <;> simp [behindInMarks,e1,e2]
theorem wB {op:CmpOp}{r:R2}(ho:bN X (compareOp op) r)(ha:PE X a ta)(hb:PE X b tb)(hm:behindInMarks op b=false):PE X (.Compare a [op] [b] pos) (iO r ta tb):=by
 intro pins s σ H Q I h
 exact wpAny_Compare1 (nQ ha hb I h fun v u s2 x y H2 I2 rx ry q=>ho pins s2 σ H2 x y v u Q I2 rx ry q) hm
def qV (t:TE):TT:=fun σ H Q=>t σ H fun x H'=>∃ k,x=.bl k∧Q k H'
theorem wu {op:CmpOp}{r:R2}(ho:bN X (compareOp op) r)(ha:PE X a ta)(hb:PE X b tb)(hm:behindInMarks op b=false):PT X (.Compare a [op] [b] pos) (qV (iO r ta tb)):=by
 intro pins s σ H Q I h
 refine wpAny_isTrue_Compare1 (aT (ha pins s σ H _ I h) fun v s1 ⟨x,H1,I1,r1,q1⟩=>aT (hb pins s1 σ H1 _ I1 q1) fun u s2 ⟨y,H2,I2,r2,q2⟩ =>
  aT (ho pins s2 σ H2 x y v u _ I2 r1 r2 q2) fun c s3 ⟨z,H3,I3,r3,k,e,q3⟩=>?_) hm
 subst e
 cases r3
 exact wpAny_truthy_bool ⟨H3,I3,q3⟩
def nZ (K:Frag)(x:V)(H:Hp)(k:Bool):Prop :=
 match x with
 | .non=>k=false
 | .bl b=>k=b
 | .int i=>k=(i != 0)
 | .str y=>y.length≤sizeLine∧k=((y.length:Int) != 0)
 | .byt y=>y.size≤sizeLine∧k=((y.size:Int) != 0)
 | .ref p=>(∃ xs,SqL K H p xs∧k=!xs.isEmpty)∨(∃ xs,SqT K H p xs∧k=!xs.isEmpty)∨∃ kvs,H p=some (.dK kvs)∧k=!kvs.isEmpty
 | _=>False
theorem vU {κ:Type}{kvs:List (κ × V)}{vs:List (κ × Value)}(r:KV kvs vs):(!vs.isEmpty)=!kvs.isEmpty:=by
 cases r <;> rfl
theorem tP {xs:List V}{its:List Value}(r:Vals xs its):(!its.toArray.isEmpty)=!xs.isEmpty:=by
 cases r <;> simp
theorem iu:(sizeLine:Nat)<2 ^ 63:=by rw[sizeLine_eq];decide
theorem zA:BY X (fun x H Q=>∃ k,nZ X.K x H k∧Q k H):=by
 intro pins s σ H x v Q I rx h
 obtain⟨k,e,q⟩:=h
 have hl:=iu
 have hs:sizeLine=16777216:=sizeLine_eq
 cases x with
 | non =>
  cases rx
  have e':k=false:=e
  subst e'
  exact truthy_none ⟨H,I,q⟩
 | bl b =>
  cases rx
  have e':k=b:=e
  subst e'
  exact wpAny_truthy_bool ⟨H,I,q⟩
 | int i =>
  obtain⟨t,rfl⟩:=rx
  have e':k=(i != 0):=e
  subst e'
  exact PySem.P.truthy_int ⟨H,I,q⟩
 | str y =>
  obtain⟨t,rfl⟩:=rx
  obtain⟨hy,e'⟩:y.length≤sizeLine∧k=((y.length:Int) != 0):=e
  subst e'
  exact PySem.P.truthy_str (by omega) ⟨H,I.tok _,q⟩
 | byt y =>
  obtain⟨t,rfl⟩:=rx
  obtain⟨hy,e'⟩:y.size≤sizeLine∧k=((y.size:Int) != 0):=e
  subst e'
  exact PySem.W.truthy_bytes (by omega) ⟨H,I.tok _,q⟩
 | ref p =>
  cases rx
  have e':(∃ xs,SqL X.K H p xs∧k=!xs.isEmpty)∨(∃ xs,SqT X.K H p xs∧k=!xs.isEmpty)∨∃ kvs,H p=some (.dK kvs)∧k=!kvs.isEmpty:=e
  rcases e' with⟨xs,hx,e'⟩ | ⟨xs,hx,e'⟩ | ⟨kvs,hx,e'⟩
  ·subst e'
   obtain⟨its,r,pl,hz⟩:=I.list hx
   have hlen:=r.length
   exact wpAny_truthy_list pl.isList (by simp only [List.size_toArray];omega) ⟨H,I.tok _,by rw[tP r];exact q⟩
  ·subst e'
   obtain⟨its,r,pl,hz⟩:=I.tuple hx
   have hlen:=r.length
   exact truthy_tuple pl (by simp only [List.size_toArray];omega) ⟨H,I.tok _,by rw[tP r];exact q⟩
  ·subst e'
   obtain⟨hz,hS,vs,r,m⟩:kvs.length≤sizeLine∧(p == sysModules)=false∧∃ vs,KV kvs vs∧s.heap.DictOf (md X.prog X.w) p vs:=I.hok p _ hx
   have hlen:kvs.length=vs.length:=Paired.length r
   exact wpAny_truthy_dict hS m (by omega) ⟨H,I.tok _,by rw[vU r];exact q⟩
 | _=>exact (show False from e).elim
theorem zG (ha:PE X a ta)(he:∀ whole,isTrue a X.env whole=(do let v ← whole;standAt a.pos;holding [v] (truthy v))) :
  PT X a (fun σ H Q=>ta σ H fun x H'=>∃ k,nZ X.K x H' k∧Q k H'):=by
 intro pins s σ H Q I h
 exact isTrue_plain (aT (ha pins s σ H _ I h) fun v s1 hq0=>by obtain⟨x,H1,I1,r1,q1⟩:=hq0;exact zA pins s1 σ H1 x v Q I1 r1 q1) (he _)
theorem xv:bN X (binaryOp .Add) (fun x y H Q=>∃ i j,x=.str i∧y=.str j∧i.length+j.length≤sizeLine∧Q (.str (i++j)) H):=by
 intro pins s σ H x y v u Q I rx ry h
 obtain⟨i,j,rfl,rfl,hz,q⟩:=h
 obtain⟨t,rfl⟩:=rx
 obtain⟨t',rfl⟩:=ry
 exact add_str (fun t' tk=>⟨.str (i++j),H,I.tok _,⟨_,rfl⟩,q⟩) hz
theorem gz {x:V}{us:List Value}(r:Vals [x] us):∃ u,us=[u]∧RelV x u:=by
 cases r with
 | cons r1 r2=>cases r2;exact⟨_,rfl,r1⟩
theorem oW {x y:V}{us:List Value}(r:Vals [x,y] us):∃ u w',us=[u,w']∧RelV x u∧RelV y w':=by
 cases r with
 | cons r1 r2 =>
  cases r2 with
  | cons r3 r4=>cases r4;exact⟨_,_,rfl,r1,r3⟩
theorem Dn:dX X (.builtin "abs") (fun xs H Q=>∃ i,xs=[.int i]∧Q (.int (if i<0 then -i else i)) H):=by
 intro pins s σ H xs us Q I r h
 obtain⟨i,rfl,q⟩:=h
 obtain⟨u,rfl,t,rfl⟩:=gz r
 exact call_abs_int fun u tk=>⟨.int (if i<0 then -i else i),H,I.tok _,⟨_,rfl⟩,q⟩
theorem yU (hc:X.calm=true):dX X (.builtin "max") (fun xs H Q=>∃ i j,xs=[.int i,.int j]∧Q (.int (if j>i then j else i)) H):=by
 intro pins s σ H xs us Q I r h
 obtain⟨i,j,rfl,q⟩:=h
 obtain⟨u,w',rfl,⟨t,rfl⟩,⟨t',rfl⟩⟩:=oW r
 refine max_two_ints (I.ok.hd hc) fun h' tk k=>⟨_,H,I.kept k,?_,q⟩
 by_cases hj:j>i
 ·rw[if_pos hj,if_pos hj];exact⟨_,rfl⟩
 ·rw[if_neg hj,if_neg hj];exact⟨_,rfl⟩
theorem uW (hc:X.calm=true):dX X (.builtin "min") (fun xs H Q=>∃ i j,xs=[.int i,.int j]∧Q (.int (if j<i then j else i)) H):=by
 intro pins s σ H xs us Q I r h
 obtain⟨i,j,rfl,q⟩:=h
 obtain⟨u,w',rfl,⟨t,rfl⟩,⟨t',rfl⟩⟩:=oW r
 refine min_two_ints (I.ok.hd hc) fun h' tk k=>⟨_,H,I.kept k,?_,q⟩
 by_cases hj:j<i
 ·rw[if_pos hj,if_pos hj];exact⟨_,rfl⟩
 ·rw[if_neg hj,if_neg hj];exact⟨_,rfl⟩
theorem rY:dX X (.type "int") (fun xs H Q=>(∃ i,xs=[.int i]∧Q (.int i) H)∨∃ k,xs=[.bl k]∧Q (.int (if k then 1 else 0)) H):=by
 intro pins s σ H xs us Q I r h
 rcases h with⟨i,rfl,q⟩ | ⟨k,rfl,q⟩
 ·obtain⟨u,rfl,t,rfl⟩:=gz r
  exact call_int_int ⟨.int i,H,I,⟨_,rfl⟩,q⟩
 ·obtain⟨u,rfl,r1⟩:=gz r
  cases r1
  exact call_int_bool ⟨.int (if k then 1 else 0),H,I.tok _,⟨_,rfl⟩,q⟩
end
structure ObjM (h:Heap)(x dx C:Addr)(mA:Str→Option Value):Prop where
 obj:h.get? x=some (instObj C dx)
 ns:h.Ns1 dx mA
 ne:dx≠x
theorem Ag {h:Heap}{dx:Addr}{mA:Str→Option Value}(n:h.Ns1 dx mA):∃ od,h.get? dx=some od∧∀ name,lookIn name od=some (mA name):=by
 obtain⟨o,es,ep,ho,hd,hk,_,hm⟩:=n
 refine⟨o,ho,fun name=>?_⟩
 have e:=hm name
 unfold nsFind findBy at e
 rw[← Array.find?_toList] at e
 unfold lookIn
 rw[hd]
 dsimp only
 split
 ·rename_i y q
  rw[q] at e
  exact congrArg some e
 ·rename_i q
  rw[q] at e
  have a:es.toList.any (·.refKey)=false:=by
   rw[List.any_eq_false]
   intro y hy
   obtain⟨z,t,hkey⟩:=hk y (Array.mem_toList_iff.mp hy)
   simp [DictEntry.refKey,hkey]
  have a':¬ es.toList.any (·.refKey)=true:=by rw[a];exact Bool.false_ne_true
  rw[if_neg a']
  exact congrArg some e
theorem ObjM.look {h:Heap}{x dx C:Addr}{mA:Str→Option Value}(I:ObjM h x dx C mA):∃ od,InstAt h x (instObj C dx) C (some od)∧∀ name,lookIn name od=some (mA name) :=
 let ⟨od,ho,hl⟩:=Ag I.ns
 ⟨od,⟨I.obj,rfl,rfl,ho⟩,hl⟩
section
variable {prog:Program}{w:World}{A:Around}{E:Value→Shared→Prop}{s:Shared}{K:Frag}{x dx C f:Addr}{mA:Str→Option Value}{name:Str}{v:Value}
theorem xt {expr:Bool}{Q:Value→Shared→Prop}(X:K.In s.heap)(I:ObjM s.heap x dx C mA)(hg:plainGet K C name=true)(hh:hasDictIn K C=true)
  (ha:findIn K (.ref C) name=some none) (hv:mA name=some v) (hv':handedIn v=true) (h:Q v { s with toks:=s.toks+1 }) :
  wpAny (model prog w) A (getAttr (.ref x) name expr) Q E s:=by
 obtain⟨od,J,hl⟩:=I.look
 exact PySem.W.get_value X J (PySem.W.plainGet_of hg).1 (PySem.W.findObj_own hh ha rfl (by rw[hl,hv])) hv' h
theorem zt {ns:List Str}{Q:Unit→Shared→Prop}(X:K.In s.heap)(I:ObjM s.heap x dx C mA)
  (hs:findIn K (.ref C) "__setattr__"=some (some (.builtin "object.__setattr__"))) (hp:plainOver K C=true) (ht:takerIn K C name=some none) (hh:hasDictIn K C=true)
  (hw:PySem.Within mA ns) (hsz:ns.length≤sizeLine)
  (h:∀ h',ObjM h' x dx C (fun y=>if y=name then some v else mA y)→Heap.SameBut dx s.heap h'→Q () { s with heap:=h',toks:=s.toks+2 }) :
  wpAny (model prog w) A (setAttr (.ref x) name v) Q E s:=by
 obtain⟨od,J,hl⟩:=I.look
 refine PySem.W.set_plain X J hs (PySem.W.osa_open (s:={ s with toks:=s.toks+1 }) (r:=none) X J hp ht fun b=>?_)
 obtain⟨cd,hc,hd'⟩:=PySem.W.any_some hh
 have hx:s.heap.get? x=some ⟨.ref C,some dx,.plain,#[]⟩:=I.obj
 refine wpAny_bind (wpAny_pure (wpAny_bind (wpAny_bind (wpAny_loadPart hx (wpAny_bind (PySem.W.Looks.here (s:={ s with toks:=s.toks+1 }) (PySem.W.looks_clsIn X hc) ?_))))))
 rw[hd']
 refine wpAny_pure (a:=some dx) (wpAny_bind (wpAny_pure (wpAny_bind ?_)))
 refine wpAny_nsSet1 (s:={ s with toks:=s.toks+1 }) I.ns fun h' hn2 hs2=>?_
 obtain⟨oD,esD,epD,hoD,hdD,hcD⟩:=hn2.count (PySem.Within.cons name v hw)
 refine wpAny_bind (wpAny_lookBehind hoD (by rw[hdD];exact pastItsLine_dict (Nat.le_trans hcD (by rw[List.length_cons];omega))) ?_)
 exact wpAny_pure (h _ ⟨(hs2.2 _ (Ne.symm I.ne)).trans I.obj,hn2,I.ne⟩ hs2)
theorem AU {R:Result→Shared→Prop}{vs:List Value}{kw:List (Str × Value)}(X:K.In s.heap)(hm:makesIn K C=true)
  (hi:findIn K (.ref C) "__init__"=some (some (.ref f))) (hf:typeIn K (.ref f)=some (.type "function"))
  (h:codeAny (model prog w) (A.under (.builtin "type.__call__" ⟨.ref C::vs,kw⟩)) (.call (.ref f) ⟨.ref (s.heap.objs.size+1)::vs,kw⟩) (PySem.W.InitBack (s.heap.objs.size+1) R)
   { s with heap:=(s.heap.push emptyDict).push (instObj C s.heap.objs.size) }) :
  codeAny (model prog w) A (.call (.ref C) ⟨vs,kw⟩) R s:=by
 obtain⟨hh,g,d,t,os⟩:=s
 exact PySem.W.make_core (PySem.W.makes_of X hm) (PySem.W.looks_findIn X hi) (fun self=>PySem.W.bind_fn X self hf) (.inl rfl) h
end
def cP (f:Str)(v:V):List (Str × V)→List (Str × V)
 | []=>[(f,v)]
 | (g,x)::r=>if g=f then (g,v)::r else (g,x)::cP f v r
theorem sJ (f g:Str)(v:V):∀ fs:List (Str × V),(cP f v fs).lookup g=if g=f then some v else fs.lookup g
 | []=>by
  show List.lookup g [(f,v)]=_
  by_cases h:g=f
  ·have hb:(g == f)=true:=beq_iff_eq.mpr h
   simp only [List.lookup,hb,if_pos h]
  ·have hb:(g == f)=false:=beq_eq_false_iff_ne.mpr h
   simp only [List.lookup,hb,if_neg h]
 | (k,x)::r=>by
  have ih:=sJ f g v r
  rw[show cP f v ((k,x)::r)=(if k=f then (k,v)::r else (k,x)::cP f v r) from rfl]
  by_cases hk:k=f
  ·rw[if_pos hk]
   by_cases h:g=k
   ·have hb:(g == k)=true:=beq_iff_eq.mpr h
    simp only [List.lookup,hb,if_pos (h.trans hk)]
   ·have hb:(g == k)=false:=beq_eq_false_iff_ne.mpr h
    simp only [List.lookup,hb,if_neg (fun e:g=f=>h (e.trans hk.symm))]
  ·rw[if_neg hk]
   by_cases h:g=k
   ·have hb:(g == k)=true:=beq_iff_eq.mpr h
    simp only [List.lookup,hb,if_neg (fun e:g=f=>hk (h.symm.trans e))]
   ·have hb:(g == k)=false:=beq_eq_false_iff_ne.mpr h
    simp only [List.lookup,hb]
    exact ih
theorem nN (f:Str)(v:V):∀ fs:List (Str × V),f∈(cP f v fs).map (·.1)∧∀ g,g∈fs.map (·.1)→g∈(cP f v fs).map (·.1)
 | []=>⟨by simp [cP],fun g h=>by simp at h⟩
 | (k,x)::r=>by
  obtain⟨i1,i2⟩:=nN f v r
  rw[show cP f v ((k,x)::r)=(if k=f then (k,v)::r else (k,x)::cP f v r) from rfl]
  by_cases hk:k=f
  ·rw[if_pos hk]
   subst hk
   exact⟨by simp,fun g h=>by simpa using h⟩
  ·rw[if_neg hk]
   refine⟨?_,fun g h=>?_⟩
   ·rw[List.map_cons]
    exact List.mem_cons_of_mem _ i1
   ·rw[List.map_cons] at h ⊢
    rcases List.mem_cons.mp h with e | e
    ·exact List.mem_cons.mpr (.inl e)
    ·exact List.mem_cons_of_mem _ (i2 g e)
theorem rg (f:Str)(v:V):∀ fs:List (Str × V),(cP f v fs).length≤fs.length+1
 | []=>by simp [cP]
 | (k,x)::r=>by
  have ih:=rg f v r
  rw[show cP f v ((k,x)::r)=(if k=f then (k,v)::r else (k,x)::cP f v r) from rfl]
  by_cases hk:k=f
  ·rw[if_pos hk,List.length_cons,List.length_cons];omega
  ·rw[if_neg hk,List.length_cons,List.length_cons];omega
theorem RelO.some_of {v:V}{o:Option Value}(r:RelO (some v) o):∃ u,o=some u∧RelV v u:=by
 cases o with
 | none=>exact (show False from r).elim
 | some u=>exact⟨u,rfl,r⟩
theorem vh {v:V}{u:Value}(r:RelV v u):handedIn u=true:=by
 cases v with
 | non=>cases (show u=Value.none from r);rfl
 | bl b=>cases (show u=Value.bool b from r);rfl
 | int i=>obtain⟨t,e⟩:=(show ∃ t,u=Value.int i t from r);cases e;rfl
 | str x=>obtain⟨t,e⟩:=(show ∃ t,u=Value.str x t from r);cases e;rfl
 | byt b=>obtain⟨t,e⟩:=(show ∃ t,u=Value.bytes b t from r);cases e;rfl
 | flt b=>obtain⟨t,e⟩:=(show ∃ t,u=Value.float b t from r);cases e;rfl
 | ref a=>cases (show u=Value.ref a from r);rfl
 | ty n=>cases (show u=Value.type n from r);rfl
section
variable {P:Program}{w:World}{H H':Hp}{h h':Heap}{a C dx:Addr}{fs fs':List (Str × V)}
theorem oU (hok:HOk P w H h)(e:H a=some (.ins C dx fs)):∃ mA,ObjM h a dx C mA∧(∀ f,RelO (fs.lookup f) (mA f))∧PySem.Within mA (fs.map (·.1))∧fs.length≤1000∧H dx=some (.own a):=by
 obtain⟨d,z,ne,ob,mA,n,r,q⟩:=(show ObjOk P w H h a (.ins C dx fs) from hok a _ e)
 exact⟨mA,⟨ob,n,ne⟩,r,q,z,d⟩
end
structure Cls (K:Frag)(C:Addr):Prop where
 pg:plainGet K C Str.empty=true
 hd:hasDictIn K C=true
 po:plainOver K C=true
 sa:findIn K (.ref C) "__setattr__"=some (some (.builtin "object.__setattr__"))
theorem Cls.get {K:Frag}{C:Addr}(c:Cls K C)(f:Str):plainGet K C f=true:=c.pg
def NoAttr (K:Frag)(C:Addr)(f:Str):Prop:=findIn K (.ref C) f=some none
theorem NoAttr.taker {K:Frag}{C:Addr}{f:Str}(n:NoAttr K C f):takerIn K C f=some none:=by
 unfold takerIn
 rw[show findIn K (.ref C) f=some none from n]
 rfl
section
variable {X:Cx}{pins:List (Addr × Obj)}{σ:St}{H:Hp}{s:Shared}{a C dx:Addr}{fs:List (Str × V)}{f:Str}{v:V}{A:Around}{E:Value→Shared→Prop}
theorem u0 {b:Bool}{Q:Value→Shared→Prop}(I:Inv X pins σ H s)(e:H a=some (.ins C dx fs))(c:Cls X.K C)(n:NoAttr X.K C f)(l:fs.lookup f=some v)
  (h:∀ u s',Inv X pins σ H s'→RelV v u→Q u s'):wpAny (model X.prog X.w) A (getAttr (.ref a) f b) Q E s:=by
 obtain⟨mA,O,r,_,_,_⟩:=oU I.hok e
 obtain⟨u,hu,ru⟩:=RelO.some_of (v:=v) (o:=mA f) (by rw[← l];exact r f)
 exact xt I.kIn O (c.get f) c.hd n hu (vh ru) (h u _ (I.tok _) ru)
theorem xa {y:V}{u:Value}{Q:Unit→Shared→Prop}(I:Inv X pins σ H s)(e:H a=some (.ins C dx fs))(c:Cls X.K C)(n:NoAttr X.K C f)(hl:fs.length<1000)(ry:RelV y u)
  (h:∀ s',Inv X pins σ (aJ H a (.ins C dx (cP f y fs))) s'→Q () s'):wpAny (model X.prog X.w) A (setAttr (.ref a) f u) Q E s:=by
 obtain⟨mA,O,r,wi,_,ho⟩:=oU I.hok e
 have hz:(fs.map (·.1)).length≤sizeLine:=by rw[List.length_map,sizeLine_eq];omega
 refine zt I.kIn O c.sa c.po n.taker c.hd wi hz fun h' O' sb=>h _ ?_
 have hd:∃ o,h'.get? dx=some o:=let ⟨o,_,_,e',_⟩:=O'.ns;⟨o,e'⟩
 refine I.write (x:=a) (e:=dx) (by rw[e];exact True.intro) (.inr ho) (fun b q hb z=>(sb.2 b hb).trans z) hd ?_
 refine⟨by rw[ba O.ne];exact ho,?_,O.ne,O'.obj,_,O'.ns,fun g=>?_,fun g hg=>?_⟩
 ·have:=rg f y fs;omega
 ·show RelO ((cP f y fs).lookup g) (if g=f then some u else mA g)
  rw[sJ]
  by_cases q:g=f
  ·rw[if_pos q,if_pos q];exact ry
  ·rw[if_neg q,if_neg q];exact r g
 ·by_cases q:g=f
  ·rw[q];exact (nN f y fs).1
  ·refine (nN f y fs).2 g (wi g fun z=>hg ?_)
   show (if g=f then some u else mA g)=none
   rw[if_neg q];exact z
theorem Inv.made (I:Inv X pins σ H s):Inv X pins σ (aJ (aJ H s.heap.objs.size (.own (s.heap.objs.size+1))) (s.heap.objs.size+1) (.ins C s.heap.objs.size []))
  { s with heap:=(s.heap.push emptyDict).push (instObj C s.heap.objs.size) }:=by
 have e1:(s.heap.push emptyDict).get? s.heap.objs.size=some emptyDict:=Heap.get?_push_size s.heap rfl
 have e2:((s.heap.push emptyDict).push (instObj C s.heap.objs.size)).get? (s.heap.objs.size+1)=some (instObj C s.heap.objs.size):=by
  have:=Heap.get?_push_size (s.heap.push emptyDict) (o:=instObj C s.heap.objs.size) rfl
  rwa [Heap.size_push] at this
 have e3:(s.heap.push emptyDict).Ns s.heap.objs.size (fun _=>none):=⟨emptyDict,#[],_,e1,rfl,(fun e he=>absurd he (by simp)),fun _=>rfl⟩
 have I1:=I.laid (a:=s.heap.objs.size) (o:=.own (s.heap.objs.size+1)) (h':=s.heap.push emptyDict) (t':=s.toks) (fun b u q=>Heap.get?_push_of_some _ q) (Nat.le_refl _) ⟨_,e1⟩
 refine I1.laid (a:=s.heap.objs.size+1) (o:=.ins C s.heap.objs.size []) (t':=s.toks) (fun b u q=>Heap.get?_push_of_some _ q) (Nat.le_of_eq (Heap.size_push _ _)) ?_
 have ne:s.heap.objs.size≠s.heap.objs.size+1:=Nat.ne_of_lt (Nat.lt_succ_self _)
 refine⟨by rw[ba ne,bw],Nat.zero_le _,ne,e2,fun _=>none,(Heap.Ns1.of_empty e3).at fun o q=>Heap.get?_push_of_some _ q,fun _=>True.intro,fun y hy=>absurd rfl hy⟩
theorem Cn {prog:Program}{w:World}{env:Env}{e:Expr}{f:Str}{pos:Pos}{s:Shared}{Q:Value→Shared→Prop}(hb:attributeBase e f env (eval e env)=eval e env)
  (h:wpAny (model prog w) A (eval e env) (fun o s₁=>wpAny (model prog w) A (getAttr o f true) Q E s₁) E s):wpAny (model prog w) A (eval (.Attribute e f pos) env) Q E s :=
 Attribute_any_ h (by rw[arm_eval_Attribute,hb])
end
def pN (K:Frag)(ta:TE)(f:Str):TE:=fun σ H Q=>ta σ H fun x H1=>∃ a C dx fs v,x=.ref a∧H1 a=some (.ins C dx fs)∧Cls K C∧NoAttr K C f∧fs.lookup f=some v∧Q v H1
def vY (K:Frag)(ta tv:TE)(f:Str):TS:=fun D σ H=>tv σ H fun y H1=>ta σ H1 fun x H2=>∃ a C dx fs,x=.ref a∧H2 a=some (.ins C dx fs)∧Cls K C∧NoAttr K C f∧fs.length<1000 ∧
 D.nx σ (aJ H2 a (.ins C dx (cP f y fs)))
section
variable {X:Cx}{o e value:Expr}{f:Str}{pos pos' tpos:Pos}{ta tv:TE}
theorem wg (he:PE X e ta)(hb:attributeBase e f X.env (eval e X.env)=eval e X.env):PE X (.Attribute e f pos) (pN X.K ta f):=by
 intro pins s σ H Q I h
 refine Cn hb (aT (he pins s σ H _ I h) fun u s1 hq0=>?_)
 obtain⟨x,H1,I1,rx,a,C,dx,fs,v,ex,ea,c,n,l,q⟩:=hq0
 subst ex
 obtain rfl:u=Value.ref a:=rx
 exact u0 I1 ea c n l fun u' s2 I2 ru=>⟨v,H1,I2,ru,q⟩
theorem kH (ha:PE X o ta)(hv:PE X value tv)(hs:swapsWith value (some (.Attribute o f pos')) pos.line X.env=pure false):PS X (.Assign [.Attribute o f pos'] value pos) (vY X.K ta tv f):=by
 intro pins s σ H D I h
 refine plainObj_wpAny_Assign_Attribute (aT (hv pins s σ H _ I h) fun u s1 ⟨y,H1,I1,ry,q⟩=>aT (ha pins s1 σ H1 _ I1 q) fun ov s2 ⟨x,H2,I2,rx,a,C,dx,fs,ex,ea,c,n,l,q2⟩=>?_) hs
 subst ex
 obtain rfl:ov=Value.ref a:=rx
 exact xa I2 ea c n l ry fun s3 I3=>⟨σ,_,I3,q2⟩
end
section
variable {X:Cx}{pins:List (Addr × Obj)}{σ:St}{H:Hp}{s:Shared}{A:Around}{E:Value→Shared→Prop}{Q:Value→Shared→Prop}{c:Value}{b:Bool}
inductive TyOf (K:Frag) (H:Hp):V→Value→Prop where
 | non:TyOf K H .non (.type "NoneType")
 | bl (x:Bool):TyOf K H (.bl x) (.type "bool")
 | int (i:Int):TyOf K H (.int i) (.type "int")
 | str (x:Str):TyOf K H (.str x) (.type "str")
 | flt (x:UInt64):TyOf K H (.flt x) (.type "float")
 | lst {a:Addr} {xs:List V} (e:H a=some (.lst xs)):TyOf K H (.ref a) (.type "list")
 | frz {a:Addr} {o:Obj} {xs:List V} (e:H a=some (.frz o (.lst xs))):TyOf K H (.ref a) (.type "list")
 | tup {a:Addr} {xs:List V} (e:H a=some (.tup xs)):TyOf K H (.ref a) (.type "tuple")
 | dK {a:Addr} {kvs:List (cM × V)} (e:H a=some (.dK kvs)):TyOf K H (.ref a) (.type "dict")
 | dT {a:Addr} {kvs:List (List cM × V)} (e:H a=some (.dT kvs)):TyOf K H (.ref a) (.type "dict")
 | ins {a C dx:Addr} {fs:List (Str × V)} (e:H a=some (.ins C dx fs)) (cl:Cls K C) (ha:findIn K (.ref C) "__class__"=some (some (.builtin "object.__class__")))
   (hn:PySem.W.specialIn K (.builtin "object.__class__") "__get__"=some (some (.builtin "getset_descriptor.__get__"))) (htk:PySem.W.takesIn K (.builtin "object.__class__")=some true)
   (hm:mroIn K C (.type "object")=some true):TyOf K H (.ref a) (.ref C)
end
structure Room (k:Nat)(A:Around):Prop where
 hd:A.handled=none
 dp:A.depth+3*k+5<recursionLimit
 un:A.units+16*k+200<cLine
theorem Room.mono {j k:Nat}{A:Around}(r:Room k A)(h:j≤k):Room j A:=⟨r.hd,by have:=r.dp;omega,by have:=r.un;omega⟩
theorem Room.deeper {k:Nat}{A:Around}(r:Room (k+1) A)(env:Env):Room k (A.deeper env) :=
 ⟨r.hd,by have:=r.dp;show A.depth+1+3*k+5<_;omega,by have:=r.un;show A.units+3+16*k+200<_;omega⟩
theorem Bv {A:Around}{C:Addr}{us:List Value}{kw:List (Str × Value)}:(A.under (.builtin "type.__call__" ⟨.ref C::us,kw⟩)).depth=A.depth+1:=by
 first | rfl | simp [Around.under,Code.weight,Code.isCreation,Code.isGuard,Code.isCaller,Code.frames,Code.isFrame,guardIds]
theorem ya {A:Around}{C:Addr}{us:List Value}{kw:List (Str × Value)}:(A.under (.builtin "type.__call__" ⟨.ref C::us,kw⟩)).units=A.units+1:=by
 first | rfl | simp [Around.under,Code.cUnits,Code.frames,Code.isFrame]
theorem Room.make {k:Nat}{A:Around}(r:Room (k+1) A)(C:Addr)(us:List Value)(kw:List (Str × Value)):Room k (A.under (.builtin "type.__call__" ⟨.ref C::us,kw⟩)) :=
 ⟨r.hd,by have:=r.dp;rw[Bv];omega,by have:=r.un;rw[ya];omega⟩
theorem Room.depth {k:Nat}{A:Around}(r:Room k A):A.depth<recursionLimit:=by have:=r.dp;omega
theorem Room.units {k:Nat}{A:Around}(r:Room k A):A.units+64<cLine:=by have:=r.un;omega
def zJ:TA:=fun _ H Q=>Q [] H
def vZ (ta:TE)(tr:TA):TA:=fun σ H Q=>ta σ H fun x H1=>tr σ H1 fun xs H2=>Q (x::xs) H2
section
variable {X:Cx}{e:Expr}{es:List Expr}{te:TE}{t:TA}{pos:Pos}
theorem pa_nil:PA X [] zJ:=fun _ _ _ _ H Q I h=>Calls.spliced_nil ⟨[],H,I,.nil,h⟩
theorem ik (ha:PE X e te)(hr:PA X es t)(hs:starEach (e::es) X.env=(false,eval e X.env)::starEach es X.env:=by rfl):PA X (e::es) (vZ te t):=by
 intro pos pins s σ H Q I h
 rw[hs]
 show wpAny _ _ (spliced ((false,eval e X.env)::backTo pos (starEach es X.env))) _ _ s
 refine Calls.spliced_cons (aT (ha pins s σ H _ I h) fun u s1 hq0=>?_)
 obtain⟨x,H1,I1,r1,q1⟩:=hq0
 exact aT (hr pos pins s1 σ H1 _ I1 q1) fun us s2 hq1=>by obtain⟨xs,H2,I2,r2,q2⟩:=hq1;exact⟨x::xs,H2,I2,.cons r1 r2,q2⟩
def vi (t:TA):TE:=fun σ H Q=>t σ H fun xs H1=>xs.length≤sizeLine∧∀ p,H1 p=none→Q (.ref p) (aJ H1 p (.tup xs))
def Ax (t:TA):TE:=fun σ H Q=>t σ H fun xs H1=>xs.length≤sizeLine∧∀ p,H1 p=none→Q (.ref p) (aJ H1 p (.lst xs))
theorem xJ {x1}(h:PA X es t):PE X (.Tuple es x1 pos) (vi t):=by
 intro pins s σ H Q I hq
 refine wpAny_Tuple_spliced (aT (h pos pins s σ H _ I hq) fun us s1 ⟨xs,H1,I1,r,z,q⟩=>⟨by rw[← r.length];exact z,?_⟩)
 have hf:H1 s1.heap.objs.size=none:=I1.hok.fresh (Nat.le_refl _)
 refine⟨.ref s1.heap.objs.size,aJ H1 s1.heap.objs.size (.tup xs),I1.laid (t':=s1.toks) (fun b u e=>Heap.get?_push_of_some _ e) (Nat.le_refl _) ?_,rfl,q _ hf⟩
 exact⟨z,us,r,⟨_,Heap.get?_push_size _ rfl,rfl,_,rfl⟩⟩
theorem wW (h:PA X es t):PE X (.List es pos) (Ax t):=by
 intro pins s σ H Q I hq
 refine wpAny_List_spliced (aT (h pos pins s σ H _ I hq) fun us s1 ⟨xs,H1,I1,r,z,q⟩=>⟨by rw[← r.length];exact z,?_⟩)
 have hf:H1 s1.heap.objs.size=none:=I1.hok.fresh (Nat.le_refl _)
 refine⟨.ref s1.heap.objs.size,aJ H1 s1.heap.objs.size (.lst xs),I1.laid (t':=s1.toks) (fun b u e=>Heap.get?_push_of_some _ e) (Nat.le_refl _) ?_,rfl,q _ hf⟩
 exact⟨z,us,0,r,Heap.get?_push_size _ rfl⟩
end
abbrev Sp:=List V→Hp→VK→XK→Prop
abbrev dQ:=List Env→Hp→Shared→XK→Value→Shared→Prop
structure Env0 (P:Program)(w:World)(K:Frag)(mg:Str→Option Value)(base:Heap)(A:Around)(outer:List Env)(s:Shared)(H:Hp):Prop where
 frames:A.frames=some outer
 mod:Mod K mg base
 bs:∀ b o,base.get? b=some o→s.heap.get? b=some o∧H b=none
 bsz:base.objs.size≤s.heap.objs.size
 funs:s.heap.FunFrames base outer
 frf:∀ b∈eP outer,H b=none
 hok:HOk P w H s.heap
 bare:AllBare s.gens
def CE (outer:List Env)(P:Program)(w:World)(H:Hp)(s:Shared)(Q:VK)(u:Value)(s':Shared):Prop :=
 ∃ v H',s'.os=s.os∧AllBare s'.gens∧Un (eP outer) [] H H' s.heap s'.heap∧HOk P w H' s'.heap∧RelV v u∧Q v H'
def CR (CX:dQ)(outer:List Env)(P:Program)(w:World)(H:Hp)(s:Shared)(Q:VK)(E:XK)(r:Result)(s':Shared):Prop :=
 match r with
 | .ok (.ret u)=>CE outer P w H s Q u s'
 | .ok _=>False
 | .error e=>CX outer H s E e s'
structure FnOk (P:Program)(w:World)(K:Frag)(mg:Str→Option Value)(base:Heap)(CX:dQ)(k:Nat)(f:Addr)(fd:FuncData)(ps:List Str)(sp:Sp):Prop where
 len:∀ vs H Q E,sp vs H Q E→vs.length=ps.length
 run:∀ (A:Around) (outer:List Env) (s:Shared) (H:Hp) (args:Args) (us:List Value) (vs:List V) (Q:VK) (E:XK),Room k A→Env0 P w K mg base A outer s H→BindsTo s fd args (ps.zip us)→Vals vs us→sp vs H Q E →
  codeAny (model P w) A (.call (.ref f) args) (CR CX outer P w H s Q E) s
theorem FnOk.mono {P:Program}{w:World}{K:Frag}{mg:Str→Option Value}{base:Heap}{CX:dQ}{j k:Nat}{f:Addr}{fd:FuncData}{ps:List Str}{sp:Sp}(F:FnOk P w K mg base CX j f fd ps sp)(h:j≤k) :
  FnOk P w K mg base CX k f fd ps sp:=⟨F.len,fun A outer s H args us vs Q E hr=>F.run A outer s H args us vs Q E (hr.mono h)⟩
theorem FnOk.imp {P:Program}{w:World}{K:Frag}{mg:Str→Option Value}{base:Heap}{CX:dQ}{k:Nat}{f:Addr}{fd:FuncData}{ps:List Str}{sp sp':Sp}(F:FnOk P w K mg base CX k f fd ps sp)
  (h:∀ vs H Q E,sp' vs H Q E→sp vs H Q E):FnOk P w K mg base CX k f fd ps sp' :=
 ⟨fun vs H Q E q=>F.len vs H Q E (h _ _ _ _ q),fun A outer s H args us vs Q E hr he hb hv hs=>F.run A outer s H args us vs Q E hr he hb hv (h _ _ _ _ hs)⟩
theorem Env0.make {P:Program}{w:World}{K:Frag}{mg:Str→Option Value}{base:Heap}{A:Around}{outer:List Env}{s:Shared}{H:Hp}(e:Env0 P w K mg base A outer s H)(C:Addr)(us:List Value)(kw:List (Str × Value)) :
  Env0 P w K mg base (A.under (.builtin "type.__call__" ⟨.ref C::us,kw⟩)) outer s H:=⟨by first | exact e.frames | (simpa [Around.under,Code.envs,Code.isFrame,pushEnvs] using e.frames),e.mod,e.bs,e.bsz,e.funs,e.frf,e.hok,e.bare⟩
section
variable {X:Cx}{pins:List (Addr × Obj)}{σ:St}{H:Hp}{s s':Shared}
theorem Inv.env0 (I:Inv X pins σ H s):Env0 X.prog X.w X.K X.mg X.base X.A X.stack s H :=
 ⟨I.ok.frames,I.ok.mod,I.bs,Nat.le_trans I.ok.bsz I.sz,I.stack,I.stkFree,I.hok,I.bare⟩
theorem Inv.after {Q:VK}{u:Value}(I:Inv X pins σ H s)(h:CE X.stack X.prog X.w H s Q u s'):EP X pins σ Q u s':=by
 obtain⟨v,H',os,bare,un,hok,r,q⟩:=h
 obtain⟨hh,g,d,t,os'⟩:=s'
 obtain rfl:os'=s.os:=os
 exact⟨v,H',I.call (h':=hh) (g':=g) (d':=d) (t':=t) (ch:=[]) un hok bare (fun b z=>absurd z (by simp)),r,q⟩
end
def Cp (sp:Sp)(dvs:List V)(E:XK)(t:TA):TE:=fun σ H Q=>t σ H fun vs H1=>sp (vs++dvs) H1 Q E
def ze (C:Addr)(sp:Sp)(dvs:List V)(E:XK)(t:TA):TE:=fun σ H Q=>t σ H fun vs H1=>∀ x dx,H1 x=none→H1 dx=none→dx≠x →
 sp (.ref x::(vs++dvs)) (aJ (aJ H1 dx (.own x)) x (.ins C dx [])) (fun v H2=>v=.non∧Q (.ref x) H2) E
def Binds (K:Frag)(fd:FuncData)(ps:List Str)(ds:List Value):Prop :=
 ∀ (s:Shared) (us:List Value),K.In s.heap→(us++ds).length=ps.length→BindsTo s fd ⟨us,[]⟩ (ps.zip (us++ds))
theorem Binds.all {K:Frag}{fd:FuncData}{ps:List Str}(h:∀ us:List Value,us.length=ps.length→bindArgs fd ⟨us,[]⟩=pure (ps.zip us)):Binds K fd ps []:=fun s us _ hl=>by
 rw[List.append_nil] at hl ⊢
 exact .of_eq (h us hl)
def h8 (CX:dQ)(X:Cx)(E:XK):Prop:=∀ (pins:List (Addr × Obj)) (σ:St) (H:Hp) (s:Shared) (e:Value) (s':Shared),Inv X pins σ H s→CX X.stack H s E e s'→X.xe e s'
section
variable {X:Cx}{CX:dQ}{k:Nat}{f C:Addr}{fd:FuncData}{ps:List Str}{sp:Sp}{dvs:List V}{ds:List Value}{E:XK}{x m:Str}{p pos apos:Pos}{e o:Expr}{es:List Expr}{ta:TE}{t:TA}
theorem yY {pins:List (Addr × Obj)}{σ:St}{H:Hp}{s:Shared}{Q:VK}{us:List Value}{vs:List V}(F:FnOk X.prog X.w X.K X.mg X.base CX k f fd ps sp)(hr:Room k X.A)(hb:Binds X.K fd ps ds)(hd:Vals dvs ds)(hx:h8 CX X E)
  (I:Inv X pins σ H s) (r:Vals vs us) (h:sp (vs++dvs) H Q E):wpAny (model X.prog X.w) X.A (call (.ref f) us) (EP X pins σ Q) X.xe s:=by
 have r2:Vals (vs++dvs) (us++ds):=r.append hd
 have hl:(us++ds).length=ps.length:=by rw[← r2.length];exact F.len _ _ _ _ h
 refine wpAny_call (codeAny_mono (F.run X.A X.stack s H ⟨us,[]⟩ (us++ds) (vs++dvs) Q E hr I.env0 (hb s us I.kIn hl) r2 h) fun r s' hq=>?_)
 cases r with
 | error e=>exact hx pins σ H s e s' I hq
 | ok fl =>
  cases fl with
  | ret u=>exact I.after hq
  | next=>exact False.elim hq
  | brk=>exact False.elim hq
  | cont=>exact False.elim hq
theorem CL (F:FnOk X.prog X.w X.K X.mg X.base CX k f fd ps sp)(hr:Room k X.A)(hg:Gl X x)(hm:X.mg x=some (.ref f))(hk:keepIn X.K (.ref f)=true)(hb:Binds X.K fd ps ds)(hd:Vals dvs ds)(hx:h8 CX X E)
  (ha:PA X (e::es) t) (hdb:(x == ("__debug__":Str))=false:=by decide) (he:starEach (e::es) X.env=(false,eval e X.env)::starEach es X.env:=by rfl) (hpl:(backTo pos (starEach es X.env)).any (·.1)=false:=by rfl) :
  PE X (.Call (.Name x p) (e::es) [] pos) (Cp sp dvs E t):=by
 intro pins s σ H Q I h
 refine wpAny_Call_Name_kw (sT I hg hm ?_ hdb)
 refine callWith_K (h₀:=X.base) I.ok.mod.kin hk (aT (ha pos pins s σ H _ I h) fun us s1 ⟨vs,H1,I1,r,q⟩=>⟨I1.kIn,?_⟩) he hpl
 exact yY F hr hb hd hx I1 r q
structure Mk (K:Frag)(C f:Addr):Prop where
 makes:makesIn K C=true
 init:findIn K (.ref C) "__init__"=some (some (.ref f))
 fn:isFn K (.ref f)=true
 kp:keepIn K (.ref C)=true
theorem Av {pins:List (Addr × Obj)}{σ:St}{H:Hp}{s:Shared}{Q:VK}{us:List Value}{vs:List V}(M:Mk X.K C f)(F:FnOk X.prog X.w X.K X.mg X.base CX k f fd ps sp)(hr:Room (k+1) X.A)(hb:Binds X.K fd ps ds)(hd:Vals dvs ds)
  (hx:h8 CX X E) (I:Inv X pins σ H s) (r:Vals vs us)
  (h:∀ x dx,H x=none→H dx=none→dx≠x→sp (.ref x::(vs++dvs)) (aJ (aJ H dx (.own x)) x (.ins C dx [])) (fun v H2=>v=.non∧Q (.ref x) H2) E) :
  wpAny (model X.prog X.w) X.A (call (.ref C) us) (EP X pins σ Q) X.xe s:=by
 have hq:=h (s.heap.objs.size+1) s.heap.objs.size (I.hok.fresh (Nat.le_succ _)) (I.hok.fresh (Nat.le_refl _)) (Nat.ne_of_lt (Nat.lt_succ_self _))
 have I2:=Inv.made (C:=C) I
 have r2:Vals (V.ref (s.heap.objs.size+1)::(vs++dvs)) (Value.ref (s.heap.objs.size+1)::(us++ds)):=.cons rfl (r.append hd)
 have hl:(Value.ref (s.heap.objs.size+1)::us++ds).length=ps.length:=by
  have e:=r2.length
  rw[F.len _ _ _ _ hq] at e
  exact e.symm
 refine wpAny_call (AU (f:=f) I.kIn M.makes M.init (beq_iff_eq.mp M.fn) (codeAny_mono (F.run _ X.stack _ _ ⟨Value.ref (s.heap.objs.size+1)::us,[]⟩ (Value.ref (s.heap.objs.size+1)::(us++ds)) _ _ E (hr.make C us [])
  (I2.env0.make C us []) (hb _ (Value.ref (s.heap.objs.size+1)::us) I2.kIn hl) r2 hq) fun r s' hq'=>?_))
 cases r with
 | error e=>exact hx pins σ _ _ e s' I2 hq'
 | ok fl =>
  cases fl with
  | ret u =>
   obtain⟨v,H',I3,rv,ev,q3⟩:=I2.after hq'
   subst ev
   exact⟨rv,⟨V.ref (s.heap.objs.size+1),H',I3,rfl,q3⟩⟩
  | next=>exact False.elim hq'
  | brk=>exact False.elim hq'
  | cont=>exact False.elim hq'
theorem A8 (M:Mk X.K C f)(F:FnOk X.prog X.w X.K X.mg X.base CX k f fd ps sp)(hr:Room (k+1) X.A)(hg:Gl X x)(hm:X.mg x=some (.ref C))(hb:Binds X.K fd ps ds)(hd:Vals dvs ds)(hx:h8 CX X E)
  (ha:PA X (e::es) t) (hdb:(x == ("__debug__":Str))=false:=by decide) (he:starEach (e::es) X.env=(false,eval e X.env)::starEach es X.env:=by rfl) (hpl:(backTo pos (starEach es X.env)).any (·.1)=false:=by rfl) :
  PE X (.Call (.Name x p) (e::es) [] pos) (ze C sp dvs E t):=by
 intro pins s σ H Q I h
 refine wpAny_Call_Name_kw (sT I hg hm ?_ hdb)
 refine callWith_K (h₀:=X.base) I.ok.mod.kin M.kp (aT (ha pos pins s σ H _ I h) fun us s1 ⟨vs,H1,I1,r,q⟩=>⟨I1.kIn,?_⟩) he hpl
 exact Av M F hr hb hd hx I1 r q
end
section
variable {X:Cx}{CX:dQ}{k:Nat}{f C:Addr}{fd:FuncData}{ps ks:List Str}{sp:Sp}{E:XK}{x m:Str}{p pos apos kpos:Pos}{e o:Expr}{es:List Expr}{kws:List Keyword}{te ta:TE}{t tk:TA}{nm:Option Str}
variable {g:List Value→List Value→List Value}{gV:List V→List V→List V}
end
structure FnScope (N P:List Str)(sc:Scope):Prop where
 kind:sc.kind=.function
 co:sc.isCoroutine=false
 gen:sc.isGenerator=false
 nd:N.Nodup
 pre:N.take P.length=P
 par:∀ x∈P,sc.names.lookup x=some .local∨sc.names.lookup x=some .cell
 nofree:∀ y∈sc.names,y.2≠.free
theorem pK {kindOf:Str→Option NameKind}{x:Str}:∀ {binds:List (Str × Value)} {m:Str→Option Value},(∀ v,(x,v)∉binds)→bindL kindOf binds m x=m x
 | [],_,_=>rfl
 | (n,v)::r,m,h=>by
  unfold bindL
  rw[pK fun w hw=>h w (List.mem_cons_of_mem _ hw)]
  split
  ·have:x≠n:=by rintro rfl;exact h v List.mem_cons_self
   simp [this]
  ·rfl
theorem rZ {kindOf:Str→Option NameKind}{x:Str}:∀ {binds:List (Str × Value)} {m:Str→Option Value},(∀ v,(x,v)∉binds)→bindC kindOf binds m x=m x
 | [],_,_=>rfl
 | (n,v)::r,m,h=>by
  unfold bindC
  rw[rZ fun w hw=>h w (List.mem_cons_of_mem _ hw)]
  split
  ·rfl
  ·have:x≠n:=by rintro rfl;exact h v List.mem_cons_self
   simp [this]
theorem tE {kindOf:Str→Option NameKind}{x:Str}{v:Value}:∀ {P:List Str} {vs:List Value} {i:Nat} {m:Str→Option Value},P.Nodup→P[i]?=some x→vs[i]?=some v→kindOf x=some .local →
  bindL kindOf (P.zip vs) m x=some v
 | [],_,_,_,_,h,_,_=>by simp at h
 | _::_,[],_,_,_,_,h,_=>by simp at h
 | p::P,w::vs,0,m,nd,h1,h2,hk=>by
  simp at h1 h2;subst h1;subst h2
  show bindL kindOf ((p,w)::P.zip vs) m p=_
  unfold bindL
  rw[pK fun v hv=>(List.nodup_cons.mp nd).1 (List.of_mem_zip hv).1,if_pos hk]
  simp
 | p::P,w::vs,i+1,m,nd,h1,h2,hk=>by
  show bindL kindOf ((p,w)::P.zip vs) m x=_
  unfold bindL
  exact tE (i:=i) (List.nodup_cons.mp nd).2 (by simpa using h1) (by simpa using h2) hk
theorem qk {kindOf:Str→Option NameKind}{x:Str}{v:Value}:∀ {P:List Str} {vs:List Value} {i:Nat} {m:Str→Option Value},P.Nodup→P[i]?=some x→vs[i]?=some v→kindOf x≠some .local →
  bindC kindOf (P.zip vs) m x=some v
 | [],_,_,_,_,h,_,_=>by simp at h
 | _::_,[],_,_,_,_,h,_=>by simp at h
 | p::P,w::vs,0,m,nd,h1,h2,hk=>by
  simp at h1 h2;subst h1;subst h2
  show bindC kindOf ((p,w)::P.zip vs) m p=_
  unfold bindC
  rw[rZ fun v hv=>(List.nodup_cons.mp nd).1 (List.of_mem_zip hv).1,if_neg hk]
  simp
 | p::P,w::vs,i+1,m,nd,h1,h2,hk=>by
  show bindC kindOf ((p,w)::P.zip vs) m x=_
  unfold bindC
  exact qk (i:=i) (List.nodup_cons.mp nd).2 (by simpa using h1) (by simpa using h2) hk
def start (N:List Str)(vs:List V):St:=vs.map some++List.replicate (N.length - vs.length) none
def fH (CX:dQ)(P:Program)(w:World)(K:Frag)(mg:Str→Option Value)(base:Heap)(N:List Str)(qual:Str)(scope:Scope)(f:Addr)(cd:Value)(A:Around)(outer:List Env)(s:Shared)(H:Hp)(E:XK):Cx where
 prog:=P
 w:=w
 K:=K
 mg:=mg
 base:=base
 A:=A.deeper (envOfC qual scope s.heap.objs.size f cd)
 N:=N
 s₀:=s
 H₀:=H
 env:=envOfC qual scope s.heap.objs.size f cd
 outer:=outer
 stack:=envOfC qual scope s.heap.objs.size f cd::outer
 ex:=[]
 calm:=true
 fn:=fun _=>true
 pn:=[]
 xe:=fun e s'=>wpAny (model P w) (A.deeper (envOfC qual scope s.heap.objs.size f cd)) (leaving (envOfC qual scope s.heap.objs.size f cd) e) (fun _ s''=>CX outer H s E e s'') (fun e' s''=>CX outer H s E e' s'') s'
theorem tT {sc:Scope}{n:Nat}{x:Str}(h:sc.names.lookup x=some .cell):∃ c,(cellsFrom n sc.names []).lookup x=some c:=by
 have q:=cellsFrom_some sc.names n [] (.inl h)
 exact Option.isSome_iff_exists.mp q
theorem yZ {CX:dQ}{P:Program}{w:World}{K:Frag}{mg:Str→Option Value}{base:Heap}{N ps:List Str}{qual:Str}{scope:Scope}{f:Addr}{cd:Value}{A:Around}{outer:List Env}{s s1:Shared}{H:Hp}{E:XK}{us:List Value}{vs:List V}
  (S:FnScope N ps scope) (hd:A.handled=none) (e0:Env0 P w K mg base A outer s H) (hl:vs.length=ps.length) (r:Vals vs us)
  (x:InCallC s s.heap.objs.size (bindL (envOfC qual scope s.heap.objs.size f cd).kindOf (ps.zip us) fun _=>none) (cellsFrom (s.heap.objs.size+1) scope.names []) (bindC (envOfC qual scope s.heap.objs.size f cd).kindOf (ps.zip us) fun _=>none) s1) :
  Inv (fH CX P w K mg base N qual scope f cd A outer s H E) [] (start N vs) H s1:=by
 have hpl:ps.length≤N.length:=by have:=congrArg List.length S.pre;rw[List.length_take] at this;omega
 obtain⟨h1,tk,rfl,hk⟩:=x.done
 have noA:∀ b:Addr,b∉(fH CX P w K mg base N qual scope f cd A outer s H E).ex:=fun b z=>absurd (show b∈([]:List Addr) from z) (by simp)
 refine⟨⟨e0.mod,S.kind,rfl,rfl,Nat.le_refl _,fun y z c h1 h2=>?_,fun y hy=>?_,fun y c _ h=>?_,fun _=>hd,Around.frames_deeper e0.frames,.inr ⟨rfl,rfl⟩,fun b z=>absurd z (noA b),e0.bs,e0.bsz,fun b _ _=>noA b,fun b z=>absurd z (noA b),e0.funs,e0.frf⟩,
  rfl,e0.bare,Un.kept hk,⟨_,x.toInCall.ns,fun i y v h1 h2 h3=>?_⟩,fun y c h=>⟨_,x.cell y c h⟩,e0.hok.fresh (Nat.le_refl _),fun y c h=>?_,fun p hp=>absurd (show p∈([]:List (Addr × Obj)) from hp) (by simp),e0.hok.kept hk,?_⟩
 ·exact name_of_addr x.apart (PySem.mem_of_lookup h1) (PySem.mem_of_lookup h2)
 ·have hy:scope.names.lookup y=some .cell∨scope.names.lookup y=some .free:=hy
  rcases hy with hy | hy
  ·exact tT hy
  ·exact absurd rfl (S.nofree _ (PySem.mem_of_lookup hy))
 ·exact Nat.le_of_lt (x.above y c (PySem.mem_of_lookup h))
 ·have hi:i<vs.length:=by
   unfold start at h2
   by_cases hi:i<vs.length
   ·exact hi
   ·rw[List.getElem?_append_right (by simpa using hi)] at h2
    rw[List.getElem?_replicate] at h2
    split at h2 <;> cases h2
  have ha:vs[i]?=some v:=by
   unfold start at h2
   rw[List.getElem?_append_left (by simpa using hi),List.getElem?_map] at h2
   cases e:vs[i]? with
   | none=>rw[e] at h2;cases h2
   | some a=>rw[e] at h2;cases h2;rfl
  obtain⟨u,hu,rv⟩:=r.get ha
  have hp:ps[i]?=some y:=by
   rw[← S.pre,List.getElem?_take_of_lt (by omega)];exact h1
  have ndP:ps.Nodup:=by rw[← S.pre];exact S.nd.sublist (List.take_sublist _ _)
  refine⟨u,rv,?_⟩
  rcases S.par y (List.mem_of_getElem? hp) with k | k
  ·exact .inl ⟨k,tE ndP hp hu k⟩
  ·obtain⟨c,e⟩:=tT (n:=s.heap.objs.size+1) k
   refine .inr ⟨.inl k,c,e,?_⟩
   have q:=x.cell y c e
   rw[qk ndP hp hu (by show scope.names.lookup y≠_;rw[k];decide)] at q
   exact q
 ·exact e0.hok.fresh (Nat.le_of_lt (x.above y c (PySem.mem_of_lookup h)))
 ·unfold start
  show _=N.length
  rw[List.length_append,List.length_map,List.length_replicate]
  omega
theorem rf {CX:dQ}{P:Program}{w:World}{K:Frag}{mg:Str→Option Value}{base:Heap}{k:Nat}{f:Addr}{name qual:Str}{params:Arguments}{body:List Stmt}{scope:Scope}{dV kV doc pm cdv ct oc:Value}{an od:Option Addr}
  {osl:Array (Option Value)} {N ps:List Str} {sp:Sp} (lk:K.lookup f=some ⟨oc,od,.func (fnOf name qual params body scope dV kV doc pm an cdv ct),osl⟩) (hcd:codeIn K cdv qual=true) (S:FnScope N ps scope)
  (len:∀ vs H Q E,sp vs H Q E→vs.length=ps.length)
  (hbody:∀ (A:Around) (outer:List Env) (s:Shared) (H:Hp) (vs:List V) (Q:VK) (E:XK),Room k (A.deeper (envOfC qual scope s.heap.objs.size f cdv))→sp vs H Q E →
   ∃ t,PSs (fH CX P w K mg base N qual scope f cdv A outer s H E) body t∧t { nx:=fun _ H'=>Q .non H',rt:=Q } (start N vs) H) :
  FnOk P w K mg base CX (k+1) f (fnOf name qual params body scope dV kV doc pm an cdv ct) ps sp:=by
 refine⟨len,fun A outer s H args us vs Q E hr e0 hb r hsp=>?_⟩
 have hl:=len _ _ _ _ hsp
 have KX:K.In s.heap:=e0.mod.kin.keeps fun b o e=>(e0.bs b o e).1
 have lim:s.heap.NoLimit:=e0.mod.nolimit.keeps fun b o e=>(e0.bs b o e).1
 have hkind:∀ y∈ps.zip us,scope.names.lookup y.1=some .local∨(scope.names.lookup y.1=some .cell∧((cellsFrom (s.heap.objs.size+1) scope.names []).lookup y.1).isSome=true):=fun hq0 hy=>by
  obtain⟨n,v⟩:=hq0
  rcases S.par n (List.of_mem_zip hy).1 with q | q
  ·exact .inl q
  ·exact .inr ⟨q,cellsFrom_some _ _ _ (.inl q)⟩
 refine codeAny_call_function hr.depth (KX _ _ lk) rfl S.co S.gen rfl (PySem.W.codeRec_of KX hcd) (hb _ _ _ _ ?_)
 refine wpAny_newFunctionEnv_cells S.kind hkind fun env he s1 x=>?_
 subst he
 refine⟨lim.keeps x.toInCall.keep,codeAny_func ?_⟩
 obtain⟨t,ht,hq⟩:=hbody A outer s H vs Q E (hr.deeper _) hsp
 have I:Inv (fH CX P w K mg base N qual scope f cdv A outer s H E) [] (start N vs) H s1:=yZ S hr.hd e0 hl r x
 refine wpAny_mono (ht [] s1 (start N vs) H _ I hq) (fun fl s' hs=>?_) fun e s' hs=>hs
 have fin:∀ {σ':St} {H':Hp} {v:V} {u:Value},Inv (fH CX P w K mg base N qual scope f cdv A outer s H E) [] σ' H' s'→RelV v u→Q v H'→CE outer P w H s Q u s' :=
  fun {σ' H' v u} J rv q=>⟨v,H',J.os,J.bare,J.base,J.hok,rv,q⟩
 cases fl with
 | ret u =>
  obtain⟨v,σ',H',J,rv,q⟩:=hs
  exact fin J rv q
 | next =>
  obtain⟨σ',H',J,q⟩:=hs
  exact fin (v:=V.non) (u:=Value.none) J rfl q
 | brk =>
  obtain⟨_,_,_,q⟩:=hs
  exact False.elim q
 | cont =>
  obtain⟨_,_,_,q⟩:=hs
  exact False.elim q
section
variable {X:Cx}{x:Str}{p pos:Pos}{e:Expr}{es:List Expr}{t:TA}{id T:String}{r:List V→Hp→VK→Prop}
def uq (r:List V→Hp→VK→Prop)(t:TA):TE:=fun σ H Q=>t σ H fun vs H1=>r vs H1 Q
theorem vL (hc:dX X (.builtin id) r)(hg:Gl X x)(hm:X.mg x=none)(hv:bootBuiltins x=some (.builtin id))(ha:PA X (e::es) t)(hn:x≠"__name__":=by decide)(hdb:(x == ("__debug__":Str))=false:=by decide)
  (he:starEach (e::es) X.env=(false,eval e X.env)::starEach es X.env:=by rfl) (hpl:(backTo pos (starEach es X.env)).any (·.1)=false:=by rfl):PE X (.Call (.Name x p) (e::es) [] pos) (uq r t):=by
 intro pins s σ H Q I h
 refine wpAny_Call_Name_kw (gC I hg hm hv ?_ hn hdb)
 exact PyProof.Rows.callWith_builtin1 (aT (ha pos pins s σ H _ I h) fun us s1 hq0=>by obtain⟨vs,H1,I1,r1,q1⟩:=hq0;exact hc pins s1 σ H1 vs us Q I1 r1 q1) he hpl
theorem nt (hc:dX X (.type T) r)(hg:Gl X x)(hm:X.mg x=none)(hv:bootBuiltins x=some (.type T))(ha:PA X (e::es) t)(hn:x≠"__name__":=by decide)(hdb:(x == ("__debug__":Str))=false:=by decide)
  (he:starEach (e::es) X.env=(false,eval e X.env)::starEach es X.env:=by rfl) (hpl:(backTo pos (starEach es X.env)).any (·.1)=false:=by rfl):PE X (.Call (.Name x p) (e::es) [] pos) (uq r t):=by
 intro pins s σ H Q I h
 refine wpAny_Call_Name_kw (gC I hg hm hv ?_ hn hdb)
 exact PyProof.Rows.callWith_type1 (aT (ha pos pins s σ H _ I h) fun us s1 hq0=>by obtain⟨vs,H1,I1,r1,q1⟩:=hq0;exact hc pins s1 σ H1 vs us Q I1 r1 q1) he hpl
end
end L2
namespace HT
open PySem PyProof.Rows
section
open PySem.SeqAt
open PySem.AutoSeq1 (wpAny_loadPart')
open PySem.MeetsSeq PySem.MeetsSeq2 PySem.MeetsSeq3
end
section
variable {prog:Program}{w:World}{A:Around}{E:Value→Shared→Prop}{s:Shared}
theorem cat_tup {t b:Addr}{vs ws:List Value}{Q:Value→Shared→Prop}(ht:IsTup s.heap t vs.toArray)(hb:IsTup s.heap b ws.toArray)(hv:vs≠[])
  (h1:ws=[]→Q (.ref t) s) (h2:ws≠[]→Q (.ref s.heap.objs.size) { s with heap:=s.heap.push { cls:=.type "tuple",data:=.seq (vs++ws).toArray } })
  (hsz:vs.length+ws.length≤sizeLine):wpAny (model prog w) A (binaryOp .Add (.ref t) (.ref b)) Q E s:=by
 obtain⟨⟨cls,dd,data,sl⟩,ho,hc,n,hd⟩:=id ht
 obtain⟨⟨cls2,dd2,data2,sl2⟩,ho2,hc2,n2,hd2⟩:=id hb
 simp only at hc hd hc2 hd2
 subst hc hd hc2 hd2
 have e:vs.toArray++ws.toArray=(vs++ws).toArray:=by simp
 by_cases hw:ws=[]
 ·exact concat_meets ⟨_,ho,rfl⟩ ⟨_,ho2,rfl⟩ noFill_tuple_add seq_tuple_add PySem.F.slot_tuple_add PySem.F.entry_tuple_add (PySem.F.args_tuple_add_2 _ _)
   (tuple_addW1 t b vs.toArray ws.toArray n n2 dd dd2 sl sl2 (by simpa using hv) (by simp [hw])) ⟨ho,ho2,h1 hw⟩
 ·refine concat_meets ⟨_,ho,rfl⟩ ⟨_,ho2,rfl⟩ noFill_tuple_add seq_tuple_add PySem.F.slot_tuple_add PySem.F.entry_tuple_add (PySem.F.args_tuple_add_2 _ _)
   (tuple_addW2 t b vs.toArray ws.toArray n n2 dd dd2 sl sl2 (by simpa using hv) (by simpa using hw) (by rw[List.size_toArray,List.size_toArray];exact hsz)) ⟨ho,ho2,?_⟩
  rw[e]
  exact h2 hw
def sIx (n d:Nat):Option Int→Nat
 | none=>d
 | some v=>if v<0 then (v+(n:Int)).toNat else min v.toNat n
theorem sIx_nat (n d k:Nat):sIx n d (some (k:Int))=min k n:=by
 show (if (k:Int)<0 then ((k:Int)+(n:Int)).toNat else min (k:Int).toNat n)=min k n
 rw[if_neg (by omega),Int.toNat_natCast]
theorem Aa (n d:Nat)(hd:d≤n)(o:Option Int):sIx n d o≤n:=by
 cases o with
 | none=>exact hd
 | some v =>
  show (if v<0 then (v+(n:Int)).toNat else min v.toNat n)≤n
  by_cases hv:v<0
  ·rw[if_pos hv];omega
  ·rw[if_neg hv];exact Nat.min_le_right _ _
theorem ui (v:Int)(n d:Nat):(if v<0 then max (v+(n:Int)) 0 else min v (n:Int))=((sIx n d (some v):Nat):Int):=by
 show (if v<0 then max (v+(n:Int)) 0 else min v (n:Int))=(((if v<0 then (v+(n:Int)).toNat else min v.toNat n):Nat):Int)
 by_cases hv:v<0
 ·simp only [if_pos hv];omega
 ·simp only [if_neg hv];omega
theorem CO (lo hi:Option Int)(n:Nat):Builtin.Slice.sliceAdjust lo hi 1 (n:Int)=(((sIx n 0 lo:Nat):Int),((sIx n n hi:Nat):Int)):=by
 have h1:¬ ((1:Int)<0):=by omega
 unfold Builtin.Slice.sliceAdjust
 simp only [h1,if_false]
 refine Prod.ext ?_ ?_
 ·cases lo with
  | none=>rfl
  | some v=>exact ui v n 0
 ·cases hi with
  | none=>rfl
  | some v=>exact ui v n n
theorem Dc (i j:Nat):Builtin.Slice.slicePlaces (i:Int) (j:Int) 1=j - i:=by
 unfold Builtin.Slice.slicePlaces
 have h1:(1:Int)>0:=by omega
 simp only [h1,if_true,Int.ediv_one]
 split <;> omega
theorem sE {v:Value}{o:Option Int}{Q:Option Int→Shared→Prop}(p:IsPart v o)(h:Q o s):wpAny (model prog w) A (Builtin.Slice.slicePartIndex v) Q E s:=by
 cases p with
 | none=>exact slicePart_none h
 | int i t=>exact slicePart_int h
theorem oO {sl:Addr}{vl vu:Value}{lo hi:Option Int}{n:Nat}{Q:Int × Int × Nat→Shared→Prop}(hs:s.heap.IsSliceOf sl vl vu .none)(pl:IsPart vl lo)(pu:IsPart vu hi)
  (h:Q (((sIx n 0 lo:Nat):Int),1,sIx n n hi - sIx n 0 lo) s):wpAny (model prog w) A (Builtin.Slice.sliceApplied (.ref sl) (pure (n:Int))) Q E s:=by
 obtain⟨os,hos,hcs,hds⟩:=id hs
 unfold Builtin.Slice.sliceApplied Builtin.Slice.sliceFields
 refine wpAny_bind (wpAny_bind (wpAny_field hos hds (x:=vl) rfl (wpAny_bind (wpAny_field hos hds (x:=vu) rfl (wpAny_bind (wpAny_field hos hds (x:=.none) rfl (wpAny_pure ?_)))))))
 refine wpAny_bind (slicePart_none ?_)
 show wpAny _ _ (if ((1:Int) == 0)=true then _ else _) _ _ s
 rw[if_neg (by decide)]
 refine wpAny_bind (sE pl (wpAny_bind (sE pu (wpAny_bind (wpAny_pure ?_)))))
 show wpAny _ _ (match Builtin.Slice.sliceAdjust lo hi 1 (n:Int) with | (lo,hi)=>pure (lo,(1:Int),Builtin.Slice.slicePlaces lo hi 1)) _ _ s
 rw[CO lo hi n]
 show wpAny _ _ (pure (((sIx n 0 lo:Nat):Int),(1:Int),Builtin.Slice.slicePlaces ((sIx n 0 lo:Nat):Int) ((sIx n n hi:Nat):Int) 1)) _ _ s
 rw[Dc]
 exact wpAny_pure h
theorem xu (xs:Array Value)(i k:Nat):((List.range k).filterMap fun (m:Nat)=>xs[((i:Int)+(m:Int)*1).toNat]?).toArray=((xs.toList.drop i).take k).toArray:=by
 have e:(fun (m:Nat)=>xs[((i:Int)+(m:Int)*1).toNat]?)=fun m=>xs[i+m]?:=by
  funext m
  have:((i:Int)+(m:Int)*1).toNat=i+m:=by omega
  rw[this]
 rw[e]
 have:=pick_run xs i k
 rw[List.filterMap_map] at this
 have e2:((fun x=>xs[x]?) ∘ fun x=>i+x)=fun m=>xs[i+m]?:=rfl
 rw[e2] at this
 rw[this]
theorem getItem_tuple_cut {t sl:Addr}{items:Array Value}{vl vu:Value}{lo hi:Option Int}{Q:Value→Shared→Prop}(ht:IsTup s.heap t items)(hs:s.heap.IsSliceOf sl vl vu .none)(pl:IsPart vl lo)(pu:IsPart vu hi)
  (hw:¬ (sIx items.size 0 lo=0∧sIx items.size items.size hi=items.size))
  (h:Q (.ref s.heap.objs.size) { s with heap:=s.heap.push { cls:=.type "tuple",data:=.seq ((items.toList.drop (sIx items.size 0 lo)).take (sIx items.size items.size hi - sIx items.size 0 lo)).toArray } })
  (hsz:items.size≤sizeLine):wpAny (model prog w) A (getItem (.ref t) (.ref sl)) Q E s:=by
 have htake:sizeOk (.seq ((items.toList.drop (sIx items.size 0 lo)).take (sIx items.size items.size hi - sIx items.size 0 lo)).toArray):=by
  show ((items.toList.drop (sIx items.size 0 lo)).take (sIx items.size items.size hi - sIx items.size 0 lo)).toArray.size≤sizeLine
  rw[List.size_toArray,List.length_take,List.length_drop,Array.length_toList]
  omega
 have hj:sIx items.size items.size hi≤items.size:=Aa _ _ (Nat.le_refl _) hi
 obtain⟨os,hos,hcs,hds⟩:=id hs
 have hTs:s.TypeIs (.ref sl) "slice":=⟨os,hos,hcs⟩
 unfold getItem
 try with_reducible refine wpAny_holding ?_
 first | refine wpAny_bind (wpAny_pure ?_) | skip
 refine wpAny_bind (wpAny_sequenceKey ht.typeIs (by decide) ?_)
 refine wpAny_bind (wpAny_callSpecial?_slot (name:=Str.ofString "__getitem__") ht.typeIs PyProof.Rows.slot_tuple_getitem
  (wpAny_call_entry PyProof.Rows.slot_tuple_getitem ht.typeIs entry_tuple_getitem ?_ (args_tuple_getitem _ _)))
 show wpAny _ _ (Builtin.Tuple.tupleItemsOf (.ref t) >>= _) _ _ s
 refine wpAny_bind (tupleItemsOf_ ht ?_)
 refine wpAny_bind (wpAny_typeOf hTs ?_)
 rw[if_pos (by decide)]
 refine wpAny_bind (oO hs pl pu ?_)
 have hno:¬ ((((sIx items.size 0 lo:Nat):Int) == 0 && (1:Int) == 1 && (sIx items.size items.size hi - sIx items.size 0 lo) == items.size)=true):=by
  intro q
  rw[Bool.and_eq_true,Bool.and_eq_true] at q
  have q1:((sIx items.size 0 lo:Nat):Int)=0:=eq_of_beq q.1.1
  have q2:sIx items.size items.size hi - sIx items.size 0 lo=items.size:=eq_of_beq q.2
  exact hw ⟨by omega,by omega⟩
 show wpAny _ _ (if (((sIx items.size 0 lo:Nat):Int) == 0 && (1:Int) == 1 && (sIx items.size items.size hi - sIx items.size 0 lo) == items.size)=true then _ else _) _ _ s
 rw[if_neg hno,xu]
 first
  | exact wpAny_bind (m:=Builtin.Tuple.tupleExact _) (wpAny_newObj_type (wpAny_pure ⟨_,rfl,wpAny_pure h⟩) htake)
  | exact wpAny_bind (m:=Builtin.Tuple.tupleExact _) (wpAny_newObj_type (wpAny_bind (wpAny_pure (wpAny_pure ⟨_,rfl,wpAny_pure h⟩))) htake)
  | exact wpAny_bind (wpAny_bind (m:=Builtin.Tuple.tupleExact _) (wpAny_newObj_type (wpAny_pure (wpAny_pure ⟨_,rfl,wpAny_pure h⟩)) htake))
  | exact wpAny_bind (wpAny_bind (m:=Builtin.Tuple.tupleExact _) (wpAny_newObj_type (wpAny_pure ⟨_,rfl,wpAny_pure h⟩) htake))
end
end HT
namespace L2
open PySem PySem.Spec PyProof.Rows
abbrev TO:=St→Hp→(Option Int→Hp→Prop)→Prop
def PO (X:Cx)(e:Option Expr)(t:TO):Prop :=
 ∀ (pins:List (Addr × Obj)) (s:Shared) (σ:St) (H:Hp) (Q:Option Int→Hp→Prop),Inv X pins σ H s→t σ H Q →
  wpAny (model X.prog X.w) X.A (evalPart e X.env) (fun u s'=>∃ o H',Inv X pins σ H' s'∧IsPart u o∧Q o H') X.xe s
def Bw:TO:=fun _ H Q=>Q none H
def uM (t:TE):TO:=fun σ H Q=>t σ H fun x H1=>∃ i,x=.int i∧Q (some i) H1
section
variable {X:Cx}{e:Expr}{te:TE}{lo hi:Option Expr}{tl th:TO}{pos p2:Pos}
theorem po_none:PO X none Bw:=by
 intro pins s σ H Q I h
 rw[evalPart_none]
 exact wpAny_pure ⟨none,H,I,.none,h⟩
theorem yT (h:PE X e te):PO X (some e) (uM te):=by
 intro pins s σ H Q I hw
 rw[evalPart_some]
 refine aT (h pins s σ H _ I hw) fun u s1 hq0=>?_
 obtain⟨x,H1,I1,r1,q1⟩:=hq0
 obtain⟨i,rfl,q⟩:=q1
 obtain⟨t,rfl⟩:=r1
 exact⟨some i,H1,I1,.int i t,q⟩
def SlR (X:Cx)(r:V→Option Int→Option Int→Hp→VK→Prop):Prop :=
 ∀ (pins:List (Addr × Obj)) (s:Shared) (σ:St) (H:Hp) (x:V) (v vl vu:Value) (lo hi:Option Int) (sl:Addr) (Q:VK),Inv X pins σ H s→RelV x v→s.heap.IsSliceOf sl vl vu .none→IsPart vl lo→IsPart vu hi→r x lo hi H Q →
  ∃ T id,typeLookup (.type T) "__getitem__"=pure (some (.builtin id))∧s.TypeIs v T∧wpAny (model X.prog X.w) X.A (getItem v (.ref sl)) (EP X pins σ Q) X.xe s
theorem SlR.or {r r':V→Option Int→Option Int→Hp→VK→Prop}(h:SlR X r)(h':SlR X r'):SlR X (fun x lo hi H Q=>r x lo hi H Q∨r' x lo hi H Q):=by
 intro pins s σ H x v vl vu lo hi sl Q I rx hs pl pu q
 rcases q with q | q
 ·exact h pins s σ H x v vl vu lo hi sl Q I rx hs pl pu q
 ·exact h' pins s σ H x v vl vu lo hi sl Q I rx hs pl pu q
def xR (r:V→Option Int→Option Int→Hp→VK→Prop)(te:TE)(tl th:TO):TE:=fun σ H Q=>te σ H fun x H1=>tl σ H1 fun l H2=>th σ H2 fun u H3=>r x l u H3 Q
theorem yf {r:V→Option Int→Option Int→Hp→VK→Prop}(hr:SlR X r)(he:PE X e te)(hl:PO X lo tl)(hu:PO X hi th):PE X (.Subscript e (.Slice lo hi none p2) pos) (xR r te tl th):=by
 intro pins s σ H Q I h
 refine Subscript_ (aT (he pins s σ H _ I h) fun v s1 ⟨x,H1,I1,r1,q1⟩=>?_)
 refine wpAny_Slice (aT (hl pins s1 σ H1 _ I1 q1) fun vl s2 ⟨l,H2,I2,pl,q2⟩=>aT (hu pins s2 σ H2 _ I2 q2) fun vu s3 ⟨u,H3,I3,pu,q3⟩=>?_)
 rw[evalPart_none]
 refine wpAny_pure ?_
 have I4:Inv X pins σ H3 { s3 with heap:=s3.heap.push { cls:=.type "slice",data:=.fields #[vl,vu,.none] } }:=I3.kept (t':=s3.toks) fun b ob q=>Heap.get?_push_of_some _ q
 obtain⟨T,id,hT,ht,hg⟩:=hr pins { s3 with heap:=s3.heap.push { cls:=.type "slice",data:=.fields #[vl,vu,.none] } } σ H3 x v vl vu l u s3.heap.objs.size Q I4 r1 (Heap.IsSliceOf.new ..) pl pu q3
 show wpAny (model X.prog X.w) X.A (subscriptTail e (.Slice lo hi none p2) v (.ref s3.heap.objs.size)) (EP X pins σ Q) X.xe { s3 with heap:=s3.heap.push { cls:=.type "slice",data:=.fields #[vl,vu,.none] } }
 exact tail_any (ops:=[.ref s3.heap.objs.size,v]) ht hT hg (by with_unfolding_all rfl)
def gu (xs:List V)(lo hi:Option Int):List V:=(xs.drop (HT.sIx xs.length 0 lo)).take (HT.sIx xs.length xs.length hi - HT.sIx xs.length 0 lo)
theorem oZ (xs:List V)(lo hi:Option Int):(gu xs lo hi).length≤xs.length:=by
 unfold gu
 rw[List.length_take,List.length_drop]
 omega
def tM (K:Frag):V→Option Int→Option Int→Hp→VK→Prop:=fun x lo hi H Q=>∃ a xs,x=.ref a∧SqT K H a xs ∧
 ¬ (HT.sIx xs.length 0 lo=0∧HT.sIx xs.length xs.length hi=xs.length)∧∀ p,H p=none→Q (.ref p) (aJ H p (.tup (gu xs lo hi)))
theorem sl_tup:SlR X (tM X.K):=by
 intro pins s σ H x v vl vu lo hi sl Q I rx hs pl pu h
 obtain⟨a,xs,rfl,hx,hw,q⟩:=h
 cases rx
 obtain⟨its,r,ht,hz⟩:=I.tuple hx
 have hlen:its.toArray.size=xs.length:=by rw[List.size_toArray];exact r.length.symm
 refine⟨"tuple",_,PyProof.Rows.slot_tuple_getitem.lookup,ht.typeIs,?_⟩
 refine HT.getItem_tuple_cut ht hs pl pu (by rw[hlen];exact hw) ?_ (by rw[hlen];exact hz)
 rw[hlen]
 refine⟨.ref s.heap.objs.size,_,I.laid (t':=s.toks) (o:=.tup (gu xs lo hi)) (fun b ob q=>Heap.get?_push_of_some _ q) (Nat.le_refl _) ?_,rfl,q _ (I.hok.fresh (Nat.le_refl _))⟩
 exact⟨Nat.le_trans (oZ xs lo hi) hz,_,(r.drop (HT.sIx xs.length 0 lo)).take (HT.sIx xs.length xs.length hi - HT.sIx xs.length 0 lo),IsTup.new _ _⟩
def AK (K:Frag):R2:=fun x y H Q=>∃ a b xs ys,x=.ref a∧y=.ref b∧SqT K H a xs∧SqT K H b ys∧xs≠[]∧xs.length+ys.length≤sizeLine ∧
 (ys=[]→Q (.ref a) H)∧(ys≠[]→∀ p,H p=none→Q (.ref p) (aJ H p (.tup (xs++ys))))
theorem Vals.nil_iff {xs:List V}{us:List Value}(r:Vals xs us):us=[]↔xs=[]:=by
 cases r with
 | nil=>simp
 | cons _ _=>simp
theorem yu:bN X (binaryOp .Add) (AK X.K):=by
 intro pins s σ H x y v u Q I rx ry h
 obtain⟨a,b,xs,ys,rfl,rfl,ha,hb,hx,hz,q1,q2⟩:=h
 cases rx
 cases ry
 obtain⟨its,r1,p1,_⟩:=I.tuple ha
 obtain⟨its2,r2,p2,_⟩:=I.tuple hb
 refine HT.cat_tup p1 p2 (fun z=>hx (r1.nil_iff.mp z)) (fun z=>⟨.ref a,H,I,rfl,q1 (r2.nil_iff.mp z)⟩) (fun z=>?_) (by rw[← r1.length,← r2.length];exact hz)
 refine⟨.ref s.heap.objs.size,_,I.laid (t':=s.toks) (o:=.tup (xs++ys)) (fun b ob q=>Heap.get?_push_of_some _ q) (Nat.le_refl _) ?_,rfl,q2 (fun w=>z (r2.nil_iff.mpr w)) _ (I.hok.fresh (Nat.le_refl _))⟩
 exact⟨by rw[List.length_append];exact hz,_,r1.append r2,IsTup.new _ _⟩
end
def gR (n:Nat)(i:Int):Option Nat:=if 0≤i then (if i<n then some i.toNat else none) else if -(n:Int)≤i then some (i+n).toNat else none
def bJ {α:Type}(xs:List α)(i:Int):Option α:=(gR xs.length i).bind fun j=>xs[j]?
theorem vC {n:Nat}{i:Int}{j:Nat}(h:gR n i=some j):seqIndex? i n=some j∧j<n∧-(n:Int)≤i∧i<n:=by
 unfold gR at h
 by_cases h0:0≤i
 ·rw[if_pos h0] at h
  by_cases h1:i<n
  ·rw[if_pos h1] at h
   have e:i.toNat=j:=Option.some.inj h
   exact⟨by rw[seqIndex_of h0 h1,e],by omega,by omega,h1⟩
  ·rw[if_neg h1] at h;cases h
 ·rw[if_neg h0] at h
  by_cases h1:-(n:Int)≤i
  ·rw[if_pos h1] at h
   have e:(i+n).toNat=j:=Option.some.inj h
   exact⟨by rw[seqIndex_neg (by omega) h1,e],by omega,h1,by omega⟩
  ·rw[if_neg h1] at h;cases h
theorem mM {α:Type}{xs:List α}{i:Int}{v:α}(h:bJ xs i=some v):∃ j,seqIndex? i xs.length=some j∧xs[j]?=some v∧j<xs.length∧-(xs.length:Int)≤i∧i<xs.length:=by
 unfold bJ at h
 cases e:gR xs.length i with
 | none=>rw[e] at h;cases h
 | some j =>
  rw[e] at h
  obtain⟨h1,h2,h3,h4⟩:=vC e
  exact⟨j,h1,h,h2,h3,h4⟩
theorem Cy {α:Type}{xs:List α}{j:Nat}{v:α}(h:xs[j]?=some v):bJ xs (j:Int)=some v:=by
 have hj:j<xs.length:=(List.getElem?_eq_some_iff.mp h).1
 have e:gR xs.length (j:Int)=some j:=by
  unfold gR
  rw[if_pos (by omega),if_pos (by omega)];simp
 unfold bJ;rw[e];exact h
def qH (b:Expr):Prop:=∀ o i,subscripted b false o i=operate [o,i] (getItem o i)
def jf (X:Cx)(r:R2):Prop :=
 ∀ (value slice:Expr) (pins:List (Addr × Obj)) (s:Shared) (σ:St) (H:Hp) (x y:V) (v u:Value) (Q:VK),Inv X pins σ H s→RelV x v→RelV y u→r x y H Q →
  subscripted slice false v u=operate [v,u] (getItem v u)→wpAny (model X.prog X.w) X.A (subscriptTail value slice v u) (EP X pins σ Q) X.xe s
def vx (X:Cx)(id:String)(r:V→List V→Hp→VK→Prop):Prop :=
 ∀ (pins:List (Addr × Obj)) (s:Shared) (σ:St) (H:Hp) (x:V) (xs:List V) (v:Value) (us:List Value) (Q:VK),Inv X pins σ H s→RelV x v→Vals xs us→r x xs H Q →
  wpAny (model X.prog X.w) X.A (call (.builtin id) (v::us)) (EP X pins σ Q) X.xe s
section
variable {X:Cx}{a b:Expr}{ta tb:TE}{pos:Pos}
theorem zg {r:R2}(hr:jf X r)(ha:PE X a ta)(hb:PE X b tb)(hs:qH b):PE X (.Subscript a b pos) (iO r ta tb):=by
 intro pins s σ H Q I h
 exact Subscript_ (nQ ha hb I h fun v u s2 x y H2 I2 rx ry q=>hr a b pins s2 σ H2 x y v u Q I2 rx ry q (hs _ _))
def xQ (K:Frag):R2:=fun x y H Q=>∃ p xs i v,x=.ref p∧y=.int i∧SqL K H p xs∧bJ xs i=some v∧Q v H
def Au (K:Frag):R2:=fun x y H Q=>∃ p xs i v,x=.ref p∧y=.int i∧SqT K H p xs∧bJ xs i=some v∧Q v H
def wN:R2:=fun x y H Q=>∃ z i c,x=.str z∧y=.int i∧z.length≤sizeLine∧bJ z.cps.toList i=some c∧Q (.str ⟨#[c]⟩) H
theorem qN:jf X (xQ X.K):=by
 intro value slice pins s σ H x y v u Q I rx ry h hs
 obtain⟨p,xs,i,z,rfl,rfl,hq,he,q⟩:=h
 cases rx
 obtain⟨t,rfl⟩:=ry
 obtain⟨its,r,pl,hz⟩:=I.list hq
 obtain⟨j,h1,h2,h3,h4,h5⟩:=mM he
 obtain⟨w,ew,rw'⟩:=r.get h2
 have hl:=r.length
 have hn:=iu
 have fin:EP X pins σ Q w s:=⟨z,H,I,rw',q⟩
 by_cases h0:0≤i
 ·have hj:i.toNat=j:=by
   rw[seqIndex_of h0 h5] at h1
   exact Option.some.inj h1
  exact item_listR pl.isList h0 (by omega) (by rw[hj];simpa using ew) fin hs
 ·have hj:(i+(its.toArray.size:Int)).toNat=j:=by
   rw[seqIndex_neg (by omega) h4] at h1
   rw[List.size_toArray,← hl]
   exact Option.some.inj h1
  exact subscriptTail_builtinR (x:=w) pl.isList.typeIs slot_list_getitem.lookup
   (wpAny_getItem_list_neg (Q:=fun r s'=>r=w∧EP X pins σ Q r s') pl.isList (by omega) (by rw[List.size_toArray] <;> omega) (by omega) (by rw[hj];simpa using ew) ⟨rfl,fin⟩) hs
theorem vG:jf X (Au X.K):=by
 intro value slice pins s σ H x y v u Q I rx ry h hs
 obtain⟨p,xs,i,z,rfl,rfl,hq,he,q⟩:=h
 cases rx
 obtain⟨t,rfl⟩:=ry
 obtain⟨its,r,pl,hz⟩:=I.tuple hq
 obtain⟨j,h1,h2,h3,h4,h5⟩:=mM he
 obtain⟨w,ew,rw'⟩:=r.get h2
 have hl:=r.length
 have hn:=iu
 have fin:EP X pins σ Q w s:=⟨z,H,I,rw',q⟩
 exact subscriptTail_builtinR (x:=w) pl.typeIs slot_tuple_getitem.lookup
  (getItem_tuple (j:=j) (Q:=fun r s'=>r=w∧EP X pins σ Q r s') pl (by omega) (by omega) (by rw[List.size_toArray,← hl];exact h1) (by simpa using ew) ⟨rfl,fin⟩) hs
theorem CK:jf X wN:=by
 intro value slice pins s σ H x y v u Q I rx ry h hs
 obtain⟨z,i,c,rfl,rfl,hz,he,q⟩:=h
 obtain⟨t,rfl⟩:=rx
 obtain⟨t',rfl⟩:=ry
 obtain⟨j,h1,h2,h3,h4,h5⟩:=mM he
 have hl:z.cps.toList.length=z.length:=by simp [Str.length]
 rw[hl] at h1 h4 h5
 have hn:=iu
 exact tail_any (typeIs_str s z t) slot_str_getitem.lookup (getItem_str (c:=c) (by
  have e1:decide (i < -(2 ^ 63:Int))=false:=decide_eq_false (by omega)
  have e2:decide (i≥2 ^ 63)=false:=decide_eq_false (by omega)
  rw[e1,e2,Bool.or_false]) (by rw[h1];simpa using h2) ⟨.str ⟨#[c]⟩,H,I.tok _,⟨_,rfl⟩,q⟩) hs
theorem vS (lo hi:Option Int)(n:Nat):(sliceBounds lo hi none n).1=((HT.sIx n 0 lo:Nat):Int)∧(sliceBounds lo hi none n).2.1=((HT.sIx n n hi:Nat):Int)∧(sliceBounds lo hi none n).2.2=1:=by
 refine⟨?_,?_,rfl⟩
 ·cases lo with
  | none=>simp [sliceBounds,HT.sIx]
  | some i =>
   simp only [sliceBounds,HT.sIx,Option.getD_none,show (1:Int)>0 by decide,if_true]
   by_cases h:i<0
   ·simp only [h,if_true] <;> omega
   ·simp only [h,if_false] <;> omega
 ·cases hi with
  | none=>simp [sliceBounds,HT.sIx]
  | some i =>
   simp only [sliceBounds,HT.sIx,Option.getD_none,show (1:Int)>0 by decide,if_true]
   by_cases h:i<0
   ·simp only [h,if_true] <;> omega
   ·simp only [h,if_false] <;> omega
theorem v9 (its:List Value)(lo hi:Option Int):slicePick its.toArray lo hi none=((its.drop (HT.sIx its.length 0 lo)).take (HT.sIx its.length its.length hi - HT.sIx its.length 0 lo)).toArray:=by
 obtain⟨h1,h2,h3⟩:=vS lo hi its.toArray.size
 unfold slicePick
 rw[h1,h2,h3]
 simp only [sliceRange_one,pick_run,List.size_toArray] <;> rfl
def tx (K:Frag):V→Option Int→Option Int→Hp→VK→Prop:=fun x lo hi H Q=>∃ a xs,x=.ref a∧SqL K H a xs∧∀ p,H p=none→Q (.ref p) (aJ H p (.lst (gu xs lo hi)))
theorem sl_list:SlR X (tx X.K):=by
 intro pins s σ H x v vl vu lo hi sl Q I rx hs pl pu h
 obtain⟨a,xs,rfl,hx,q⟩:=h
 cases rx
 obtain⟨its,r,ht,hz⟩:=I.list hx
 have hlen:=r.length
 refine⟨"list",_,slot_list_getitem.lookup,ht.isList.typeIs,?_⟩
 refine wpAny_getItem_list_slice ht.isList hs pl pu .none (by simp) ?_ (by rw[List.size_toArray] <;> omega)
 rw[v9,← hlen]
 refine⟨.ref s.heap.objs.size,_,I.laid (t':=s.toks) (o:=.lst (gu xs lo hi)) (fun b ob q=>Heap.get?_push_of_some _ q) (Nat.le_refl _) ?_,rfl,q _ (I.hok.fresh (Nat.le_refl _))⟩
 exact⟨Nat.le_trans (oZ xs lo hi) hz,_,0,(r.drop (HT.sIx xs.length 0 lo)).take (HT.sIx xs.length xs.length hi - HT.sIx xs.length 0 lo),Heap.get?_push_size _ rfl⟩
theorem lW:dX X (.builtin "len") (fun xs H Q=>∃ p ys,xs=[.ref p]∧(SqL X.K H p ys∨SqT X.K H p ys)∧Q (.int ys.length) H):=by
 intro pins s σ H xs us Q I r h
 obtain⟨p,ys,rfl,hq,q⟩:=h
 obtain⟨u,rfl,rx⟩:=gz r
 cases rx
 have hn:=iu
 rcases hq with hq | hq
 ·obtain⟨its,r',pl,hz⟩:=I.list hq
  have hlen:=r'.length
  exact Calls.call_len_list pl.isList (by simp only [List.size_toArray] <;> omega) ⟨.int ys.length,H,I.tok _,⟨s.toks+1,by rw[List.size_toArray,hlen]⟩,q⟩
 ·obtain⟨its,r',pl,hz⟩:=I.tuple hq
  have hlen:=r'.length
  exact len_tuple pl (by simp only [List.size_toArray] <;> omega) ⟨.int ys.length,H,I.tok _,⟨s.toks+1,by rw[List.size_toArray,hlen]⟩,q⟩
theorem xh:dX X (.builtin "len") (fun xs H Q=>∃ z,xs=[.str z]∧z.length≤sizeLine∧Q (.int z.length) H):=by
 intro pins s σ H xs us Q I r h
 obtain⟨z,rfl,hz,q⟩:=h
 obtain⟨u,rfl,t,rfl⟩:=gz r
 have hn:=iu
 exact len_str (by omega) ⟨.int z.length,H,I.tok _,⟨_,rfl⟩,q⟩
theorem CH:dX X (.type "list") (fun xs H Q=>∃ p ys,xs=[.ref p]∧(SqL X.K H p ys∨SqT X.K H p ys)∧∀ l,H l=none→Q (.ref l) (aJ H l (.lst ys))):=by
 intro pins s σ H xs us Q I r h
 obtain⟨p,ys,rfl,hq,q⟩:=h
 obtain⟨u,rfl,rx⟩:=gz r
 cases rx
 have fin:∀ (its:List Value),Vals ys its→ys.length≤sizeLine→∀ (h':Heap) (c':Nat),(∀ b o',s.heap.get? b=some o'→h'.get? b=some o') →
   h'.get? s.heap.objs.size=some { cls:=.type "list",dict:=none,data:=.seq its.toArray c',slots:=#[] }→EP X pins σ Q (.ref s.heap.objs.size) { s with heap:=h' }:=fun its r' hz h' c' kp e =>
  ⟨.ref s.heap.objs.size,_,I.laid (t':=s.toks) kp (Nat.le_refl _) (show ObjOk X.prog X.w _ h' _ (.lst ys) from ⟨hz,its,c',r',e⟩),rfl,q _ (I.hok.fresh (Nat.le_refl _))⟩
 rcases hq with hq | hq
 ·obtain⟨its,r',pl,hz⟩:=I.list hq
  have hlen:=r'.length
  obtain⟨o,ho,hc,n,hd⟩:=pl.isList
  exact call_list_seq p (.inl rfl) ho hc hd (fun h' c' kp e=>fin its r' hz h' c' kp e) (by simp only [List.size_toArray] <;> omega)
 ·obtain⟨its,r',pl,hz⟩:=I.tuple hq
  have hlen:=r'.length
  obtain⟨o,ho,hc,n,hd⟩:=pl
  exact call_list_seq p (.inr rfl) ho hc hd (fun h' c' kp e=>fin its r' hz h' c' kp e) (by simp only [List.size_toArray] <;> omega)
theorem mJ:dX X (.type "tuple") (fun xs H Q=>∃ p ys,xs=[.ref p]∧((SqL X.K H p ys∧∀ l,H l=none→Q (.ref l) (aJ H l (.tup ys)))∨(SqT X.K H p ys∧Q (.ref p) H))):=by
 intro pins s σ H xs us Q I r h
 obtain⟨p,ys,rfl,h⟩:=h
 obtain⟨u,rfl,rx⟩:=gz r
 cases rx
 rcases h with⟨hq,q⟩ | ⟨hq,q⟩
 ·obtain⟨its,r',pl,hz⟩:=I.list hq
  have hlen:=r'.length
  refine call_tuple_list pl.isList (fun h' kp=>?_) (by simp only [List.size_toArray] <;> omega)
  have I1:Inv X pins σ H { s with heap:=h' }:=I.kept (t':=s.toks) kp
  have I2:Inv X pins σ (aJ H h'.objs.size (.tup ys)) { s with heap:=h'.push { cls:=.type "tuple",data:=.seq its.toArray } } :=
   I1.laid (t':=s.toks) (fun b o e=>Heap.get?_push_of_some _ e) (Nat.le_refl _) (show ObjOk X.prog X.w _ _ _ (.tup ys) from ⟨hz,its,r',IsTup.new _ _⟩)
  exact⟨.ref h'.objs.size,_,I2,rfl,q _ (I1.hok.fresh (Nat.le_refl _))⟩
 ·obtain⟨its,r',pl,hz⟩:=I.tuple hq
  exact call_tuple_same pl ⟨.ref p,H,I,rfl,q⟩
def qe (K:Frag)(T:String)(x:V)(H:Hp):Prop:=match x with
 | .str _=>T="str"
 | .int _=>T="int"
 | .ref p=>(T="list"∧∃ xs,SqL K H p xs)∨(T="tuple"∧∃ o,K.lookup p=some o∧o.cls=.type "tuple"∧o.dict=none) ∨
   (T="dict"∧((∃ kvs,H p=some (.dK kvs))∨∃ kvs,H p=some (.dT kvs)))∨(T="set"∧∃ S n,H p=some (.set S n))
 | _=>False
theorem xK {pins:List (Addr × Obj)}{σ:St}{H:Hp}{s:Shared}{T:String}{x:V}{v:Value}(I:Inv X pins σ H s)(r:RelV x v)(ty:qe X.K T x H) :
  s.TypeIs v T∧∀ a,v=.ref a→∃ ob,s.heap.get? a=some ob∧ob.dict=none:=by
 cases x with
 | str z =>
  obtain⟨t,rfl⟩:=r
  cases (show T="str" from ty)
  exact⟨typeIs_str s z t,fun _ e=>nomatch e⟩
 | int i =>
  obtain⟨t,rfl⟩:=r
  cases (show T="int" from ty)
  exact⟨typeIs_int s i t,fun _ e=>nomatch e⟩
 | ref p =>
  cases r
  rcases ty with⟨rfl,xs,hq⟩ | ⟨rfl,o,hk,hc,hd⟩ | ⟨rfl,hk⟩ | ⟨rfl,S,n,hk⟩
  ·obtain⟨its,_,pl,_⟩:=I.list hq
   refine⟨pl.isList.typeIs,fun a e=>?_⟩
   cases e
   obtain⟨o,n,e,c,hd,_⟩:=pl
   exact⟨o,e,hd⟩
  ·refine⟨⟨o,I.kIn p o hk,hc⟩,fun a e=>?_⟩
   cases e
   exact⟨o,I.kIn _ o hk,hd⟩
  ·have z:∃ o,s.heap.get? p=some o∧o.ExactDict:=by
    rcases hk with⟨kvs,hk⟩ | ⟨kvs,hk⟩
    ·obtain⟨_,_,_,_,o,_,_,e,ex,_⟩:=I.hok p _ hk
     exact⟨o,e,ex⟩
    ·obtain⟨_,_,_,_,o,_,_,e,ex,_⟩:=I.hok p _ hk
     exact⟨o,e,ex⟩
   obtain⟨o,e,ex⟩:=z
   refine⟨⟨o,e,ex.1⟩,fun a e2=>?_⟩
   cases e2
   exact⟨o,e,ex.2.1⟩
  ·obtain⟨o,_,_,_,e,ex,_⟩:=I.hok p _ hk
   refine⟨⟨o,e,ex.1⟩,fun a e2=>?_⟩
   cases e2
   exact⟨o,e,ex.2.1⟩
 | _=>exact False.elim ty
def xS (K:Frag)(T:String)(r:V→List V→Hp→VK→Prop)(to:TE)(t:TA):TE:=fun σ H Q=>to σ H fun x H1=>qe K T x H1∧t σ H1 fun xs H2=>r x xs H2 Q
variable {o e:Expr}{es:List Expr}{to:TE}{t:TA}{name:Str}{apos cpos:Pos}{T id:String}{r:V→List V→Hp→VK→Prop}
theorem Ao (pa:PlainAttrs T)(slot:Slot T name id)(hty:typeOf (.builtin id)=pure (.type "method_descriptor"))(hm:vx X id r)(ho:PE X o to)(ha:PA X (e::es) t)
  (hbase:attributeBase o name X.env (eval o X.env)=eval o X.env:=by rfl)
  (hfew:((backTo cpos (starEach (e::es) X.env)).all (fun x=>!x.1) && (backToKw cpos (keywordEach [] X.env)).all (fun x=>x.1.isSome)
   && decide ((e::es).length+([]:List Keyword).length+(if ([]:List Keyword).isEmpty then 0 else 1)<30))=true:=by rfl)
  (hline:(apos.endLine == cpos.line)=true:=by rfl) (hs:starEach (e::es) X.env=(false,eval e X.env)::starEach es X.env:=by rfl) (hplain:(backTo cpos (starEach es X.env)).any (·.1)=false:=by rfl) :
  PE X (.Call (.Attribute o name apos) (e::es) [] cpos) (xS X.K T r to t):=by
 intro pins s σ H Q I h
 refine wpAny_Call_method_late hbase hfew hline rfl (aT (ho pins s σ H _ I h) fun v s1 hq0=>?_)
 obtain⟨x,H1,I1,r1,ty,q1⟩:=hq0
 obtain⟨h1,h2⟩:=xK I1 r1 ty
 refine⟨T,id,pa,slot,hty,h1,h2,?_⟩
 have hA:=ha cpos pins s1 σ H1 _ I1 q1
 rw[hs] at hA ⊢
 refine Calls.callWith_builtin (by show (false || (backTo cpos (starEach es X.env)).any (·.1))=false;rw[hplain] <;> rfl) (Calls.evalArgs_plain ?_)
 exact aT hA fun us s2 hq1=>by obtain⟨vs,H2,I2,r2,q2⟩:=hq1;exact hm pins s2 σ H2 x vs v us Q I2 r1 r2 q2
end
def Ac (X:Cx)(id:String)(r:V→List V→Hp→VK→Prop):Prop :=
 ∀ (pins:List (Addr × Obj)) (s:Shared) (σ:St) (H:Hp) (x:V) (xs:List V) (v:Value) (us:List Value) (Q:VK),Inv X pins σ H s→RelV x v→Vals xs us→r x xs H Q →
  wpAny (model X.prog X.w) X.A (call (.builtin id) (v::us)) (EP X pins σ Q) X.xe s
theorem Vals.one:∀ {x:V} {us:List Value},Vals [x] us→∃ u,us=[u]∧RelV x u
 | _,_,.cons r .nil=>⟨_,rfl,r⟩
theorem Vals.reverse {xs:List V}{us:List Value}(h:Vals xs us):Vals xs.reverse us.reverse:=by
 induction h with
 | nil=>exact .nil
 | cons r t ih=>rw[List.reverse_cons,List.reverse_cons];exact Vals.append ih (.cons r .nil)
theorem Vals.rep {xs:List V}{us:List Value}(h:Vals xs us):∀ k:Nat,Vals (List.replicate k xs).flatten (List.replicate k us).flatten
 | 0=>.nil
 | k+1=>by
  rw[List.replicate_succ,List.replicate_succ,List.flatten_cons,List.flatten_cons]
  exact Vals.append h (Vals.rep h k)
theorem mK (its:List Value):∀ (k:Nat) (acc:List Value),
  List.foldl (fun x1 x2=>x1++x2) acc.toArray (List.replicate k its.toArray)=(acc++(List.replicate k its).flatten).toArray
 | 0,acc=>by simp
 | k+1,acc=>by
  have e:acc.toArray++its.toArray=(acc++its).toArray:=by simp
  have e2:(acc++its)++(List.replicate k its).flatten=acc++(List.replicate (k+1) its).flatten:=by
   rw[List.replicate_succ,List.flatten_cons,List.append_assoc]
  rw[← e2,← mK its k (acc++its),← e,List.replicate_succ,List.foldl_cons]
section
variable {X:Cx}{pins:List (Addr × Obj)}{σ:St}{H:Hp}{s:Shared}{l b:Addr}{xs ys zs:List V}
theorem Inv.lset {its its':List Value}{n:Nat}{f:Array Value→Array Value}{t':Nat}(I:Inv X pins σ H s)(hH:H l=some (.lst xs))
  (e:s.heap.get? l=some { cls:=.type "list",data:=.seq its.toArray n }) (hf:f its.toArray=its'.toArray) (hv:Vals ys its') (hz:ys.length≤sizeLine) :
  Inv X pins σ (aJ H l (.lst ys)) { s with heap:=s.heap.update l (Obj.mapSeq f),toks:=t' }:=by
 have q:=PySem.IsL.update e f
 rw[hf] at q
 refine I.write (x:=l) (e:=l) (by rw[hH];exact trivial) (.inl rfl) (fun b' u hb hu=>(Heap.get?_update_other s.heap (Obj.mapSeq f) (Ne.symm hb)).trans hu) ⟨_,q⟩ ?_
 exact⟨hz,its',_,hv,q⟩
theorem Inv.lnew {its:List Value}{t':Nat}(I:Inv X pins σ H s)(hv:Vals ys its)(hz:ys.length≤sizeLine) :
  Inv X pins σ (aJ H s.heap.objs.size (.lst ys)) { s with heap:=s.heap.push { cls:=.type "list",data:=.seq its.toArray },toks:=t' } :=
 I.laid (fun _ _ q=>Heap.get?_push_of_some _ q) (Nat.le_refl _) ⟨hz,its,0,hv,Heap.get?_push_size _ rfl⟩
theorem Inv.fresh (I:Inv X pins σ H s):H s.heap.objs.size=none:=I.hok.fresh (Nat.le_refl _)
theorem Inv.lstM (I:Inv X pins σ H s)(hH:H l=some (.lst xs)):xs.length≤sizeLine∧∃ (its:List Value) (n:Nat),Vals xs its∧xs.length=its.length∧s.heap.get? l=some { cls:=.type "list",data:=.seq its.toArray n }:=by
 obtain⟨z,its,n,r,e⟩:=I.hok l _ hH
 exact⟨z,its,n,r,r.length,e⟩
theorem BD {n:Nat}(h:n≤sizeLine):Builtin.List.listTooLong n=false:=by
 unfold Builtin.List.listTooLong
 exact decide_eq_false (by omega)
end
section
variable {X:Cx}
def BW:V→List V→Hp→VK→Prop:=fun x vs H Q=>∃ l xs y,x=.ref l∧vs=[y]∧H l=some (.lst xs)∧xs.length<sizeLine∧Q .non (aJ H l (.lst (xs++[y])))
theorem pH:Ac X "list.append" BW:=by
 intro pins s σ H x vs v us Q I rx rv h
 obtain⟨l,xs,y,rfl,rfl,hH,hz,q⟩:=h
 cases rx
 obtain⟨u,rfl,ru⟩:=rv.one
 obtain⟨z,its,n,r,hl,e⟩:=I.lstM hH
 refine call_meets F.slot_list_append ⟨_,e,rfl⟩ F.entry_list_append (F.args_list_append_2 _ _) (PySem.list_append l its.toArray n u (by rw[List.size_toArray];omega)) ⟨e,?_⟩
 refine⟨.non,_,I.lset (its':=its++[u]) hH e (by simp) (r.append (.cons ru .nil)) ?_,rfl,q⟩
 rw[List.length_append,List.length_singleton]
 omega
def yF:R2:=fun x y H Q=>∃ l b xs zs,x=.ref l∧y=.ref b∧H l=some (.lst xs)∧H b=some (.lst zs)∧xs.length+zs.length≤sizeLine∧∀ p,H p=none→Q (.ref p) (aJ H p (.lst (xs++zs)))
theorem tq:bN X (binaryOp .Add) yF:=by
 intro pins s σ H x y v u Q I rx ry h
 obtain⟨l,b,xs,zs,rfl,rfl,hH,hB,hz,q⟩:=h
 cases rx
 cases ry
 obtain⟨z,its,n,r,hl,e⟩:=I.lstM hH
 obtain⟨z2,its2,n2,r2,hl2,e2⟩:=I.lstM hB
 refine PySem.P.add_list e e2 ?_ (by rw[List.size_toArray,List.size_toArray];omega)
 have ea:its.toArray++its2.toArray=(its++its2).toArray:=by simp
 rw[ea]
 exact⟨.ref _,_,I.lnew (t':=s.toks) (r.append r2) (by rw[List.length_append];omega),rfl,q _ I.fresh⟩
def Df:R2:=fun x y H Q=>∃ l k xs,x=.ref l∧y=.int k∧H l=some (.lst xs)∧-(2 ^ 63)≤k∧k<2 ^ 63∧xs.length*k.toNat≤sizeLine ∧
 ∀ p,H p=none→Q (.ref p) (aJ H p (.lst (List.replicate k.toNat xs).flatten))
theorem mZ {α:Type}(xs:List α)(k:Nat):(List.replicate k xs).flatten.length=k*xs.length:=by
 induction k with
 | zero=>simp
 | succ k ih=>rw[List.replicate_succ,List.flatten_cons,List.length_append,ih,Nat.succ_mul,Nat.add_comm]
theorem Cu:bN X (binaryOp .Mult) Df:=by
 intro pins s σ H x y v u Q I rx ry h
 obtain⟨l,k,xs,rfl,rfl,hH,h1,h2,hz,q⟩:=h
 cases rx
 obtain⟨t,rfl⟩:=ry
 obtain⟨z,its,n,r,hl,e⟩:=I.lstM hH
 have hlen:its.toArray.size*k.toNat≤sizeLine:=by rw[List.size_toArray,← hl];exact hz
 have hcap:¬ its.toArray.size*k.toNat>(2 ^ 63 - 1) / 8:=by
  have:(sizeLine:Nat)≤(2 ^ 63 - 1) / 8:=by decide
  omega
 have hfit:¬ (!Builtin.List.listFitsIndex k)=true:=by
  rw[fitsIndex_both h1 h2]
  exact Bool.false_ne_true
 have hlong:¬ Builtin.List.listTooLong (its.toArray.size*k.toNat)=true:=by
  rw[BD hlen]
  exact Bool.false_ne_true
 have hnew:List.foldl (fun x1 x2=>x1++x2) #[] (List.replicate (if its.toArray.isEmpty=true then 0 else k.toNat) its.toArray)=(List.replicate k.toNat its).flatten.toArray:=by
  have f0:∀ m:Nat,List.foldl (fun x1 x2=>x1++x2) #[] (List.replicate m its.toArray)=(List.replicate m its).flatten.toArray:=fun m=>by
   have:=mK its m []
   rw[List.nil_append] at this
   exact this
  rw[f0]
  cases its with
  | nil=>simp
  | cons a r'=>rw[if_neg (by simp)]
 refine wpAny_binaryOp_repeat_ref (T:="list") (U:="int") (by decide) ⟨_,e,rfl⟩ (fun s'=>typeIs_int s' k t) noFill_list_mul F.fills_int_mul F.slot_int_rmul repeat_list F.slot_int_index.lookup
  (call_meets F.slot_int_rmul (typeIs_int s k t) F.entry_int_rmul (F.args_int_rmul_2 _ _) (int___rmul___int_list k t l its.toArray n)
   ⟨e,rfl,⟨_,e,rfl⟩,call_meets F.slot_list_mul ⟨_,e,rfl⟩ F.entry_list_mul (F.args_list_mul_2 _ _) (AutoListH.list___mul___list_int_3 l its.toArray n k t hfit hcap hlong) ⟨e,?_⟩⟩)
 rw[hnew]
 exact⟨.ref _,_,I.lnew (t':=s.toks) (r.rep k.toNat) (by rw[mZ,Nat.mul_comm];exact hz),rfl,q _ I.fresh⟩
end
section
variable {prog:Program}{w:World}{A:Around}{E:Value→Shared→Prop}{s:Shared}
end
section
variable {X:Cx}
end
end L2
namespace Att
open PySem PySem.W PySem.Calls PyProof.Rows
theorem uH {P:Params}{h:Heap}:∀ (ns:List Int) (vs:List Value),WellAll P h vs (ns.map WData.int)→IntsAre vs ns:=by
 intro ns
 induction ns with
 | nil =>
  intro vs w
  rw[List.map_nil] at w
  cases w
  exact .nil
 | cons n ns ih =>
  intro vs w
  rw[List.map_cons] at w
  cases w with
  | cons a b =>
   cases a
   exact .cons _ _ (ih _ b)
theorem CS {l:OpenLaw}{n:Nat}(hn:l.most=some n){P:Params}{h:Heap}{args:List WData}{vals:List Value}
  (hpre:l.row.toRowW.claim.pre args=true) (hwl:WellAll P h vals args) :
  ∃ a vs ns,vals=[Value.ref a]∧args=[WData.list (ns.map WData.int)]∧h.get? a=some { cls:=.type "list",data:=.seq vs.toArray }∧IntsAre vs ns∧ns.length≤n:=by
 have hsh:WShape.hasAll [] args [.list .int]=true:=(pre_splitW hpre).1
 have hc:l.pre.holds [] { args:=args }=true:=(pre_splitW hpre).2
 obtain⟨d,r,rfl,h1,h2⟩:=hasAllW_cons hsh
 obtain rfl:=hasAllW_nil h2
 obtain⟨xs,rfl,h3⟩:=hasW_list h1
 obtain⟨ns,rfl⟩:=items_int h3
 have hlen:ns.length≤n:=by
  unfold OpenLaw.pre at hc
  have h4:(WTm.not (.lt (.lit (.int (n:Int))) (.len (.arg 0)))).holds [] { args:=[.list (ns.map .int)] }=true:=by
   have h4:=(holds_andW hc).1
   rw[hn] at h4
   exact h4
  have h5:=condW_of h4 (w_not (w_lt w_lit (w_len_list (w_arg rfl))))
  rw[List.length_map] at h5
  refine Nat.le_of_not_lt fun q=>?_
  have q':(n:Int)<((ns.length:Nat):Int):=by omega
  first
   | (rw[decide_eq_true q'] at h5;exact absurd h5 (by decide))
   | (simp at h5;omega)
 cases hwl with
 | cons w1 w2 =>
  cases w2
  cases w1 with
  | list ho hall=>exact⟨_,_,ns,rfl,rfl,ho,uH ns _ hall,hlen⟩
theorem xM (l:OpenLaw)(args:List WData):l.row.toRowW.claim.post args (.bool true) args=true :=
 postW_of (r:=l.row.toRowW) (X:=(true == true))
  (show WShape.has [] (.bool true) .bool=true by first | rfl | decide | simp [WShape.has,WShape.arms,WShape.armsAll])
  (show (WTm.eq .res (.lit (.bool true))).value [] { args:=args,res:=some (.bool true),after:=args }=some (.bool (true == true)) from w_eq_bool (w_res rfl) w_lit) rfl
theorem attach_call {l:OpenLaw}{n:Nat}{q:Program}{loose:List Str}{XP:(Str→Option Value)→Heap→Prop}{YP:World→Heap→Prop}{d:DefRec}
  (hn:l.most=some n) (hdf:d.params.defaults=[])
  (call:∀ (w:World) (s₀ s₁:Shared) (mg mb:Str→Option Value) (fa:Addr) (o:Obj) (pm cd doc:Value) (a:Addr) (vs:List Value) (ns:List Int),
   Ground q loose [] XP w s₀ mg mb s₁.heap→YP w s₁.heap →
   s₁.heap.get? fa=some o→o.data=.func (docDef d.name d.params d.body d.scope pm cd doc)→s₁.heap.CodeRec cd d.name→mg d.name=some (.ref fa) →
   s₁.heap.get? a=some { cls:=.type "list",data:=.seq vs.toArray }→IntsAre vs ns→ns.length≤n→s₁.gens=#[] →
   codeAny (model l.prog w) callerA (.call (.ref fa) ⟨[.ref a],[]⟩) (fun r s'=>r=.ok (.ret (.bool true))∧OldK s₁.heap s'.heap∧s'.os=s₁.os∧AllBare s'.gens) s₁) :
  WalkO q loose XP YP l.row.toRowW d [] (fun f vs=>PySem.call f vs):=by
 intro w s₀ s₁ mg mb G Y fa o pm cd doc dV kV ho hd hcd hD hmg hg args vals as hpre hlay hrd hwl hlo
 obtain rfl:dV=.none:=Dflts.none hD hdf
 obtain rfl:kV=.none:=Dflts.noKw hD
 obtain⟨a,vs,ns,rfl,rfl,hobj,hints,hlen⟩:=CS hn hpre hwl
 refine enter_call (codeAny_mono (call w s₀ s₁ mg mb fa o pm cd doc a vs ns G Y ho (fd_plain hd) hcd hmg hobj hints hlen hg) fun r s' hq=>?_)
 obtain⟨rfl,h2,h3,h4⟩:=hq
 exact⟨.inl ⟨.bool true,.bool true,[],rfl,fun _=>rfl,.bool true,xM l _,fun _=>⟨List.Pairwise.nil,fun _ hm=>(nomatch hm)⟩⟩,h2,h3,h4⟩
section
variable {prog:Program}{w:World}{A:Around}{E:Value→Shared→Prop}{s:Shared}{K:Frag}
def noObjs (h:Heap):Heap:={ h with objs:=#[] }
theorem noObjs_get (h:Heap)(b:Addr):(noObjs h).get? b=none:=by
 cases e:(noObjs h).get? b with
 | none=>rfl
 | some o=>exact absurd (Heap.lt_size e) (Nat.not_lt_zero _)
theorem fr_all {h:Heap}{L:Addr}{m:Str→Option Value}(n:h.Ns L m):Fr (noObjs h) L h m :=
 ⟨n,fun b o e=>(by rw[noObjs_get] at e;cases e),Nat.zero_le _⟩
end
end Att
namespace L2
open PySem PySem.Spec PyProof.Rows
theorem ri:∀ {vs:List Value} {ns:List Int},IntsAre vs ns→Vals (ns.map V.int) vs
 | _,_,.nil=>.nil
 | _,_,.cons n t h=>.cons ⟨t,rfl⟩ (ri h)
end L2
/- THE LAST THEOREM (shape; LID, My.* are yours):
   My.Adr: a structure of the addresses that your layer names (classes, functions); My.Txt K t: a structure (Prop) of the equations over K;
   My.txt_mk : {K} {implicit addresses ..} (e1 : nsIn K mainGlobals "law" = some (some (.ref f))) (e2 : K.lookup f = some ⟨oc, od, .func (fnOf "law" "law" params body scope dV kV doc pm an cdv ct), sl⟩) (e3 : codeIn K cdv "law" = true) .. : ∃ t, My.Txt K t
set_option maxRecDepth 100000 in
set_option maxHeartbeats 0 in
theorem PySem.Challenge.cw_LID_holds : PySem.Challenge.rw_LID.Holds := by
 w_on;o_law;k_head;(case hw=>w_witness2)
 k_fill
 refine L2.walk_of (l:=PySem.Challenge.rw_LID) (n:=63) (k:=40) (x:="script") (CX:=fun w=>..) (sp:=fun _=>My.sp_law) rfl (by decide) rfl ⟨rfl,by decide,by decide⟩ (fun w h Y=>kIn_of Y) ?F ?S ?C
 case F =>
  intro w mg fa h KX G hmg
  have T:∃ t,My.Txt (L2.KOf KX) t:=by
   dsimp only [L2.KOf]                          -- K must stand as «<heap const> w.params» for k_is
   refine' My.txt_mk ?e1 ?e2 ?e3 ..
   (case e1=>PySem.W.k_is)                    -- in the order: a name -> its address -> its object -> its parts
   (case e2=>PySem.W.k_is)
   ..
  obtain⟨t,T⟩:=T
  have e0:=hmg.symm.trans (mg_of KX G T.law)
  cases e0                                       -- fa is the law's own address
  exact⟨_,fun s u=>.of_eq rfl,fun base kb nb=>My.law_fn T kb nb⟩     -- if «.of_eq rfl» comes too early: refine' ⟨_,?b,fun base kb nb=>My.law_fn T kb nb⟩;exact fun s u=>.of_eq rfl
 case S=>exact fun w H a ns hl hO hS=>..
 case C=>exact ..
(the tactic k_is has no namespace: write k_is) -/
namespace L2
open PySem PySem.Spec PyProof.Rows
def y8 (s:Stmt)(j:Nat):Stmt:=match s with
 | .ClassDef _ _ _ body _ _ _ _ _ _ _=>body.getD j (.Pass ⟨0,0,0,0⟩)
 | _=>.Pass ⟨0,0,0,0⟩
def fh (s:Stmt):Arguments:=match s with
 | .FunctionDef _ a _ _ _ _ _ _ _ _=>a
 | _=>{ posonlyargs:=[],args:=[],vararg:=none,kwonlyargs:=[],kw_defaults:=[],kwarg:=none,defaults:=[] }
def eg (s:Stmt):List Stmt:=match s with
 | .FunctionDef _ _ b _ _ _ _ _ _ _=>b
 | _=>[]
def ay (s:Stmt):Scope:=match s with
 | .FunctionDef _ _ _ _ _ _ sc _ _ _=>sc
 | _=>{ kind:=.function,names:=[],isGenerator:=false,isCoroutine:=false }
abbrev aS:dQ:=fun _ _ _ _ _ _=>False
abbrev E0:XK:=fun _ _ _=>False
theorem mO {X:Cx}:h8 aS X E0:=fun _ _ _ _ _ _ _ h=>h.elim
structure Fun (K:Frag)(x qual:Str)(st:Stmt)(f:Addr)(fd:FuncData):Prop where
 ex:∃ (oc:Value) (od:Option Addr) (kV doc pm:Value) (an:Option Addr) (cdv ct:Value) (osl:Array (Option Value)),
  fd=fnOf x qual (fh st) (eg st) (ay st) .none kV doc pm an cdv ct∧K.lookup f=some ⟨oc,od,.func fd,osl⟩∧codeIn K cdv qual=true
 kp:keepIn K (.ref f)=true
section
variable {P:Program}{w:World}{K:Frag}{mg:Str→Option Value}{base:Heap}
theorem Fun.ok {x qual:Str}{st:Stmt}{f:Addr}{fd:FuncData}{N ps:List Str}{k:Nat}{sp:Sp}(F:Fun K x qual st f fd)(S:FnScope N ps (ay st))(len:∀ vs H Q E,sp vs H Q E→vs.length=ps.length)
  (hbody:∀ (cdv:Value) (A:Around) (outer:List Env) (s:Shared) (H:Hp) (vs:List V) (Q:VK) (E:XK),Room k (A.deeper (envOfC qual (ay st) s.heap.objs.size f cdv))→sp vs H Q E →
   ∃ t,PSs (fH aS P w K mg base N qual (ay st) f cdv A outer s H E).nox (eg st) t∧t { nx:=fun _ H'=>Q .non H',rt:=Q } (start N vs) H):FnOk P w K mg base aS (k+1) f fd ps sp:=by
 obtain⟨oc,od,kV,doc,pm,an,cdv,ct,osl,rfl,lk,hcd⟩:=F.ex
 refine rf lk hcd S len fun A outer s H vs Q E hr hsp=>?_
 obtain⟨t,h,q⟩:=hbody cdv A outer s H vs Q E hr hsp
 exact⟨t,h.nox,q⟩
theorem Fun.binds {x qual:Str}{st:Stmt}{f:Addr}{fd:FuncData}{ps:List Str}(F:Fun K x qual st f fd)
  (h:∀ (kV doc pm:Value) (an:Option Addr) (cdv ct:Value) (us:List Value),us.length=ps.length→bindArgs (fnOf x qual (fh st) (eg st) (ay st) .none kV doc pm an cdv ct) ⟨us,[]⟩=pure (ps.zip us)):Binds K fd ps []:=by
 obtain⟨oc,od,kV,doc,pm,an,cdv,ct,osl,rfl,lk,hcd⟩:=F.ex
 exact .all (h kV doc pm an cdv ct)
theorem l5 {x qual:Str}{st:Stmt}{f:Addr}{oc:Value}{od an:Option Addr}{osl:Array (Option Value)}{kV doc pm cdv ct:Value}(l:K.lookup f=some ⟨oc,od,.func (fnOf x qual (fh st) (eg st) (ay st) .none kV doc pm an cdv ct),osl⟩)
  (c:codeIn K cdv qual=true) (k:keepIn K (.ref f)=true):Fun K x qual st f (fnOf x qual (fh st) (eg st) (ay st) .none kV doc pm an cdv ct):=⟨⟨oc,od,kV,doc,pm,an,cdv,ct,osl,rfl,l,c⟩,k⟩
end
theorem bc {n:Nat}(h:n≤1000):n<sizeLine:=Nat.lt_of_le_of_lt h (by decide)
section
variable {X:Cx}
theorem pv (i:Nat){x:Str}{pos:Pos}(hN:X.N[i]?=some x:=by rfl)(hv:iK X.env.scope x:=by first | exact Or.inl rfl | exact Or.inr (Or.inl rfl) | exact Or.inr (Or.inr rfl))(hd:(x == ("__debug__":Str))=false:=by decide)
  (hcd:(x == ("__classdict__":Str))=false:=by decide):PE X (.Name x pos) (sy i):=CG hN hv hd hcd
end
theorem oh {A B:Prop}(h:B):if false=true then A else B:=by
 rw[if_neg Bool.false_ne_true]
 exact h
theorem ng {A B:Prop}(h:A):if true=true then A else B:=by
 rw[if_pos rfl]
 exact h
def Same (H H':Hp):Prop:=∀ b o,H b=some o→H' b=some o
theorem Same.refl (H:Hp):Same H H:=fun _ _ h=>h
theorem Same.trans {H H1 H2:Hp}(a:Same H H1)(b:Same H1 H2):Same H H2:=fun c o h=>b c o (a c o h)
theorem Same.free {H H':Hp}(e:Same H H'){l:Addr}(h:H' l=Option.none):H l=Option.none:=by
 cases q:H l with
 | none=>rfl
 | some o =>
  rw[e l o q] at h
  cases h
theorem Same.seq {K:Frag}{H H':Hp}{a:Addr}{xs:List V}(e:Same H H')(h:SqL K H a xs):SqL K H' a xs:=by
 rcases h with (h | ⟨o,h⟩) | h
 ·exact .inl (.inl (e _ _ h))
 ·exact .inl (.inr ⟨o,e _ _ h⟩)
 ·exact .inr h
section
variable {κ:Type}[DecidableEq κ]
end
section
variable {P:Program}{w:World}{H:Hp}{h:Heap}{a:Addr}
end
section
variable {X:Cx}{pins:List (Addr × Obj)}{σ:St}{H:Hp}{s:Shared}{a:Addr}{y v:V}{u r:Value}{o:Option V}{A:Around}{E:Value→Shared→Prop}
end
section
variable {X:Cx}{pins:List (Addr × Obj)}{σ:St}{H:Hp}{s:Shared}{a:Addr}{kvs:List (cM × V)}{k:cM}{u:Value}{A:Around}{E:Value→Shared→Prop}
end
section
variable {X:Cx}{o i e value:Expr}{pos pos' tpos:Pos}{td ty tv:TE}
end
section
variable {X:Cx}{pos:Pos}
end
end L2
set_option maxHeartbeats 4000000
namespace L2
open PySem PySem.Spec PyProof.Rows
theorem A2 {env:Env}(names:List (Str × NameKind))(hf:∀ x∈names,x.2=.free→∃ c,env.cells.lookup x.1=some c):∀ acc:List (Str × Addr),
  ∃ cl:List (Str × Addr),(forIn names acc (fun (x:Str × NameKind) cs=>if (x.2 == .free)=true then do let a ← cellOf env x.1;pure (ForInStep.yield ((x.1,a)::cs)) else pure (ForInStep.yield cs)):Sem (List (Str × Addr)))=pure cl ∧
   (∀ p∈cl,p∈acc∨env.cells.lookup p.1=some p.2)∧(∀ p∈acc,p∈cl)∧∀ x,(x,NameKind.free)∈names→∃ c,(x,c)∈cl:=by
 induction names with
 | nil=>intro acc;exact⟨acc,rfl,fun p hp=>.inl hp,fun _ hp=>hp,fun x hx=>by simp at hx⟩
 | cons n r ih =>
  intro acc
  obtain⟨n,k⟩:=n
  have hr:∀ x∈r,x.2=.free→∃ c,env.cells.lookup x.1=some c:=fun x hx=>hf x (List.mem_cons_of_mem _ hx)
  by_cases hk:k=.free
  ·subst hk
   obtain⟨c,hc⟩:=hf (n,.free) List.mem_cons_self rfl
   obtain⟨cl,e,h1,h2,h3⟩:=ih hr ((n,c)::acc)
   refine⟨cl,?_,fun p hp=>?_,fun p hp=>h2 p (List.mem_cons_of_mem _ hp),fun x hx=>?_⟩
   ·rw[List.forIn_cons,← e]
    have q:cellOf env n=pure c:=by unfold cellOf;rw[hc]
    simp [q]
   ·rcases h1 p hp with z | z
    ·rcases List.mem_cons.mp z with rfl | z
     ·exact .inr hc
     ·exact .inl z
    ·exact .inr z
   ·rcases List.mem_cons.mp hx with z | z
    ·cases z;exact⟨c,h2 _ List.mem_cons_self⟩
    ·exact h3 x z
  ·obtain⟨cl,e,h1,h2,h3⟩:=ih hr acc
   refine⟨cl,?_,h1,h2,fun x hx=>?_⟩
   ·rw[List.forIn_cons,← e]
    have q:(k == NameKind.free)=false:=by simpa using hk
    simp [q]
   ·rcases List.mem_cons.mp hx with z | z
    ·cases z;exact absurd rfl hk
    ·exact h3 x z
theorem zX {cl:List (Str × Addr)}{cells:List (Str × Addr)}(h:∀ p∈cl,cells.lookup p.1=some p.2):∀ x c,cl.lookup x=some c→cells.lookup x=some c:=fun x c e=>h (x,c) (PySem.mem_of_lookup e)
theorem xT {cl:List (Str × Addr)}{x:Str}{c:Addr}:(x,c)∈cl→∃ c',cl.lookup x=some c':=by
 induction cl with
 | nil=>intro h;simp at h
 | cons p r ih =>
  intro h
  rw[List.lookup_cons]
  cases e:x == p.1 with
  | true=>exact⟨_,rfl⟩
  | false =>
   rcases List.mem_cons.mp h with z | z
   ·subst z;simp at e
   ·exact ih z
theorem l7 {scope:Scope}{env:Env}(hf:∀ x∈scope.names,x.2=.free→∃ c,env.cells.lookup x.1=some c) :
  ∃ cl,closureFor scope env=pure cl∧(∀ x c,cl.lookup x=some c→env.cells.lookup x=some c)∧∀ x,(x,NameKind.free)∈scope.names→∃ c,cl.lookup x=some c:=by
 obtain⟨cl,e,h1,_,h3⟩:=A2 (env:=env) scope.names hf []
 refine⟨cl,?_,zX fun p hp=>(h1 p hp).elim (fun z=>by simp at z) id,fun x hx=>?_⟩
 ·unfold closureFor
  simp only
  rw[← e]
  simp
 ·obtain⟨c,hc⟩:=h3 x hx
  exact xT hc
theorem mT {env:Env}:∀ {names:List (Str × NameKind)} {x:Str} {k:NameKind},(∀ y∈names,y.2≠.cell) →
  (names.map fun (n,k)=>if (k == NameKind.free && env.scope.kind == .function && env.kindOf n == some .cell) then (n,NameKind.cell) else (n,k)).lookup x=some k→(k=.cell∨k=.free)→(x,NameKind.free)∈names
 | [],_,_,_,h,_=>by simp at h
 | (n,k)::r,x,kk,hc,h,hk=>by
  have ih:=@mT env r x kk (fun y hy=>hc y (List.mem_cons_of_mem _ hy))
  have h:List.lookup x ((if (k == NameKind.free && env.scope.kind == .function && env.kindOf n == some .cell)=true then (n,NameKind.cell) else (n,k))::_)=_:=h
  by_cases hb:(k == NameKind.free && env.scope.kind == .function && env.kindOf n == some .cell)=true
  ·rw[if_pos hb] at h
   have kf:k=.free:=by
    simp only [Bool.and_eq_true,beq_iff_eq] at hb
    exact hb.1.1
   rw[List.lookup_cons] at h
   cases e:x == n with
   | true =>
    have:x=n:=by simpa using e
    subst this;subst kf
    exact List.mem_cons_self
   | false =>
    simp only [e] at h
    exact List.mem_cons_of_mem _ (ih h hk)
  ·rw[if_neg hb] at h
   rw[List.lookup_cons] at h
   cases e:x == n with
   | true =>
    have kk':k=kk:=by simpa [e] using h
    have:x=n:=by simpa using e
    subst this
    subst kk'
    rcases hk with rfl | rfl
    ·exact absurd rfl (hc _ List.mem_cons_self)
    ·exact List.mem_cons_self
   | false =>
    simp only [e] at h
    exact List.mem_cons_of_mem _ (ih h hk)
def bT (X:Cx)(scope:Scope)(N':List Str)(cl:List (Str × Addr))(C:Addr)(s0:Shared)(H0:Hp)(fp:List Addr):Cx where
 prog:=X.prog
 w:=X.w
 K:=X.K
 mg:=X.mg
 base:=X.base
 A:=X.A
 N:=N'
 s₀:=s0
 H₀:=H0
 env:=compEnvC scope cl C X.env
 outer:=X.stack
 stack:=X.stack
 ex:=fp
 fn:=fun _=>false
 calm:=X.calm
 pn:=[]
 xe:=fun _ _=>False
def dj (cap:List (Option Nat))(σ:St):St:=cap.map fun o=>o.bind fun i=>(σ[i]?).join
structure CompScope (N:List Str)(sc scope:Scope)(N':List Str)(cap:List (Option Nat)):Prop where
 kind:scope.kind=.function
 nocell:∀ y∈scope.names,y.2≠.cell
 names:∀ x∈scope.names,x.2=.local→scope.names.lookup x.1=some .local
 free:∀ x∈scope.names,x.2=.free→sc.names.lookup x.1=some .cell
 fst:∀ x∈scope.names,x.2=.free→scope.names.lookup x.1=some .free
 nd:N'.Nodup
 len:cap.length=N'.length
 at_:∀ p∈cap.zip N',∀ i,p.1=some i→N[i]?=some p.2∧(p.2,NameKind.free)∈scope.names
def ig (X:Cx)(ifs:List Expr)(t:TT):Prop :=
 ∀ (pins:List (Addr × Obj)) (s:Shared) (σ:St) (H:Hp) (Q:Bool→Hp→Prop),Inv X pins σ H s→t σ H Q →
  wpAny (model X.prog X.w) X.A (forIn ifs true fun c r=>if r=true then do let ok ← isTrue c X.env (eval c X.env);pure (ForInStep.yield ok) else pure (ForInStep.yield r)) (TP X pins σ Q) X.xe s
def Co:TT:=fun _ H Q=>Q true H
theorem zu {X:Cx}:ig X [] Co:=fun _ _ _ H _ I h=>wpAny_tests_nil ⟨H,I,h⟩
theorem AM {X:Cx}{c:Expr}{t:TT}(h:PT X c t):ig X [c] t:=fun pins s σ H Q I hw=>wpAny_tests_one (h pins s σ H Q I hw)
def fV (wi:TI)(cap:List (Option Nat))(g:TG)(tc:TT)(te:TE):TE:=fun σ H Q=>wi σ H fun J H1=>∀ D,H1 D=none→∃ W:Nat→Nat→St→Hp→Prop,(∃ m,W 0 m (dj cap σ) (aJ H1 D (.lst []))) ∧
 ∀ i m σ' H',W i m σ' H'→(J.stop i H'∧Q (.ref D) H')∨(J.go i H'∧∃ N:St→Hp→Prop,(∀ σ2 H2,N σ2 H2→∃ m',m'<m∧W (i+1) m' σ2 H2) ∧
  ∀ x H2,J.yld i H' x H2→g x σ' H2 fun σ3 H3=>tc σ3 H3 fun b H4=>if b=true then te σ3 H4 fun y H5=>∃ ys,H5 D=some (.lst ys)∧ys.length<sizeLine∧N σ3 (aJ H5 D (.lst (ys++[y]))) else N σ3 H4)
theorem Do {prog:Program}{w:World}{A:Around}{R:Result→Shared→Prop}{s:Shared}{elt target iter:Expr}{ifs:List Expr}{scope:Scope}{pos:Pos}{it acc:Value}{env:Env}(I:Nat→Shared→Prop)
  (turn:∀ n s,I n s→wpAny (model prog w) A (pyNext it) (fun r s₁=>match r with
   | none=>R (.ok .next) s₁
   | some v=>wpAny (model prog w) A (letOwnedTupleGo target it v) (fun _ s₁'=>wpAny (model prog w) A (assign target env v) (fun _ s₂ =>
     wpAny (model prog w) A (forIn ifs true fun c r=>if r=true then do let ok ← isTrue c env (eval c env);pure (ForInStep.yield ok) else pure (ForInStep.yield r)) (fun ok s₃ =>
      if ok=true then wpAny (model prog w) A (eval elt env) (fun x s₄ =>
       wpAny (model prog w) A (call (.builtin "list.append") [acc,x]) (fun _ s₅=>∃ m,m<n∧I m s₅) (fun _ _=>False) s₄) (fun _ _=>False) s₃
      else ∃ m,m<n∧I m s₃) (fun _ _=>False) s₂) (fun _ _=>False) s₁') (fun _ _=>False) s₁) (fun _ _=>False) s)
  (n:Nat) (h:I n s):codeAny (model prog w) A (.compLoop (.ListComp elt [⟨target,iter,ifs,0⟩] scope pos) 0 it acc env) R s:=by
 refine codeAny_loop rfl I (fun n s hI=>?_) n h
 show wpAny _ A ((compTurn (.ListComp elt [⟨target,iter,ifs,0⟩] scope pos) 0 it acc env).onRaise (fun x=>do noteFrame x env;theTreesLotGoes x)) _ _ s
 refine wpAny_noted ?_
 rw[compTurn_list]
 refine wpAny_bind (wpAny_standAt (wpAny_bind (wpAny_mono (turn n s hI) (fun r s₁ h₁=>?_) fun _ _ h'=>h'.elim)))
 cases r with
 | none=>exact wpAny_pure h₁
 | some v =>
  refine wpAny_bind (wpAny_mono h₁ (fun _ s₁' h₁'=>?_) fun _ _ h'=>h'.elim)
  refine wpAny_bind (wpAny_mono h₁' (fun _ s₂ h₂=>wpAny_bind (wpAny_mono h₂ (fun ok s₃ h₃=>?_) fun _ _ h'=>h'.elim)) fun _ _ h'=>h'.elim)
  cases ok with
  | false=>exact wpAny_pure ⟨rfl,h₃⟩
  | true =>
   exact wpAny_bind (wpAny_bind (wpAny_mono h₃ (fun x s₄ h₄=>wpAny_bind (wpAny_mono h₄ (fun _ s₅ h₅=>wpAny_pure (wpAny_pure ⟨rfl,h₅⟩)) fun _ _ h'=>h'.elim)) fun _ _ h'=>h'.elim))
section
variable {X:Cx}{elt tg iter:Expr}{ifs:List Expr}{scope:Scope}{pos:Pos}{N':List Str}{cap:List (Option Nat)}{wi:TI}{g:TG}{tc:TT}{te:TE}
theorem AQ {pins:List (Addr × Obj)}{σ:St}{H:Hp}{s s4:Shared}{cl:List (Str × Addr)}{C:Addr}{fp:List Addr}{m:Str→Option Value}(S:CompScope X.N X.env.scope scope N' cap)(I:Inv X pins σ H s)
  (hcl:∀ x c,cl.lookup x=some c→X.env.cells.lookup x=some c) (hfr:∀ x,(x,NameKind.free)∈scope.names→∃ c,cl.lookup x=some c) (hC:s.heap.objs.size≤C) (hos:s4.os=s.os) (hg:s4.gens=s.gens)
  (hk:∀ b o,s.heap.get? b=some o→s4.heap.get? b=some o) (hn:s4.heap.Ns C m) (hfp:∀ b∈fp,FpOk X pins H b) (hfz:∀ b∈fp,b<s.heap.objs.size) :
  Inv (bT X scope N' cl C s H fp) [] (dj cap σ) H s4:=by
 refine⟨⟨I.ok.mod,S.kind,I.ok.glob,I.ok.blt,hC,fun x y c h1 h2=>I.ok.inj x y c (hcl x c h1) (hcl y c h2),fun x hx=>?_,fun x c hx _=>absurd hx (by show ¬ (false=true);decide),I.ok.hd,I.ok.frames,.inl rfl,
   fun b hb=>⟨Nat.ne_of_lt (Nat.lt_of_lt_of_le (hfz b hb) hC),fun x c e=>(hfp b hb).2.2.2.2.1 x c (hcl x c e)⟩,I.bs,Nat.le_trans I.ok.bsz I.sz,fun b o e hb=>?_,fun b hb hf=>?_,I.stack,I.stkFree⟩,
  hos,by rw[hg];exact I.bare,Un.kept hk,⟨m,hn,fun i x v h1 h2 h3=>?_⟩,fun x c e=>?_,I.hok.fresh hC,fun x c e=>I.freeC x c (hcl x c e),fun p hp=>absurd (show p∈([]:List (Addr × Obj)) from hp) (by simp),I.hok.kept hk,?_⟩
 ·have q:(x,NameKind.free)∈scope.names:=by
   rcases hx with hx | hx
   ·exact mT S.nocell hx (.inl rfl)
   ·exact mT S.nocell hx (.inr rfl)
  exact hfr x q
 ·rcases (hfp b hb).2.2.2.1 with z | z
  ·exact I.ok.noex b o e z
  ·exact absurd (Nat.lt_of_lt_of_le (Heap.lt_size e) (Nat.le_trans I.ok.bsz z)) (Nat.lt_irrefl _)
 ·rcases List.mem_cons.mp (I.stkSub b hf) with z | z
  ·exact (hfp b hb).2.1 z
  ·exact (hfp b hb).2.2.1 z
 ·have h2:(cap.map fun o=>o.bind fun i=>(σ[i]?).join)[i]?=some (some v):=h2
  rw[List.getElem?_map] at h2
  cases ec:cap[i]? with
  | none=>rw[ec] at h2;cases h2
  | some o =>
   rw[ec] at h2
   have h2:(o.bind fun i=>(σ[i]?).join)=some v:=by simpa using h2
   cases o with
   | none=>cases h2
   | some j =>
    have h2:(σ[j]?).join=some v:=h2
    have hj:σ[j]?=some (some v):=by
     cases ej:σ[j]? with
     | none=>rw[ej] at h2;cases h2
     | some y=>rw[ej] at h2;exact congrArg some h2
    have hz:(cap.zip N')[i]?=some (some j,x):=by rw[List.getElem?_zip_eq_some];exact⟨ec,h1⟩
    obtain⟨q1,q2⟩:=S.at_ _ (List.mem_of_getElem? hz) j rfl
    obtain⟨mx,hnx,hl⟩:=I.loc
    have kc:=S.free _ q2 rfl
    obtain⟨u,r,lk⟩:=hl j x v q1 hj (.inr (.inl kc))
    refine⟨u,r,?_⟩
    rcases lk with⟨k1,_⟩ | ⟨_,c,e,z⟩
    ·have:X.env.scope.names.lookup x=some .local:=k1
     rw[kc] at this;cases this
    ·obtain⟨c',hc'⟩:=hfr x q2
     have:=hcl x c' hc'
     rw[e] at this;cases this
     have kx:(compEnvC scope cl C X.env).kindOf x=some .cell∨(compEnvC scope cl C X.env).kindOf x=some .free∨(compEnvC scope cl C X.env).kindOf x=some .local:=by
      rcases h3 with z | z | z
      ·exact .inr (.inr z)
      ·exact .inl z
      ·exact .inr (.inl z)
     rcases kx with kx | kx | kx
     ·exact .inr ⟨.inl kx,c,hc',let ⟨o,ho,hd⟩:=z;⟨o,hk c o ho,hd⟩⟩
     ·exact .inr ⟨.inr kx,c,hc',let ⟨o,ho,hd⟩:=z;⟨o,hk c o ho,hd⟩⟩
     ·exfalso
      have kl:(relabel scope X.env).names.lookup x=some .local:=kx
      have ml:=PySem.mem_of_lookup kl
      obtain⟨⟨n,k⟩,hm,e2⟩:=List.mem_map.mp ml
      have e2:(if (k == NameKind.free && X.env.scope.kind == .function && X.env.kindOf n == some .cell)=true then (n,NameKind.cell) else (n,k))=(x,NameKind.local):=e2
      split at e2
      ·cases e2
      ·cases e2
       have a1:=S.names _ hm rfl
       have a3:scope.names.lookup x=some .free:=S.fst _ q2 rfl
       have a1:scope.names.lookup x=some .local:=a1
       rw[a3] at a1;cases a1
 ·obtain⟨v,o,ho,hd⟩:=I.cell x c (hcl x c e)
  exact⟨v,o,hk c o ho,hd⟩
 ·show (dj cap σ).length=N'.length
  unfold dj
  rw[List.length_map,S.len]
theorem qP {pins:List (Addr × Obj)}{σ:St}{H2:Hp}{s2:Shared}{it:Addr}{fp:List Addr}{tn:Nat→Heap→Prop}{J:It}{cl:List (Str × Addr)}{RR:Value→Addr→Result→Shared→Prop}{E:Value→Shared→Prop}(hcalm:X.calm=true)(S:CompScope X.N X.env.scope scope N' cap)
  (hg:∀ (C:Addr) (s0:Shared) (H0:Hp),PG (bT X scope N' cl C s0 H0 fp) tg g) (ht:∀ (C:Addr) (s0:Shared) (H0:Hp),ig (bT X scope N' cl C s0 H0 fp) ifs tc) (he:∀ (C:Addr) (s0:Shared) (H0:Hp),PE (bT X scope N' cl C s0 H0 fp) elt te)
  (I2:Inv X pins σ H2 s2) (T:Turn X.prog X.w X.K tg J fp it tn) (st2:tn 0 s2.heap) (f2:∀ b∈fp,FpOk X pins H2 b)
  (hcl:∀ x c,cl.lookup x=some c→X.env.cells.lookup x=some c) (hfr:∀ x,(x,NameKind.free)∈scope.names→∃ c,cl.lookup x=some c)
  {P:V→Hp→Prop}
  (w:∀ D,H2 D=none→∃ W:Nat→Nat→St→Hp→Prop,(∃ m,W 0 m (dj cap σ) (aJ H2 D (.lst []))) ∧
   ∀ i m σ' H',W i m σ' H'→(J.stop i H'∧P (.ref D) H')∨(J.go i H'∧∃ N:St→Hp→Prop,(∀ σ2 H2,N σ2 H2→∃ m',m'<m∧W (i+1) m' σ2 H2) ∧
    ∀ x H2,J.yld i H' x H2→g x σ' H2 fun σ3 H3=>tc σ3 H3 fun b H4=>if b=true then te σ3 H4 fun y H5=>∃ ys,H5 D=some (.lst ys)∧ys.length<sizeLine∧N σ3 (aJ H5 D (.lst (ys++[y]))) else N σ3 H4))
  (hRR:∀ D C H' s' m',X.env.locals≠C→X.s₀.heap.objs.size≤C→(∀ x c,X.env.cells.lookup x=some c→c≠C)→(∀ p∈X.pn++pins,p.1≠C)→H' C=none→s'.heap.Ns C m'→Inv X pins σ H' s'→P (.ref D) H'→RR (.ref D) C (.ok .next) s') :
  wpAny (model X.prog X.w) X.A (newList []) (fun acc s₃=>wpAny (model X.prog X.w) X.A (newFunctionEnv scope X.env.globals cl [] X.env.qual none .none (some X.env)) (fun cenv s₄ =>
   codeAny (model X.prog X.w) X.A (.compStart (.ListComp elt [⟨tg,iter,ifs,0⟩] scope pos) 0 (.ref it) acc { cenv with scope:=relabel scope X.env }) (RR acc cenv.locals) s₄) E s₃) E s2:=by
 refine wpAny_newObj_type ?_ (by show 0≤sizeLine;decide)
 have I3:Inv X pins σ (aJ H2 s2.heap.objs.size (.lst [])) { s2 with heap:=s2.heap.push { cls:=.type "list",data:=.seq ([]:List Value).toArray } }:=I2.lnew (t':=s2.toks) .nil (by show 0≤sizeLine;decide)
 have k3:∀ b o,s2.heap.get? b=some o→(s2.heap.push { cls:=.type "list",data:=.seq ([]:List Value).toArray }).get? b=some o:=fun b o e=>Heap.get?_push_of_some _ e
 have z3:(s2.heap.push { cls:=.type "list",data:=.seq ([]:List Value).toArray }).objs.size=s2.heap.objs.size+1:=Heap.size_push ..
 have hD0:H2 s2.heap.objs.size=none:=I2.fresh
 generalize hs3:({ s2 with heap:=s2.heap.push { cls:=.type "list",data:=.seq ([]:List Value).toArray } }:Shared)=s3 at I3 ⊢
 have eh3:s3.heap=s2.heap.push { cls:=.type "list",data:=.seq ([]:List Value).toArray }:=by rw[← hs3]
 have eo3:s3.os=s2.os:=by rw[← hs3]
 generalize hDD:s2.heap.objs.size=D at I3 hD0 z3 ⊢
 rw[← eh3] at k3 z3
 have live:∀ b∈fp,∃ o,s2.heap.get? b=some o∧∀ v,o.data≠.cell v:=fun b hb=>T.obj 0 _ st2 b hb
 have ltD:∀ b∈fp,b<D:=fun b hb=>by obtain⟨o,e,_⟩:=live b hb;rw[← hDD];exact Heap.lt_size e
 have f3:∀ b∈fp,FpOk X pins (aJ H2 D (.lst [])) b:=fun b hb=>⟨by rw[ba (Nat.ne_of_lt (ltD b hb))];exact (f2 b hb).1,(f2 b hb).2⟩
 refine wpAny_newFunctionEnv S.nocell (by intro y hy;simp at hy) (fun h4 hn4 hs4=>?_) S.kind
 have k4:∀ b o,s3.heap.get? b=some o→h4.get? b=some o:=fun b o e=>hs4.extBut b o (Nat.ne_of_lt (Heap.lt_size e)) (Heap.get?_push_of_some _ e)
 have st4:tn 0 h4:=T.keep 0 _ _ st2 fun b _ o e=>k4 b o (k3 b o e)
 have I4:Inv (bT X scope N' cl s3.heap.objs.size s3 (aJ H2 D (.lst [])) fp) [] (dj cap σ) (aJ H2 D (.lst [])) { s3 with heap:=h4,toks:=s3.toks+([]:List (Str × Value)).length } :=
  AQ S I3 hcl hfr (Nat.le_refl _) rfl rfl k4 hn4 f3 fun b hb=>by rw[z3];exact Nat.lt_succ_of_lt (ltD b hb)
 obtain⟨W,⟨m0,w0⟩,turn⟩:=w D hD0
 have fpY:∀ {H':Hp},(∀ b∈fp,H' b=none)→∀ b∈fp,FpOk (bT X scope N' cl s3.heap.objs.size s3 (aJ H2 D (.lst [])) fp) [] H' b:=fun hn b hb =>
  ⟨hn b hb,Nat.ne_of_lt (by show b<s3.heap.objs.size;rw[z3];exact Nat.lt_succ_of_lt (ltD b hb)),fun hf=>I4.ok.exfs b hb hf,.inl hb,fun x c e=>(I4.ok.exf b hb).2 x c e,fun p hp=>absurd (show p∈([]:List (Addr × Obj)) from hp) (by simp)⟩
 have loop:∀ s₃:Shared,s₃={ s3 with heap:=h4,toks:=s3.toks+([]:List (Str × Value)).length } →
   codeAny (model X.prog X.w) X.A (.compLoop (.ListComp elt [⟨tg,iter,ifs,0⟩] scope pos) 0 (.ref it) (.ref D) (compEnvC scope cl s3.heap.objs.size X.env)) (RR (.ref D) s3.heap.objs.size) s₃:=by
  rintro s₃ rfl
  refine Do (fun n s'=>∃ i σ' H',Inv (bT X scope N' cl s3.heap.objs.size s3 (aJ H2 D (.lst [])) fp) [] σ' H' s'∧tn i s'.heap∧(∀ b∈fp,H' b=none)∧W i n σ' H') ?_ m0
   ⟨0,dj cap σ,aJ H2 D (.lst []),I4,st4,fun b hb=>(f3 b hb).1,w0⟩
  rintro n s5 ⟨i,σ5,H5,I5,st5,fr5,w5⟩
  rcases turn i n σ5 H5 w5 with⟨stop,qn⟩ | ⟨go,N,hN,step⟩
  ·refine aT (T.done (bT X scope N' cl s3.heap.objs.size s3 (aJ H2 D (.lst [])) fp) rfl rfl rfl hcalm i [] s5 σ5 H5 _ I5 (fpY fr5) st5 stop) fun r s6 hq0=>?_
   obtain⟨hr,I6⟩:=hq0
   subst hr
   obtain⟨m6,hn6,_⟩:=I6.loc
   have un:Un (eP X.stack) fp (aJ H2 D (.lst [])) H5 s3.heap s6.heap:=I6.base
   refine hRR D s3.heap.objs.size H5 s6 m6 (Nat.ne_of_lt I3.lt) I3.sz (fun x c e=>?_) (fun p hp=>?_) I6.free hn6 ?_ qn
   ·obtain⟨v,q⟩:=I3.cell x c e
    exact Nat.ne_of_lt q.lt
   ·exact Nat.ne_of_lt (Heap.lt_size (I3.pin p hp).1)
   ·exact I3.call' I6.os un I6.hok I6.bare fun b hb=>⟨(f3 b hb).2.2.2.1,(f3 b hb).2.1,(f3 b hb).2.2.2.2.1,(f3 b hb).2.2.2.2.2⟩
  ·refine aT (T.item (bT X scope N' cl s3.heap.objs.size s3 (aJ H2 D (.lst [])) fp) rfl rfl rfl hcalm i [] s5 σ5 H5 (fun _ _=>False) I5 (fpY fr5) st5 go) fun r s6 hq1=>?_
   obtain⟨u,hr,h6⟩:=hq1
   subst hr
   refine aT h6 fun _ s7 hq2=>?_
   obtain⟨x,H7,I7,r7,y7,st7,fr7⟩:=hq2
   have I7':=I7.pinned (fpY fr7) (T.obj _ _ st7)
   refine aT (hg _ _ _ _ s7 σ5 H7 x u _ I7' r7 (step x H7 y7)) fun _ s8 hq3=>?_
   obtain⟨σ8,H8,I8,q8⟩:=hq3
   refine aT (ht _ _ _ _ s8 σ8 H8 _ I8 q8) fun b s9 hq4=>?_
   obtain⟨H9,I9,q9⟩:=hq4
   have again:∀ {σ9:St} {H9:Hp} {s9:Shared},Inv (bT X scope N' cl s3.heap.objs.size s3 (aJ H2 D (.lst [])) fp) ([]++jx fp s7.heap) σ9 H9 s9→N σ9 H9→∃ m,m<n∧∃ i σ' H',Inv (bT X scope N' cl s3.heap.objs.size s3 (aJ H2 D (.lst [])) fp) [] σ' H' s9∧tn i s9.heap∧(∀ b∈fp,H' b=none)∧W i m σ' H':=fun {σ9 H9 s9} I9 n9=>by
    obtain⟨m',hm,w9⟩:=hN σ9 H9 n9
    refine⟨m',hm,i+1,σ9,H9,I9.unpinned,T.keep _ _ _ st7 fun b hb o e=>(I9.pin (b,o) (List.mem_append_right _ (List.mem_append_right _ (jZ hb e)))).1,fun b hb=>?_,w9⟩
    obtain⟨o,e,d⟩:=T.obj _ _ st7 b hb
    exact (I9.pin (b,o) (List.mem_append_right _ (List.mem_append_right _ (jZ hb e)))).2.1
   cases b with
   | false =>
    rw[if_neg (by decide)] at q9 ⊢
    exact again I9 q9
   | true =>
    rw[if_pos rfl] at q9 ⊢
    refine aT (he _ _ _ _ s9 σ8 H9 _ I9 q9) fun yv s10 hq5=>?_
    obtain⟨y,H10,I10,r10,ys,hD10,hz10,q10⟩:=hq5
    refine aT (pH _ s10 σ8 H10 (.ref D) [y] (.ref D) [yv] (fun _ H'=>N σ8 H') I10 rfl (.cons r10 .nil) ⟨D,ys,y,rfl,rfl,hD10,hz10,q10⟩) fun _ s11 hq6=>?_
    obtain⟨_,H11,I11,_,q11⟩:=hq6
    exact again I11 q11
 exact codeAny_compStart_list (loop _ rfl) (T.self _ 0 _ _ _ st4 (loop _ rfl))
theorem rH (hcalm:X.calm=true)(S:CompScope X.N X.env.scope scope N' cap)(hi:PI X tg iter wi)
  (hg:∀ (cl:List (Str × Addr)) (fp:List Addr) (C:Addr) (s0:Shared) (H0:Hp),PG (bT X scope N' cl C s0 H0 fp) tg g) (ht:∀ (cl:List (Str × Addr)) (fp:List Addr) (C:Addr) (s0:Shared) (H0:Hp),ig (bT X scope N' cl C s0 H0 fp) ifs tc)
  (he:∀ (cl:List (Str × Addr)) (fp:List Addr) (C:Addr) (s0:Shared) (H0:Hp),PE (bT X scope N' cl C s0 H0 fp) elt te) (hs:∀ x,foldedSetIterable iter X.env x=pure x:=by intro _;rfl) :
  PE X (.ListComp elt [⟨tg,iter,ifs,0⟩] scope pos) (fV wi cap g tc te):=by
 intro pins s σ H Q I h
 obtain⟨cl,ecl,hcl,hfr⟩:=l7 (scope:=scope) (env:=X.env) fun x hx hf=>I.ok.has x.1 (.inl (S.free x hx hf))
 rw[eval_ListComp]
 refine wpAny_comprehension_free (use:=none) rfl hs ecl S.kind S.names (aT (hi pins s σ H _ I h) fun v s1 h1=>aT h1 fun itv s2 h2=>?_)
 obtain⟨it,fp,tn,J,H2,e,I2,T,st2,f2,w⟩:=h2
 subst e
 refine qP (RR:=fun acc C=>compPost (model X.prog X.w) X.A X.xe none (EP X pins σ Q) acc C) hcalm S (hg cl fp) (ht cl fp) (he cl fp) I2 T st2 f2 hcl hfr (P:=Q) w ?_
 intro D C H' s' m' hL hz hcc hpp hC hn I' q
 refine⟨m',hn,fun h' hs'=>⟨.ref D,H',I'.turned (t':=s'.toks) (fun b o hb e=>(hs'.2 b hb).trans e) hC (Ne.symm hL) (.inr hz) hcc hpp,rfl,q⟩⟩
theorem lY {i:Nat}{y:Str}{py spos:Pos}(hcalm:X.calm=true)(hN:X.N.Nodup)(hy:X.N[i]?=some y)(hx:eO X.env.scope y)(S:CompScope X.N X.env.scope scope N' cap)(hi:PI X tg iter wi)
  (hg:∀ (cl:List (Str × Addr)) (fp:List Addr) (C:Addr) (s0:Shared) (H0:Hp),PG (bT X scope N' cl C s0 H0 fp) tg g) (ht:∀ (cl:List (Str × Addr)) (fp:List Addr) (C:Addr) (s0:Shared) (H0:Hp),ig (bT X scope N' cl C s0 H0 fp) ifs tc)
  (he:∀ (cl:List (Str × Addr)) (fp:List Addr) (C:Addr) (s0:Shared) (H0:Hp),PE (bT X scope N' cl C s0 H0 fp) elt te) (hsw:swapsWith (.ListComp elt [⟨tg,iter,ifs,0⟩] scope pos) (some (.Name y py)) spos.line X.env=pure true:=by rfl)
  (hs:∀ x,foldedSetIterable iter X.env x=pure x:=by intro _;rfl) (hf:X.fn y=true∨X.env.scope.names.lookup y=some .local:=by first | exact .inl rfl | exact .inr rfl | assumption) :
  PS X (.Assign [.Name y py] (.ListComp elt [⟨tg,iter,ifs,0⟩] scope pos) spos) (gO (fV wi cap g tc te) (gh i)):=by
 intro pins s σ H D I h
 obtain⟨cl,ecl,hcl,hfr⟩:=l7 (scope:=scope) (env:=X.env) fun x hx hf=>I.ok.has x.1 (.inl (S.free x hx hf))
 rw[exec_Assign_Name_used _ _ _ _ hsw]
 refine wpAny_bind (wpAny_standAt (wpAny_bind ?_))
 show wpAny _ X.A (do let _ ← comprehension (.ListComp elt [⟨tg,iter,ifs,0⟩] scope pos) scope X.env _ (newList []) false (eval iter X.env) (some (assign (.Name y py) X.env))) _ _ s
 refine wpAny_bind (wpAny_mono (wpAny_comprehension_free (use:=some (assign (.Name y py) X.env)) (Q:=fun _ s'=>SP X pins D .next s') rfl hs ecl S.kind S.names
  (aT (hi pins s σ H _ I h) fun v s1 h1=>aT h1 fun itv s2 h2=>?_)) (fun _ s' hq=>wpAny_pure (wpAny_pure hq)) fun _ _ e=>e)
 obtain⟨it,fp,tn,J,H2,e,I2,T,st2,f2,w⟩:=h2
 subst e
 refine qP (RR:=fun acc C=>compPost (model X.prog X.w) X.A X.xe (some (assign (.Name y py) X.env)) (fun _ s'=>SP X pins D .next s') acc C) hcalm S (hg cl fp) (ht cl fp) (he cl fp) I2 T st2 f2 hcl hfr (P:=fun v H'=>D.nx (σ.set i (some v)) H') w ?_
 intro Dd C H' s' m' hL hz hcc hpp hC hn I' q
 show wpAny _ X.A (assign (.Name y py) X.env (.ref Dd)) _ _ s'
 refine wpAny_assign_Name (oX (v:=.ref Dd) I' hN hy hx rfl (fun s'' I'' hsb=>?_) hf)
 obtain⟨a,sb,ha⟩:=hsb
 have hCa:C≠a:=by
  rcases ha with z | z
  ·rw[z];exact Ne.symm hL
  ·exact Ne.symm (hcc y a z)
 refine⟨m',hn.sameBut sb hCa,fun h' hs'=>?_⟩
 exact⟨_,H',I''.turned (t':=s''.toks) (fun b o hb e=>(hs'.2 b hb).trans e) hC (Ne.symm hL) (.inr hz) hcc hpp,q⟩
end
open AutoSeq1 (wpAny_loadPart')
theorem Inv.turnedL {X:Cx}{pins:List (Addr × Obj)}{σ:St}{H:Hp}{s:Shared}{h':Heap}{ch:List Addr}{t':Nat}(I:Inv X pins σ H s)(k:∀ b o,b∉ch→s.heap.get? b=some o→h'.get? b=some o)(hf:∀ b∈ch,FpOk X pins H b) :
  Inv X pins σ H { s with heap:=h',toks:=t' }:=by
 have nit:∀ b u,H b=some u→b∉ch:=fun b u e z=>by rw[(hf b z).1] at e;cases e
 refine I.step (g':=s.gens) (d':=s.drawn) (ch:=ch) (fun b hb=>⟨(hf b hb).2.2.2.1,(hf b hb).2.1,(hf b hb).2.2.2.2.1,(hf b hb).2.2.2.2.2⟩) (fun b o _ _ hc e _=>k b o hc e) (fun b o _ _ hc e _=>⟨o.slots,k b o hc e⟩) (fun _ _ _ _ n=>n)
  (fun b o hc e=>⟨o,k b o hc e⟩) (fun _ _ e=>e) (fun _ _ _ e=>e) (fun b ps e=>e) (fun m hm=>?_) (fun b u e=>?_) I.bare
 ·obtain⟨o,es,ep,ho,r⟩:=hm
  exact⟨o,es,ep,k _ o (fun z=>(hf _ z).2.1 rfl) ho,r⟩
 ·refine (I.hok b u e).stay (fun c v hc q=>k c v ?_ q) (fun _ q=>q) (fun _ _ q=>q) fun _ _ _ q=>q
  rcases hc with z | z
  ·rw[z];exact nit b u e
  ·exact nit c _ z
def SqI (b:Bool)(h:Heap)(it a:Addr)(i:Nat):Prop:=match b with | true=>h.IsListIter it a i | false=>h.IsTupleIter it a i
def SqO (b:Bool)(h:Heap)(a:Addr)(its:Array Value):Prop:=match b with | true=>h.IsList a its | false=>h.IsTuple a its
def SqB (K:Frag)(b:Bool)(H:Hp)(a:Addr)(xs:List V):Prop:=match b with | true=>SqL K H a xs | false=>SqT K H a xs
def cE (b:Bool)(a:Addr):Obj:=match b with
 | true=>{ cls:=.type "list_iterator",data:=.fields #[.ref a,.int 0 0] }
 | false=>{ cls:=.type "tuple_iterator",data:=.fields #[.ref a,.int 0 0] }
theorem SqI.at {b:Bool}{h h':Heap}{it a:Addr}{i:Nat}(x:SqI b h it a i)(k:∀ o,h.get? it=some o→h'.get? it=some o):SqI b h' it a i:=by
 cases b <;> (obtain⟨o,e,r⟩:=x;exact⟨o,k o e,r⟩)
theorem SqO.at {b:Bool}{h h':Heap}{a:Addr}{its:Array Value}(x:SqO b h a its)(k:∀ o,h.get? a=some o→h'.get? a=some o):SqO b h' a its:=by
 cases b <;> (obtain⟨o,e,r⟩:=x;exact⟨o,k o e,r⟩)
theorem SqI.obj {b:Bool}{h:Heap}{it a:Addr}{i:Nat}(x:SqI b h it a i):∃ o,h.get? it=some o∧∀ v,o.data≠.cell v:=by
 cases b <;> (obtain⟨o,e,_,d⟩:=x;exact⟨o,e,fun v z=>by rw[d] at z;cases z⟩)
theorem SqI.lt {b:Bool}{h:Heap}{it a:Addr}{i:Nat}(x:SqI b h it a i):it<h.objs.size:=by obtain⟨o,e,_⟩:=x.obj;exact Heap.lt_size e
theorem SqO.lt {b:Bool}{h:Heap}{a:Addr}{its:Array Value}(x:SqO b h a its):a<h.objs.size:=by
 cases b <;> (obtain⟨o,e,_⟩:=x;exact Heap.lt_size e)
theorem Inv.sqb {X:Cx}{pins:List (Addr × Obj)}{σ:St}{H:Hp}{s:Shared}{b:Bool}{a:Addr}{xs:List V}(I:Inv X pins σ H s)(h:SqB X.K b H a xs):∃ its:List Value,Vals xs its∧SqO b s.heap a its.toArray∧xs.length≤sizeLine:=by
 cases b with
 | true=>obtain⟨its,rv,p,hz⟩:=I.list h;exact⟨its,rv,p.isList,hz⟩
 | false=>obtain⟨its,rv,p,hz⟩:=I.tuple h;exact⟨its,rv,p,hz⟩
theorem Inv.sqb_inj {X:Cx}{pins:List (Addr × Obj)}{σ:St}{H:Hp}{s:Shared}{b:Bool}{a:Addr}{xs ys:List V}(I:Inv X pins σ H s)(h:SqB X.K b H a xs)(h':SqB X.K b H a ys):xs=ys:=by
 cases b with
 | true=>exact I.list_inj h h'
 | false=>exact I.tuple_inj h h'
theorem SqB.same {K:Frag}{b:Bool}{H H':Hp}{a:Addr}{xs:List V}(e:Same H H')(h:SqB K b H a xs):SqB K b H' a xs:=by
 cases b with
 | true=>exact e.seq h
 | false =>
  rcases h with (h | ⟨o,h⟩) | h
  ·exact .inl (.inl (e _ _ h))
  ·exact .inl (.inr ⟨o,e _ _ h⟩)
  ·exact .inr h
section
variable {prog:Program}{w:World}{A:Around}{E:Value→Shared→Prop}{s:Shared}
theorem jc {b:Bool}{a:Addr}{its:Array Value}{Q:Value→Shared→Prop}(h:SqO b s.heap a its)(q:Q (.ref s.heap.objs.size) { s with heap:=s.heap.push (cE b a) }):wpAny (model prog w) A (pyIter (.ref a)) Q E s:=by
 cases b with
 | true=>exact wpAny_pyIter_list h q
 | false=>exact wpAny_pyIter_tuple h q
theorem iH {b:Bool}{h:Heap}{it a:Addr}(e:h.get? it=some (cE b a)):SqI b h it a 0:=by
 cases b <;> exact⟨_,e,rfl,rfl⟩
theorem kR {b:Bool}{it a:Addr}{i:Nat}{its:Array Value}{x:Value}{Q:Value→Shared→Prop}(hit:SqI b s.heap it a i)(hl:SqO b s.heap a its)(hx:its[i]?=some x)
  (hQ:∀ h',SqI b h' it a (i+1)→Heap.SameBut it s.heap h'→Q x { s with heap:=h' }):wpAny (model prog w) A (Builtin.SmallTypes.nextOf (.ref it)) Q E s:=by
 cases b with
 | true=>exact wpAny_nextOf_list_item hit hl hx hQ
 | false =>
  have hit:s.heap.IsTupleIter it a i:=hit
  obtain⟨o,ho,hc,hd⟩:=id hit
  obtain⟨ol,hol,_,nl,hdl⟩:=hl
  unfold Builtin.SmallTypes.nextOf
  refine wpAny_bind (wpAny_callSpecial?_slot (name:=Str.ofString "__next__") hit.typeIs F.slot_tuple_iterator_next (wpAny_call_entry F.slot_tuple_iterator_next hit.typeIs F.entry_tuple_iterator_next ?_ (F.args_tuple_iterator_next_1 _)))
  show wpAny _ _ (field (.ref it) 0 >>= _) _ _ s
  refine wpAny_bind (wpAny_field ho hd (x:=.ref a) rfl ?_)
  show wpAny _ _ (if (Value.ref a == Value.none)=true then _ else _) _ _ s
  rw[if_neg (show ¬ ((Value.ref a == Value.none)=true) from Bool.false_ne_true)]
  show wpAny _ _ (field (.ref it) 1 >>= _) _ _ s
  refine wpAny_bind (wpAny_field ho hd (x:=.int i 0) rfl ?_)
  show wpAny _ _ (seqItems? (.ref a) >>= _) _ _ s
  refine wpAny_bind (wpAny_seqItems hol hdl ?_)
  simp only [Int.toNat_natCast,hx]
  refine wpAny_bind (wpAny_setField ho hd (by simp) (wpAny_pure ⟨x,rfl,wpAny_pure (hQ _ ?_ (Heap.SameBut.update ..))⟩))
  exact⟨_,Heap.get?_update_self _ ho (Obj.isFreed_of_fields (Obj.data_mapFields hd _)),(Obj.cls_mapFields ..).trans hc,by rw[Obj.data_mapFields hd];simp [rawInt]⟩
theorem kh {b:Bool}{it a:Addr}{i:Nat}{its:Array Value}{Q:Value→Shared→Prop}(hh:A.handled=none)(hit:SqI b s.heap it a i)(hl:SqO b s.heap a its)(hx:its[i]?=none)
  (hE:∀ h' e,Heap.ExtBut it s.heap h'→(∃ o,h'.get? e=some o∧o.cls=.type "StopIteration")→E (.ref e) { s with heap:=h' }):wpAny (model prog w) A (Builtin.SmallTypes.nextOf (.ref it)) Q E s:=by
 cases b with
 | true=>exact wpAny_nextOf_list_end hh hit hl hx hE
 | false =>
  have hit:s.heap.IsTupleIter it a i:=hit
  obtain⟨o,ho,hc,hd⟩:=id hit
  obtain⟨ol,hol,_,nl,hdl⟩:=hl
  unfold Builtin.SmallTypes.nextOf
  refine wpAny_bind (wpAny_callSpecial?_slot (name:=Str.ofString "__next__") hit.typeIs F.slot_tuple_iterator_next (wpAny_call_entry F.slot_tuple_iterator_next hit.typeIs F.entry_tuple_iterator_next ?_ (F.args_tuple_iterator_next_1 _)))
  show wpAny _ _ (field (.ref it) 0 >>= _) _ _ s
  refine wpAny_bind (wpAny_field ho hd (x:=.ref a) rfl ?_)
  show wpAny _ _ (if (Value.ref a == Value.none)=true then _ else _) _ _ s
  rw[if_neg (show ¬ ((Value.ref a == Value.none)=true) from Bool.false_ne_true)]
  show wpAny _ _ (field (.ref it) 1 >>= _) _ _ s
  refine wpAny_bind (wpAny_field ho hd (x:=.int i 0) rfl ?_)
  show wpAny _ _ (seqItems? (.ref a) >>= _) _ _ s
  refine wpAny_bind (wpAny_seqItems hol hdl ?_)
  simp only [Int.toNat_natCast,hx]
  refine wpAny_bind (wpAny_rule (wpAny_bind (wpAny_setField ho hd (by simp) ?_)))
  show wpAny _ _ (newExc (.type "StopIteration") [] >>= _) _ _ _
  refine wpAny_bind ?_
  simp only [newExc,newTuple]
  refine wpAny_bind (wpAny_newObj_type ?_ (by size_fits))
  refine wpAny_bind (m:=firstArgMember _ _) (wpAny_of_eq (a:=Value.none) (by first | rfl | (simp only [firstArgMember];rfl)) ?_)
  refine wpAny_newObj_type ?_ (by size_fits)
  simp only [raiseNew]
  refine wpAny_bind (wpAny_handled ?_)
  first | rw[show A.in1.handled=none from hh] | rw[hh]
  refine wpAny_bind (wpAny_pure (wpAny_throw ?_))
  exact hE _ _ (((Heap.SameBut.update ..).extBut.push _).push _) ⟨_,Heap.get?_push_size _ rfl,rfl⟩
theorem wz (hh:A.handled=none)(b:Bool)(it a:Addr)(hne:a≠it)(its:Array Value):Draws prog w A it [it,a] its.size (fun i v=>its[i]?=some v) (fun i h=>SqI b h it a i∧SqO b h a its) where
 live:=fun _ _ st=>let ⟨o,e,_⟩:=st.1.obj;⟨o,e⟩
 frame:=fun _ _ _ st k=>⟨st.1.at fun o e=>k it (by simp) o e,st.2.at fun o e=>k a (by simp) o e⟩
 item:=fun i s Q E hi st hQ=>kR st.1 st.2 (x:=its[i]) (by simp [hi]) fun h' q sb=>hQ _ h' s.toks (by simp [hi]) ⟨q,st.2.at fun o e=>(sb.2 a hne).trans e⟩ sb
 done:=fun s Q E st hE=>kh hh st.1 st.2 (by simp) hE
theorem yd (l:Addr)(items:Array Value)(n:Nat)(dct:Option Addr)(sl:Array (Option Value)) :
  Meets (Builtin.«enumerate.__new__» ⟨[.type "enumerate",.ref l],[]⟩) (fun _ R s=>s.heap.get? l=some { cls:=.type "tuple",dict:=dct,data:=.seq items n,slots:=sl } ∧
   R (.ok (.ret (.ref (s.heap.push (cE false l)).objs.size)))
    { s with heap:=(s.heap.push (cE false l)).push { cls:=.type "enumerate",data:=.fields #[.none,.bool false,.ref s.heap.objs.size,rawInt 0,.none,.none] } }) :=
 .of_wp fun prog w A R s h=>by
  obtain⟨hp,g,d,tk,os⟩:=s;obtain⟨hl,h⟩:=h
  have hsub:=sub_enumerate
  have hL:Heap.IsTuple (Shared.heap ⟨hp,g,d,tk,os⟩) l items:=⟨_,hl,rfl,n,rfl⟩
  wp_walk using wpAny_loadPart' hl
  refine wpAny_stack_any fun st=>wpAny_pure ?_
  split
  ·rename_i c _ _ _ _ _
   cases (c == Value.type "enumerate")
   ·(wp_walk using wpAny_loadPart' hl,wpAny_pyIter_tuple hL);exact⟨_,rfl,h⟩
   ·(wp_walk using wpAny_loadPart' hl,wpAny_pyIter_tuple hL);exact⟨_,rfl,h⟩
  ·(wp_walk using wpAny_loadPart' hl,wpAny_pyIter_tuple hL);exact⟨_,rfl,h⟩
theorem yW {b:Bool}{l:Addr}{items:Array Value}{Q:Value→Shared→Prop}(hL:SqO b s.heap l items)
  (h:∀ h',IsEnum h' (s.heap.objs.size+1) s.heap.objs.size 0 .none→SqI b h' s.heap.objs.size l 0→h'.objs.size=s.heap.objs.size+2→(∀ b o,s.heap.get? b=some o→h'.get? b=some o)→Q (.ref (s.heap.objs.size+1)) { s with heap:=h' }) :
  wpAny (model prog w) A (call (.type "enumerate") [.ref l]) Q E s:=by
 cases b with
 | true=>exact call_enumerate_list hL h
 | false =>
  obtain⟨⟨c,dct,dt,sl⟩,hl,hc,n,hd⟩:=hL
  replace hc:c=.type "tuple":=hc
  replace hd:dt=.seq items n:=hd
  subst hc hd
  refine callType_new F.called_enumerate (by decide) (F.typeCall_enumerate_1 _) (F.newCall_enumerate_1 _) (fun obj=>F.args_object_init_2 obj _) F.entry_enumerate_new (yd l items n dct sl) ⟨hl,?_⟩
  have hz:(s.heap.push (cE false l)).objs.size=s.heap.objs.size+1:=Heap.size_push ..
  show _∧_
  rw[hz]
  have he:=Heap.get?_push_size (s.heap.push (cE false l)) (o:={ cls:=.type "enumerate",data:=.fields #[.none,.bool false,.ref s.heap.objs.size,rawInt 0,.none,.none] }) rfl
  rw[hz] at he
  have hi:(s.heap.push (cE false l)).get? s.heap.objs.size=some (cE false l):=Heap.get?_push_size _ rfl
  exact⟨⟨_,he,rfl⟩,h _ he (iH (Heap.get?_push_of_some _ hi)) (by rw[Heap.size_push,hz]) fun b o x=>Heap.get?_push_of_some _ (Heap.get?_push_of_some _ x)⟩
theorem Dl {b:Bool}{e it a:Addr}{i:Nat}{j:Int}{its:Array Value}{old:Value}{Q:Option Value→Shared→Prop}(hh:A.handled=none)(he:IsEnum s.heap e it j old)(hit:SqI b s.heap it a i)(hl:SqO b s.heap a its)(hx:its[i]?=none)
  (hQ:∀ h',Heap.ExtBut it s.heap h'→Q none { s with heap:=h' }):wpAny (model prog w) A (pyNext (.ref e)) Q E s:=by
 have hT:s.TypeIs (.ref e) "enumerate":=⟨_,he,rfl⟩
 unfold pyNext
 refine wpAny_bind (wpAny_attempt (wpAny_callSpecial?_slot (name:=Str.ofString "__next__") hT F.slot_enumerate_next (wpAny_call_entry F.slot_enumerate_next hT F.entry_enumerate_next ?_ (F.args_enumerate_next_1 _))))
 show wpAny _ _ (field (.ref e) 2 >>= _) _ _ _
 refine wpAny_bind (wpAny_field he rfl (x:=.ref it) rfl (wpAny_bind (kh hh hit hl hx fun h' x he' hx'=>?_)))
 obtain⟨o,ho,hc⟩:=hx'
 exact wpAny_bind (wpAny_isInstance (T:="StopIteration") (b:=true) ⟨o,ho,hc⟩ isSubtype_stop (wpAny_pure (hQ _ he')))
end
def ke (K:Frag)(b:Bool)(a:Addr):It :=
 ⟨fun i H=>∃ xs x,SqB K b H a xs∧xs[i]?=some x,fun i H x H'=>∃ t y,H t=none∧x=.ref t∧H'=aJ H t (.tup [.int i,y])∧∀ xs,SqB K b H a xs→xs[i]?=some y,fun i H=>∃ xs,SqB K b H a xs∧xs.length≤i⟩
theorem wc {P:Program}{w:World}{K:Frag}{es:List Expr}{k:Nat}{pos:Pos}(b:Bool)(a e it:Addr)(hei:e≠it):Turn P w K (.Tuple es k pos) (ke K b a) [e,it] e (fun i h=>(∃ old,IsEnum h e it i old)∧SqI b h it a i) where
 mem:=by simp
 obj:=fun i h st c hc=>by
  obtain⟨⟨old,he⟩,hs⟩:=st
  rcases List.mem_cons.mp hc with rfl | hc
  ·exact⟨_,he,fun v z=>by have z':Data.fields _=Data.cell v:=z;cases z'⟩
  ·rw[List.mem_singleton.mp hc];exact hs.obj
 keep:=fun i h h' st k=>by
  obtain⟨⟨old,he⟩,hs⟩:=st
  exact⟨⟨old,k e (by simp) _ he⟩,hs.at fun o q=>k it (by simp) o q⟩
 item:=by
  intro X hP hw hK hc i pins s σ H E I hf st hg
  subst hP hw hK
  obtain⟨xs,x,hq,hx⟩:=hg
  obtain⟨⟨old,he⟩,hs⟩:=st
  obtain⟨its,rv,p,hz⟩:=I.sqb hq
  obtain⟨u,hu,ru⟩:=rv.get hx
  have hne:a≠it:=fun z=>by
   subst z
   have h1:=p;have h2:=hs
   cases b <;> (obtain⟨o1,e1,c1,_⟩:=h1;obtain⟨o2,e2,c2,_⟩:=h2;rw[e1] at e2;cases e2;rw[c1] at c2;exact absurd c2 (by simp))
  have hne2:a≠e:=fun z=>by
   subst z
   have h1:=p
   cases b <;> (obtain⟨o1,e1,c1,_⟩:=h1;rw[he] at e1;cases e1;exact absurd c1 (by simp))
  have hil:i<its.toArray.size:=by
   have:i<its.length:=(List.getElem?_eq_some_iff.mp hu).1
   simpa using this
  have hh:X.A.in1.handled=none:=I.ok.hd hc
  refine wpAny_pyNext_enum_itemD (wz hh b it a hne its.toArray) he ⟨hs,p⟩ hil hei (by simp [hei,Ne.symm hne2]) fun y h' tk hP' ho hst hT hsz hk=>?_
  have hy:y=u:=by
   have:its.toArray[i]?=some u:=by simpa using hu
   rw[this] at hP';exact (Option.some.inj hP').symm
  subst hy
  refine⟨.ref s.heap.objs.size,rfl,wpAny_letOwnedTupleGo_enum ho fun h2 he2 hs2=>?_⟩
  have zn:H s.heap.objs.size=none:=I.fresh
  have I1:Inv X pins σ (aJ H s.heap.objs.size (.tup [.int i,x])) { s with heap:=s.heap.push { cls:=.type "tuple",data:=.seq #[.int i tk,y] },toks:=tk } :=
   I.laid (fun c o q=>Heap.get?_push_of_some _ q) (Nat.le_refl _) ⟨by show 2≤sizeLine;decide,[.int i tk,y],.cons ⟨tk,rfl⟩ (.cons ru .nil),_,Heap.get?_push_size _ rfl,rfl,0,rfl⟩
  have lts:∀ c∈[e,it],c<s.heap.objs.size:=fun c hc=>by
   rcases List.mem_cons.mp hc with rfl | hc
   ·exact Heap.lt_size he
   ·rw[List.mem_singleton.mp hc];exact hs.lt
  have f1:∀ c∈[e,it],FpOk X pins (aJ H s.heap.objs.size (.tup [.int i,x])) c:=fun c hc=>⟨by rw[ba (Nat.ne_of_lt (lts c hc))];exact (hf c hc).1,(hf c hc).2⟩
  have I2:=I1.turnedL (h':=h2) (ch:=[e,it]) (t':=tk+1) (fun c o hc q=>?_) f1
  ·refine⟨.ref s.heap.objs.size,_,I2,rfl,⟨s.heap.objs.size,x,zn,rfl,rfl,fun ys hy=>by rw[I.sqb_inj hy hq];exact hx⟩,⟨⟨_,by simpa using he2⟩,hst.1.at fun o q=>(hs2.2 it (Ne.symm hei)).trans q⟩,fun c hc=>(f1 c hc).1⟩
  ·have hce:c≠e:=fun z=>hc (by simp [z])
   have hci:c≠it:=fun z=>hc (by simp [z])
   refine (hs2.2 c hce).trans ?_
   rcases Heap.get?_push_cases q with⟨z,z'⟩ | q'
   ·subst z;subst z';exact hT
   ·exact hk c o hce hci q'
 done:=by
  intro X hP hw hK hc i pins s σ H E I hf st hg
  subst hP hw hK
  obtain⟨xs,hq,hx⟩:=hg
  obtain⟨⟨old,he⟩,hs⟩:=st
  obtain⟨its,rv,p,hz⟩:=I.sqb hq
  have hl:=rv.length
  refine Dl (I.ok.hd hc) he hs p (by simp;omega) fun h' eb=>⟨rfl,?_⟩
  exact I.turnedL (ch:=[e,it]) (t':=s.toks) (fun c o hc q=>eb c o (fun z=>hc (by simp [z])) q) hf
 self:=fun _ _ _ _ _ st h=>by obtain⟨⟨old,he⟩,_⟩:=st;exact wpAny_pyIter_enum he h
end L2
namespace L2
open PySem PySem.Spec PyProof.Rows
open AutoSeq1 (wpAny_loadPart')
section
variable {X:Cx}
end
structure ZAp (z TI TO i1 i2:Addr):Prop where
 a1:TI≠z
 a2:TO≠z
 a3:i1≠z
 a4:i2≠z
 a5:TI≠TO
 a6:TI≠i1
 a7:TI≠i2
 a8:TO≠i1
 a9:TO≠i2
 a0:i1≠i2
theorem SqI.but {b:Bool}{h h':Heap}{it a c:Addr}{i:Nat}(x:SqI b h it a i)(s:Heap.SameBut c h h')(n:it≠c):SqI b h' it a i:=x.at fun o e=>(s.2 it n).trans e
theorem SqO.but {b:Bool}{h h':Heap}{a c:Addr}{its:Array Value}(x:SqO b h a its)(s:Heap.SameBut c h h')(n:a≠c):SqO b h' a its:=x.at fun o e=>(s.2 a n).trans e
theorem SqO.ne {b:Bool}{h:Heap}{a c:Addr}{its:Array Value}{o:Obj}(x:SqO b h a its)(e:h.get? c=some o)(n1:o.cls≠.type "list")(n2:o.cls≠.type "tuple"):a≠c:=fun z=>by
 subst z
 cases b <;> (obtain⟨o',e',c',_⟩:=x;rw[e] at e';cases e')
 ·exact n2 c'
 ·exact n1 c'
theorem SqO.ne_it {b b':Bool}{h:Heap}{a it l:Addr}{its:Array Value}{i:Nat}(x:SqO b h a its)(y:SqI b' h it l i):a≠it:=by
 cases b' <;> (obtain⟨o,e,c,_⟩:=y;exact x.ne e (by rw[c];simp) (by rw[c];simp))
section
variable {prog:Program}{w:World}{A:Around}{E:Value→Shared→Prop}{s:Shared}
theorem uQ {b1 b2:Bool}{z TI TO i1 i2 l1 l2:Addr}{k1 k2:Nat}{xs ys:Array Value}{x y a b:Value}{Q:Value→Shared→Prop}(D:ZAp z TI TO i1 i2)
  (hz:IsZip s.heap z TI TO .none) (hTI:IsPair s.heap TI (.ref i1) (.ref i2)) (hTO:IsPair s.heap TO a b) (n1:l1≠TO) (n2:l2≠TO)
  (h1:SqI b1 s.heap i1 l1 k1) (h2:SqI b2 s.heap i2 l2 k2) (hl1:SqO b1 s.heap l1 xs) (hl2:SqO b2 s.heap l2 ys) (hx:xs[k1]?=some x) (hy:ys[k2]?=some y)
  (hQ:∀ h',IsZip h' z TI TO (rawInt s.heap.objs.size)→IsPair h' TO x y→SqI b1 h' i1 l1 (k1+1)→SqI b2 h' i2 l2 (k2+1)→IsPair h' s.heap.objs.size x y→h'.objs.size=s.heap.objs.size+1 →
   (∀ c o,c∉[z,TO,i1,i2]→s.heap.get? c=some o→h'.get? c=some o)→Q (.ref s.heap.objs.size) { s with heap:=h' }) :
  wpAny (model prog w) A (Builtin.«zip.__next__» ⟨[.ref z],[]⟩) (fun fin s'=>∃ v,fin=.done (.ret v)∧Q v s') E s:=by
 have l1z:l1≠z:=hl1.ne hz (by simp) (by simp)
 have l2z:l2≠z:=hl2.ne hz (by simp) (by simp)
 have l2i1:l2≠i1:=hl2.ne_it h1
 show wpAny _ _ (field (.ref z) 2 >>= _) _ _ _
 refine wpAny_bind (wpAny_field hz rfl (x:=.bool false) rfl ?_)
 show wpAny _ _ (field (.ref z) 3 >>= _) _ _ _
 refine wpAny_bind (wpAny_field hz rfl (x:=.ref TI) rfl (wpAny_bind (wpAny_seqItems hTI rfl ?_)))
 show wpAny _ _ (Builtin.SmallTypes.ownedTupleIsFree (.ref z) >>= _) _ _ _
 refine wpAny_bind ?_
 unfold Builtin.SmallTypes.ownedTupleIsFree
 refine wpAny_bind (wpAny_field hz rfl (x:=.none) rfl (wpAny_pure ?_))
 simp only [if_true]
 refine wpAny_bind (wpAny_rule (wpAny_bind (wpAny_field hz rfl (x:=.ref TO) rfl (wpAny_bind (wpAny_setField_rec hz (by simp) fun g1 z1 s1=>?_)))))
 replace z1:IsZip g1 z TI TO .ellipsis:=z1
 refine wpAny_bind ?_
 simp only [List.zipIdx_cons,List.zipIdx_nil,List.forIn_cons,List.forIn_nil]
 refine wpAny_bind (wpAny_bind (wpAny_onRaise ?_))
 show wpAny _ _ (Builtin.SmallTypes.nextOf (.ref i1) >>= _) _ _ _
 refine wpAny_bind (kR (h1.but s1 D.a3) (hl1.but s1 l1z) hx fun g2 p2 s2=>wpAny_pure ?_)
 have t2:IsPair g2 TO a b:=s2.extBut _ _ D.a8 (s1.extBut _ _ D.a2 hTO)
 refine wpAny_bind (wpAny_seqItems t2 rfl (wpAny_bind (wpAny_updateSeq_pair t2 fun g3 t3 s3=>wpAny_bind (wpAny_letGo (wpAny_pure ?_)))))
 replace t3:IsPair g3 TO x b:=t3
 refine wpAny_bind (wpAny_bind (wpAny_onRaise ?_))
 show wpAny _ _ (Builtin.SmallTypes.nextOf (.ref i2) >>= _) _ _ _
 refine wpAny_bind (kR (((h2.but s1 D.a4).but s2 D.a0.symm).but s3 D.a9.symm) (((hl2.but s1 l2z).but s2 l2i1).but s3 n2) hy fun g4 p4 s4=>wpAny_pure ?_)
 have t4:IsPair g4 TO x b:=s4.extBut _ _ D.a9 t3
 refine wpAny_bind (wpAny_seqItems t4 rfl (wpAny_bind (wpAny_updateSeq_pair t4 fun g5 t5 s5=>wpAny_bind (wpAny_letGo (wpAny_pure (wpAny_pure ?_))))))
 replace t5:IsPair g5 TO x y:=t5
 refine wpAny_bind (wpAny_seqItems t5 rfl (wpAny_bind (wpAny_newTuple ?_)))
 have sz:g5.objs.size=s.heap.objs.size:=by rw[s5.1,s4.1,s3.1,s2.1,s1.1]
 have z5:IsZip g5 z TI TO .ellipsis:=s5.extBut _ _ D.a2.symm (s4.extBut _ _ D.a4.symm (s3.extBut _ _ D.a2.symm (s2.extBut _ _ D.a3.symm z1)))
 have k5:∀ c o,c∉[z,TO,i1,i2]→s.heap.get? c=some o→g5.get? c=some o:=fun c o hc e=>by
  have c1:c≠z:=fun q=>hc (by simp [q])
  have c2:c≠TO:=fun q=>hc (by simp [q])
  have c3:c≠i1:=fun q=>hc (by simp [q])
  have c4:c≠i2:=fun q=>hc (by simp [q])
  exact s5.extBut _ _ c2 (s4.extBut _ _ c4 (s3.extBut _ _ c2 (s2.extBut _ _ c3 (s1.extBut _ _ c1 e))))
 have q1:SqI b1 g5 i1 l1 (k1+1):=((p2.but s3 D.a8.symm).but s4 D.a0).but s5 D.a8.symm
 have q2:SqI b2 g5 i2 l2 (k2+1):=p4.but s5 D.a9.symm
 show wpAny _ _ (Builtin.SmallTypes.ownedTupleHandOut (.ref z) (.ref g5.objs.size) >>= _) _ _ _
 refine wpAny_bind ?_
 unfold Builtin.SmallTypes.ownedTupleHandOut
 have z6:IsZip (g5.push { cls:=.type "tuple",data:=.seq #[x,y] }) z TI TO .ellipsis:=Heap.get?_push_of_some _ z5
 refine wpAny_bind (wpAny_setField_rec z6 (by simp) fun g7 z7 s7=>?_)
 replace z7:IsZip g7 z TI TO (rawInt g5.objs.size):=z7
 refine wpAny_setField_rec z7 (by simp) fun g8 z8 s8=>?_
 replace z8:IsZip g8 z TI TO (rawInt g5.objs.size):=z8
 have up:∀ c o,c≠z→g5.get? c=some o→g8.get? c=some o:=fun c o c1 e=>s8.extBut _ _ c1 (s7.extBut _ _ c1 (Heap.get?_push_of_some _ e))
 have zl:g5.objs.size≠z:=Nat.ne_of_gt (Heap.lt_size z5)
 have t8:IsPair g8 g5.objs.size x y:=s8.extBut _ _ zl (s7.extBut _ _ zl (Heap.get?_push_size _ rfl))
 have e8:g8.objs.size=g5.objs.size+1:=by rw[s8.1,s7.1,Heap.size_push]
 rw[sz] at z8 t8 e8
 refine wpAny_pure ⟨_,rfl,?_⟩
 show Q (.ref g5.objs.size) _
 rw[sz]
 exact hQ g8 z8 (up _ _ D.a2 t5) (q1.at fun o e=>up _ o D.a3 e) (q2.at fun o e=>up _ o D.a4 e) t8 e8 fun c o hc e=>up c o (fun q=>hc (by simp [q])) (k5 c o hc e)
theorem AD {b1 b2:Bool}{z TI TO i1 i2 l1 l2:Addr}{k1 k2:Nat}{xs ys:Array Value}{a b:Value}{Q:Fin→Shared→Prop}(hh:A.handled=none)(D:ZAp z TI TO i1 i2)
  (hz:IsZip s.heap z TI TO .none) (hTI:IsPair s.heap TI (.ref i1) (.ref i2)) (hTO:IsPair s.heap TO a b) (n1:l1≠TO) (n2:l2≠TO)
  (h1:SqI b1 s.heap i1 l1 k1) (h2:SqI b2 s.heap i2 l2 k2) (hl1:SqO b1 s.heap l1 xs) (hl2:SqO b2 s.heap l2 ys) (hend:xs[k1]?=none∨ys[k2]?=none)
  (hE:∀ h' e,(∀ c o,c∉[z,TO,i1,i2]→s.heap.get? c=some o→h'.get? c=some o)→(∃ o,h'.get? e=some o∧o.cls=.type "StopIteration")→E (.ref e) { s with heap:=h' }) :
  wpAny (model prog w) A (Builtin.«zip.__next__» ⟨[.ref z],[]⟩) Q E s:=by
 have l1z:l1≠z:=hl1.ne hz (by simp) (by simp)
 have l2z:l2≠z:=hl2.ne hz (by simp) (by simp)
 have l2i1:l2≠i1:=hl2.ne_it h1
 show wpAny _ _ (field (.ref z) 2 >>= _) _ _ _
 refine wpAny_bind (wpAny_field hz rfl (x:=.bool false) rfl ?_)
 show wpAny _ _ (field (.ref z) 3 >>= _) _ _ _
 refine wpAny_bind (wpAny_field hz rfl (x:=.ref TI) rfl (wpAny_bind (wpAny_seqItems hTI rfl ?_)))
 show wpAny _ _ (Builtin.SmallTypes.ownedTupleIsFree (.ref z) >>= _) _ _ _
 refine wpAny_bind ?_
 unfold Builtin.SmallTypes.ownedTupleIsFree
 refine wpAny_bind (wpAny_field hz rfl (x:=.none) rfl (wpAny_pure ?_))
 simp only [if_true]
 refine wpAny_bind (wpAny_rule (wpAny_bind (wpAny_field hz rfl (x:=.ref TO) rfl (wpAny_bind (wpAny_setField_rec hz (by simp) fun g1 z1 s1=>?_)))))
 replace z1:IsZip g1 z TI TO .ellipsis:=z1
 refine wpAny_bind ?_
 simp only [List.zipIdx_cons,List.zipIdx_nil,List.forIn_cons,List.forIn_nil]
 refine wpAny_bind (wpAny_bind (wpAny_onRaise ?_))
 show wpAny _ _ (Builtin.SmallTypes.nextOf (.ref i1) >>= _) _ _ _
 cases hx:xs[k1]? with
 | none =>
  refine wpAny_bind (kh hh (h1.but s1 D.a3) (hl1.but s1 l1z) hx fun g2 e s2 he=>?_)
  obtain⟨oe,hoe,hce⟩:=he
  have z2:IsZip g2 z TI TO .ellipsis:=s2 _ _ D.a3.symm z1
  have ez:e≠z:=fun q=>by subst q;rw[z2] at hoe;cases hoe;simp at hce
  refine wpAny_setField_rec z2 (by simp) fun g3 _ s3=>hE g3 e (fun c o hc q=>?_) ⟨oe,s3.extBut _ _ ez hoe,hce⟩
  have c1:c≠z:=fun q=>hc (by simp [q])
  exact s3.extBut _ _ c1 (s2 _ _ (fun q=>hc (by simp [q])) (s1.extBut _ _ c1 q))
 | some x =>
  have hy:ys[k2]?=none:=by
   rcases hend with h | h
   ·rw[hx] at h;cases h
   ·exact h
  refine wpAny_bind (kR (h1.but s1 D.a3) (hl1.but s1 l1z) hx fun g2 p2 s2=>wpAny_pure ?_)
  have t2:IsPair g2 TO a b:=s2.extBut _ _ D.a8 (s1.extBut _ _ D.a2 hTO)
  refine wpAny_bind (wpAny_seqItems t2 rfl (wpAny_bind (wpAny_updateSeq_pair t2 fun g3 t3 s3=>wpAny_bind (wpAny_letGo (wpAny_pure ?_)))))
  refine wpAny_bind (wpAny_bind (wpAny_onRaise ?_))
  show wpAny _ _ (Builtin.SmallTypes.nextOf (.ref i2) >>= _) _ _ _
  refine wpAny_bind (kh hh (((h2.but s1 D.a4).but s2 D.a0.symm).but s3 D.a9.symm) (((hl2.but s1 l2z).but s2 l2i1).but s3 n2) hy fun g4 e s4 he=>?_)
  obtain⟨oe,hoe,hce⟩:=he
  have z4:IsZip g4 z TI TO .ellipsis:=s4 _ _ D.a4.symm (s3.extBut _ _ D.a2.symm (s2.extBut _ _ D.a3.symm z1))
  have ez:e≠z:=fun q=>by subst q;rw[z4] at hoe;cases hoe;simp at hce
  refine wpAny_setField_rec z4 (by simp) fun g5 _ s5=>hE g5 e (fun c o hc q=>?_) ⟨oe,s5.extBut _ _ ez hoe,hce⟩
  have c1:c≠z:=fun q=>hc (by simp [q])
  exact s5.extBut _ _ c1 (s4 _ _ (fun q=>hc (by simp [q])) (s3.extBut _ _ (fun q=>hc (by simp [q])) (s2.extBut _ _ (fun q=>hc (by simp [q])) (s1.extBut _ _ c1 q))))
theorem Dv (b1 b2:Bool)(l1 l2:Addr)(xs ys:Array Value) :
  Meets (Builtin.«zip.__new__» ⟨[.type "zip",.ref l1,.ref l2],[]⟩) (fun _ R s=>SqO b1 s.heap l1 xs∧SqO b2 s.heap l2 ys ∧
   R (.ok (.ret (.ref (s.heap.objs.size+4)))) { s with heap:=((((s.heap.push (cE b1 l1)).push (cE b2 l2)).push { cls:=.type "tuple",data:=.seq #[.ref s.heap.objs.size,.ref (s.heap.objs.size+1)] }).push { cls:=.type "tuple",data:=.seq #[.none,.none] }).push { cls:=.type "zip",data:=.fields #[.none,.bool false,.bool false,.ref (s.heap.objs.size+2),.ref (s.heap.objs.size+3)] } }) :=
 .of_wp fun prog w A R s h=>by
  obtain⟨hp,g,d,tk,os⟩:=s;obtain⟨hl1,hl2,h⟩:=h
  have hsub:=sub_zip
  have hL1:SqO b1 (Shared.heap ⟨hp,g,d,tk,os⟩) l1 xs:=hl1
  have hL2:SqO b2 (Shared.heap ⟨hp.push (cE b1 l1),g,d,tk,os⟩) l2 ys:=SqO.at hl2 fun o e=>Heap.get?_push_of_some _ e
  wp_walk using jc hL1,jc hL2
  have e1:(hp.push (cE b1 l1)).objs.size=hp.objs.size+1:=Heap.size_push ..
  have e2:((hp.push (cE b1 l1)).push (cE b2 l2)).objs.size=hp.objs.size+2:=by rw[Heap.size_push,e1]
  refine⟨_,rfl,?_⟩
  simp only [Heap.size_push]
  exact h
theorem xx {b1 b2:Bool}{l1 l2:Addr}{xs ys:Array Value}{Q:Value→Shared→Prop}(hl1:SqO b1 s.heap l1 xs)(hl2:SqO b2 s.heap l2 ys)
  (h:∀ h',IsZip h' (s.heap.objs.size+4) (s.heap.objs.size+2) (s.heap.objs.size+3) .none→IsPair h' (s.heap.objs.size+2) (.ref s.heap.objs.size) (.ref (s.heap.objs.size+1))→IsPair h' (s.heap.objs.size+3) .none .none →
   SqI b1 h' s.heap.objs.size l1 0→SqI b2 h' (s.heap.objs.size+1) l2 0→(∀ c o,s.heap.get? c=some o→h'.get? c=some o)→Q (.ref (s.heap.objs.size+4)) { s with heap:=h' }) :
  wpAny (model prog w) A (call (.type "zip") [.ref l1,.ref l2]) Q E s:=by
 refine callType_new F.called_zip (by decide) (F.typeCall_zip_2 _ _) (F.newCall_zip_2 _ _) (fun obj=>F.args_object_init_3 obj _ _) F.entry_zip_new (Dv b1 b2 l1 l2 xs ys) ⟨hl1,hl2,?_⟩
 have f1:(cE b1 l1).isFreed=false:=by cases b1 <;> rfl
 have f2:(cE b2 l2).isFreed=false:=by cases b2 <;> rfl
 have z1:(s.heap.push (cE b1 l1)).objs.size=s.heap.objs.size+1:=Heap.size_push ..
 have z2:((s.heap.push (cE b1 l1)).push (cE b2 l2)).objs.size=s.heap.objs.size+2:=by rw[Heap.size_push,z1]
 generalize hg2:(s.heap.push (cE b1 l1)).push (cE b2 l2)=g2 at z2 ⊢
 have e0:g2.get? s.heap.objs.size=some (cE b1 l1):=by rw[← hg2];exact Heap.get?_push_of_some _ (Heap.get?_push_size _ f1)
 have e1:g2.get? (s.heap.objs.size+1)=some (cE b2 l2):=by rw[← hg2,← z1];exact Heap.get?_push_size _ f2
 have k2:∀ c o,s.heap.get? c=some o→g2.get? c=some o:=fun c o q=>by rw[← hg2];exact Heap.get?_push_of_some _ (Heap.get?_push_of_some _ q)
 generalize hg3:g2.push { cls:=.type "tuple",data:=.seq #[.ref s.heap.objs.size,.ref (s.heap.objs.size+1)] }=g3
 have z3:g3.objs.size=s.heap.objs.size+3:=by rw[← hg3,Heap.size_push,z2]
 have e2:IsPair g3 (s.heap.objs.size+2) (.ref s.heap.objs.size) (.ref (s.heap.objs.size+1)):=by rw[← hg3,← z2];exact Heap.get?_push_size _ rfl
 have k3:∀ c o,g2.get? c=some o→g3.get? c=some o:=fun c o q=>by rw[← hg3];exact Heap.get?_push_of_some _ q
 generalize hg4:g3.push { cls:=.type "tuple",data:=.seq #[.none,.none] }=g4
 have z4:g4.objs.size=s.heap.objs.size+4:=by rw[← hg4,Heap.size_push,z3]
 have e3:IsPair g4 (s.heap.objs.size+3) .none .none:=by rw[← hg4,← z3];exact Heap.get?_push_size _ rfl
 have k4:∀ c o,g3.get? c=some o→g4.get? c=some o:=fun c o q=>by rw[← hg4];exact Heap.get?_push_of_some _ q
 generalize hg5:g4.push { cls:=.type "zip",data:=.fields #[.none,.bool false,.bool false,.ref (s.heap.objs.size+2),.ref (s.heap.objs.size+3)] }=g5
 have e4:IsZip g5 (s.heap.objs.size+4) (s.heap.objs.size+2) (s.heap.objs.size+3) .none:=by rw[← hg5,← z4];exact Heap.get?_push_size _ rfl
 have k5:∀ c o,g4.get? c=some o→g5.get? c=some o:=fun c o q=>by rw[← hg5];exact Heap.get?_push_of_some _ q
 show _∧_
 exact⟨⟨_,e4,rfl⟩,h _ e4 (k5 _ _ (k4 _ _ e2)) (k5 _ _ e3) (iH (k5 _ _ (k4 _ _ (k3 _ _ e0)))) (iH (k5 _ _ (k4 _ _ (k3 _ _ e1)))) fun c o q=>k5 _ _ (k4 _ _ (k3 _ _ (k2 _ _ q)))⟩
theorem zK {b1 b2:Bool}{z TI TO i1 i2 l1 l2:Addr}{k1 k2:Nat}{xs ys:Array Value}{x y a b:Value}{Q:Option Value→Shared→Prop}(D:ZAp z TI TO i1 i2)
  (hz:IsZip s.heap z TI TO .none) (hTI:IsPair s.heap TI (.ref i1) (.ref i2)) (hTO:IsPair s.heap TO a b) (n1:l1≠TO) (n2:l2≠TO)
  (h1:SqI b1 s.heap i1 l1 k1) (h2:SqI b2 s.heap i2 l2 k2) (hl1:SqO b1 s.heap l1 xs) (hl2:SqO b2 s.heap l2 ys) (hx:xs[k1]?=some x) (hy:ys[k2]?=some y)
  (hQ:∀ h',IsZip h' z TI TO (rawInt s.heap.objs.size)→IsPair h' TO x y→SqI b1 h' i1 l1 (k1+1)→SqI b2 h' i2 l2 (k2+1)→IsPair h' s.heap.objs.size x y→h'.objs.size=s.heap.objs.size+1 →
   (∀ c o,c∉[z,TO,i1,i2]→s.heap.get? c=some o→h'.get? c=some o)→Q (some (.ref s.heap.objs.size)) { s with heap:=h' }):wpAny (model prog w) A (pyNext (.ref z)) Q E s:=by
 have hT:s.TypeIs (.ref z) "zip":=⟨_,hz,rfl⟩
 unfold pyNext
 exact wpAny_bind (wpAny_attempt (wpAny_callSpecial?_slot (name:=Str.ofString "__next__") hT F.slot_zip_next (wpAny_call_entry F.slot_zip_next hT F.entry_zip_next
  (uQ D hz hTI hTO n1 n2 h1 h2 hl1 hl2 hx hy fun h' c1 c2 c3 c4 c5 c6 c7=>wpAny_pure (hQ h' c1 c2 c3 c4 c5 c6 c7)) (F.args_zip_next_1 _))))
theorem yy {b1 b2:Bool}{z TI TO i1 i2 l1 l2:Addr}{k1 k2:Nat}{xs ys:Array Value}{a b:Value}{Q:Option Value→Shared→Prop}(hh:A.handled=none)(D:ZAp z TI TO i1 i2)
  (hz:IsZip s.heap z TI TO .none) (hTI:IsPair s.heap TI (.ref i1) (.ref i2)) (hTO:IsPair s.heap TO a b) (n1:l1≠TO) (n2:l2≠TO)
  (h1:SqI b1 s.heap i1 l1 k1) (h2:SqI b2 s.heap i2 l2 k2) (hl1:SqO b1 s.heap l1 xs) (hl2:SqO b2 s.heap l2 ys) (hend:xs[k1]?=none∨ys[k2]?=none)
  (hQ:∀ h',(∀ c o,c∉[z,TO,i1,i2]→s.heap.get? c=some o→h'.get? c=some o)→Q none { s with heap:=h' }):wpAny (model prog w) A (pyNext (.ref z)) Q E s:=by
 have hT:s.TypeIs (.ref z) "zip":=⟨_,hz,rfl⟩
 unfold pyNext
 refine wpAny_bind (wpAny_attempt (wpAny_callSpecial?_slot (name:=Str.ofString "__next__") hT F.slot_zip_next (wpAny_call_entry F.slot_zip_next hT F.entry_zip_next (AD hh D hz hTI hTO n1 n2 h1 h2 hl1 hl2 hend fun h' e hk he=>?_) (F.args_zip_next_1 _))))
 obtain⟨o,ho,hc⟩:=he
 exact wpAny_bind (wpAny_isInstance (T:="StopIteration") (b:=true) ⟨o,ho,hc⟩ isSubtype_stop (wpAny_pure (hQ _ hk)))
end
theorem Inv.sqb_ne {X:Cx}{pins:List (Addr × Obj)}{σ:St}{H:Hp}{s:Shared}{b:Bool}{a c:Addr}{xs:List V}(I:Inv X pins σ H s)(h:SqB X.K b H a xs)(f:FpOk X pins H c):a≠c:=fun z=>by
 subst z
 have nk:∀ o,X.K.lookup a=some o→False:=fun o e=>by
  have e':=I.mod.kin a o e
  rcases f.2.2.2.1 with q | q
  ·exact I.ok.noex a o e' q
  ·exact absurd (Nat.lt_of_lt_of_le (Heap.lt_size e') (Nat.le_trans I.ok.bsz q)) (Nat.lt_irrefl _)
 cases b with
 | true =>
  rcases h with (h | ⟨o,h⟩) | ⟨o,_,_,h,_⟩
  ·rw[f.1] at h;cases h
  ·rw[f.1] at h;cases h
  ·exact nk o h
 | false =>
  rcases h with (h | ⟨o,h⟩) | ⟨o,_,_,h,_⟩
  ·rw[f.1] at h;cases h
  ·rw[f.1] at h;cases h
  ·exact nk o h
def l8 (K:Frag)(b1:Bool)(a1:Addr)(b2:Bool)(a2:Addr):It :=
 ⟨fun i H => ∃ xs ys x y, SqB K b1 H a1 xs ∧ SqB K b2 H a2 ys ∧ xs[i]? = some x ∧ ys[i]? = some y,
  fun i H v H' => ∃ t x y, H t = none ∧ v = .ref t ∧ H' = aJ H t (.tup [x, y]) ∧ (∀ xs, SqB K b1 H a1 xs → xs[i]? = some x) ∧ ∀ ys, SqB K b2 H a2 ys → ys[i]? = some y,
  fun i H => ∃ xs ys, SqB K b1 H a1 xs ∧ SqB K b2 H a2 ys ∧ (xs.length ≤ i ∨ ys.length ≤ i)⟩
theorem Az {P:Program}{w:World}{K:Frag}{es:List Expr}{k:Nat}{pos:Pos}(b1 b2:Bool)(a1 a2 z TI TO i1 i2:Addr)(D:ZAp z TI TO i1 i2) :
  Turn P w K (.Tuple es k pos) (l8 K b1 a1 b2 a2) [z,TI,TO,i1,i2] z (fun i h=>IsZip h z TI TO .none∧IsPair h TI (.ref i1) (.ref i2)∧(∃ a b,IsPair h TO a b)∧SqI b1 h i1 a1 i∧SqI b2 h i2 a2 i) where
 mem:=by simp
 obj:=fun i h st c hc=>by
  obtain⟨h1,h2,⟨a,b,h3⟩,h4,h5⟩:=st
  simp only [List.mem_cons,List.not_mem_nil,or_false] at hc
  rcases hc with rfl | rfl | rfl | rfl | rfl
  ·exact⟨_,h1,fun v q=>by have q':Data.fields _=Data.cell v:=q;cases q'⟩
  ·exact⟨_,h2,fun v q=>by have q':Data.seq _ _=Data.cell v:=q;cases q'⟩
  ·exact⟨_,h3,fun v q=>by have q':Data.seq _ _=Data.cell v:=q;cases q'⟩
  ·exact h4.obj
  ·exact h5.obj
 keep:=fun i h h' st k=>by
  obtain⟨h1,h2,⟨a,b,h3⟩,h4,h5⟩:=st
  exact⟨k z (by simp) _ h1,k TI (by simp) _ h2,⟨a,b,k TO (by simp) _ h3⟩,h4.at fun o q=>k i1 (by simp) o q,h5.at fun o q=>k i2 (by simp) o q⟩
 item:=by
  intro X hP hw hK hc i pins s σ H E I hf st hg
  subst hP hw hK
  obtain⟨xs,ys,x,y,hq1,hq2,hx,hy⟩:=hg
  obtain⟨h1,h2,⟨a,b,h3⟩,h4,h5⟩:=st
  obtain⟨its1,rv1,p1,_⟩:=I.sqb hq1
  obtain⟨its2,rv2,p2,_⟩:=I.sqb hq2
  obtain⟨u,hu,ru⟩:=rv1.get hx
  obtain⟨v,hv,rv⟩:=rv2.get hy
  refine zK D h1 h2 h3 (I.sqb_ne hq1 (hf TO (by simp))) (I.sqb_ne hq2 (hf TO (by simp))) h4 h5 p1 p2 (x:=u) (y:=v) (by simpa using hu) (by simpa using hv) fun h' z1 z2 z3 z4 z5 z6 hk=>?_
  refine⟨.ref s.heap.objs.size,rfl,wpAny_letOwnedTupleGo_zip z1 fun g2 zz hs2=>?_⟩
  have zn:H s.heap.objs.size=none:=I.fresh
  have I1:Inv X pins σ (aJ H s.heap.objs.size (.tup [x,y])) { s with heap:=s.heap.push { cls:=.type "tuple",data:=.seq #[u,v] },toks:=s.toks } :=
   I.laid (fun c o q=>Heap.get?_push_of_some _ q) (Nat.le_refl _) ⟨by show 2≤sizeLine;decide,[u,v],.cons ru (.cons rv .nil),_,Heap.get?_push_size _ rfl,rfl,0,rfl⟩
  have lts:∀ c∈[z,TI,TO,i1,i2],c<s.heap.objs.size:=fun c hc=>by
   simp only [List.mem_cons,List.not_mem_nil,or_false] at hc
   rcases hc with rfl | rfl | rfl | rfl | rfl
   ·exact Heap.lt_size h1
   ·exact Heap.lt_size h2
   ·exact Heap.lt_size h3
   ·exact h4.lt
   ·exact h5.lt
  have f1:∀ c∈[z,TI,TO,i1,i2],FpOk X pins (aJ H s.heap.objs.size (.tup [x,y])) c:=fun c hc=>⟨by rw[ba (Nat.ne_of_lt (lts c hc))];exact (hf c hc).1,(hf c hc).2⟩
  have I2:=I1.turnedL (h':=g2) (ch:=[z,TI,TO,i1,i2]) (t':=s.toks) (fun c o hc q=>?_) f1
  ·refine⟨.ref s.heap.objs.size,_,I2,rfl,⟨s.heap.objs.size,x,y,zn,rfl,rfl,fun xs' hy'=>by rw[I.sqb_inj hy' hq1];exact hx,fun ys' hy'=>by rw[I.sqb_inj hy' hq2];exact hy⟩,
    ⟨zz,hs2.extBut _ _ D.a1 (hk TI _ (by simp [D.a1,D.a5,D.a6,D.a7]) h2),⟨_,_,hs2.extBut _ _ D.a2 z2⟩,z3.but hs2 D.a3,z4.but hs2 D.a4⟩,fun c hc=>(f1 c hc).1⟩
  ·have hcz:c≠z:=fun e=>hc (by simp [e])
   refine (hs2.2 c hcz).trans ?_
   rcases Heap.get?_push_cases q with⟨e,e'⟩ | q'
   ·subst e;subst e';exact z5
   ·exact hk c o (fun e=>hc (by
     simp only [List.mem_cons,List.not_mem_nil,or_false] at e ⊢
     rcases e with e | e | e | e
     ·exact .inl e
     ·exact .inr (.inr (.inl e))
     ·exact .inr (.inr (.inr (.inl e)))
     ·exact .inr (.inr (.inr (.inr e))))) q'
 done:=by
  intro X hP hw hK hc i pins s σ H E I hf st hg
  subst hP hw hK
  obtain⟨xs,ys,hq1,hq2,hend⟩:=hg
  obtain⟨h1,h2,⟨a,b,h3⟩,h4,h5⟩:=st
  obtain⟨its1,rv1,p1,_⟩:=I.sqb hq1
  obtain⟨its2,rv2,p2,_⟩:=I.sqb hq2
  have l1:=rv1.length
  have l2:=rv2.length
  have he:its1.toArray[i]?=none∨its2.toArray[i]?=none:=by
   rcases hend with q | q
   ·exact .inl (by simp;omega)
   ·exact .inr (by simp;omega)
  refine yy (I.ok.hd hc) D h1 h2 h3 (I.sqb_ne hq1 (hf TO (by simp))) (I.sqb_ne hq2 (hf TO (by simp))) h4 h5 p1 p2 he fun h' hk=>⟨rfl,?_⟩
  refine I.turnedL (ch:=[z,TI,TO,i1,i2]) (t':=s.toks) (fun c o hc q=>hk c o (fun e=>hc ?_) q) hf
  simp only [List.mem_cons,List.not_mem_nil,or_false] at e ⊢
  rcases e with e | e | e | e
  ·exact .inl e
  ·exact .inr (.inr (.inl e))
  ·exact .inr (.inr (.inr (.inl e)))
  ·exact .inr (.inr (.inr (.inr e)))
 self:=fun _ _ _ _ _ st h=>wpAny_pyIter_zip st.1 h
theorem y0 (n:Nat):ZAp (n+4) (n+2) (n+3) n (n+1) :=
 ⟨(by omega:n+2≠n+4),(by omega:n+3≠n+4),(by omega:n≠n+4),(by omega:n+1≠n+4),(by omega:n+2≠n+3),(by omega:n+2≠n),(by omega:n+2≠n+1),(by omega:n+3≠n),(by omega:n+3≠n+1),(by omega:n≠n+1)⟩
section
variable {X:Cx}
end
end L2
namespace L2
open PySem PySem.Spec PyProof.Rows
section
variable {X:Cx}
theorem Bs:bN X (binaryOp .Mult) (rI IntMulOk fun i j=>.int (i*j)):=lq fun _ _ _ _ _ _ _ hc q=>mul_int q hc
def CDivB (i j:Int):Prop:=0<j∧j.natAbs.log2<9000
theorem zk:bN X (binaryOp .FloorDiv) (rI CDivB fun i j=>.int (i / j)):=lq fun i j _ _ _ _ _ hc q=>by
 have h1:(0:Int)<j:=hc.1
 exact floordiv_int (by omega) (by rw[Int.fdiv_eq_ediv_of_nonneg i (by omega)];exact q) (.inl (PyProof.noPylong_of_log2 hc.2))
end
theorem sZ {n k:Nat}(hk:0<k)(h:n<2 ^ k):n.log2<k:=by
 rcases Nat.eq_zero_or_pos n with z | z
 ·subst z;simpa using hk
 ·exact (Nat.log2_lt (Nat.ne_of_gt z)).mpr h
theorem CDivB.of {i j:Int}(h0:0<j)(h:j<2 ^ 9000):CDivB i j:=⟨h0,sZ (by decide) (by
 have e:(j.natAbs:Int)=j:=Int.natAbs_of_nonneg (Int.le_of_lt h0)
 have:(j.natAbs:Int)<((2 ^ 9000:Nat):Int):=by rw[e];exact_mod_cast h
 exact_mod_cast this)⟩
theorem qZ {a:Int}{k:Nat}(hk:0<k)(h:a.natAbs<2 ^ k):Builtin.Int.intBits a≤k:=by
 unfold Builtin.Int.intBits
 split
 ·exact Nat.zero_le _
 ·exact sZ hk h
theorem qu {a b:Int}{m n:Nat}(hm:0<m)(hn:0<n)(ha:a.natAbs<2 ^ m)(hb:b.natAbs<2 ^ n)(h:m+n≤134217728):IntMulOk a b:=PyProof.Rows.mulOk_of_bits (qZ hm ha) (qZ hn hb) h
theorem bM {a b:Int}(h1:-(2 ^ 64)<a)(h2:a<2 ^ 64):IntMulOk a b:=.of_left (intBits_le_64 h1 h2)
theorem fE {a b:Int}(h1:-(2 ^ 64)<b)(h2:b<2 ^ 64):IntMulOk a b:=.of_right (intBits_le_64 h1 h2)
section
variable {prog:Program}{w:World}{A:Around}{E:Value→Shared→Prop}{s:Shared}
theorem t9 {it t:Addr}{items:Array Value}(hne:t≠it):∀ (n i:Nat) (s:Shared) (Q:List Value→Shared→Prop),s.heap.IsListIter it t i→s.heap.IsList t items→i+n≤items.size →
  (∀ h',h'.IsListIter it t (i+n)→Heap.SameBut it s.heap h'→Q ((items.toList.drop i).take n) { s with heap:=h' })→wpAny (model prog w) A (draw (.ref it) n) Q E s
 | 0,i,s,Q,hit,_,_,hQ=>by
  show wpAny _ _ (pure []) Q E s
  exact wpAny_pure (by simpa using hQ s.heap hit (Heap.SameBut.refl ..))
 | n+1,i,s,Q,hit,ht,hle,hQ=>by
  have hlt:i<items.size:=by omega
  show wpAny _ _ (pyNext (.ref it) >>= _) Q E s
  refine wpAny_bind (wpAny_pyNext_list_item hit ht (x:=items[i]) (by simp [hlt]) fun g1 hit1 s1=>?_)
  refine wpAny_bind (wpAny_holding (t9 hne n (i+1) _ _ hit1 (ht.extBut s1.extBut hne) (by omega) fun g2 hit2 s2=>wpAny_pure ?_))
  have hd:items.toList.drop i=items[i]::items.toList.drop (i+1):=by simp [List.drop_eq_getElem_cons,hlt]
  have:=hQ g2 (by rw[show i+(n+1)=i+1+n by omega];exact hit2) (s1.trans s2)
  rw[hd,List.take_succ_cons] at this
  exact this
theorem Cr {t:Addr}{items:Array Value}{Q:List Value→Shared→Prop}(hh:A.handled=none)(ht:s.heap.IsList t items)
  (hQ:∀ h',Heap.ExtBut s.heap.objs.size s.heap h'→Q items.toList { s with heap:=h' }):wpAny (model prog w) A (unpackItems (.ref t) items.size none) Q E s:=by
 have hlt:t≠s.heap.objs.size:=by obtain⟨o,ho,_⟩:=ht;exact Nat.ne_of_lt (Heap.lt_size ho)
 unfold unpackItems
 refine wpAny_bind ?_
 unfold notIterableAtAll
 refine wpAny_bind (wpAny_specialOf ht.typeIs slot_list_iter.lookup (wpAny_pure ?_))
 simp only [Bool.false_eq_true,if_false]
 refine wpAny_bind (wpAny_holding (wpAny_pyIter_list ht (wpAny_bind (wpAny_holding (t9 hlt items.size 0 _ _ ⟨_,Heap.get?_push_size _ rfl,rfl,rfl⟩ (ht.push _) (by omega) fun g1 hit1 s1=>?_)))))
 have hall:List.take items.size (List.drop 0 items.toList)=items.toList:=by
  rw[List.drop_zero];exact List.take_of_length_le (by simp)
 rw[hall,if_neg (by simp)]
 have ht1:g1.IsList t items:=(ht.push _).extBut s1.extBut hlt
 refine wpAny_bind (wpAny_holding (wpAny_pyNext_list_end hh hit1 ht1 (by simp) fun g2 e2=>?_))
 simp only [Option.isSome_none,Bool.false_eq_true,if_false]
 exact wpAny_pure (hQ g2 fun b o hb e=>e2 b o hb (s1.extBut b o hb (Heap.get?_push_of_some _ e)))
end
section
variable {X:Cx}{pos:Pos}
def uu (K:Frag)(n:Nat)(t:eE):TG:=fun v σ H Q=>∃ a xs,v=.ref a∧SqL K H a xs∧xs.length=n∧t xs σ H Q
theorem xB {es:List Expr}{k:Nat}{t:eE}{n:Nat}(hc:X.calm=true)(h:PGs X es t)
  (hn:(assignEach es X.env).length=n:=by rfl) (hst:(assignEach es X.env).findIdx? (·.1)=none:=by rfl):PG X (.Tuple es k pos) (uu X.K n t):=by
 intro pins s σ H v u Q I r hw
 obtain⟨a,xs,e1,hq,hl,hw⟩:=hw
 subst e1
 cases r
 obtain⟨its,rv,ht,hz⟩:=I.list hq
 rw[assign_Tuple]
 refine wpAny_bind (wpAny_standAt ?_)
 unfold unpack
 have e0:(assignEach es X.env).length=its.toArray.size:=by simp [hn,← hl,rv.length]
 rw[e0,hst]
 refine wpAny_bind (wpAny_holding (Cr (I.ok.hd hc) ht.isList fun h' hx=>?_))
 have I1:Inv X pins σ H { s with heap:=h' }:=I.kept (t':=s.toks) fun b o e=>hx b o (Nat.ne_of_lt (Heap.lt_size e)) e
 exact h pins _ σ H xs _ Q I1 (by simpa using rv) hw
end
inductive IsiV (K:Frag) (H:Hp):V→String→Bool→Prop where
 | int_int (i):IsiV K H (.int i) "int" true
 | int_bool (i):IsiV K H (.int i) "bool" false
 | int_tuple (i):IsiV K H (.int i) "tuple" false
 | int_str (i):IsiV K H (.int i) "str" false
 | bl_int (b):IsiV K H (.bl b) "int" true
 | bl_bool (b):IsiV K H (.bl b) "bool" true
 | bl_tuple (b):IsiV K H (.bl b) "tuple" false
 | str_str (x):IsiV K H (.str x) "str" true
 | str_tuple (x):IsiV K H (.str x) "tuple" false
 | tup_tuple {a xs}:SqT K H a xs→IsiV K H (.ref a) "tuple" true
 | tup_int {a xs}:SqT K H a xs→IsiV K H (.ref a) "int" false
 | lst_tuple {a xs}:SqL K H a xs→IsiV K H (.ref a) "tuple" false
 | lst_list {a xs}:SqL K H a xs→IsiV K H (.ref a) "list" true
theorem nH {prog:Program}{w:World}{A:Around}(hh:A.handled=none)(b:Bool)(it a:Addr)(hne:a≠it)(its:Array Value):Walks prog w A it [it,a] [it] its.size (fun i v=>its[i]?=some v) (fun i h=>SqI b h it a i∧SqO b h a its) where
 sub:=fun c hc=>by rw[List.mem_singleton.mp hc];simp
 frame:=fun _ _ _ st k=>⟨st.1.at fun o e=>k it (by simp) o e,st.2.at fun o e=>k a (by simp) o e⟩
 item:=fun i s Q E hi st hQ=>by
  cases b with
  | true=>exact wpAny_pyNext_list_item st.1 st.2 (x:=its[i]) (by simp [hi]) fun h' q sb=>hQ _ h' s.toks (by simp [hi]) ⟨q,SqO.at (b:=true) st.2 fun o e=>(sb.2 a hne).trans e⟩ fun c o hc e=>(sb.2 c fun z=>hc (by simp [z])).trans e
  | false=>exact wpAny_pyNext_tuple_item st.1 st.2 (x:=its[i]) (by simp [hi]) fun h' q sb=>hQ _ h' s.toks (by simp [hi]) ⟨q,SqO.at (b:=false) st.2 fun o e=>(sb.2 a hne).trans e⟩ fun c o hc e=>(sb.2 c fun z=>hc (by simp [z])).trans e
 done:=fun s Q E st hQ=>by
  cases b with
  | true=>exact wpAny_pyNext_list_end hh st.1 st.2 (by simp) fun h' eb=>hQ h' s.toks fun c o hc e=>eb c o (fun z=>hc (by simp [z])) e
  | false=>exact wpAny_pyNext_tuple_end hh st.1 st.2 (by simp) fun h' eb=>hQ h' s.toks fun c o hc e=>eb c o (fun z=>hc (by simp [z])) e
 self:=fun i s Q E st hQ=>by
  cases b with
  | true=>exact wpAny_pyIter_listiter st.1 hQ
  | false=>exact wpAny_pyIter_tupleiter st.1 hQ
theorem mD {x:V}{us:List Value}(r:Vals [x] us):∃ u,us=[u]∧RelV x u:=by
 cases r with
 | cons r rr=>cases rr;exact⟨_,rfl,r⟩
theorem qx (val:Nat→Int)(ns:List Int)(h:∀ i n,ns[i]?=some n→val i=n):∀ k,k≤ns.length→preSum val k=(ns.take k).sum
 | 0,_=>by simp [preSum]
 | k+1,hk=>by
  have hlt:k<ns.length:=hk
  have e:=h k ns[k] (by simp [hlt])
  rw[preSum,qx val ns h k (Nat.le_of_lt hlt),e,List.take_succ_eq_append_getElem hlt,List.sum_append]
  simp
def uJ (K:Frag)(b:Bool):List V→Hp→VK→Prop:=fun vs H Q=>∃ (a:Addr) (ns:List Int),vs=[.ref a]∧SqB K b H a (ns.map V.int)∧Q (.int ns.sum) H
theorem yA (b:Bool){X:Cx}(hc:X.calm=true):dX X (.builtin "sum") (uJ X.K b):=by
 intro pins s σ H xs us Q I r h
 obtain⟨a,ns,rfl,hq,q⟩:=h
 obtain⟨u,rfl,ru⟩:=mD r
 cases ru
 obtain⟨its,rv,p,hz⟩:=I.sqb hq
 refine call_sum_walkAnyS (jc p ?_)
 have hne:a≠s.heap.objs.size:=Nat.ne_of_lt p.lt
 have W:=nH (prog:=X.prog) (w:=X.w) (A:=X.A.in1) (I.ok.hd hc) b s.heap.objs.size a hne its.toArray
 have hv:∀ (i:Nat) (v:Value),its.toArray[i]?=some v→∃ t,v=.int (ns.getD i 0) t:=fun i v e=>by
  have e':its[i]?=some v:=by simpa using e
  have hi:i<ns.length:=by
   have:=(List.getElem?_eq_some_iff.mp e').1
   have:=rv.length
   rw[List.length_map] at this
   omega
  obtain⟨v',h1,h2⟩:=rv.get (i:=i) (x:=V.int (ns.getD i 0)) (by simp [hi])
  rw[e'] at h1;cases h1
  exact h2
 have ln:its.toArray.size=ns.length:=by have:=rv.length;rw[List.length_map] at this;simp [this]
 refine⟨s.heap.objs.size,[s.heap.objs.size,a],[s.heap.objs.size],_,its.toArray.size,_,_,fun i=>ns.getD i 0,rfl,W.toS,⟨iH (Heap.get?_push_size _ (by cases b <;> rfl)),p.at fun o e=>Heap.get?_push_of_some _ e⟩,fun c hcm=>?_,hv,fun s' t' hm=>?_⟩
 ·rw[Heap.size_push]
  rcases List.mem_cons.mp hcm with rfl | hcm
  ·exact Nat.lt_succ_self _
  ·rw[List.mem_singleton.mp hcm];exact Nat.lt_succ_of_lt p.lt
 ·obtain⟨hh,hg,hd,ho,_⟩:=hm
  obtain⟨h',g',d',tk',os'⟩:=s'
  have e1:g'=s.gens:=hg
  have e2:d'=s.drawn:=hd
  have e3:os'=s.os:=ho
  subst e1 e2 e3
  refine⟨.int ns.sum,H,I.kept (h':=h') (t':=tk') fun c o e=>hh c o (fun z=>?_) (Heap.get?_push_of_some _ e),⟨t',?_⟩,q⟩
  ·rw[List.mem_singleton.mp z] at e
   exact absurd (Heap.lt_size e) (Nat.lt_irrefl _)
  ·rw[ln,qx (fun i=>ns.getD i 0) ns (fun i n e=>by
    show ns.getD i 0=n
    rw[List.getD_eq_getElem?_getD,e];rfl) ns.length (Nat.le_refl _),List.take_length]
def qT (K:Frag)(b:Bool)(f:List Bool→Bool):List V→Hp→VK→Prop:=fun vs H Q=>∃ (a:Addr) (bs:List Bool),vs=[.ref a]∧SqB K b H a (bs.map V.bl)∧Q (.bl (f bs)) H
theorem qA {prog:Program}{w:World}{A:Around}{its:Array Value}{bs:List Bool}(rv:Vals (bs.map V.bl) its.toList):TruthOf prog w A (fun i v=>its[i]?=some v) (fun i=>bs.getD i false):=by
 intro i v s Q E e q
 have e':its.toList[i]?=some v:=by simpa using e
 have hi:i<bs.length:=by
  have:=(List.getElem?_eq_some_iff.mp e').1
  have:=rv.length
  rw[List.length_map] at this
  omega
 obtain⟨v',h1,h2⟩:=rv.get (i:=i) (x:=V.bl (bs.getD i false)) (by simp [hi])
 rw[e'] at h1;cases h1
 have h2:v=.bool (bs.getD i false):=h2
 subst h2
 exact wpAny_truthy_bool q
theorem yJ (bs:List Bool):(List.range bs.length).all (fun i=>bs.getD i false)=bs.all id:=by
 rw[Bool.eq_iff_iff]
 simp only [List.all_eq_true,List.mem_range,id]
 constructor
 ·intro h x hx
  obtain⟨i,hi,rfl⟩:=List.mem_iff_getElem.mp hx
  have:=h i hi
  simpa [hi] using this
 ·intro h i hi
  have:=h bs[i] (List.getElem_mem hi)
  simpa [hi] using this
theorem zL (bs:List Bool):(List.range bs.length).any (fun i=>bs.getD i false)=bs.any id:=by
 rw[Bool.eq_iff_iff]
 simp only [List.any_eq_true,List.mem_range,id]
 constructor
 ·rintro⟨i,hi,h⟩
  exact⟨bs[i],List.getElem_mem hi,by simpa [hi] using h⟩
 ·rintro⟨x,hx,h⟩
  obtain⟨i,hi,rfl⟩:=List.mem_iff_getElem.mp hx
  exact⟨i,hi,by simpa [hi] using h⟩
theorem CP (b:Bool){X:Cx}(hc:X.calm=true):dX X (.builtin "all") (qT X.K b fun bs=>bs.all id):=by
 intro pins s σ H xs us Q I r h
 obtain⟨a,bs,rfl,hq,q⟩:=h
 obtain⟨u,rfl,ru⟩:=mD r
 cases ru
 obtain⟨its,rv,p,hz⟩:=I.sqb hq
 have hne:a≠s.heap.objs.size:=Nat.ne_of_lt p.lt
 have ln:its.toArray.size=bs.length:=by have:=rv.length;rw[List.length_map] at this;simp [this]
 have W:=nH (prog:=X.prog) (w:=X.w) (A:=X.A.in1) (I.ok.hd hc) b s.heap.objs.size a hne its.toArray
 refine call_all_walk (jc p ⟨s.heap.objs.size,[s.heap.objs.size,a],[s.heap.objs.size],its.toArray.size,_,_,fun i=>bs.getD i false,rfl,W,⟨iH (Heap.get?_push_size _ (by cases b <;> rfl)),p.at fun o e=>Heap.get?_push_of_some _ e⟩,qA (by simpa using rv),fun h' tk hk=>?_⟩)
 rw[ln,yJ]
 refine⟨.bl (bs.all id),H,I.kept (h':=h') (t':=tk) fun c o e=>hk c o (fun z=>?_) (Heap.get?_push_of_some _ e),rfl,q⟩
 rw[List.mem_singleton.mp z] at e
 exact absurd (Heap.lt_size e) (Nat.lt_irrefl _)
theorem vP (b:Bool){X:Cx}(hc:X.calm=true):dX X (.builtin "any") (qT X.K b fun bs=>bs.any id):=by
 intro pins s σ H xs us Q I r h
 obtain⟨a,bs,rfl,hq,q⟩:=h
 obtain⟨u,rfl,ru⟩:=mD r
 cases ru
 obtain⟨its,rv,p,hz⟩:=I.sqb hq
 have hne:a≠s.heap.objs.size:=Nat.ne_of_lt p.lt
 have ln:its.toArray.size=bs.length:=by have:=rv.length;rw[List.length_map] at this;simp [this]
 have W:=nH (prog:=X.prog) (w:=X.w) (A:=X.A.in1) (I.ok.hd hc) b s.heap.objs.size a hne its.toArray
 refine call_any_walk (jc p ⟨s.heap.objs.size,[s.heap.objs.size,a],[s.heap.objs.size],its.toArray.size,_,_,fun i=>bs.getD i false,rfl,W,⟨iH (Heap.get?_push_size _ (by cases b <;> rfl)),p.at fun o e=>Heap.get?_push_of_some _ e⟩,qA (by simpa using rv),fun h' tk hk=>?_⟩)
 rw[ln,zL]
 refine⟨.bl (bs.any id),H,I.kept (h':=h') (t':=tk) fun c o e=>hk c o (fun z=>?_) (Heap.get?_push_of_some _ e),rfl,q⟩
 rw[List.mem_singleton.mp z] at e
 exact absurd (Heap.lt_size e) (Nat.lt_irrefl _)
def bu (N:List Str)(sc scope:Scope)(N':List Str)(cap:List (Option Nat)):Bool :=
 decide (scope.kind=.function) && scope.names.all (fun y=>decide (y.2≠.cell)) && scope.names.all (fun x=>decide (x.2=.local→scope.names.lookup x.1=some .local)) &&
  scope.names.all (fun x=>decide (x.2=.free→sc.names.lookup x.1=some .cell∧scope.names.lookup x.1=some .free)) && decide N'.Nodup && decide (cap.length=N'.length) &&
  (cap.zip N').all fun p=>match p.1 with | none=>true | some i=>decide (N[i]?=some p.2∧(p.2,NameKind.free)∈scope.names)
theorem CompScope.ok {N:List Str}{sc scope:Scope}{N':List Str}{cap:List (Option Nat)}(h:bu N sc scope N' cap=true):CompScope N sc scope N' cap:=by
 unfold bu at h
 simp only [Bool.and_eq_true,decide_eq_true_eq,List.all_eq_true] at h
 obtain⟨⟨⟨⟨⟨⟨h1,h2⟩,h3⟩,h4⟩,h5⟩,h6⟩,h7⟩:=h
 refine⟨h1,h2,h3,fun x hx hf=>(h4 x hx hf).1,fun x hx hf=>(h4 x hx hf).2,h5,h6,fun p hp i hi=>?_⟩
 have:=h7 p hp
 rw[hi] at this
 simpa using this
section
variable {K:Frag}{B:V→St→Hp→(St→Hp→Prop)→Prop}{End:St→Hp→Prop}{σ:St}{H:Hp}
end
theorem cI {H:Hp}{p:Addr}(h:H p=none)(o:HO):Same H (aJ H p o):=fun b u q=>by rw[ba (cx q h)];exact q
theorem rD {H H':Hp}{p:Addr}(s:Same H H')(h:H p=none)(o:HO):Same H (aJ H' p o):=fun b u q=>by rw[ba (cx q h)];exact s b u q
theorem Same.sqt {K:Frag}{H H':Hp}{a:Addr}{xs:List V}(e:Same H H')(h:SqT K H a xs):SqT K H' a xs:=SqB.same (b:=false) e h
theorem small {n:Nat}(h:n≤1000):n≤sizeLine:=Nat.le_of_lt (bc h)
theorem dP {p:Prop}[Decidable p](h:decide p=true):p:=of_decide_eq_true h
theorem i5 {α:Type}{xs:List α}{i:Nat}{x:α}(h:xs[i]?=some x):xs.take (i+1)=xs.take i++[x]:=by
 obtain⟨hi,e⟩:=List.getElem?_eq_some_iff.mp h
 rw[List.take_succ_eq_append_getElem hi,e]
theorem c9 {α:Type}{xs:List α}{i:Nat}{x:α}(h:xs[i]?=some x):i<xs.length:=(List.getElem?_eq_some_iff.mp h).1
theorem vN {α:Type}{xs:List α}{i:Nat}{x:α}{k:Int}(h:xs[i]?=some x)(e:k=(i:Int)):bJ xs k=some x:=by
 subst e
 exact Cy h
def bA (ns:List Int):Int:=ns.foldl (fun d x=>(Int.gcd x d:Int)) 0
theorem pF (xs:List Int)(x:Int):bA (xs++[x])=(Int.gcd x (bA xs):Int):=by unfold bA;rw[List.foldl_append];rfl
theorem wm {g l:Int}(hg:0≤g)(hl:0<l):Int.gcd l (g % l)=Int.gcd g l:=by
 rw[Int.gcd_comm g l]
 have e:g % l=g - l*(g / l):=by have:=Int.emod_add_mul_ediv g l;omega
 rw[e]
 simpa using Int.gcd_sub_mul_right_right
theorem iJ (ns:List Int):0≤bA ns:=by
 have h:∀ (ns:List Int) (d:Int),0≤d→0≤ns.foldl (fun d x=>(Int.gcd x d:Int)) d:=by
  intro ns
  induction ns with
  | nil=>intro d hd;exact hd
  | cons x r ih=>intro d _;exact ih _ (Int.natCast_nonneg _)
 exact h ns 0 (by decide)
theorem fR (ns:List Int):∀ x∈ns,bA ns∣x:=by
 have h:∀ (ns:List Int) (d:Int),ns.foldl (fun d x=>(Int.gcd x d:Int)) d∣d∧∀ x∈ns,ns.foldl (fun d x=>(Int.gcd x d:Int)) d∣x:=by
  intro ns
  induction ns with
  | nil=>intro d;exact⟨Int.dvd_refl _,fun x hx=>absurd hx List.not_mem_nil⟩
  | cons y r ih =>
   intro d
   obtain⟨h1,h2⟩:=ih (Int.gcd y d:Int)
   refine⟨Int.dvd_trans h1 (Int.gcd_dvd_right ..),fun x hx=>?_⟩
   rcases List.mem_cons.mp hx with rfl | hx
   ·exact Int.dvd_trans h1 (Int.gcd_dvd_left ..)
   ·exact h2 x hx
 exact (h ns 0).2
theorem pX {ns:List Int}(h:bA ns=0):∀ x∈ns,x=0:=fun x hx=>by
 have:=fR ns x hx
 rw[h] at this
 exact Int.zero_dvd.mp this
def aj (es ns:List Int):Int:=(List.zipWith (·*·) es ns).sum
def bR {α:Type}(xs:List α)(lo hi:Option Int):List α:=(xs.drop (HT.sIx xs.length 0 lo)).take (HT.sIx xs.length xs.length hi - HT.sIx xs.length 0 lo)
theorem B2 {α:Type}{xs:List α}{lo hi:Option Int}{x:α}(h:x∈bR xs lo hi):x∈xs:=List.mem_of_mem_drop (List.mem_of_mem_take h)
inductive EqT (K:Frag) (H:Hp):Nat→V→V→Prop where
 | int {d:Nat} (i:Int):EqT K H d (.int i) (.int i)
 | bl {d:Nat} (b:Bool):EqT K H d (.bl b) (.bl b)
 | str {d:Nat} (x:Str):EqT K H d (.str x) (.str x)
 | non {d:Nat}:EqT K H d .non .non
 | sq {d:Nat} (q:Bool) {a b:Addr} {xs ys:List V}:SqB K q H a xs→SqB K q H b ys→xs.length=ys.length→(∀ (i:Nat) (x y:V),xs[i]?=some x→ys[i]?=some y→EqT K H d x y)→EqT K H (d+1) (.ref a) (.ref b)
theorem Vals.get' {xs:List V}{us:List Value}(r:Vals xs us){j:Nat}(h:j<us.length):∃ x,xs[j]?=some x∧RelV x us[j]:=by
 have hl:=Vals.length r
 have hj:j<xs.length:=by omega
 obtain⟨u,hu,ru⟩:=Vals.get (i:=j) (x:=xs[j]) r (by simp [hj])
 refine⟨xs[j],by simp [hj],?_⟩
 rw[List.getElem?_eq_getElem h] at hu
 cases hu
 exact ru
section
variable {prog:Program}{w:World}{A:Around}{E:Value→Shared→Prop}{s:Shared}
theorem Di {t b:Addr}{vs ws:List Value}{Q:Value→Shared→Prop}(ht:IsTup s.heap t vs.toArray)(hb:IsTup s.heap b ws.toArray)(hv:vs=[])(h:Q (.ref b) s):wpAny (model prog w) A (binaryOp .Add (.ref t) (.ref b)) Q E s:=by
 obtain⟨⟨cls,dd,data,sl⟩,ho,hc,n,hd⟩:=id ht
 obtain⟨⟨cls2,dd2,data2,sl2⟩,ho2,hc2,n2,hd2⟩:=id hb
 simp only at hc hd hc2 hd2
 subst hc hd hc2 hd2
 exact concat_meets ⟨_,ho,rfl⟩ ⟨_,ho2,rfl⟩ noFill_tuple_add seq_tuple_add PySem.F.slot_tuple_add PySem.F.entry_tuple_add (PySem.F.args_tuple_add_2 _ _) (tuple_addW0 t b vs.toArray ws.toArray n n2 dd dd2 sl sl2 (by simp [hv])) ⟨ho,ho2,h⟩
end
def sI (K:Frag):R2:=fun x y H Q=>∃ a b xs ys,x=.ref a∧y=.ref b∧SqT K H a xs∧SqT K H b ys∧xs.length+ys.length≤sizeLine∧∀ p H',Same H H'→SqT K H' p (xs++ys)→Q (.ref p) H'
theorem Ai {X:Cx}:bN X (binaryOp .Add) (sI X.K):=by
 intro pins s σ H x y v u Q I rx ry h
 obtain⟨a,b,xs,ys,rfl,rfl,ha,hb,hz,q⟩:=h
 by_cases hx:xs=[]
 ·subst hx
  cases rx
  cases ry
  obtain⟨its,r1,p1,_⟩:=I.tuple ha
  obtain⟨its2,r2,p2,_⟩:=I.tuple hb
  exact Di p1 p2 (r1.nil_iff.mpr rfl) ⟨.ref b,H,I,rfl,q b H (Same.refl H) hb⟩
 ·refine yu pins s σ H _ _ v u Q I rx ry ⟨a,b,xs,ys,rfl,rfl,ha,hb,hx,hz,fun e=>?_,fun _ p hp=>q p _ (cI hp _) (SqT.of bw)⟩
  subst e
  exact q a H (Same.refl H) (by rw[List.append_nil];exact ha)
theorem dot_le {A B:Nat}:∀ {es ns:List Int},(∀ x∈es,x.natAbs≤A)→(∀ y∈ns,y.natAbs≤B)→(aj es ns).natAbs≤es.length*(A*B)
 | [],_,_,_=>by simp [aj]
 | _::_,[],_,_=>by simp [aj]
 | x::es,y::ns,hx,hy=>by
  have ih:=dot_le (es:=es) (ns:=ns) (fun z hz=>hx z (List.mem_cons_of_mem _ hz)) (fun z hz=>hy z (List.mem_cons_of_mem _ hz))
  have e:aj (x::es) (y::ns)=x*y+aj es ns:=by simp [aj]
  have h1:(x*y).natAbs≤A*B:=by
   rw[Int.natAbs_mul]
   exact Nat.mul_le_mul (hx x List.mem_cons_self) (hy y List.mem_cons_self)
  have h2:=Int.natAbs_add_le (x*y) (aj es ns)
  rw[e,List.length_cons,Nat.add_mul]
  omega
theorem AN {ns:List Int}{m:Nat}(h:∀ x∈ns,x.natAbs<m)(hm:0<m):bA ns<m:=by
 by_cases c:bA ns=0
 ·omega
 ·have hx:∃ x∈ns,x≠0:=by
   refine Classical.byContradiction fun n=>c ?_
   have hz:∀ x∈ns,x=0:=fun x hx=>Classical.byContradiction fun z=>n ⟨x,hx,z⟩
   have:∀ (l:List Int) ,(∀ x∈l,x=0)→l.foldl (fun d x=>(Int.gcd x d:Int)) 0=0:=by
    intro l
    induction l with
    | nil=>intro _;rfl
    | cons y r ih =>
     intro hl
     have:=hl y List.mem_cons_self
     subst this
     exact ih fun x hx=>hl x (List.mem_cons_of_mem _ hx)
   exact this ns hz
  obtain⟨x,hx,x0⟩:=hx
  have h1:=fR ns x hx
  have h2:=Int.natAbs_dvd_natAbs.mpr h1
  have h3:=Nat.le_of_dvd (by omega) h2
  have h4:=h x hx
  have h5:=iJ ns
  omega
section
variable {J:It}{B:V→St→Hp→(St→Hp→Prop)→Prop}{End:St→Hp→Prop}{σ:St}{H:Hp}{D:Addr}{n:Nat}{El:Nat→V→Hp→Prop}
end
section
variable {K:Frag}{B:V→St→Hp→(St→Hp→Prop)→Prop}{End:St→Hp→Prop}{σ:St}{H:Hp}{D a:Addr}
end
section
variable {α:Type}{R R':V→α→Prop}{vs ws:List V}{rs ss:List α}
end
abbrev ao:=List Int × Int
def au (rs:List ao)(k:Int):ao:=rs.getD k.toNat ([],0)
theorem oR {rs:List ao}{k:Int}(h0:0≤k)(h1:k<rs.length):rs[k.toNat]?=some (au rs k):=by
 have h:k.toNat<rs.length:=by omega
 unfold au
 rw[List.getD_eq_getElem?_getD,List.getElem?_eq_getElem h]
 rfl
theorem dW {rs:List ao}{k:Int}(h0:0≤k)(h1:k<rs.length):au rs k∈rs:=List.mem_of_getElem? (oR h0 h1)
def dk (rs:List ao)(s:Int × Int):Prop:=(0≤s.1∧s.1<rs.length)∧0≤s.2
instance (rs:List ao) (s:Int × Int):Decidable (dk rs s):=by unfold dk;infer_instance
def dh (rs:List ao)(a:ao)(s:Int × Int):ao:=(List.zipWith (fun t e=>t+s.2*e) a.1 (au rs s.1).1,a.2+s.2*(au rs s.1).2)
def eC (rs:List ao)(st:Option ao)(s:Int × Int):Option ao:=st.bind fun a=>if dk rs s then some (dh rs a s) else none
def bS (rs:List ao)(shs:List (Int × Int))(n:Nat):Option ao:=shs.foldl (eC rs) (some (List.replicate n 0,0))
theorem n6 (rs:List ao):∀ shs:List (Int × Int),shs.foldl (eC rs) none=none
 | []=>rfl
 | _::t=>n6 rs t
theorem tX {rs:List ao}{shs:List (Int × Int)}{n i:Nat}{s:Int × Int}(h:shs[i]?=some s):bS rs (shs.take (i+1)) n=eC rs (bS rs (shs.take i) n) s:=by
 unfold bS
 rw[i5 h,List.foldl_append]
 rfl
theorem ip {rs:List ao}{shs:List (Int × Int)}{n i:Nat}{s:Int × Int}(h:shs[i]?=some s)(hb:¬ dk rs s):bS rs shs n=none:=by
 have e:shs=shs.take (i+1)++shs.drop (i+1):=(List.take_append_drop _ _).symm
 have:bS rs (shs.take (i+1)) n=none:=by
  rw[tX h]
  unfold eC
  cases bS rs (shs.take i) n with
  | none=>rfl
  | some a=>simp [hb]
 unfold bS at this ⊢
 rw[e,List.foldl_append,this,n6]
theorem mI {rs:List ao}{shs:List (Int × Int)}{n i:Nat}{s:Int × Int}{a:ao}(h:shs[i]?=some s)(ha:bS rs (shs.take i) n=some a)(hb:dk rs s):bS rs (shs.take (i+1)) n=some (dh rs a s):=by
 rw[tX h,ha]
 unfold eC
 simp [hb]
theorem sX {rs:List ao}{n W E:Nat}{shs:List (Int × Int)}{r:ao}(h:bS rs shs n=some r)(hr:∀ r∈rs,(∀ x∈r.1,x.natAbs≤E)∧r.2.natAbs≤E)(hw:∀ s∈shs,s.2.natAbs≤W) :
  (∀ x∈r.1,x.natAbs≤shs.length*(W*E))∧r.2.natAbs≤shs.length*(W*E):=by
 have key:∀ (shs:List (Int × Int)) (a:ao) (B:Nat),(∀ x∈a.1,x.natAbs≤B)→a.2.natAbs≤B→(∀ s∈shs,s.2.natAbs≤W)→∀ r,shs.foldl (eC rs) (some a)=some r→(∀ x∈r.1,x.natAbs≤B+shs.length*(W*E))∧r.2.natAbs≤B+shs.length*(W*E):=by
  intro shs
  induction shs with
  | nil=>intro a B ha hb _ r h;cases h;exact⟨fun x hx=>by have:=ha x hx;simp;omega,by simp;omega⟩
  | cons s t ih =>
   intro a B ha hb hw r h
   rw[List.foldl_cons] at h
   by_cases c:dk rs s
   ·have e:eC rs (some a) s=some (dh rs a s):=by unfold eC;simp [c]
    rw[e] at h
    have hm:=hr _ (dW c.1.1 c.1.2)
    have hs:=hw s List.mem_cons_self
    have hmul:∀ x:Int,x.natAbs≤E→(s.2*x).natAbs≤W*E:=fun x hx=>by rw[Int.natAbs_mul];exact Nat.mul_le_mul hs hx
    have h1:∀ x∈(dh rs a s).1,x.natAbs≤B+W*E:=by
     intro x hx
     unfold dh at hx
     obtain⟨i,hi⟩:=List.getElem?_of_mem hx
     rw[List.getElem?_zipWith] at hi
     cases h1:a.1[i]? with
     | none=>rw[h1] at hi;cases hi
     | some u =>
      cases h2:(au rs s.1).1[i]? with
      | none=>rw[h1,h2] at hi;cases hi
      | some v =>
       rw[h1,h2] at hi
       cases hi
       have:=ha u (List.mem_of_getElem? h1)
       have:=hmul v (hm.1 v (List.mem_of_getElem? h2))
       have:=Int.natAbs_add_le u (s.2*v)
       omega
    have h2:(dh rs a s).2.natAbs≤B+W*E:=by
     have:=hmul _ hm.2
     have:=Int.natAbs_add_le a.2 (s.2*(au rs s.1).2)
     unfold dh
     show (a.2+s.2*(au rs s.1).2).natAbs≤_
     omega
    have:=ih _ (B+W*E) h1 h2 (fun x hx=>hw x (List.mem_cons_of_mem _ hx)) r h
    have e:B+(s::t).length*(W*E)=B+W*E+t.length*(W*E):=by rw[List.length_cons,Nat.add_mul];omega
    rw[e]
    exact this
   ·have e:eC rs (some a) s=none:=by unfold eC;simp [c]
    rw[e,n6] at h
    cases h
 have:=key shs (List.replicate n 0,0) 0 (fun x hx=>by rw[(List.mem_replicate.mp hx).2];decide) (by show (0:Int).natAbs≤0;decide) hw r h
 simpa using this
theorem kM {α:Type}(xs:List α)(n:Nat):bR xs none (some (n:Int))=xs.take n:=by
 unfold bR
 have e1:HT.sIx xs.length 0 none=0:=rfl
 have e2:HT.sIx xs.length xs.length (some (n:Int))=min n xs.length:=HT.sIx_nat _ _ _
 rw[e1,e2,List.drop_zero,Nat.sub_zero]
 rcases Nat.le_total n xs.length with h | h
 ·rw[Nat.min_eq_left h]
 ·rw[Nat.min_eq_right h,List.take_length,List.take_of_length_le h]
theorem uV {α:Type}(xs:List α)(n:Nat):bR xs (some (n:Int)) none=xs.drop n:=by
 unfold bR
 have e1:HT.sIx xs.length xs.length none=xs.length:=rfl
 have e2:HT.sIx xs.length 0 (some (n:Int))=min n xs.length:=HT.sIx_nat _ _ _
 rw[e1,e2]
 rcases Nat.le_total n xs.length with h | h
 ·rw[Nat.min_eq_left h,List.take_of_length_le (by rw[List.length_drop];omega)]
 ·rw[Nat.min_eq_right h,List.drop_length,List.drop_of_length_le h]
  simp
theorem uZ {α β γ:Type}{f:α→β→γ}{xs:List α}{ys:List β}{x:α}{y:β}(h:xs.length=ys.length):List.zipWith f (xs++[x]) (ys++[y])=List.zipWith f xs ys++[f x y]:=by
 rw[List.zipWith_append h]
 rfl
theorem yj {α:Type}(xs:List α)(a b:Nat)(hb:b≤xs.length)(ha:a≤b):bR xs (some (a:Int)) (some (b:Int))=(xs.drop a).take (b - a):=by
 unfold bR
 rw[HT.sIx_nat,HT.sIx_nat,Nat.min_eq_left hb,Nat.min_eq_left (Nat.le_trans ha hb)]
theorem uN (xs:List V)(lo hi:Option Int):gu xs lo hi=bR xs lo hi:=rfl
section
variable {α:Type}{R:V→α→Prop}{vs:List V}{rs:List α}
end
theorem qd {a0 a1 a2}{rest:List Expr}{env:Env}:starEach (.BoolOp a0 a1 a2::rest) env=(false,eval (.BoolOp a0 a1 a2) env)::starEach rest env:=rfl
theorem aP {a0 a1 a2 a3}{rest:List Expr}{env:Env}:starEach (.BinOp a0 a1 a2 a3::rest) env=(false,eval (.BinOp a0 a1 a2 a3) env)::starEach rest env:=rfl
theorem iC {a0 a1 a2}{rest:List Expr}{env:Env}:starEach (.UnaryOp a0 a1 a2::rest) env=(false,eval (.UnaryOp a0 a1 a2) env)::starEach rest env:=rfl
theorem aV {a0 a1 a2 a3}{rest:List Expr}{env:Env}:starEach (.ListComp a0 a1 a2 a3::rest) env=(false,eval (.ListComp a0 a1 a2 a3) env)::starEach rest env:=rfl
theorem lD {a0 a1 a2 a3}{rest:List Expr}{env:Env}:starEach (.Compare a0 a1 a2 a3::rest) env=(false,eval (.Compare a0 a1 a2 a3) env)::starEach rest env:=rfl
theorem aE {a0 a1 a2 a3}{rest:List Expr}{env:Env}:starEach (.Call a0 a1 a2 a3::rest) env=(false,eval (.Call a0 a1 a2 a3) env)::starEach rest env:=rfl
theorem aA {a0 a1 a2}{rest:List Expr}{env:Env}:starEach (.Constant a0 a1 a2::rest) env=(false,eval (.Constant a0 a1 a2) env)::starEach rest env:=rfl
theorem da {a0 a1 a2}{rest:List Expr}{env:Env}:starEach (.Attribute a0 a1 a2::rest) env=(false,eval (.Attribute a0 a1 a2) env)::starEach rest env:=rfl
theorem aw {a0 a1 a2}{rest:List Expr}{env:Env}:starEach (.Subscript a0 a1 a2::rest) env=(false,eval (.Subscript a0 a1 a2) env)::starEach rest env:=rfl
theorem ab {a0 a1}{rest:List Expr}{env:Env}:starEach (.Name a0 a1::rest) env=(false,eval (.Name a0 a1) env)::starEach rest env:=rfl
theorem js {a0 a1}{rest:List Expr}{env:Env}:starEach (.List a0 a1::rest) env=(false,eval (.List a0 a1) env)::starEach rest env:=rfl
theorem bL {a0 a1 a2}{rest:List Expr}{env:Env}:starEach (.Tuple a0 a1 a2::rest) env=(false,eval (.Tuple a0 a1 a2) env)::starEach rest env:=rfl
theorem ak {pos:Pos}{env:Env}:(backTo pos (starEach [] env)).any (·.1)=false:=rfl
theorem ai {pos:Pos}{e:Expr}{es:List Expr}{env:Env}(h:starEach (e::es) env=(false,eval e env)::starEach es env)(hr:(backTo pos (starEach es env)).any (·.1)=false):(backTo pos (starEach (e::es) env)).any (·.1)=false:=by
 rw[h]
 exact hr
theorem fb {pos : Pos} {e : Expr} {env : Env} (h : starEach [e] env = (false, eval e env) :: starEach [] env) : ((backTo pos (starEach [e] env)).all (fun x => !x.1) && (backToKw pos (keywordEach [] env)).all (fun x => x.1.isSome)
      && decide ([e].length + ([] : List Keyword).length + (if ([] : List Keyword).isEmpty then 0 else 1) < 30)) = true := by
 rw[h]
 rfl
section
variable {X:Cx}{K:Frag}
end
end L2
namespace L2
open PySem PySem.Spec PyProof.Rows
section
variable {X:Cx}{K:Frag}
theorem Bg:bN X (compareOp .Is) (fun x y H Q=>∃ a b:Bool,x=.bl a∧y=.bl b∧Q (.bl (a == b)) H):=by
 intro pins s σ H x y v u Q I rx ry h
 obtain⟨a,b,rfl,rfl,q⟩:=h
 cases rx
 cases ry
 exact wpAny_is_plain rfl (lz I q (by cases a <;> cases b <;> rfl))
theorem Cc:bN X (compareOp .IsNot) (fun x y H Q=>∃ a b:Bool,x=.bl a∧y=.bl b∧Q (.bl (!(a == b))) H):=by
 intro pins s σ H x y v u Q I rx ry h
 obtain⟨a,b,rfl,rfl,q⟩:=h
 cases rx
 cases ry
 exact wpAny_isNot_plain rfl (lz I q (by cases a <;> cases b <;> rfl))
end
end L2
namespace PySem
open Sem (wp)
open Builtin
open AutoSeq1 (wpAny_loadPart')
theorem CZ:fillsNumberSlot (.type "tuple") "mul"=pure false :=
 fillsNumberSlot_seq (id:="tuple.__mul__") (r:=some (.builtin "tuple.__rmul__")) F.slot_tuple_mul.lookup (by decide +kernel) F.slot_tuple_rmul.lookup (by decide +kernel)
theorem C7:seqRepeat? (.type "tuple")=pure (some (.builtin "tuple.__mul__")):=by
 unfold seqRepeat?
 rw[seqSlot_of (T:="tuple") (name:="__mul__") (id:="tuple.__mul__") F.slot_tuple_mul.lookup (by decide +kernel),seqSlot_of (T:="tuple") (name:="__rmul__") (id:="tuple.__rmul__") F.slot_tuple_rmul.lookup (by decide +kernel)]
 rfl
theorem BQ (a:Int)(t:Tok)(l:Addr)(items:Array Value)(n:Nat)(dd:Option Addr)(sl:Array (Option Value)) :
  Meets (Builtin.«int.__rmul__» ⟨[.int a t,.ref l],[]⟩) (fun _ R s=>s.heap.get? l=some { cls:=.type "tuple",dict:=dd,data:=.seq items n,slots:=sl }∧R (.ok (.ret Value.notImplemented)) s) :=
 .of_wp fun prog w A R s h=>by obtain⟨hp,g,d,tk,os⟩:=s;obtain⟨hl,h⟩:=h;wp_walk;exact⟨_,rfl,h⟩
theorem zB (l:Addr)(items:Array Value)(n:Nat)(dd:Option Addr)(sl:Array (Option Value))(u:Tok) :
  Meets (Builtin.«tuple.__mul__» ⟨[.ref l,.int 1 u],[]⟩) (fun _ R s=>s.heap.get? l=some { cls:=.type "tuple",dict:=dd,data:=.seq items n,slots:=sl }∧R (.ok (.ret (Value.ref l))) s) :=
 .of_wp fun prog w A R s h=>by obtain⟨hp,g,d,tk,os⟩:=s;obtain⟨hl,h⟩:=h;have f1:=AutoSeq1.idx_int;have f2:=AutoSeq1.sub_tuple_tuple;wp_walk using wpAny_loadPart' hl;exact⟨_,rfl,h⟩
theorem yI (l:Addr)(items:Array Value)(n:Nat)(dd:Option Addr)(sl:Array (Option Value))(k:Int)(u:Tok)(hc0:¬ (decide (k < -(2 ^ 63)) || decide (k≥2 ^ 63))=true)(hc1:¬ (items.isEmpty || k == 1)=true)(hc2:(decide (k≤0) || items.isEmpty)=true) :
  Meets (Builtin.«tuple.__mul__» ⟨[.ref l,.int k u],[]⟩) (fun _ R s=>s.heap.get? l=some { cls:=.type "tuple",dict:=dd,data:=.seq items n,slots:=sl }∧R (.ok (.ret (Value.ref s.heap.objs.size))) { s with heap:=s.heap.push { cls:=Value.type "tuple",data:=Data.seq #[] },toks:=s.toks }) :=
 .of_wp fun prog w A R s h=>by obtain⟨hp,g,d,tk,os⟩:=s;obtain⟨hl,h⟩:=h;have f1:=AutoSeq1.idx_int;have f2:=AutoSeq1.sub_tuple_tuple;wp_walk using wpAny_loadPart' hl;refine wpAny_ite_false (decide_eq_false hc0) ?_;wp_walk using wpAny_loadPart' hl;exact⟨_,rfl,h⟩
theorem zO (l:Addr)(items:Array Value)(n:Nat)(dd:Option Addr)(sl:Array (Option Value))(k:Int)(u:Tok)(hc0:¬ (decide (k < -(2 ^ 63)) || decide (k≥2 ^ 63))=true)(hc1:¬ (items.isEmpty || k == 1)=true)(hc2:¬ (decide (k≤0) || items.isEmpty)=true)(hc3:¬ (items.size*k>(2 ^ 63 - 1) / 8))(hc4:¬ Builtin.Tuple.tupleTooMany (items.size*k)=true)(hsz:(List.foldl (fun x1 x2=>x1++x2) #[] (List.replicate k.toNat items)).size≤sizeLine) :
  Meets (Builtin.«tuple.__mul__» ⟨[.ref l,.int k u],[]⟩) (fun _ R s=>s.heap.get? l=some { cls:=.type "tuple",dict:=dd,data:=.seq items n,slots:=sl }∧R (.ok (.ret (Value.ref s.heap.objs.size))) { s with heap:=s.heap.push { cls:=Value.type "tuple",data:=Data.seq (List.foldl (fun x1 x2=>x1++x2) #[] (List.replicate k.toNat items)) },toks:=s.toks }) :=
 .of_wp fun prog w A R s h=>by obtain⟨hp,g,d,tk,os⟩:=s;obtain⟨hl,h⟩:=h;have f1:=AutoSeq1.idx_int;have f2:=AutoSeq1.sub_tuple_tuple;wp_walk using wpAny_loadPart' hl;refine wpAny_ite_false (decide_eq_false hc0) ?_;wp_walk using wpAny_loadPart' hl;refine wpAny_ite_false (decide_eq_false hc3) ?_;wp_walk using wpAny_loadPart' hl;exact⟨_,rfl,h⟩
end PySem
namespace L2
open PySem PySem.Spec PyProof.Rows
def pk (K:Frag):R2:=fun x y H Q=>∃ (a:Addr) (k:Int) (xs:List V),x=.ref a∧y=.int k∧SqT K H a xs∧xs≠[]∧0≤k∧k≤1000∧k.toNat*xs.length≤1000∧∀ p H',Same H H'→SqT K H' p (List.replicate k.toNat xs).flatten→Q (.ref p) H'
theorem vR {X:Cx}:bN X (binaryOp .Mult) (pk X.K):=by
 intro pins s σ H x y v u Q I rx ry h
 obtain⟨a,k,xs,rfl,rfl,ha,hx,h0,h1,hz,q⟩:=h
 cases rx
 obtain⟨t,rfl⟩:=ry
 obtain⟨its,r,p1,_⟩:=I.tuple ha
 have hne:its≠[]:=fun z=>hx (r.nil_iff.mp z)
 have hl:=r.length
 have hits:its.toArray.isEmpty=false:=by cases its with | nil=>exact absurd rfl hne | cons _ _=>rfl
 obtain⟨⟨cls,dd,data,sl⟩,ho,hc,n,hd⟩:=id p1
 simp only at hc hd
 subst hc hd
 refine wpAny_binaryOp_repeat_ref (T:="tuple") (U:="int") (by decide) ⟨_,ho,rfl⟩ (fun s'=>typeIs_int s' k t) CZ F.fills_int_mul F.slot_int_rmul C7 F.slot_int_index.lookup
  (call_meets F.slot_int_rmul (typeIs_int s k t) F.entry_int_rmul (F.args_int_rmul_2 _ _) (BQ k t a its.toArray n dd sl)
   ⟨ho,rfl,⟨_,ho,rfl⟩,?_⟩)
 have hnew:List.foldl (fun x1 x2=>x1++x2) #[] (List.replicate k.toNat its.toArray)=(List.replicate k.toNat its).flatten.toArray:=by
  have:=mK its k.toNat []
  rw[List.nil_append] at this
  exact this
 have hc0:¬ (decide (k < -(2 ^ 63)) || decide (k≥2 ^ 63))=true:=by
  rw[decide_eq_false (by omega),decide_eq_false (by omega)]
  exact Bool.false_ne_true
 by_cases c1:k=1
 ·subst c1
  refine call_meets F.slot_tuple_mul ⟨_,ho,rfl⟩ F.entry_tuple_mul (F.args_tuple_mul_2 _ _) (zB a its.toArray n dd sl t) ⟨ho,?_⟩
  refine⟨.ref a,H,I,rfl,q a H (Same.refl H) ?_⟩
  show SqT X.K H a (List.replicate 1 xs).flatten
  rw[List.replicate_one,List.flatten_cons,List.flatten_nil,List.append_nil]
  exact ha
 ·have hc1:¬ (its.toArray.isEmpty || k == 1)=true:=by
   rw[hits,beq_eq_false_iff_ne.mpr c1]
   exact Bool.false_ne_true
  have lay:∀ ys:List V,∀ us:List Value,ys.length≤sizeLine→Vals ys us→EP X pins σ Q (.ref s.heap.objs.size) { s with heap:=s.heap.push { cls:=Value.type "tuple",data:=Data.seq us.toArray },toks:=s.toks }∨¬ (∀ p H',Same H H'→SqT X.K H' p ys→Q (.ref p) H'):=fun ys us hzz rr=>by
   by_cases qq:∀ p H',Same H H'→SqT X.K H' p ys→Q (.ref p) H'
   ·refine .inl ⟨.ref s.heap.objs.size,_,I.laid (t':=s.toks) (o:=.tup ys) (fun b ob z=>Heap.get?_push_of_some _ z) (Nat.le_refl _) ?_,rfl,qq _ _ (cI (I.hok.fresh (Nat.le_refl _)) _) (SqT.of bw)⟩
    exact⟨hzz,_,rr,IsTup.new _ _⟩
   ·exact .inr qq
  by_cases c0:k=0
  ·subst c0
   refine call_meets F.slot_tuple_mul ⟨_,ho,rfl⟩ F.entry_tuple_mul (F.args_tuple_mul_2 _ _) (yI a its.toArray n dd sl 0 t hc0 hc1 rfl) ⟨ho,?_⟩
   rcases lay [] [] (Nat.zero_le _) .nil with z | z
   ·exact z
   ·exact absurd q z
  ·have hc2:¬ (decide (k≤0) || its.toArray.isEmpty)=true:=by
    rw[hits,decide_eq_false (by omega)]
    exact Bool.false_ne_true
   have hlen:its.length*k.toNat≤1000:=by rw[← hl,Nat.mul_comm];exact hz
   have hlenI:(its.toArray.size:Int)*k≤1000:=by
    rw[List.size_toArray]
    have e:k=((k.toNat:Nat):Int):=by omega
    rw[e]
    exact_mod_cast hlen
   have hs:(1000:Int)≤((sizeLine:Nat):Int):=by exact_mod_cast small (Nat.le_refl 1000)
   have hflat:(List.replicate k.toNat its).flatten.length≤1000:=by rw[mZ,Nat.mul_comm];exact hlen
   refine call_meets F.slot_tuple_mul ⟨_,ho,rfl⟩ F.entry_tuple_mul (F.args_tuple_mul_2 _ _) (zO a its.toArray n dd sl k t hc0 hc1 hc2 (by omega) (by unfold Builtin.Tuple.tupleTooMany;rw[decide_eq_false (by omega)];exact Bool.false_ne_true) (by rw[hnew,List.size_toArray];exact small hflat)) ⟨ho,?_⟩
   rw[hnew]
   rcases lay (List.replicate k.toNat xs).flatten (List.replicate k.toNat its).flatten (by rw[mZ];exact small hz) (r.rep k.toNat) with z | z
   ·exact z
   ·exact absurd q z
inductive D where
 | int (i:Int) | bl (b:Bool) | str (x:Str) | non | tup (xs:List D) | lst (xs:List D) | fzl (xs:List D) | obj (nm:Str) (fs:List (Str × D))
inductive Rp (K:Frag) (H:Hp):D→V→Prop where
 | int (i:Int):Rp K H (.int i) (.int i)
 | bl (b:Bool):Rp K H (.bl b) (.bl b)
 | str (x:Str):Rp K H (.str x) (.str x)
 | non:Rp K H .non .non
 | tup {a:Addr} {vs:List V} {ds:List D}:SqT K H a vs→vs.length=ds.length→(∀ (i:Nat) (v:V) (d:D),vs[i]?=some v→ds[i]?=some d→Rp K H d v)→Rp K H (.tup ds) (.ref a)
 | lst {a:Addr} {vs:List V} {ds:List D}:H a=some (.lst vs)→vs.length=ds.length→(∀ (i:Nat) (v:V) (d:D),vs[i]?=some v→ds[i]?=some d→Rp K H d v)→Rp K H (.lst ds) (.ref a)
 | fzl {a:Addr} {vs:List V} {ds:List D}:SqL K H a vs→vs.length=ds.length→(∀ (i:Nat) (v:V) (d:D),vs[i]?=some v→ds[i]?=some d→Rp K H d v)→Rp K H (.fzl ds) (.ref a)
 | obj {a C dx:Addr} {nm:Str} {vs:List (Str × V)} {fs:List (Str × D)}:nsIn K mainGlobals nm=some (some (.ref C))→H a=some (.ins C dx vs)→vs.map (·.1)=fs.map (·.1)→(∀ (i:Nat) (v:Str × V) (d:Str × D),vs[i]?=some v→fs[i]?=some d→Rp K H d.2 v.2)→Rp K H (.obj nm fs) (.ref a)
def RpL (K:Frag)(H:Hp)(ds:List D)(vs:List V):Prop:=vs.length=ds.length∧∀ (i:Nat) (v:V) (d:D),vs[i]?=some v→ds[i]?=some d→Rp K H d v
section
variable {K:Frag}{H H' Φ Φ' Φ1 H1 Φ2 H2:Hp}{d:D}{v:V}{ds es:List D}{vs ws:List V}
theorem Rp.same (s:Same H H')(h:Rp K H d v):Rp K H' d v:=by
 induction h with
 | int i=>exact .int i
 | bl b=>exact .bl b
 | str x=>exact .str x
 | non=>exact .non
 | tup h1 h2 _ ih=>exact .tup (s.sqt h1) h2 ih
 | lst h1 h2 _ ih=>exact .lst (s _ _ h1) h2 ih
 | fzl h1 h2 _ ih=>exact .fzl (s.seq h1) h2 ih
 | obj h0 h1 h2 _ ih=>exact .obj h0 (s _ _ h1) h2 ih
theorem RpL.same (s:Same H H')(h:RpL K H ds vs):RpL K H' ds vs:=⟨h.1,fun i v d hv hd=>(h.2 i v d hv hd).same s⟩
theorem RpL.nil:RpL K H [] []:=⟨rfl,fun i v d hv _=>by simp at hv⟩
theorem RpL.cons (r:Rp K H d v)(h:RpL K H ds vs):RpL K H (d::ds) (v::vs):=⟨by simp [h.1],fun i u e hu he=>by
 cases i with
 | zero=>cases hu;cases he;exact r
 | succ i=>exact h.2 i u e hu he⟩
theorem RpL.append (h:RpL K H ds vs)(h':RpL K H es ws):RpL K H (ds++es) (vs++ws):=by
 refine⟨by rw[List.length_append,List.length_append,h.1,h'.1],fun i u e hu he=>?_⟩
 rcases Nat.lt_or_ge i vs.length with c | c
 ·rw[List.getElem?_append_left c] at hu
  rw[List.getElem?_append_left (by rw[← h.1];exact c)] at he
  exact h.2 i u e hu he
 ·rw[List.getElem?_append_right c] at hu
  rw[List.getElem?_append_right (by rw[← h.1];exact c),← h.1] at he
  exact h'.2 _ u e hu he
theorem RpL.one (r:Rp K H d v):RpL K H [d] [v]:=.cons r .nil
theorem RpL.take (h:RpL K H ds vs)(k:Nat):RpL K H (ds.take k) (vs.take k):=⟨by rw[List.length_take,List.length_take,h.1],fun i u e hu he=>by
 rcases Nat.lt_or_ge i k with c | c
 ·rw[List.getElem?_take_of_lt c] at hu he
  exact h.2 i u e hu he
 ·rw[List.getElem?_take_eq_none c] at hu
  cases hu⟩
theorem RpL.drop (h:RpL K H ds vs)(k:Nat):RpL K H (ds.drop k) (vs.drop k):=⟨by rw[List.length_drop,List.length_drop,h.1],fun i u e hu he=>by
 rw[List.getElem?_drop] at hu he
 exact h.2 _ u e hu he⟩
theorem RpL.reverse (h:RpL K H ds vs):RpL K H ds.reverse vs.reverse:=⟨by rw[List.length_reverse,List.length_reverse,h.1],fun i u e hu he=>by
 have hi:i<vs.length:=by have:=c9 hu;rwa [List.length_reverse] at this
 rw[List.getElem?_reverse hi] at hu
 rw[List.getElem?_reverse (by rw[← h.1];exact hi),← h.1] at he
 exact h.2 _ u e hu he⟩
theorem RpL.rep (h:RpL K H ds vs):∀ k:Nat,RpL K H (List.replicate k ds).flatten (List.replicate k vs).flatten
 | 0=>.nil
 | k+1=>by
  rw[List.replicate_succ,List.replicate_succ,List.flatten_cons,List.flatten_cons]
  exact h.append (RpL.rep h k)
theorem RpL.at (h:RpL K H ds vs){i:Nat}(e:ds[i]?=some d):∃ v,vs[i]?=some v∧Rp K H d v:=by
 have hi:i<vs.length:=by rw[h.1];exact c9 e
 exact⟨vs[i],by simp [hi],h.2 i _ d (by simp [hi]) e⟩
theorem RpL.at' (h:RpL K H ds vs){i:Nat}(e:vs[i]?=some v):∃ d,ds[i]?=some d∧Rp K H d v:=by
 have hi:i<ds.length:=by rw[← h.1];exact c9 e
 exact⟨ds[i],by simp [hi],h.2 i v _ e (by simp [hi])⟩
theorem RpL.cut (h:RpL K H ds vs)(lo hi:Option Int):RpL K H (bR ds lo hi) (gu vs lo hi):=by
 rw[uN]
 unfold bR
 rw[h.1]
 exact (h.drop _).take _
theorem RpL.tup {a:Addr}(h:RpL K H ds vs)(s:SqT K H a vs):Rp K H (.tup ds) (.ref a):=.tup s h.1 h.2
theorem RpL.lst {a:Addr}(h:RpL K H ds vs)(s:H a=some (.lst vs)):Rp K H (.lst ds) (.ref a):=.lst s h.1 h.2
theorem RpL.fzl {a:Addr}(h:RpL K H ds vs)(s:SqL K H a vs):Rp K H (.fzl ds) (.ref a):=.fzl s h.1 h.2
theorem RpL.ints (ns:List Int):RpL K H (ns.map D.int) (ns.map V.int):=⟨by simp,fun i v d hv hd=>by
 rw[List.getElem?_map] at hv hd
 cases e:ns[i]? with
 | none=>rw[e] at hv;cases hv
 | some k=>rw[e] at hv hd;cases hv;cases hd;exact .int k⟩
def lr:HO→Prop | .lst _=>True | .dK _=>True | .dT _=>True | _=>False
structure Gr (Φ H Φ' H':Hp):Prop where
 f:Same Φ Φ'
 h:Same H H'
 s:Same Φ' H'
 o:∀ p (u:HO),H p=some u→Φ p=none→(k:lr u:=by trivial)→Φ' p=none
theorem Gr.refl (s:Same Φ H):Gr Φ H Φ H:=⟨Same.refl _,Same.refl _,s,fun _ _ _ h _=>h⟩
theorem Gr.trans (a:Gr Φ H Φ1 H1)(b:Gr Φ1 H1 Φ2 H2):Gr Φ H Φ2 H2:=⟨a.f.trans b.f,a.h.trans b.h,b.s,fun p u hp hn k=>b.o p u (a.h p _ hp) (a.o p u hp hn k) k⟩
theorem Gr.join (a:Gr Φ H Φ1 H1)(b:Gr Φ1 H Φ2 H2):Gr Φ H Φ2 H2:=⟨a.f.trans b.f,b.h,b.s,fun p u hp hn k=>b.o p u hp (a.o p u hp hn k) k⟩
theorem wM (s:Same Φ H){p:Addr}(o:HO):Same (aJ Φ p o) (aJ H p o):=fun b u e=>by
 by_cases c:b=p
 ·subst c;rw[bw] at e ⊢;exact e
 ·rw[ba c] at e ⊢;exact s b u e
theorem Gr.new (s:Same Φ H){p:Addr}(hp:H p=none)(o:HO):Gr Φ H (aJ Φ p o) (aJ H p o) :=
 ⟨cI (s.free hp) o,cI hp o,wM s o,fun q u hq hn _=>by rw[ba (cx hq hp)];exact hn⟩
theorem Gr.fresh (s:Same Φ H){p:Addr}(hp:H p=none)(o:HO):Gr Φ H Φ (aJ H p o) :=
 ⟨Same.refl _,cI hp o,fun b u e=>cI hp o b u (s b u e),fun _ _ _ h _=>h⟩
theorem Gr.freeze (g:Gr Φ H Φ' H'){p:Addr}{o:HO}(h0:H p=none)(hn:Φ' p=none)(hp:H' p=some o):Gr Φ H (aJ Φ' p o) H' :=
 ⟨g.f.trans (cI hn o),g.h,fun b u e=>by
  by_cases c:b=p
  ·subst c;rw[bw] at e;cases e;exact hp
  ·rw[ba c] at e;exact g.s b u e,fun q u hq hqn k=>by rw[ba (cx hq h0)];exact g.o q u hq hqn k⟩
theorem Gr.adopt {p:Addr}{xs:List V}(s:Same Φ H)(h:Same H H')(q:SqT K H' p xs):∃ Φ',Gr Φ H Φ' H'∧SqT K Φ' p xs:=by
 rcases q with q | q
 ·obtain⟨o,ho,hr,hnl⟩:∃ o,H' p=some o∧(o=.tup xs∨∃ b,o=.frz b (.tup xs))∧¬ lr o:=by
   rcases q with q | ⟨o,q⟩
   ·exact⟨_,q,.inl rfl,fun e=>e⟩
   ·exact⟨_,q,.inr ⟨o,rfl⟩,fun e=>e⟩
  have e1:∀ u,Φ p=some u→u=o:=fun u e=>by have:=h _ _ (s _ _ e);rw[ho] at this;cases this;rfl
  refine⟨aJ Φ p o,⟨fun b u e=>?_,h,fun b u e=>?_,fun b u e n k=>?_⟩,?_⟩
  ·by_cases c:b=p
   ·subst c;rw[bw,e1 u e]
   ·rw[ba c];exact e
  ·by_cases c:b=p
   ·subst c;rw[bw] at e;cases e;exact ho
   ·rw[ba c] at e;exact h _ _ (s _ _ e)
  ·by_cases c:b=p
   ·subst c
    have:=h _ _ e
    rw[ho] at this
    cases this
    exact absurd k hnl
   ·rw[ba c];exact n
  ·rcases hr with rfl | ⟨b,rfl⟩
   ·exact .inl (.inl bw)
   ·exact .inl (.inr ⟨b,bw⟩)
 ·exact⟨Φ,⟨Same.refl _,h,fun b u e=>h _ _ (s _ _ e),fun _ _ _ n _=>n⟩,.inr q⟩
def RpQ (K:Frag)(Φ H:Hp)(d:D)(v:V):Prop:=Rp K Φ d v∨∃ a vs ds,d=.lst ds∧v=.ref a∧H a=some (.lst vs)∧RpL K Φ ds vs
theorem RpQ.gr (g:Gr Φ H Φ' H')(h:RpQ K Φ H d v):RpQ K Φ' H' d v:=by
 rcases h with h | ⟨a,vs,ds,e,e2,h1,h2⟩
 ·exact .inl (h.same g.f)
 ·exact .inr ⟨a,vs,ds,e,e2,g.h _ _ h1,h2.same g.f⟩
theorem RpQ.lst (s:Same Φ H)(h:RpQ K Φ H (.lst ds) v):∃ a vs,v=.ref a∧H a=some (.lst vs)∧RpL K Φ ds vs:=by
 rcases h with h | ⟨a,vs,ds,e,e2,h1,h2⟩
 ·cases h with | lst h1 h2 h3=>exact⟨_,_,rfl,s _ _ h1,h2,h3⟩
 ·cases e;exact⟨a,vs,e2,h1,h2⟩
theorem RpQ.fzl (s:Same Φ H)(h:RpQ K Φ H (.fzl ds) v):∃ a vs,v=.ref a∧SqL K H a vs∧RpL K Φ ds vs:=by
 rcases h with h | ⟨a,vs,ds,e,e2,h1,h2⟩
 ·cases h with | fzl h1 h2 h3=>exact⟨_,_,rfl,s.seq h1,h2,h3⟩
 ·cases e
theorem RpQ.tup (s:Same Φ H)(h:RpQ K Φ H (.tup ds) v):∃ a vs,v=.ref a∧SqT K H a vs∧SqT K Φ a vs∧RpL K Φ ds vs:=by
 rcases h with h | ⟨a,vs,ds,e,e2,h1,h2⟩
 ·cases h with | tup h1 h2 h3=>exact⟨_,_,rfl,s.sqt h1,h1,h2,h3⟩
 ·cases e
theorem RpQ.int {i:Int}(h:RpQ K Φ H (.int i) v):v=.int i:=by
 rcases h with h | ⟨a,vs,ds,e,_⟩
 ·cases h;rfl
 ·cases e
theorem RpQ.bl {i:Bool}(h:RpQ K Φ H (.bl i) v):v=.bl i:=by
 rcases h with h | ⟨a,vs,ds,e,_⟩
 ·cases h;rfl
 ·cases e
theorem RpQ.str {i:Str}(h:RpQ K Φ H (.str i) v):v=.str i:=by
 rcases h with h | ⟨a,vs,ds,e,_⟩
 ·cases h;rfl
 ·cases e
theorem RpQ.non (h:RpQ K Φ H .non v):v=.non:=by
 rcases h with h | ⟨a,vs,ds,e,_⟩
 ·cases h;rfl
 ·cases e
def fA:D→Option (List D)
 | .lst ds=>some ds
 | .tup ds=>some ds
 | .fzl ds=>some ds
 | _=>none
theorem RpQ.seq (s:Same Φ H)(h:RpQ K Φ H d v)(e:fA d=some ds):∃ a vs,v=.ref a∧(SqL K H a vs∨SqT K H a vs)∧RpL K Φ ds vs:=by
 cases d with
 | lst ds=>cases e;obtain⟨a,vs,e,h1,h2⟩:=h.lst s;exact⟨a,vs,e,.inl (.of h1),h2⟩
 | tup ds=>cases e;obtain⟨a,vs,e,h1,_,h2⟩:=h.tup s;exact⟨a,vs,e,.inr h1,h2⟩
 | fzl ds=>cases e;obtain⟨a,vs,e,h1,h2⟩:=h.fzl s;exact⟨a,vs,e,.inl h1,h2⟩
 | _=>cases e
theorem Rp.seq (h:Rp K Φ d v)(e:fA d=some ds):∃ (b:Bool) (a:Addr) (vs:List V),v=.ref a∧SqB K b Φ a vs∧RpL K Φ ds vs:=by
 cases d with
 | lst ds=>cases e;cases h with | lst h1 h2 h3=>exact⟨true,_,_,rfl,SqL.of h1,h2,h3⟩
 | tup ds=>cases e;cases h with | tup h1 h2 h3=>exact⟨false,_,_,rfl,h1,h2,h3⟩
 | fzl ds=>cases e;cases h with | fzl h1 h2 h3=>exact⟨true,_,_,rfl,h1,h2,h3⟩
 | _=>cases e
end
inductive Ow where | lst (xs:List D) | dct (ks:List cM) | dcT (ks:List (List cM))
inductive Sl where | v (d:D) | ob (o:Ow)
abbrev Sl.own (xs:List D):Sl:=.ob (.lst xs)
def OwR (K:Frag)(Φ:Hp):Ow→HO→Prop
 | .lst ds,.lst vs=>RpL K Φ ds vs
 | .dct ks,.dK kvs=>kvs.map (·.1)=ks
 | .dcT ks,.dT kvs=>kvs.map (·.1)=ks
 | _,_=>False
theorem OwR.k {K:Frag}{Φ:Hp}{o:Ow}{u:HO}(r:OwR K Φ o u):lr u:=by
 cases o with
 | lst ds =>
  cases u with
  | lst vs=>exact True.intro
  | _=>exact r.elim
 | dct ks =>
  cases u with
  | dK kvs=>exact True.intro
  | _=>exact r.elim
 | dcT ks =>
  cases u with
  | dT kvs=>exact True.intro
  | _=>exact r.elim
theorem OwR.same {K:Frag}{Φ Φ':Hp}{o:Ow}{u:HO}(r:OwR K Φ o u)(s:Same Φ Φ'):OwR K Φ' o u:=by
 cases o with
 | lst ds =>
  cases u with
  | lst vs=>exact (show RpL K Φ ds vs from r).same s
  | _=>exact r.elim
 | dct ks =>
  cases u with
  | dK kvs=>exact r
  | _=>exact r.elim
 | dcT ks =>
  cases u with
  | dT kvs=>exact r
  | _=>exact r.elim
abbrev bP:=List (Option Sl)
def oQ:FuncBody→Option Pos
 | .stmts b=>(match b.getLast? with
  | some (.Return (some (.Call _ _ kws _)) _)=>kws.findSome? fun k=>(match k.value with | .Lambda _ _ _ pos=>some pos | _=>none)
  | _=>none)
 | _=>none
def ib (K:Frag)(x:Str):Option (Addr × Array Value):=match nsIn K mainGlobals x with
 | some (some (.ref f))=>(match K.lookup f with
  | some ⟨_,_,.func fd,_⟩=>(match fd.code with
   | .ref c=>(match K.lookup c with
    | some ⟨_,_,.fields vs,_⟩=>(match (vs[11]?:Option Value),oQ fd.body with
     | some (.ref P),some pos=>some (P,#[rawInt pos.line,rawInt pos.col,.str (fd.qualname++".<locals>."++"<lambda>") 0])
     | _,_=>none)
    | _=>none)
   | _=>none)
  | _=>none)
 | _=>none
def bX (K:Frag):List (Addr × Array Value):=(["least_grown","greatest_first"]:List Str).filterMap (ib K)
def TabF (K:Frag)(Φ:Hp):Prop:=∀ t∈bX K,Φ t.1=some (.tbl t.2)
theorem TabF.same {K:Frag}{Φ Φ':Hp}(h:TabF K Φ)(s:Same Φ Φ'):TabF K Φ':=fun t ht=>s _ _ (h t ht)
structure EnvD (K:Frag)(H0 Φ H:Hp)(σ:St)(ρ:bP):Prop where
 fz:Same Φ H
 len:σ.length=ρ.length
 sl:∀ (i:Nat) (d:D),ρ[i]?=some (some (.v d))→∃ v,σ[i]?=some (some v)∧Rp K Φ d v
 ow:∀ (i:Nat) (o:Ow),ρ[i]?=some (some (.ob o))→∃ p u,σ[i]?=some (some (.ref p))∧H0 p=none∧Φ p=none∧H p=some u∧OwR K Φ o u
 ne:∀ (i j:Nat) (o w:Ow) (p:Addr),ρ[i]?=some (some (.ob o))→ρ[j]?=some (some (.ob w))→σ[i]?=some (some (.ref p))→σ[j]?=some (some (.ref p))→i=j
 tb:TabF K Φ
section
variable {K:Frag}{H0 H H' Φ Φ' Φ1 H1 Φ2 H2:Hp}{σ:St}{ρ:bP}{d:D}{v:V}{ds es:List D}{vs ws:List V}
theorem EnvD.owl (E:EnvD K H0 Φ H σ ρ)(i:Nat)(ds:List D)(h:ρ[i]?=some (some (.own ds))):∃ p vs,σ[i]?=some (some (.ref p))∧H0 p=none∧Φ p=none∧H p=some (.lst vs)∧RpL K Φ ds vs:=by
 obtain⟨p,u,e,h0,hn,hp,r⟩:=E.ow i _ h
 cases u with
 | lst vs=>exact⟨p,vs,e,h0,hn,hp,r⟩
 | _=>exact (show False from r).elim
theorem EnvD.gr (E:EnvD K H0 Φ H σ ρ)(g:Gr Φ H Φ' H'):EnvD K H0 Φ' H' σ ρ :=
 ⟨g.s,E.len,fun i d h=>let ⟨v,e,r⟩:=E.sl i d h;⟨v,e,r.same g.f⟩,
  fun i ds h=>let ⟨p,vs,e,h0,hn,hp,r⟩:=E.ow i ds h;⟨p,vs,e,h0,g.o p _ hp hn r.k,g.h _ _ hp,r.same g.f⟩,E.ne,E.tb.same g.f⟩
theorem cV {α:Type}{l:List α}{i j:Nat}{x y:α}(h:(l.set i x)[j]?=some y):(j=i∧i<l.length∧y=x)∨(j≠i∧l[j]?=some y):=by
 by_cases c:i=j
 ·subst c
  have hi:i<l.length:=by have:=c9 h;rwa [List.length_set] at this
  rw[List.getElem?_set_self hi] at h
  cases h
  exact .inl ⟨rfl,hi,rfl⟩
 ·rw[List.getElem?_set_ne c] at h
  exact .inr ⟨fun e=>c e.symm,h⟩
theorem EnvD.set (E:EnvD K H0 Φ H σ ρ)(r:Rp K Φ d v)(i:Nat):EnvD K H0 Φ H (σ.set i (some v)) (ρ.set i (some (.v d))):=by
 have nn:∀ {j:Nat} {x:Option V},j≠i→σ[j]?=some x→(σ.set i (some v))[j]?=some x:=fun c h=>by rw[List.getElem?_set_ne (Ne.symm c)];exact h
 refine⟨E.fz,by rw[List.length_set,List.length_set,E.len],fun j e h=>?_,fun j ds h=>?_,fun j k ds es p hj hk sj sk=>?_,E.tb⟩
 ·rcases cV h with⟨rfl,hi,e1⟩ | ⟨c,h⟩
  ·cases e1
   exact⟨v,by rw[List.getElem?_set_self (by rw[E.len];exact hi)],r⟩
  ·obtain⟨u,hu,ru⟩:=E.sl j e h
   exact⟨u,nn c hu,ru⟩
 ·rcases cV h with⟨rfl,hi,e1⟩ | ⟨c,h⟩
  ·cases e1
  ·obtain⟨p,vs,e,q⟩:=E.ow j ds h
   exact⟨p,vs,nn c e,q⟩
 ·rcases cV hj with⟨rfl,_,e1⟩ | ⟨cj,hj⟩
  ·cases e1
  rcases cV hk with⟨rfl,_,e1⟩ | ⟨ck,hk⟩
  ·cases e1
  rw[List.getElem?_set_ne (Ne.symm cj)] at sj
  rw[List.getElem?_set_ne (Ne.symm ck)] at sk
  exact E.ne j k ds es p hj hk sj sk
theorem EnvD.setOb (E:EnvD K H0 Φ H σ ρ){p:Addr}{o:Ow}{u:HO}(r:OwR K Φ o u)(h0:H0 p=none)(hn:Φ p=none)(hp:H p=some u)(hnew:∀ (j:Nat) (w:Ow),ρ[j]?=some (some (.ob w))→σ[j]?≠some (some (.ref p)))(i:Nat):EnvD K H0 Φ H (σ.set i (some (.ref p))) (ρ.set i (some (.ob o))):=by
 have nn:∀ {j:Nat} {x:Option V},j≠i→σ[j]?=some x→(σ.set i (some (.ref p)))[j]?=some x:=fun c h=>by rw[List.getElem?_set_ne (Ne.symm c)];exact h
 refine⟨E.fz,by rw[List.length_set,List.length_set,E.len],fun j e h=>?_,fun j ds h=>?_,fun j k ds es q hj hk sj sk=>?_,E.tb⟩
 ·rcases cV h with⟨rfl,hi,e1⟩ | ⟨c,h⟩
  ·cases e1
  ·obtain⟨u,hu,ru⟩:=E.sl j e h
   exact⟨u,nn c hu,ru⟩
 ·rcases cV h with⟨rfl,hi,e1⟩ | ⟨c,h⟩
  ·cases e1
   exact⟨p,u,by rw[List.getElem?_set_self (by rw[E.len];exact hi)],h0,hn,hp,r⟩
  ·obtain⟨p,vs,e,q⟩:=E.ow j ds h
   exact⟨p,vs,nn c e,q⟩
 ·rcases cV hj with⟨e1,hl,_⟩ | ⟨cj,hj'⟩
  ·rcases cV hk with⟨e2,_,_⟩ | ⟨ck,hk'⟩
   ·rw[e1,e2]
   ·rw[e1,List.getElem?_set_self (by rw[E.len];exact hl)] at sj
    cases sj
    rw[List.getElem?_set_ne (Ne.symm ck)] at sk
    exact absurd sk (hnew k _ hk')
  ·rw[List.getElem?_set_ne (Ne.symm cj)] at sj
   rcases cV hk with⟨e2,hl,_⟩ | ⟨ck,hk'⟩
   ·rw[e2,List.getElem?_set_self (by rw[E.len];exact hl)] at sk
    cases sk
    exact absurd sj (hnew j _ hj')
   ·rw[List.getElem?_set_ne (Ne.symm ck)] at sk
    exact E.ne j k _ _ q hj' hk' sj sk
theorem EnvD.putOb (E:EnvD K H0 Φ H σ ρ){i:Nat}{p:Addr}{o o':Ow}{u:HO}(ho:ρ[i]?=some (some (.ob o)))(hs:σ[i]?=some (some (.ref p)))(r:OwR K Φ o' u):EnvD K H0 Φ (aJ H p u) σ (ρ.set i (some (.ob o'))):=by
 obtain⟨p',vs,e,h0,hn,hp,_⟩:=E.ow i _ ho
 rw[hs] at e
 cases e
 have hi:=c9 ho
 refine⟨fun b u e=>?_,by rw[List.length_set,E.len],fun j e h=>?_,fun j fs h=>?_,fun j k fs gs q hj hk sj sk=>?_,E.tb⟩
 ·rw[ba (cx e hn)]
  exact E.fz b u e
 ·rcases cV h with⟨rfl,_,e1⟩ | ⟨c,h⟩
  ·cases e1
  ·exact E.sl j e h
 ·rcases cV h with⟨rfl,_,e1⟩ | ⟨c,h⟩
  ·cases e1
   exact⟨p,u,hs,h0,hn,bw,r⟩
  ·obtain⟨q,us,e,q0,qn,qp,qr⟩:=E.ow j fs h
   refine⟨q,us,e,q0,qn,?_,qr⟩
   rw[ba fun z=>c (E.ne j i fs o p h ho (by rw[e,z]) hs)]
   exact qp
 ·have old:∀ {j:Nat} {fs:Ow},(ρ.set i (some (.ob o')))[j]?=some (some (.ob fs))→∃ gs,ρ[j]?=some (some (.ob gs)):=fun {j fs} h=>by
   rcases cV h with⟨rfl,_,_⟩ | ⟨_,h⟩
   ·exact⟨o,ho⟩
   ·exact⟨fs,h⟩
  obtain⟨fs',hj⟩:=old hj
  obtain⟨gs',hk⟩:=old hk
  exact E.ne j k fs' gs' q hj hk sj sk
theorem EnvD.setOwn (E:EnvD K H0 Φ H σ ρ){p:Addr}(r:RpL K Φ ds vs)(h0:H0 p=none)(hn:Φ p=none)(hp:H p=some (.lst vs))(hnew:∀ (j:Nat) (w:Ow),ρ[j]?=some (some (.ob w))→σ[j]?≠some (some (.ref p)))(i:Nat):EnvD K H0 Φ H (σ.set i (some (.ref p))) (ρ.set i (some (.own ds))):=E.setOb (o:=.lst ds) (u:=.lst vs) r h0 hn hp hnew i
theorem EnvD.put (E:EnvD K H0 Φ H σ ρ){i:Nat}{p:Addr}(ho:ρ[i]?=some (some (.own ds)))(hs:σ[i]?=some (some (.ref p)))(r:RpL K Φ es ws):EnvD K H0 Φ (aJ H p (.lst ws)) σ (ρ.set i (some (.own es))):=E.putOb (o':=.lst es) (u:=.lst ws) ho hs r
def frz (i:Nat)(ρ:bP):bP:=match ρ[i]? with | some (some (.ob (.lst ds)))=>ρ.set i (some (.v (.lst ds))) | _=>ρ
theorem EnvD.frz (E:EnvD K H0 Φ H σ ρ)(g:Gr Φ0 H0 Φ H)(i:Nat):∃ Φ',Gr Φ0 H0 Φ' H∧EnvD K H0 Φ' H σ (frz i ρ):=by
 unfold L2.frz
 split
 ·next ds ho =>
  obtain⟨p,vs,e,h0,hn,hp,r⟩:=E.owl i ds ho
  have s1:=cI hn (.lst vs)
  refine⟨aJ Φ p (.lst vs),g.freeze h0 hn hp,fun b u e=>?_,by rw[List.length_set,E.len],fun j e2 h=>?_,fun j fs h=>?_,fun j k fs gs q hj hk sj sk=>?_,E.tb.same s1⟩
  ·by_cases c:b=p
   ·subst c;rw[bw] at e;cases e;exact hp
   ·rw[ba c] at e;exact E.fz b u e
  ·rcases cV h with⟨rfl,_,e1⟩ | ⟨c,h⟩
   ·cases e1
    exact⟨_,e,(r.same s1).lst bw⟩
   ·obtain⟨u,hu,ru⟩:=E.sl j e2 h
    exact⟨u,hu,ru.same s1⟩
  ·rcases cV h with⟨rfl,_,e1⟩ | ⟨c,h⟩
   ·cases e1
   ·obtain⟨q,us,e3,q0,qn,qp,qr⟩:=E.ow j fs h
    refine⟨q,us,e3,q0,?_,qp,qr.same s1⟩
    rw[ba fun z=>c (E.ne j i fs _ p h ho (by rw[e3,z]) e)]
    exact qn
  ·rcases cV hj with⟨_,_,e1⟩ | ⟨_,hj⟩
   ·cases e1
   rcases cV hk with⟨_,_,e1⟩ | ⟨_,hk⟩
   ·cases e1
   exact E.ne j k fs gs q hj hk sj sk
 ·exact⟨Φ,g,E⟩
theorem EnvD.weak {ρ':bP}(E:EnvD K H0 Φ H σ ρ)(hl:ρ'.length=ρ.length)(hw:∀ (i:Nat) x,ρ'[i]?=some (some x)→ρ[i]?=some (some x)):EnvD K H0 Φ H σ ρ' :=
 ⟨E.fz,by rw[E.len,hl],fun i d h=>E.sl i d (hw i _ h),fun i ds h=>E.ow i ds (hw i _ h),fun i j ds es p hi hj=>E.ne i j ds es p (hw i _ hi) (hw j _ hj),E.tb⟩
end
def NF {α:Type}(x:α)(R:α→Prop):Prop:=∃ y,x=y∧R y
theorem NF.get {α:Type}{x:α}{R:α→Prop}(h:NF x R):R x:=by
 obtain⟨_,rfl,h⟩:=h
 exact h
abbrev TD:=bP→(D→Prop)→Prop
abbrev br:=bP→(List D→Prop)→Prop
abbrev cz:=bP→(Bool→Prop)→Prop
def lE (K:Frag)(t:TD):TE:=fun σ H Q=>∃ H0 Φ ρ R,EnvD K H0 Φ H σ ρ∧t ρ R∧∀ d Φ' H' v,R d→Gr Φ H Φ' H'→Rp K Φ' d v→Q v H'
def lQ (K:Frag)(t:TD):TE:=fun σ H Q=>∃ H0 Φ ρ R,EnvD K H0 Φ H σ ρ∧t ρ R∧∀ d Φ' H' v,R d→Gr Φ H Φ' H'→RpQ K Φ' H' d v→Q v H'
def lF (K:Frag)(t:br):TE:=fun σ H Q=>∃ H0 Φ ρ R,EnvD K H0 Φ H σ ρ∧t ρ R∧∀ ds Φ' H' p vs,R ds→Gr Φ H Φ' H'→H p=none→Φ' p=none→H' p=some (.lst vs)→RpL K Φ' ds vs→Q (.ref p) H'
def lA (K:Frag)(n:Nat)(t:br):TA:=fun σ H Q=>∃ H0 Φ ρ R,EnvD K H0 Φ H σ ρ∧t ρ R∧∀ ds Φ' H' vs,R ds→Gr Φ H Φ' H'→RpL K Φ' ds vs→ds.length=n→Q vs H'
def lT (K:Frag)(t:cz):TT:=fun σ H Q=>∃ H0 Φ ρ R,EnvD K H0 Φ H σ ρ∧t ρ R∧∀ b Φ' H',R b→Gr Φ H Φ' H'→Q b H'
structure PD (K:Frag)(X:Cx)(e:Expr)(t:TD):Prop where pe:X.K=K→PE X e (lE K t)
structure PQ (K:Frag)(X:Cx)(e:Expr)(t:TD):Prop where pe:X.K=K→PE X e (lQ K t)
structure PF (K:Frag)(X:Cx)(e:Expr)(t:br):Prop where pe:X.K=K→PE X e (lF K t)
structure PAD (K:Frag)(X:Cx)(es:List Expr)(t:br):Prop where pa:X.K=K→PA X es (lA K es.length t)
structure PTD (K:Frag)(X:Cx)(e:Expr)(t:cz):Prop where pt:X.K=K→PT X e (lT K t)
structure PWD (K:Frag)(X:Cx)(e:Expr)(t:cz):Prop where pw:X.K=K→PW X e (lT K t)
theorem PE.imp {X:Cx}{e:Expr}{t t':TE}(h:PE X e t)(k:∀ σ H Q,t' σ H Q→t σ H Q):PE X e t':=fun pins s σ H Q I hw=>h pins s σ H Q I (k σ H Q hw)
theorem PT.imp {X:Cx}{e:Expr}{t t':TT}(h:PT X e t)(k:∀ σ H Q,t' σ H Q→t σ H Q):PT X e t':=fun pins s σ H Q I hw=>h pins s σ H Q I (k σ H Q hw)
theorem PW.imp {X:Cx}{e:Expr}{t t':TT}(h:PW X e t)(k:∀ σ H Q,t' σ H Q→t σ H Q):PW X e t':=fun wh pins s σ H Q I hw=>h wh pins s σ H Q I (k σ H Q hw)
theorem PA.imp {X:Cx}{e:List Expr}{t t':TA}(h:PA X e t)(k:∀ σ H Q,t' σ H Q→t σ H Q):PA X e t':=fun pos pins s σ H Q I hw=>h pos pins s σ H Q I (k σ H Q hw)
theorem PS.imp {X:Cx}{e:Stmt}{t t':TS}(h:PS X e t)(k:∀ D σ H,t' D σ H→t D σ H):PS X e t':=fun pins s σ H D I hw=>h pins s σ H D I (k D σ H hw)
theorem PSs.imp {X:Cx}{e:List Stmt}{t t':TS}(h:PSs X e t)(k:∀ D σ H,t' D σ H→t D σ H):PSs X e t':=fun pins s σ H D I hw=>h pins s σ H D I (k D σ H hw)
section
variable {K:Frag}{X:Cx}{e a b c:Expr}{es:List Expr}{pos:Pos}{t ta tb:TD}{tf:br}{tl:br}{tt tu:cz}
theorem PD.q (h:PD K X e t):PQ K X e t:=⟨fun hK=>(h.pe hK).imp fun σ H Q hq0=>by obtain⟨H0,Φ,ρ,R,E,t,k⟩:=hq0;exact⟨H0,Φ,ρ,R,E,t,fun d Φ' H' v r g rr=>k d Φ' H' v r g (.inl rr)⟩⟩
def k8 (t:br):TD:=fun ρ R=>t ρ fun ds=>R (.lst ds)
theorem PF.d (h:PF K X e tf):PD K X e (k8 tf):=⟨fun hK=>(h.pe hK).imp fun σ H Q hq0=>by obtain⟨H0,Φ,ρ,R,E,t,k⟩:=hq0;exact⟨H0,Φ,ρ,_,E,t,fun ds Φ' H' p vs r g h0 hn hp rr =>
 k (.lst ds) _ H' _ r (g.freeze h0 hn hp) ((rr.same (cI hn _)).lst bw)⟩⟩
def qa (i:Nat):TD:=fun ρ R=>match ρ[i]? with | some (some (.v d))=>R d | _=>False
def sA (i:Nat):TD:=fun ρ R=>match ρ[i]? with | some (some (.v d))=>R d | some (some (.ob (.lst ds)))=>R (.lst ds) | _=>False
theorem dv (i:Nat){x:Str}(hN:X.N[i]?=some x:=by rfl)(hv:iK X.env.scope x:=by first | exact Or.inl rfl | exact Or.inr (Or.inl rfl) | exact Or.inr (Or.inr rfl))(hd:(x == ("__debug__":Str))=false:=by decide)
  (hcd:(x == ("__classdict__":Str))=false:=by decide):PD K X (.Name x pos) (qa i):=⟨fun _=>(pv i hN hv hd hcd).imp fun σ H Q hq0=>by
 obtain⟨H0,Φ,ρ,R,E,t,k⟩:=hq0
 unfold qa at t
 split at t
 ·next d h =>
  obtain⟨v,e,r⟩:=E.sl i d h
  exact⟨v,e,k d Φ H v t (.refl E.fz) r⟩
 ·exact t.elim⟩
theorem ae (i:Nat){x:Str}(hN:X.N[i]?=some x:=by rfl)(hv:iK X.env.scope x:=by first | exact Or.inl rfl | exact Or.inr (Or.inl rfl) | exact Or.inr (Or.inr rfl))(hd:(x == ("__debug__":Str))=false:=by decide)
  (hcd:(x == ("__classdict__":Str))=false:=by decide):PQ K X (.Name x pos) (sA i):=⟨fun _=>(pv i hN hv hd hcd).imp fun σ H Q hq0=>by
 obtain⟨H0,Φ,ρ,R,E,t,k⟩:=hq0
 unfold sA at t
 split at t
 ·next d h =>
  obtain⟨v,e,r⟩:=E.sl i d h
  exact⟨v,e,k d Φ H v t (.refl E.fz) (.inl r)⟩
 ·next ds h =>
  obtain⟨p,vs,e,_,_,hp,r⟩:=E.owl i ds h
  exact⟨_,e,k _ Φ H _ t (.refl E.fz) (.inr ⟨p,vs,ds,rfl,rfl,hp,r⟩)⟩
 ·exact t.elim⟩
def dC (d:D):TD:=fun _ R=>R d
theorem jS {v:V}{d:D}(h:PE X e (tC v))(r:∀ Φ,Rp K Φ d v):PD K X e (dC d):=⟨fun _=>h.imp fun σ H Q hq0=>by obtain⟨H0,Φ,ρ,R,E,t,k⟩:=hq0;exact k d Φ H v t (.refl E.fz) (r Φ)⟩
theorem af {i j}:PD K X (.Constant (.int i) j pos) (dC (.int i)):=jS AO fun _=>.int i
theorem eu {i j}:PD K X (.Constant (.bool i) j pos) (dC (.bl i)):=jS Dq fun _=>.bl i
theorem eY {i j}:PD K X (.Constant (.str i) j pos) (dC (.str i)):=jS yc fun _=>.str i
theorem e9 {j}:PD K X (.Constant .none j pos) (dC .non):=jS vX fun _=>.non
abbrev dH:=D→D→(D→Prop)→Prop
def jT (K:Frag)(r:dH):R2:=fun x y H Q=>∃ Φ dx dy R,Same Φ H∧RpQ K Φ H dx x∧RpQ K Φ H dy y∧r dx dy R∧∀ d Φ' H' v,R d→Gr Φ H Φ' H'→Rp K Φ' d v→Q v H'
structure OpD (K:Frag)(X:Cx)(f:Value→Value→Sem Value)(r:dH):Prop where o:X.K=K→bN X f (jT K r)
def iw (r:dH)(ta tb:TD):TD:=fun ρ R=>ta ρ fun x=>tb ρ fun y=>r x y R
theorem jU {r:dH}{σ:St}{H:Hp}{Q:VK}(h:lE K (iw r ta tb) σ H Q):iO (jT K r) (lQ K ta) (lQ K tb) σ H Q:=by
 obtain⟨H0,Φ,ρ,R,E,t,k⟩:=h
 exact⟨H0,Φ,ρ,_,E,t,fun dx Φ1 H1 x t1 g1 rx=>⟨H0,Φ1,ρ,_,E.gr g1,t1,fun dy Φ2 H2 y t2 g2 ry=>⟨Φ2,dx,dy,R,g2.s,rx.gr g2,ry,t2,fun d Φ' H' v r g rr=>k d Φ' H' v r ((g1.trans g2).trans g) rr⟩⟩⟩
theorem ah {op:Operator}{r:dH}(ho:OpD K X (binaryOp op) r)(ha:PQ K X a ta)(hb:PQ K X b tb):PD K X (.BinOp a op b pos) (iw r ta tb) :=
 ⟨fun hK=>(uh (ho.o hK) (ha.pe hK) (hb.pe hK)).imp fun _ _ _=>jU⟩
theorem cZ {op:CmpOp}{r:dH}(ho:OpD K X (compareOp op) r)(ha:PQ K X a ta)(hb:PQ K X b tb)(hm:behindInMarks op b=false):PD K X (.Compare a [op] [b] pos) (iw r ta tb) :=
 ⟨fun hK=>(wB (ho.o hK) (ha.pe hK) (hb.pe hK) hm).imp fun _ _ _=>jU⟩
def qo (t:TD):cz:=fun ρ R=>t ρ fun d=>match d with | .bl b=>R b | _=>False
theorem CY {r:dH}{σ:St}{H:Hp}{Q:Bool→Hp→Prop}(h:lT K (qo (iw r ta tb)) σ H Q):qV (iO (jT K r) (lQ K ta) (lQ K tb)) σ H Q:=by
 obtain⟨H0,Φ,ρ,R,E,t,k⟩:=h
 refine jU ⟨H0,Φ,ρ,_,E,t,fun d Φ' H' v r g rr=>?_⟩
 cases d with
 | bl b=>cases rr;exact⟨b,rfl,k b Φ' H' r g⟩
 | _=>exact r.elim
theorem bg {op:CmpOp}{r:dH}(ho:OpD K X (compareOp op) r)(ha:PQ K X a ta)(hb:PQ K X b tb)(hm:behindInMarks op b=false):PTD K X (.Compare a [op] [b] pos) (qo (iw r ta tb)) :=
 ⟨fun hK=>(wu (ho.o hK) (ha.pe hK) (hb.pe hK) hm).imp fun _ _ _=>CY⟩
abbrev tN:=D→(D→Prop)→Prop
def zM (r:tN)(ta:TD):TD:=fun ρ R=>ta ρ fun x=>r x R
def Bi:tN:=fun x R=>match x with | .int i=>R (.int (-i)) | _=>False
theorem dS (ha:PQ K X a ta):PD K X (.UnaryOp .USub a pos) (zM Bi ta):=⟨fun hK=>(Ae Bp (ha.pe hK)).imp fun σ H Q hq0=>by obtain⟨H0,Φ,ρ,R,E,t,k⟩:=hq0;exact⟨H0,Φ,ρ,_,E,t,fun dx Φ1 H1 x t1 g1 rx=>by
 cases dx with
 | int i=>exact⟨i,rx.int,k _ Φ1 H1 _ t1 g1 (.int _)⟩
 | _=>exact t1.elim⟩⟩
def ra:D→(Bool→Prop)→Prop:=fun d R=>match d with
 | .int i=>R (i != 0) | .bl b=>R b | .non=>R false | .str x=>x.length≤sizeLine∧R ((x.length:Int) != 0) | .lst ds=>R (!ds.isEmpty) | .tup ds=>R (!ds.isEmpty) | .fzl ds=>R (!ds.isEmpty) | .obj _ _=>False
theorem mz {Φ:Hp}{ds:List D}{vs:List V}(h:RpL K Φ ds vs):(!ds.isEmpty)=!vs.isEmpty:=by
 have:=h.1
 cases ds <;> cases vs <;> simp_all
theorem Bl {Φ H:Hp}{d:D}{v:V}{R:Bool→Prop}(s:Same Φ H)(h:RpQ K Φ H d v)(t:ra d R):∃ k,nZ K v H k∧R k:=by
 cases d with
 | int i=>rw[h.int];exact⟨_,rfl,t⟩
 | bl i=>rw[h.bl];exact⟨_,rfl,t⟩
 | non=>rw[h.non];exact⟨_,rfl,t⟩
 | str i=>rw[h.str];exact⟨_,⟨t.1,rfl⟩,t.2⟩
 | lst ds=>obtain⟨a,vs,rfl,h1,h2⟩:=h.lst s;exact⟨_,.inl ⟨vs,.of h1,rfl⟩,by rw[← mz h2];exact t⟩
 | tup ds=>obtain⟨a,vs,rfl,h1,_,h2⟩:=h.tup s;exact⟨_,.inr (.inl ⟨vs,h1,rfl⟩),by rw[← mz h2];exact t⟩
 | fzl ds=>obtain⟨a,vs,rfl,h1,h2⟩:=h.fzl s;exact⟨_,.inl ⟨vs,h1,rfl⟩,by rw[← mz h2];exact t⟩
 | obj C fs=>exact t.elim
def BM (t:TD):cz:=fun ρ R=>t ρ fun d=>ra d R
theorem dO (ha:PQ K X a ta)(he:∀ whole,isTrue a X.env whole=(do let v ← whole;standAt a.pos;holding [v] (truthy v))):PTD K X a (BM ta) :=
 ⟨fun hK=>(zG (ha.pe hK) he).imp fun σ H Q hq0=>by obtain⟨H0,Φ,ρ,R,E,t,k⟩:=hq0;exact⟨H0,Φ,ρ,_,E,t,fun d Φ1 H1 v t1 g1 rv=>by
  obtain⟨b,h1,h2⟩:=Bl g1.s rv t1
  rw[hK]
  exact⟨b,h1,k b Φ1 H1 h2 g1⟩⟩⟩
def xk (t u:cz):cz:=fun ρ R=>t ρ fun c=>(c=true→u ρ R)∧(c=false→R false)
def Cf (t u:cz):cz:=fun ρ R=>t ρ fun c=>(c=true→R true)∧(c=false→u ρ R)
def yN (t:cz):cz:=fun ρ R=>t ρ fun c=>R (!c)
theorem PWD.td (h:PWD K X e tt):PTD K X e tt:=⟨fun hK=>(h.pw hK).pt⟩
theorem iM (ha:PTD K X a tt):PWD K X (.BoolOp .And [a] pos) tt:=⟨fun hK=>AR (ha.pt hK)⟩
theorem jm (ha:PTD K X a tt):PWD K X (.BoolOp .Or [a] pos) tt:=⟨fun hK=>CJ (ha.pt hK)⟩
theorem hZ (ha:PTD K X a tt)(hb:PWD K X (.BoolOp .And (b::es) pos) tu):PWD K X (.BoolOp .And (a::b::es) pos) (xk tt tu) :=
 ⟨fun hK=>(y4 (ha.pt hK) (hb.pw hK)).imp fun σ H Q hq0=>by obtain⟨H0,Φ,ρ,R,E,t,k⟩:=hq0;exact⟨H0,Φ,ρ,_,E,t,fun c Φ1 H1 r g=>by
  cases c with
  | true=>rw[if_pos rfl];exact⟨H0,Φ1,ρ,R,E.gr g,r.1 rfl,fun b Φ' H' rb g'=>k b Φ' H' rb (g.trans g')⟩
  | false=>rw[if_neg (by decide)];exact k _ Φ1 H1 (r.2 rfl) g⟩⟩
theorem iB (ha:PTD K X a tt)(hb:PWD K X (.BoolOp .Or (b::es) pos) tu):PWD K X (.BoolOp .Or (a::b::es) pos) (Cf tt tu) :=
 ⟨fun hK=>(xC (ha.pt hK) (hb.pw hK)).imp fun σ H Q hq0=>by obtain⟨H0,Φ,ρ,R,E,t,k⟩:=hq0;exact⟨H0,Φ,ρ,_,E,t,fun c Φ1 H1 r g=>by
  cases c with
  | true=>rw[if_pos rfl];exact k _ Φ1 H1 (r.1 rfl) g
  | false=>rw[if_neg (by decide)];exact⟨H0,Φ1,ρ,R,E.gr g,r.2 rfl,fun b Φ' H' rb g'=>k b Φ' H' rb (g.trans g')⟩⟩⟩
theorem jy (ha:PTD K X a tt):PTD K X (.UnaryOp .Not a pos) (yN tt) :=
 ⟨fun hK=>(y3 (ha.pt hK)).imp fun σ H Q hq0=>by obtain⟨H0,Φ,ρ,R,E,t,k⟩:=hq0;exact⟨H0,Φ,ρ,_,E,t,fun c Φ1 H1 r g=>k _ Φ1 H1 r g⟩⟩
def zo (t u:TD):TD:=fun ρ R=>t ρ fun c=>match c with | .bl c=>(c=true→u ρ R)∧(c=false→R (.bl false)) | _=>False
def BB (t u:TD):TD:=fun ρ R=>t ρ fun c=>match c with | .bl c=>(c=true→R (.bl true))∧(c=false→u ρ R) | _=>False
theorem iz {op}(h:PD K X a ta):PD K X (.BoolOp op [a] pos) ta:=⟨fun hK=>BG (h.pe hK)⟩
theorem kP (ha:PD K X a ta)(hb:PD K X (.BoolOp .And (b::es) pos) tb):PD K X (.BoolOp .And (a::b::es) pos) (zo ta tb) :=
 ⟨fun hK=>(yt (ha.pe hK) (hb.pe hK)).imp fun σ H Q hq0=>by obtain⟨H0,Φ,ρ,R,E,t,k⟩:=hq0;exact⟨H0,Φ,ρ,_,E,t,fun c Φ1 H1 v r g rv=>by
  cases c with
  | bl c =>
   cases rv
   refine⟨c,rfl,?_⟩
   cases c with
   | true=>rw[if_pos rfl];exact⟨H0,Φ1,ρ,R,E.gr g,r.1 rfl,fun b Φ' H' v rb g' rr=>k b Φ' H' v rb (g.trans g') rr⟩
   | false=>rw[if_neg (by decide)];exact k _ Φ1 H1 _ (r.2 rfl) g (.bl _)
  | _=>exact r.elim⟩⟩
theorem nE (ha:PD K X a ta)(hb:PD K X (.BoolOp .Or (b::es) pos) tb):PD K X (.BoolOp .Or (a::b::es) pos) (BB ta tb) :=
 ⟨fun hK=>(ym (ha.pe hK) (hb.pe hK)).imp fun σ H Q hq0=>by obtain⟨H0,Φ,ρ,R,E,t,k⟩:=hq0;exact⟨H0,Φ,ρ,_,E,t,fun c Φ1 H1 v r g rv=>by
  cases c with
  | bl c =>
   cases rv
   refine⟨c,rfl,?_⟩
   cases c with
   | true=>rw[if_pos rfl];exact k _ Φ1 H1 _ (r.1 rfl) g (.bl _)
   | false=>rw[if_neg (by decide)];exact⟨H0,Φ1,ρ,R,E.gr g,r.2 rfl,fun b Φ' H' v rb g' rr=>k b Φ' H' v rb (g.trans g') rr⟩
  | _=>exact r.elim⟩⟩
def C3 (t:cz)(u v:TD):TD:=fun ρ R=>t ρ fun c=>(c=true→u ρ R)∧(c=false→v ρ R)
theorem sR (hc:PTD K X c tt)(ha:PD K X a ta)(hb:PD K X b tb):PD K X (.IfExp c a b pos) (C3 tt ta tb) :=
 ⟨fun hK=>(zi (hc.pt hK) (ha.pe hK) (hb.pe hK)).imp fun σ H Q hq0=>by obtain⟨H0,Φ,ρ,R,E,t,k⟩:=hq0;exact⟨H0,Φ,ρ,_,E,t,fun c Φ1 H1 r g=>by
  cases c with
  | true=>rw[if_pos rfl];exact⟨H0,Φ1,ρ,R,E.gr g,r.1 rfl,fun b Φ' H' v rb g' rr=>k b Φ' H' v rb (g.trans g') rr⟩
  | false=>rw[if_neg (by decide)];exact⟨H0,Φ1,ρ,R,E.gr g,r.2 rfl,fun b Φ' H' v rb g' rr=>k b Φ' H' v rb (g.trans g') rr⟩⟩⟩
def sY:br:=fun _ R=>R []
def uo (t:TD)(u:br):br:=fun ρ R=>t ρ fun d=>u ρ fun ds=>R (d::ds)
theorem ag:PAD K X [] sY:=⟨fun _=>pa_nil.imp fun σ H Q hq0=>by obtain⟨H0,Φ,ρ,R,E,t,k⟩:=hq0;exact k [] Φ H [] t (.refl E.fz) .nil rfl⟩
theorem aa (ha:PD K X e t)(hr:PAD K X es tl)(hs:starEach (e::es) X.env=(false,eval e X.env)::starEach es X.env):PAD K X (e::es) (uo t tl) :=
 ⟨fun hK=>(ik (ha.pe hK) (hr.pa hK) hs).imp fun σ H Q hq0=>by obtain⟨H0,Φ,ρ,R,E,t,k⟩:=hq0;exact⟨H0,Φ,ρ,_,E,t,fun d Φ1 H1 v r g rv=>⟨H0,Φ1,ρ,_,E.gr g,r,fun ds Φ2 H2 vs r2 g2 rl hl =>
  k _ Φ2 H2 _ r2 (g.trans g2) (.cons (rv.same g2.f) rl) (by rw[List.length_cons,List.length_cons,hl])⟩⟩⟩
def Cw (t:br):TD:=fun ρ R=>t ρ fun ds=>R (.tup ds)
def B8 (t:br):br:=t
theorem tR {n:Nat}(h:Nat.ble n 1000=true):n≤sizeLine:=Nat.le_trans (Nat.le_of_ble_eq_true h) (by decide)
theorem aU {x1}(h:PAD K X es tl)(hes:Nat.ble es.length 1000=true:=by rfl):PD K X (.Tuple es x1 pos) (Cw tl) :=
 ⟨fun hK=>(xJ (h.pa hK)).imp fun σ H Q hq0=>by obtain⟨H0,Φ,ρ,R,E,t,k⟩:=hq0;exact⟨H0,Φ,ρ,_,E,t,fun ds Φ1 H1 vs r g rl hl=>⟨by rw[rl.1,hl];exact tR hes,fun p hp =>
  k _ _ _ _ r (g.trans (.new g.s hp _)) ((rl.same (cI (g.s.free hp) _)).tup (.of bw))⟩⟩⟩
theorem bC (h:PAD K X es tl)(hes:Nat.ble es.length 1000=true:=by rfl):PF K X (.List es pos) (B8 tl) :=
 ⟨fun hK=>(wW (h.pa hK)).imp fun σ H Q hq0=>by obtain⟨H0,Φ,ρ,R,E,t,k⟩:=hq0;exact⟨H0,Φ,ρ,_,E,t,fun ds Φ1 H1 vs r g rl hl=>⟨by rw[rl.1,hl];exact tR hes,fun p hp =>
  k _ _ _ p vs r (g.trans (.fresh g.s hp _)) (g.h.free hp) (g.s.free hp) bw rl⟩⟩⟩
end
section
variable {K:Frag}{X:Cx}{e a b c:Expr}{es:List Expr}{pos:Pos}{t ta tb:TD}{tf:br}{tl:br}{tt tu:cz}
def Bc:dH:=fun x y R=>match x,y with
 | .int i,.int j=>R (.int (i+j))
 | .str i,.str j=>i.length+j.length≤sizeLine∧R (.str (i++j))
 | .lst xs,.lst ys=>xs.length+ys.length≤sizeLine∧NF (xs++ys) fun zs=>R (.lst zs)
 | .tup xs,.tup ys=>xs.length+ys.length≤sizeLine∧NF (xs++ys) fun zs=>R (.tup zs)
 | _,_=>False
theorem aF:OpD K X (binaryOp .Add) Bc:=⟨fun hK pins s σ H x y v u Q I rx ry hq0=>by
 obtain⟨Φ,dx,dy,R,sm,hx,hy,h,k⟩:=hq0
 cases dx with
 | int i =>
  cases dy with
  | int j=>cases hx.int;cases hy.int;exact yH pins s σ H _ _ v u Q I rx ry ⟨i,j,rfl,rfl,k _ Φ H _ h (.refl sm) (.int _)⟩
  | _=>exact h.elim
 | str i =>
  cases dy with
  | str j=>cases hx.str;cases hy.str;exact xv pins s σ H _ _ v u Q I rx ry ⟨i,j,rfl,rfl,h.1,k _ Φ H _ h.2 (.refl sm) (.str _)⟩
  | _=>exact h.elim
 | lst xs =>
  cases dy with
  | lst ys =>
   obtain⟨a,vs,rfl,h1,h2⟩:=hx.lst sm
   obtain⟨b,ws,rfl,h3,h4⟩:=hy.lst sm
   exact tq pins s σ H _ _ v u Q I rx ry ⟨a,b,vs,ws,rfl,rfl,h1,h3,by rw[h2.1,h4.1];exact h.1,fun p hp=>k _ _ _ _ h.2.get (.new sm hp _) (((h2.append h4).same (cI (sm.free hp) _)).lst bw)⟩
  | _=>exact h.elim
 | tup xs =>
  cases dy with
  | tup ys =>
   obtain⟨a,vs,rfl,h1,h1',h2⟩:=hx.tup sm
   obtain⟨b,ws,rfl,h3,h3',h4⟩:=hy.tup sm
   exact (hK ▸ Ai:bN X (binaryOp .Add) (sI K)) pins s σ H _ _ v u Q I rx ry ⟨a,b,vs,ws,rfl,rfl,h1,h3,by rw[h2.1,h4.1];exact h.1,fun p H' s' q=>by
    obtain⟨Φ',g,q'⟩:=Gr.adopt sm s' q
    exact k _ Φ' H' _ h.2.get g (((h2.append h4).same g.f).tup q')⟩
  | _=>exact h.elim
 | _=>exact h.elim⟩
def zI (C:Int→Int→Prop)(g:Int→Int→D):dH:=fun x y R=>match x,y with | .int i,.int j=>C i j∧R (g i j) | _,_=>False
def ia (g:Int→Int→D):dH:=fun x y R=>match x,y with | .int i,.int j=>R (g i j) | _,_=>False
theorem mX {f:Value→Value→Sem Value}{C:Int→Int→Prop}{g:Int→Int→Int}(h:bN X f (rI C fun i j=>.int (g i j))):OpD K X f (zI C fun i j=>.int (g i j)) :=
 ⟨fun hK pins s σ H x y v u Q I rx ry hq0=>by
  obtain⟨Φ,dx,dy,R,sm,hx,hy,q,k⟩:=hq0
  cases dx with
  | int i =>
   cases dy with
   | int j=>cases hx.int;cases hy.int;exact h pins s σ H _ _ v u Q I rx ry ⟨i,j,rfl,rfl,q.1,k _ Φ H _ q.2 (.refl sm) (.int _)⟩
   | _=>exact q.elim
  | _=>exact q.elim⟩
theorem wI {f:Value→Value→Sem Value}{g:Int→Int→Int}(h:bN X f (fj fun i j=>.int (g i j))):OpD K X f (ia fun i j=>.int (g i j)) :=
 ⟨fun hK pins s σ H x y v u Q I rx ry hq0=>by
  obtain⟨Φ,dx,dy,R,sm,hx,hy,q,k⟩:=hq0
  cases dx with
  | int i =>
   cases dy with
   | int j=>cases hx.int;cases hy.int;exact h pins s σ H _ _ v u Q I rx ry ⟨i,j,rfl,rfl,k _ Φ H _ q (.refl sm) (.int _)⟩
   | _=>exact q.elim
  | _=>exact q.elim⟩
theorem lj {f:Value→Value→Sem Value}{g:Int→Int→Bool}(h:bN X f (fj fun i j=>.bl (g i j))):OpD K X f (ia fun i j=>.bl (g i j)) :=
 ⟨fun hK pins s σ H x y v u Q I rx ry hq0=>by
  obtain⟨Φ,dx,dy,R,sm,hx,hy,q,k⟩:=hq0
  cases dx with
  | int i =>
   cases dy with
   | int j=>cases hx.int;cases hy.int;exact h pins s σ H _ _ v u Q I rx ry ⟨i,j,rfl,rfl,k _ Φ H _ q (.refl sm) (.bl _)⟩
   | _=>exact q.elim
  | _=>exact q.elim⟩
theorem cG:OpD K X (binaryOp .Sub) (ia fun i j=>.int (i - j)):=wI AA
theorem eQ:OpD K X (binaryOp .FloorDiv) (zI CDivB fun i j=>.int (i / j)):=mX zk
theorem dD:OpD K X (binaryOp .Mod) (zI (fun _ j=>0<j) fun i j=>.int (i % j)):=mX zc
theorem mQ:OpD K X (binaryOp .Pow) (zI ph fun i j=>.int (i ^ j.toNat)):=mX yX
theorem dA:OpD K X (compareOp .Lt) (ia fun i j=>.bl (decide (i<j))):=lj vV
theorem Ce:OpD K X (compareOp .LtE) (ia fun i j=>.bl (decide (i≤j))):=lj vH
theorem gq:OpD K X (compareOp .Gt) (ia fun i j=>.bl (decide (j<i))):=lj vD
theorem kZ:OpD K X (compareOp .GtE) (ia fun i j=>.bl (decide (j≤i))):=lj Al
def xj:dH:=fun x y R=>match x,y with
 | .int i,.int j=>IntMulOk i j∧R (.int (i*j))
 | .lst xs,.int k=>(-(2 ^ 63)≤k∧k<2 ^ 63∧xs.length*k.toNat≤sizeLine)∧NF (List.replicate k.toNat xs).flatten fun zs=>R (.lst zs)
 | .tup xs,.int k=>(xs≠[]∧0≤k∧k≤1000∧k.toNat*xs.length≤1000)∧NF (List.replicate k.toNat xs).flatten fun zs=>R (.tup zs)
 | _,_=>False
theorem aQ:OpD K X (binaryOp .Mult) xj:=⟨fun hK pins s σ H x y v u Q I rx ry hq0=>by
 obtain⟨Φ,dx,dy,R,sm,hx,hy,h,k⟩:=hq0
 cases dx with
 | int i =>
  cases dy with
  | int j=>cases hx.int;cases hy.int;exact Bs pins s σ H _ _ v u Q I rx ry ⟨i,j,rfl,rfl,h.1,k _ Φ H _ h.2 (.refl sm) (.int _)⟩
  | _=>exact h.elim
 | lst xs =>
  cases dy with
  | int j =>
   obtain⟨a,vs,rfl,h1,h2⟩:=hx.lst sm
   cases hy.int
   exact Cu pins s σ H _ _ v u Q I rx ry ⟨a,j,vs,rfl,rfl,h1,h.1.1,h.1.2.1,by rw[h2.1];exact h.1.2.2,fun p hp=>k _ _ _ _ h.2.get (.new sm hp _) (((h2.rep _).same (cI (sm.free hp) _)).lst bw)⟩
  | _=>exact h.elim
 | tup xs =>
  cases dy with
  | int j =>
   obtain⟨a,vs,rfl,h1,h1',h2⟩:=hx.tup sm
   cases hy.int
   have hne:vs≠[]:=fun e=>h.1.1 (List.length_eq_zero_iff.mp (by rw[← h2.1,e];rfl))
   exact (hK ▸ vR:bN X (binaryOp .Mult) (pk K)) pins s σ H _ _ v u Q I rx ry ⟨a,j,vs,rfl,rfl,h1,hne,h.1.2.1,h.1.2.2.1,by rw[h2.1];exact h.1.2.2.2,fun p H' s' q=>by
    obtain⟨Φ',g,q'⟩:=Gr.adopt sm s' q
    exact k _ Φ' H' _ h.2.get g (((h2.rep _).same g.f).tup q')⟩
  | _=>exact h.elim
 | _=>exact h.elim⟩
end
def eJ (f:D→D→Option Bool):List D→List D→Option Bool
 | [],[]=>some true
 | x::xs,y::ys=>(f x y).bind fun b=>(eJ f xs ys).map (b && ·)
 | _,_=>some false
def dU:Nat→D→D→Option Bool
 | _,.int i,.int j=>some (i == j)
 | _,.bl i,.bl j=>some (i == j)
 | _,.str i,.str j=>some (i == j)
 | _,.non,.non=>some true
 | n+1,.tup xs,.tup ys=>eJ (dU n) xs ys
 | n+1,.lst xs,.lst ys=>if xs.length=ys.length then eJ (dU n) xs ys else some false
 | _,_,_=>none
theorem jk {f:D→D→Option Bool}:∀ {xs ys:List D} {b:Bool},eJ f xs ys=some b→∃ g:Nat→Bool,(∀ (j:Nat) (x y:D),xs[j]?=some x→ys[j]?=some y→f x y=some (g j))∧b=((List.range (min xs.length ys.length)).all g && xs.length == ys.length)
 | [],[],b,h=>by cases h;exact⟨fun _=>true,fun j x y hx=>by simp at hx,by simp⟩
 | [],_::_,b,h=>by cases h;exact⟨fun _=>true,fun j x y hx=>by simp at hx,by simp⟩
 | _::_,[],b,h=>by cases h;exact⟨fun _=>true,fun j x y _ hy=>by simp at hy,by simp⟩
 | x::xs,y::ys,b,h=>by
  unfold eJ at h
  cases e:f x y with
  | none=>rw[e] at h;cases h
  | some c =>
   cases e2:eJ f xs ys with
   | none=>rw[e,e2] at h;cases h
   | some c2 =>
    rw[e,e2] at h
    cases h
    obtain⟨g,h1,h2⟩:=jk e2
    refine⟨fun j=>match j with | 0=>c | j+1=>g j,fun j u v hu hv=>?_,?_⟩
    ·cases j with
     | zero=>cases hu;cases hv;exact e
     | succ j=>exact h1 j u v hu hv
    ·have em:min (x::xs).length (y::ys).length=min xs.length ys.length+1:=by simp only [List.length_cons];omega
     have el:((x::xs).length == (y::ys).length)=(xs.length == ys.length):=by simp
     rw[em,el,List.range_succ_eq_map,List.all_cons,List.all_map,h2,Bool.and_assoc]
     rfl
section
variable {K:Frag}{X:Cx}{pins:List (Addr × Obj)}{σ:St}{Φ H:Hp}{s:Shared}
theorem ql {n:Nat}{g:Nat→Bool}(h:∀ j,j<n→g j=true):(List.range n).all g=true:=by
 rw[List.all_eq_true]
 intro j hj
 exact h j (List.mem_range.mp hj)
theorem aX {α:Type}{xs:List α}{j:Nat}(h:j<xs.length):xs[j]?=some xs[j]:=by simp [h]
theorem rm (hK:X.K=K)(I:Inv X pins σ H s)(sm:Same Φ H):∀ (n:Nat) {d e:D} {b:Bool} {v:V},dU n d e=some b→Rp K Φ d v→Rp K Φ e v→b=true:=by
 intro n
 induction n with
 | zero =>
  intro d e b v h r1 r2
  cases r1 with
  | int i=>cases r2;have h':some (i == i)=some b:=h;cases h';simp
  | bl i=>cases r2;have h':some (i == i)=some b:=h;cases h';simp
  | str i=>cases r2;have h':some (i == i)=some b:=h;cases h';simp
  | non=>cases r2;cases h;rfl
  | tup _ _ _=>cases r2 <;> cases h
  | lst _ _ _=>cases r2 <;> cases h
  | fzl _ _ _=>cases r2 <;> cases h
  | obj _ _ _ _=>cases r2 <;> cases h
 | succ n ih =>
  intro d e b v h r1 r2
  cases r1 with
  | int i=>cases r2;have h':some (i == i)=some b:=h;cases h';simp
  | bl i=>cases r2;have h':some (i == i)=some b:=h;cases h';simp
  | str i=>cases r2;have h':some (i == i)=some b:=h;cases h';simp
  | non=>cases r2;cases h;rfl
  | @tup a vs xs h1 h2 h3=>cases r2 with
   | @tup _ ws ys k1 k2 k3 =>
    have hvw:vs=ws:=I.tuple_inj (hK ▸ sm.sqt h1) (hK ▸ sm.sqt k1)
    subst hvw
    obtain⟨g,hg,hb⟩:=jk (show eJ (dU n) xs ys=some b from h)
    rw[hb,ql fun j hj=>?_]
    ·simp;omega
    ·have j0:j<vs.length:=by omega
     have j1:j<xs.length:=by omega
     have j2:j<ys.length:=by omega
     exact ih (hg j _ _ (aX j1) (aX j2)) (h3 j _ _ (aX j0) (aX j1)) (k3 j _ _ (aX j0) (aX j2))
   | _=>cases h
  | @lst a vs xs h1 h2 h3=>cases r2 with
   | @lst _ ws ys k1 k2 k3 =>
    have hvw:vs=ws:=by rw[h1] at k1;cases k1;rfl
    subst hvw
    have h':(if xs.length=ys.length then eJ (dU n) xs ys else some false)=some b:=h
    rw[if_pos (by omega)] at h'
    obtain⟨g,hg,hb⟩:=jk h'
    rw[hb,ql fun j hj=>?_]
    ·simp;omega
    ·have j0:j<vs.length:=by omega
     have j1:j<xs.length:=by omega
     have j2:j<ys.length:=by omega
     exact ih (hg j _ _ (aX j1) (aX j2)) (h3 j _ _ (aX j0) (aX j1)) (k3 j _ _ (aX j0) (aX j2))
   | _=>cases h
  | fzl _ _ _=>cases r2 <;> cases h
  | obj _ _ _ _=>cases r2 <;> cases h
open PySem.SeqAt in
theorem qC {n:Nat}{d e:D}{b:Bool}{x y:V}(h:dU n d e=some b)(rx:Rp K Φ d x)(ry:Rp K Φ e y)(hf:(∀ a,x≠.ref a)){A:Around}{u v:Value}(ru:RelV x u)(rv:RelV y v):EqAt A s u v b∧RcAt A s u v b∧RcNeAt A s u v (!b):=by
 cases rx with
 | int i=>cases ry with
  | int j =>
   obtain⟨t,rfl⟩:=ru;obtain⟨t',rfl⟩:=rv
   have h':some (i == j)=some b:=by cases n <;> exact h
   cases h'
   exact⟨EqAt.int_int i t j t',RcAt.int_int i t j t',RcNeAt.int_int i t j t'⟩
  | _=>cases n <;> cases h
 | bl i=>cases ry with
  | bl j =>
   cases ru;cases rv
   have h':some (i == j)=some b:=by cases n <;> exact h
   cases h'
   exact⟨EqAt.bool_bool i j,RcAt.bool_bool i j,RcNeAt.bool_bool i j⟩
  | _=>cases n <;> cases h
 | str i=>cases ry with
  | str j =>
   obtain⟨t,rfl⟩:=ru;obtain⟨t',rfl⟩:=rv
   have h':some (i == j)=some b:=by cases n <;> exact h
   cases h'
   exact⟨EqAt.str_str i t j t',RcAt.str_str i t j t',RcNeAt.str_str i t j t'⟩
  | _=>cases n <;> cases h
 | non=>cases ry with
  | non =>
   cases ru;cases rv
   have h':some true=some b:=by cases n <;> exact h
   cases h'
   exact⟨EqAt.same _,RcAt.none_none,RcNeAt.none_none⟩
  | _=>cases n <;> cases h
 | tup _ _ _=>exact absurd rfl (hf _)
 | lst _ _ _=>exact absurd rfl (hf _)
 | fzl _ _ _=>exact absurd rfl (hf _)
 | obj _ _ _ _=>exact absurd rfl (hf _)
open PySem.SeqAt in
theorem uv (hK:X.K=K)(I:Inv X pins σ H s)(sm:Same Φ H):∀ (n:Nat) {d e:D} {b:Bool} {x y:V},dU n d e=some b→Rp K Φ d x→Rp K Φ e y →
  ∀ (A:Around) (u v:Value),A.units+n<cLine→RelV x u→RelV y v→EqAt A s u v b∧RcAt A s u v b∧RcNeAt A s u v (!b):=by
 intro n
 induction n with
 | zero =>
  intro d e b x y h rx ry A u v hu ru rv
  refine qC h rx ry (fun a ea=>?_) ru rv
  subst ea
  cases rx <;> cases ry <;> cases h
 | succ n ih =>
  intro d e b x y h rx ry A u v hu ru rv
  by_cases hf:∀ a,x≠.ref a
  ·exact qC h rx ry hf ru rv
  have hu':A.units<cLine:=by omega
  cases rx with
  | int i=>exact absurd (fun a e=>nomatch e) hf
  | bl i=>exact absurd (fun a e=>nomatch e) hf
  | str i=>exact absurd (fun a e=>nomatch e) hf
  | non=>exact absurd (fun a e=>nomatch e) hf
  | @tup a vs xs h1 h2 h3=>cases ry with
   | @tup c ws ys k1 k2 k3 =>
    cases ru;cases rv
    obtain⟨g,hg,hb⟩:=jk (show eJ (dU n) xs ys=some b from h)
    obtain⟨its,r1,p1,_⟩:=I.sqb (b:=false) (hK ▸ sm.sqt h1)
    obtain⟨its',r2,p2,_⟩:=I.sqb (b:=false) (hK ▸ sm.sqt k1)
    have l1:=Vals.length r1
    have l2:=Vals.length r2
    have he:∀ j (j1:j<its.toArray.size) (j2:j<its'.toArray.size),EqAt A.in1 s its.toArray[j] its'.toArray[j] (g j):=by
     intro j j1 j2
     simp only [List.size_toArray] at j1 j2
     obtain⟨x,hx,rx⟩:=Vals.get' r1 j1
     obtain⟨y,hy,ry⟩:=Vals.get' r2 j2
     have i1:j<xs.length:=by omega
     have i2:j<ys.length:=by omega
     exact (ih (hg j _ _ (aX i1) (aX i2)) (h3 j x _ hx (aX i1)) (k3 j y _ hy (aX i2)) A.in1 _ _ (by show A.units+1+n<cLine;omega) rx ry).1
    have R:=RcAt.tuples (e:=g) p1 p2 hu' he
    have R':=RcNeAt.tuples (e:=g) p1 p2 hu' he
    have et:((List.range (min its.toArray.size its'.toArray.size)).all g && its.toArray.size == its'.toArray.size)=b:=by
     rw[hb]
     simp only [List.size_toArray]
     rw[← l1,← l2,h2,k2]
    rw[et] at R R'
    refine⟨?_,R,R'⟩
    by_cases hab:a=c
    ·subst hab
     rw[rm hK I sm (n+1) h (.tup h1 h2 h3) (.tup k1 k2 k3)];exact EqAt.same _
    ·exact EqAt.of_refs hab R
   | _=>cases h
  | @lst a vs xs h1 h2 h3=>cases ry with
   | @lst c ws ys k1 k2 k3 =>
    cases ru;cases rv
    have h':(if xs.length=ys.length then eJ (dU n) xs ys else some false)=some b:=h
    obtain⟨its,r1,p1,_⟩:=I.sqb (b:=true) (show SqL X.K H a vs from SqL.of (sm _ _ h1))
    obtain⟨its',r2,p2,_⟩:=I.sqb (b:=true) (show SqL X.K H c ws from SqL.of (sm _ _ k1))
    have l1:=Vals.length r1
    have l2:=Vals.length r2
    have fin:RcAt A s (.ref a) (.ref c) b∧RcNeAt A s (.ref a) (.ref c) (!b):=by
     by_cases hl:xs.length=ys.length
     ·rw[if_pos hl] at h'
      obtain⟨g,hg,hb⟩:=jk h'
      have he:∀ j (j1:j<its.toArray.size) (j2:j<its'.toArray.size),EqAt A.in1 s its.toArray[j] its'.toArray[j] (g j):=by
       intro j j1 j2
       simp only [List.size_toArray] at j1 j2
       obtain⟨x,hx,rx⟩:=Vals.get' r1 j1
       obtain⟨y,hy,ry⟩:=Vals.get' r2 j2
       have i1:j<xs.length:=by omega
       have i2:j<ys.length:=by omega
       exact (ih (hg j _ _ (aX i1) (aX i2)) (h3 j x _ hx (aX i1)) (k3 j y _ hy (aX i2)) A.in1 _ _ (by show A.units+1+n<cLine;omega) rx ry).1
      have hsz:its.toArray.size=its'.toArray.size:=by simp;omega
      have R:=RcAt.lists (e:=g) p1 p2 hsz hu' he
      have R':=RcNeAt.lists (e:=g) p1 p2 hsz hu' he
      have et:(List.range its.toArray.size).all g=b:=by
       have e1:min xs.length ys.length=its.length:=by omega
       have e2:(xs.length == ys.length)=true:=by simp [hl]
       rw[hb,e1,e2,Bool.and_true,List.size_toArray]
      rw[et] at R R'
      exact⟨R,R'⟩
     ·rw[if_neg hl] at h'
      cases h'
      have hsz:(its.toArray.size != its'.toArray.size)=true:=by simp;omega
      exact⟨RcAt.lists_lengths p1 p2 hsz hu',RcNeAt.lists_lengths p1 p2 hsz hu'⟩
    refine⟨?_,fin.1,fin.2⟩
    by_cases hab:a=c
    ·subst hab
     rw[rm hK I sm (n+1) h (.lst h1 h2 h3) (.lst k1 k2 k3)];exact EqAt.same _
    ·exact EqAt.of_refs hab fin.1
   | _=>cases h
  | fzl _ _ _=>cases ry <;> cases h
  | obj _ _ _ _=>cases ry <;> cases h
end
def tO:dH:=fun x y R=>match dU 40 x y with | some b=>R (.bl b) | none=>False
def kO:dH:=fun x y R=>match dU 40 x y with | some b=>R (.bl (!b)) | none=>False
section
variable {K:Frag}{X:Cx}
theorem RpQ.any {Φ H:Hp}{d:D}{v:V}(h:RpQ K Φ H d v)(s:Same Φ H):Rp K H d v:=by
 rcases h with h | ⟨a,vs,ds,e,e2,h1,h2⟩
 ·exact h.same s
 ·subst e e2;exact (h2.same s).lst h1
theorem bI (hu:X.A.units+64<cLine):OpD K X (compareOp .Eq) tO:=⟨fun hK pins s σ H x y u v Q I rx ry hq0=>by
 obtain⟨Φ,dx,dy,R,sm,hx,hy,h,k⟩:=hq0
 unfold tO at h
 split at h
 ·next b hb=>exact (uv hK I (Same.refl H) 40 hb (hx.any sm) (hy.any sm) X.A u v (by omega) rx ry).2.1 X.prog X.w _ _ ⟨.bl b,H,I,rfl,k _ Φ H _ h (.refl sm) (.bl b)⟩
 ·exact h.elim⟩
theorem jb (hu:X.A.units+64<cLine):OpD K X (compareOp .NotEq) kO:=⟨fun hK pins s σ H x y u v Q I rx ry hq0=>by
 obtain⟨Φ,dx,dy,R,sm,hx,hy,h,k⟩:=hq0
 unfold kO at h
 split at h
 ·next b hb=>exact (uv hK I (Same.refl H) 40 hb (hx.any sm) (hy.any sm) X.A u v (by omega) rx ry).2.2 X.prog X.w _ _ ⟨.bl (!b),H,I,rfl,k _ Φ H _ h (.refl sm) (.bl _)⟩
 ·exact h.elim⟩
def j4:D→Bool
 | .non=>true
 | _=>false
def t7 (neg:Bool):dH:=fun x y R=>match y with | .non=>R (.bl (j4 x != neg)) | .bl b=>(match x with | .bl a=>R (.bl ((a == b) != neg)) | _=>False) | _=>False
theorem qg {Φ H:Hp}{d:D}{v:V}(h:RpQ K Φ H d v):decide (v=V.non)=j4 d:=by
 cases d with
 | int i=>rw[h.int];rfl
 | bl i=>rw[h.bl];rfl
 | str i=>rw[h.str];rfl
 | non=>rw[h.non];rfl
 | tup ds => rcases h with h | ⟨a, vs, ds, e, _⟩
             · cases h; rfl
             · cases e
 | lst ds => rcases h with h | ⟨a, vs, ds, e, e2, _⟩
             · cases h; rfl
             · rw [e2]; rfl
 | fzl ds => rcases h with h | ⟨a, vs, ds, e, _⟩
             · cases h; rfl
             · cases e
 | obj C fs => rcases h with h | ⟨a, vs, ds, e, _⟩
               · cases h; rfl
               · cases e
theorem gD:OpD K X (compareOp .Is) (t7 false):=⟨fun hK pins s σ H x y u v Q I rx ry hq0=>by
 obtain⟨Φ,dx,dy,R,sm,hx,hy,h,k⟩:=hq0
 cases dy with
 | non =>
  cases hy.non
  refine uG pins s σ H _ _ u v Q I rx ry ⟨rfl,?_⟩
  rw[qg hx]
  have h':R (.bl (j4 dx != false)):=h
  rw[Bool.bne_false] at h'
  exact k _ Φ H _ h' (.refl sm) (.bl _)
 | bl b =>
  cases hy.bl
  cases dx with
  | bl a =>
   cases hx.bl
   have h':R (.bl ((a == b) != false)):=h
   rw[Bool.bne_false] at h'
   exact Bg pins s σ H _ _ u v Q I rx ry ⟨a,b,rfl,rfl,k _ Φ H _ h' (.refl sm) (.bl _)⟩
  | _=>exact h.elim
 | _=>exact h.elim⟩
theorem qO:OpD K X (compareOp .IsNot) (t7 true):=⟨fun hK pins s σ H x y u v Q I rx ry hq0=>by
 obtain⟨Φ,dx,dy,R,sm,hx,hy,h,k⟩:=hq0
 cases dy with
 | non =>
  cases hy.non
  refine Ay pins s σ H _ _ u v Q I rx ry ⟨rfl,?_⟩
  rw[qg hx]
  have h':R (.bl (j4 dx != true)):=h
  rw[Bool.bne_true] at h'
  exact k _ Φ H _ h' (.refl sm) (.bl _)
 | bl b =>
  cases hy.bl
  cases dx with
  | bl a =>
   cases hx.bl
   have h':R (.bl ((a == b) != true)):=h
   rw[Bool.bne_true] at h'
   exact Cc pins s σ H _ _ u v Q I rx ry ⟨a,b,rfl,rfl,k _ Φ H _ h' (.refl sm) (.bl _)⟩
  | _=>exact h.elim
 | _=>exact h.elim⟩
end
end L2
namespace HT
open PySem PySem.Spec PyProof.Rows
theorem getItem_tuple_all {prog:Program}{w:World}{A:Around}{E:Value→Shared→Prop}{s:Shared}{t sl:Addr}{items:Array Value}{vl vu:Value}{lo hi:Option Int}{Q:Value→Shared→Prop}(ht:IsTup s.heap t items)(hs:s.heap.IsSliceOf sl vl vu .none)(pl:IsPart vl lo)(pu:IsPart vu hi)
  (hw:sIx items.size 0 lo=0∧sIx items.size items.size hi=items.size) (h:Q (.ref t) s):wpAny (model prog w) A (getItem (.ref t) (.ref sl)) Q E s:=by
 obtain⟨os,hos,hcs,hds⟩:=id hs
 have hTs:s.TypeIs (.ref sl) "slice":=⟨os,hos,hcs⟩
 unfold getItem
 try with_reducible refine wpAny_holding ?_
 first | refine wpAny_bind (wpAny_pure ?_) | skip
 refine wpAny_bind (wpAny_sequenceKey ht.typeIs (by decide) ?_)
 refine wpAny_bind (wpAny_callSpecial?_slot (name:=Str.ofString "__getitem__") ht.typeIs PyProof.Rows.slot_tuple_getitem
  (wpAny_call_entry PyProof.Rows.slot_tuple_getitem ht.typeIs entry_tuple_getitem ?_ (args_tuple_getitem _ _)))
 show wpAny _ _ (Builtin.Tuple.tupleItemsOf (.ref t) >>= _) _ _ s
 refine wpAny_bind (tupleItemsOf_ ht ?_)
 refine wpAny_bind (wpAny_typeOf hTs ?_)
 rw[if_pos (by decide)]
 refine wpAny_bind (oO hs pl pu ?_)
 have hyes:(((sIx items.size 0 lo:Nat):Int) == 0 && (1:Int) == 1 && (sIx items.size items.size hi - sIx items.size 0 lo) == items.size)=true:=by
  rw[hw.1,hw.2]
  simp
 show wpAny _ _ (if (((sIx items.size 0 lo:Nat):Int) == 0 && (1:Int) == 1 && (sIx items.size items.size hi - sIx items.size 0 lo) == items.size)=true then _ else _) _ _ s
 rw[if_pos hyes]
 refine wpAny_bind (show wpAny _ _ (typeOf (.ref t) >>= fun c=>pure (c == .type "tuple")) _ _ s from wpAny_bind (wpAny_typeOf ht.typeIs (wpAny_pure ?_)))
 rw[if_pos (by decide)]
 exact wpAny_bind (wpAny_rule (wpAny_pure ⟨_,rfl,wpAny_pure h⟩))
end HT
namespace L2
open PySem PySem.Spec PyProof.Rows
section
variable {K:Frag}{X:Cx}{e a b c:Expr}{es:List Expr}{pos p2:Pos}{t ta tb:TD}{tf:br}{tl:br}{tt tu:cz}
def rz:dH:=fun x y R=>match y with
 | .int i=>(match x with
  | .lst ds=>∃ d,bJ ds i=some d∧R d
  | .tup ds=>∃ d,bJ ds i=some d∧R d
  | .fzl ds=>∃ d,bJ ds i=some d∧R d
  | .str z=>z.length≤sizeLine∧∃ c,bJ z.cps.toList i=some c∧R (.str ⟨#[c]⟩)
  | _=>False)
 | _=>False
theorem ni {Φ:Hp}{ds:List D}{vs:List V}{d:D}{i:Int}(h:RpL K Φ ds vs)(e:bJ ds i=some d):∃ v,bJ vs i=some v∧Rp K Φ d v:=by
 unfold bJ at e ⊢
 rw[h.1]
 cases hj:gR ds.length i with
 | none=>rw[hj] at e;cases e
 | some j =>
  rw[hj,Option.bind_some] at e
  rw[Option.bind_some]
  exact h.at e
theorem xb (hK:X.K=K):jf X (jT K rz):=by
 intro value slice pins s σ H x y v u Q I rx ry ⟨Φ,dx,dy,R,sm,hx,hy,h,k⟩ hs
 cases dy with
 | int i =>
  cases hy.int
  cases dx with
  | lst ds =>
   obtain⟨d,h1,h2⟩:=h
   obtain⟨a,vs,rfl,q1,q2⟩:=hx.lst sm
   obtain⟨w,hw,rw'⟩:=ni q2 h1
   exact qN value slice pins s σ H _ _ v u Q I rx ry ⟨a,vs,i,w,rfl,rfl,.of q1,hw,k _ Φ H _ h2 (.refl sm) rw'⟩ hs
  | tup ds =>
   obtain⟨d,h1,h2⟩:=h
   obtain⟨a,vs,rfl,q1,_,q2⟩:=hx.tup sm
   obtain⟨w,hw,rw'⟩:=ni q2 h1
   exact vG value slice pins s σ H _ _ v u Q I rx ry ⟨a,vs,i,w,rfl,rfl,hK ▸ q1,hw,k _ Φ H _ h2 (.refl sm) rw'⟩ hs
  | fzl ds =>
   obtain⟨d,h1,h2⟩:=h
   obtain⟨a,vs,rfl,q1,q2⟩:=hx.fzl sm
   obtain⟨w,hw,rw'⟩:=ni q2 h1
   exact qN value slice pins s σ H _ _ v u Q I rx ry ⟨a,vs,i,w,rfl,rfl,hK ▸ q1,hw,k _ Φ H _ h2 (.refl sm) rw'⟩ hs
  | str z =>
   obtain⟨h0,c,h1,h2⟩:=h
   cases hx.str
   exact CK value slice pins s σ H _ _ v u Q I rx ry ⟨z,i,c,rfl,rfl,h0,h1,k _ Φ H _ h2 (.refl sm) (.str _)⟩ hs
  | _=>exact h.elim
 | _=>exact h.elim
theorem ar (ha:PQ K X a ta)(hb:PQ K X b tb)(hs:qH b):PD K X (.Subscript a b pos) (iw rz ta tb) :=
 ⟨fun hK=>(zg (xb hK) (ha.pe hK) (hb.pe hK) hs).imp fun _ _ _=>jU⟩
abbrev gH:=bP→(Option Int→Prop)→Prop
def lO (K:Frag)(t:gH):TO:=fun σ H Q=>∃ H0 Φ ρ R,EnvD K H0 Φ H σ ρ∧t ρ R∧∀ o Φ' H',R o→Gr Φ H Φ' H'→Q o H'
structure POD (K:Frag)(X:Cx)(e:Option Expr)(t:gH):Prop where po:X.K=K→PO X e (lO K t)
def AI:gH:=fun _ R=>R none
def As (t:TD):gH:=fun ρ R=>t ρ fun d=>match d with | .int i=>R (some i) | _=>False
theorem PO.imp {o:Option Expr}{t t':TO}(h:PO X o t)(k:∀ σ H Q,t' σ H Q→t σ H Q):PO X o t':=fun pins s σ H Q I hw=>h pins s σ H Q I (k σ H Q hw)
theorem cC:POD K X none AI:=⟨fun _=>po_none.imp fun σ H Q hq0=>by obtain⟨H0,Φ,ρ,R,E,t,k⟩:=hq0;exact k none Φ H t (.refl E.fz)⟩
theorem bU (h:PQ K X e t):POD K X (some e) (As t):=⟨fun hK=>(yT (h.pe hK)).imp fun σ H Q hq0=>by obtain⟨H0,Φ,ρ,R,E,t,k⟩:=hq0;exact⟨H0,Φ,ρ,_,E,t,fun d Φ1 H1 v r g rv=>by
 cases d with
 | int i=>exact⟨i,rv.int,k _ Φ1 H1 r g⟩
 | _=>exact r.elim⟩⟩
variable {lo hi:Option Expr}{to tp:gH}
def rN (K:Frag):V→Option Int→Option Int→Hp→VK→Prop:=fun x lo hi H Q=>∃ a xs,x=.ref a∧SqT K H a xs∧(HT.sIx xs.length 0 lo=0∧HT.sIx xs.length xs.length hi=xs.length)∧Q (.ref a) H
theorem Aq:SlR X (rN X.K):=by
 intro pins s σ H x v vl vu lo hi sl Q I rx hs pl pu h
 obtain⟨a,xs,rfl,hx,hw,q⟩:=h
 cases rx
 obtain⟨its,r,ht,hz⟩:=I.tuple hx
 have hlen:its.toArray.size=xs.length:=by rw[List.size_toArray];exact r.length.symm
 refine⟨"tuple",_,PyProof.Rows.slot_tuple_getitem.lookup,ht.typeIs,?_⟩
 exact HT.getItem_tuple_all ht hs pl pu (by rw[hlen];exact hw) ⟨.ref a,H,I,rfl,q⟩
theorem Dm {α:Type}{xs:List α}{l h:Option Int}(hw:HT.sIx xs.length 0 l=0∧HT.sIx xs.length xs.length h=xs.length):bR xs l h=xs:=by
 unfold bR
 rw[hw.1,hw.2,List.drop_zero,Nat.sub_zero,List.take_length]
def xD (x:D)(l h:Option Int)(R:D→Prop):Prop:=match x with
 | .lst ds=>NF (bR ds l h) fun zs=>R (.lst zs)
 | .fzl ds=>NF (bR ds l h) fun zs=>R (.lst zs)
 | .tup ds=>NF (bR ds l h) fun zs=>R (.tup zs)
 | _=>False
def zb (t:TD)(to tp:gH):TD:=fun ρ R=>t ρ fun x=>to ρ fun l=>tp ρ fun h=>xD x l h R
theorem cb (ha:PQ K X a ta)(hl:POD K X lo to)(hh:POD K X hi tp):PD K X (.Subscript a (.Slice lo hi none p2) pos) (zb ta to tp) :=
 ⟨fun hK=>(yf (hK ▸ sl_list.or (sl_tup.or Aq):SlR X (fun x lo hi H Q=>tx K x lo hi H Q∨tM K x lo hi H Q∨rN K x lo hi H Q)) (ha.pe hK) (hl.po hK) (hh.po hK)).imp fun σ H Q hq0=>by obtain⟨H0,Φ,ρ,R,E,t,k⟩:=hq0;exact
  ⟨H0,Φ,ρ,_,E,t,fun dx Φ1 H1 x t1 g1 rx=>⟨H0,Φ1,ρ,_,E.gr g1,t1,fun l Φ2 H2 t2 g2=>⟨H0,Φ2,ρ,_,(E.gr g1).gr g2,t2,fun h Φ3 H3 t3 g3=>by
   have g:=(g1.trans g2).trans g3
   have rx3:=rx.gr (g2.trans g3)
   cases dx with
   | lst ds =>
    obtain⟨a,vs,rfl,q1,q2⟩:=rx3.lst g.s
    exact .inl ⟨a,vs,rfl,.of q1,fun p hp=>k _ _ _ _ t3.get (g.trans (.new g.s hp _)) (((q2.cut l h).same (cI (g.s.free hp) _)).lst bw)⟩
   | fzl ds =>
    obtain⟨a,vs,rfl,q1,q2⟩:=rx3.fzl g.s
    exact .inl ⟨a,vs,rfl,q1,fun p hp=>k _ _ _ _ t3.get (g.trans (.new g.s hp _)) (((q2.cut l h).same (cI (g.s.free hp) _)).lst bw)⟩
   | tup ds =>
    obtain⟨a,vs,rfl,q1,q0,q2⟩:=rx3.tup g.s
    by_cases hw:HT.sIx vs.length 0 l=0∧HT.sIx vs.length vs.length h=vs.length
    ·refine .inr (.inr ⟨a,vs,rfl,q1,hw,?_⟩)
     have e:bR ds l h=ds:=Dm (by rw[← q2.1];exact hw)
     have t4:=t3.get
     rw[e] at t4
     exact k _ _ _ _ t4 g (q2.tup q0)
    ·exact .inr (.inl ⟨a,vs,rfl,q1,hw,fun p hp=>k _ _ _ _ t3.get (g.trans (.new g.s hp _)) (((q2.cut l h).same (cI (g.s.free hp) _)).tup (.of bw))⟩)
   | _=>exact t3.elim⟩⟩⟩⟩
def zq (ta tb:TD):br:=fun ρ R=>ta ρ fun x=>tb ρ fun y=>match x,y with | .lst xs,.lst ys=>xs.length+ys.length≤sizeLine∧NF (xs++ys) R | _,_=>False
theorem pW (ha:PQ K X a ta)(hb:PQ K X b tb):PF K X (.BinOp a .Add b pos) (zq ta tb) :=
 ⟨fun hK=>(uh tq (ha.pe hK) (hb.pe hK)).imp fun σ H Q hq0=>by obtain⟨H0,Φ,ρ,R,E,t,k⟩:=hq0;exact⟨H0,Φ,ρ,_,E,t,fun dx Φ1 H1 x t1 g1 rx=>⟨H0,Φ1,ρ,_,E.gr g1,t1,fun dy Φ2 H2 y t2 g2 ry=>by
  have g:=g1.trans g2
  have rx2:=rx.gr g2
  cases dx with
  | lst xs=>cases dy with
   | lst ys =>
    obtain⟨a,vs,rfl,h1,h2⟩:=rx2.lst g.s
    obtain⟨b,ws,rfl,h3,h4⟩:=ry.lst g.s
    exact⟨a,b,vs,ws,rfl,rfl,h1,h3,by rw[h2.1,h4.1];exact t2.1,fun p hp=>k _ _ _ p _ t2.2.get (g.trans (.fresh g.s hp _)) (g.h.free hp) (g.s.free hp) bw (h2.append h4)⟩
   | _=>exact t2.elim
  | _=>exact t2.elim⟩⟩⟩
abbrev aR:=List D→(D→Prop)→Prop
def aZ (K:Frag)(sp:aR):Sp:=fun vs H Q _=>∃ Φ ds R,Same Φ H∧TabF K Φ∧RpL K Φ ds vs∧sp ds R∧∀ d Φ' H' v,R d→Gr Φ H Φ' H'→Rp K Φ' d v→Q v H'
def ka (sp:aR)(t:br):TD:=fun ρ R=>t ρ fun ds=>sp ds R
variable {CX:dQ}{k:Nat}{f:Addr}{fd:FuncData}{ps:List Str}{sp:aR}{x:Str}{p:Pos}{E:XK}
theorem zw (F:FnOk X.prog X.w X.K X.mg X.base CX k f fd ps (aZ K sp))(hr:Room k X.A)(hg:Gl X x)(hm:X.mg x=some (.ref f))(hk:keepIn X.K (.ref f)=true)(hb:Binds X.K fd ps [])(hx:h8 CX X E)
  (ha:PAD K X (e::es) tl) (he:starEach (e::es) X.env=(false,eval e X.env)::starEach es X.env) (hpl:(backTo pos (starEach es X.env)).any (·.1)=false) (hdb:(x == ("__debug__":Str))=false:=by decide) :
  PD K X (.Call (.Name x p) (e::es) [] pos) (ka sp tl) :=
 ⟨fun hK=>(CL F hr hg hm hk hb .nil hx (ha.pa hK) hdb he hpl).imp fun σ H Q hq0=>by obtain⟨H0,Φ,ρ,R,E,t,k⟩:=hq0;exact⟨H0,Φ,ρ,_,E,t,fun ds Φ1 H1 vs r g rl _=>⟨Φ1,ds,R,g.s,E.tb.same g.f,by rw[List.append_nil];exact rl,r,fun d Φ' H' v rd g' rv=>k d Φ' H' v rd (g.trans g') rv⟩⟩⟩
def j8 (K:Frag)(Φ H:Hp)(ds:List D)(vs:List V):Prop:=vs.length=ds.length∧∀ (i:Nat) (v:V) (d:D),vs[i]?=some v→ds[i]?=some d→RpQ K Φ H d v
def BK (K:Frag)(t:br):TA:=fun σ H Q=>∃ H0 Φ ρ R,EnvD K H0 Φ H σ ρ∧t ρ R∧∀ ds Φ' H' vs,R ds→Gr Φ H Φ' H'→j8 K Φ' H' ds vs→Q vs H'
structure PAQ (K:Frag)(X:Cx)(es:List Expr)(t:br):Prop where pa:X.K=K→PA X es (BK K t)
theorem aM:PAQ K X [] sY:=⟨fun _=>pa_nil.imp fun σ H Q hq0=>by obtain⟨H0,Φ,ρ,R,E,t,k⟩:=hq0;exact k [] Φ H [] t (.refl E.fz) ⟨rfl,fun i v d hv _=>by simp at hv⟩⟩
theorem aI (ha:PQ K X e t)(hr:PAQ K X es tl)(hs:starEach (e::es) X.env=(false,eval e X.env)::starEach es X.env):PAQ K X (e::es) (uo t tl) :=
 ⟨fun hK=>(ik (ha.pe hK) (hr.pa hK) hs).imp fun σ H Q hq0=>by obtain⟨H0,Φ,ρ,R,E,t,k⟩:=hq0;exact⟨H0,Φ,ρ,_,E,t,fun d Φ1 H1 v r g rv=>⟨H0,Φ1,ρ,_,E.gr g,r,fun ds Φ2 H2 vs r2 g2 rl =>
  k _ Φ2 H2 _ r2 (g.trans g2) ⟨by simp [rl.1],fun i u d hu hd=>by
   cases i with
   | zero=>cases hu;cases hd;exact rv.gr g2
   | succ i=>exact rl.2 i u d hu hd⟩⟩⟩⟩
def lC (K:Frag)(r:aR):List V→Hp→VK→Prop:=fun vs H Q=>∃ Φ ds R,Same Φ H∧j8 K Φ H ds vs∧r ds R∧∀ d Φ' H' v,R d→Gr Φ H Φ' H'→Rp K Φ' d v→Q v H'
structure CallD (K:Frag)(X:Cx)(f:Value)(r:aR):Prop where c:X.K=K→dX X f (lC K r)
theorem bB {id:String}{r:aR}(hc:CallD K X (.builtin id) r)(hg:Gl X x)(hm:X.mg x=none)(hv:bootBuiltins x=some (.builtin id))(ha:PAQ K X (e::es) tl)
  (he:starEach (e::es) X.env=(false,eval e X.env)::starEach es X.env) (hpl:(backTo pos (starEach es X.env)).any (·.1)=false) (hn:x≠"__name__":=by decide) (hdb:(x == ("__debug__":Str))=false:=by decide):PD K X (.Call (.Name x p) (e::es) [] pos) (ka r tl) :=
 ⟨fun hK=>(vL (hc.c hK) hg hm hv (ha.pa hK) hn hdb he hpl).imp fun σ H Q hq0=>by obtain⟨H0,Φ,ρ,R,E,t,k⟩:=hq0;exact⟨H0,Φ,ρ,_,E,t,fun ds Φ1 H1 vs r g rl=>⟨Φ1,ds,R,g.s,rl,r,fun d Φ' H' v rd g' rv=>k d Φ' H' v rd (g.trans g') rv⟩⟩⟩
theorem bF {T:String}{r:aR}(hc:CallD K X (.type T) r)(hg:Gl X x)(hm:X.mg x=none)(hv:bootBuiltins x=some (.type T))(ha:PAQ K X (e::es) tl)
  (he:starEach (e::es) X.env=(false,eval e X.env)::starEach es X.env) (hpl:(backTo pos (starEach es X.env)).any (·.1)=false) (hn:x≠"__name__":=by decide) (hdb:(x == ("__debug__":Str))=false:=by decide):PD K X (.Call (.Name x p) (e::es) [] pos) (ka r tl) :=
 ⟨fun hK=>(nt (hc.c hK) hg hm hv (ha.pa hK) hn hdb he hpl).imp fun σ H Q hq0=>by obtain⟨H0,Φ,ρ,R,E,t,k⟩:=hq0;exact⟨H0,Φ,ρ,_,E,t,fun ds Φ1 H1 vs r g rl=>⟨Φ1,ds,R,g.s,rl,r,fun d Φ' H' v rd g' rv=>k d Φ' H' v rd (g.trans g') rv⟩⟩⟩
theorem ei {Φ H:Hp}{d:D}{vs:List V}(h:j8 K Φ H [d] vs):∃ v,vs=[v]∧RpQ K Φ H d v:=by
 obtain⟨h1,h2⟩:=h
 match vs,h1,h2 with
 | [v],_,h2=>exact⟨v,rfl,h2 0 v d rfl rfl⟩
theorem sP {Φ H:Hp}{d e:D}{vs:List V}(h:j8 K Φ H [d,e] vs):∃ v w,vs=[v,w]∧RpQ K Φ H d v∧RpQ K Φ H e w:=by
 obtain⟨h1,h2⟩:=h
 match vs,h1,h2 with
 | [v,w],_,h2=>exact⟨v,w,rfl,h2 0 v d rfl rfl,h2 1 w e rfl rfl⟩
def zC:aR:=fun ds R=>match ds with | [.lst xs]=>R (.int xs.length) | [.tup xs]=>R (.int xs.length) | [.fzl xs]=>R (.int xs.length) | [.str z]=>z.length≤sizeLine∧R (.int z.length) | _=>False
theorem cc:CallD K X (.builtin "len") zC:=⟨fun hK pins s σ H xs us Q I rr hq0=>by
 obtain⟨Φ,ds,R,sm,hl,h,k⟩:=hq0
 match ds,h with
 | [.lst xs],h =>
  obtain⟨v,rfl,r⟩:=ei hl
  obtain⟨a,vs,rfl,q1,q2⟩:=r.lst sm
  exact lW pins s σ H _ us Q I rr ⟨a,vs,rfl,.inl (.of q1),by rw[q2.1];exact k _ Φ H _ h (.refl sm) (.int _)⟩
 | [.tup xs],h =>
  obtain⟨v,rfl,r⟩:=ei hl
  obtain⟨a,vs,rfl,q1,_,q2⟩:=r.tup sm
  exact lW pins s σ H _ us Q I rr ⟨a,vs,rfl,.inr (hK ▸ q1),by rw[q2.1];exact k _ Φ H _ h (.refl sm) (.int _)⟩
 | [.fzl xs],h =>
  obtain⟨v,rfl,r⟩:=ei hl
  obtain⟨a,vs,rfl,q1,q2⟩:=r.fzl sm
  exact lW pins s σ H _ us Q I rr ⟨a,vs,rfl,.inl (hK ▸ q1),by rw[q2.1];exact k _ Φ H _ h (.refl sm) (.int _)⟩
 | [.str z],h =>
  obtain⟨v,rfl,r⟩:=ei hl
  cases r.str
  exact xh pins s σ H _ us Q I rr ⟨z,rfl,h.1,k _ Φ H _ h.2 (.refl sm) (.int _)⟩⟩
def vK:aR:=fun ds R=>match ds with | [.int i]=>R (.int (if i<0 then -i else i)) | _=>False
theorem ij:CallD K X (.builtin "abs") vK:=⟨fun hK pins s σ H xs us Q I rr hq0=>by
 obtain⟨Φ,ds,R,sm,hl,h,k⟩:=hq0
 match ds,h with
 | [.int i],h =>
  obtain⟨v,rfl,r⟩:=ei hl
  cases r.int
  exact Dn pins s σ H _ us Q I rr ⟨i,rfl,k _ Φ H _ h (.refl sm) (.int _)⟩⟩
def Ct:aR:=fun ds R=>match ds with | [.int i,.int j]=>R (.int (if j>i then j else i)) | _=>False
def Dg:aR:=fun ds R=>match ds with | [.int i,.int j]=>R (.int (if j<i then j else i)) | _=>False
theorem kC (hc:X.calm=true):CallD K X (.builtin "max") Ct:=⟨fun hK pins s σ H xs us Q I rr hq0=>by
 obtain⟨Φ,ds,R,sm,hl,h,k⟩:=hq0
 match ds,h with
 | [.int i,.int j],h =>
  obtain⟨v,w,rfl,r1,r2⟩:=sP hl
  cases r1.int
  cases r2.int
  exact yU hc pins s σ H _ us Q I rr ⟨i,j,rfl,k _ Φ H _ h (.refl sm) (.int _)⟩⟩
theorem yn (hc:X.calm=true):CallD K X (.builtin "min") Dg:=⟨fun hK pins s σ H xs us Q I rr hq0=>by
 obtain⟨Φ,ds,R,sm,hl,h,k⟩:=hq0
 match ds,h with
 | [.int i,.int j],h =>
  obtain⟨v,w,rfl,r1,r2⟩:=sP hl
  cases r1.int
  cases r2.int
  exact uW hc pins s σ H _ us Q I rr ⟨i,j,rfl,k _ Φ H _ h (.refl sm) (.int _)⟩⟩
theorem AH {Φ:Hp}{ns:List Int}{vs:List V}(h:RpL K Φ (ns.map D.int) vs):vs=ns.map V.int:=by
 refine List.ext_getElem? fun i=>?_
 rw[List.getElem?_map]
 cases e:ns[i]? with
 | none =>
  have:=List.getElem?_eq_none_iff.mp e
  rw[List.getElem?_eq_none (by rw[h.1,List.length_map];exact this)]
  rfl
 | some n =>
  obtain⟨v,hv,r⟩:=h.at (i:=i) (d:=.int n) (by rw[List.getElem?_map,e];rfl)
  cases r
  rw[hv]
  rfl
theorem rB {Φ:Hp}{bs:List Bool}{vs:List V}(h:RpL K Φ (bs.map D.bl) vs):vs=bs.map V.bl:=by
 refine List.ext_getElem? fun i=>?_
 rw[List.getElem?_map]
 cases e:bs[i]? with
 | none =>
  have:=List.getElem?_eq_none_iff.mp e
  rw[List.getElem?_eq_none (by rw[h.1,List.length_map];exact this)]
  rfl
 | some n =>
  obtain⟨v,hv,r⟩:=h.at (i:=i) (d:=.bl n) (by rw[List.getElem?_map,e];rfl)
  cases r
  rw[hv]
  rfl
theorem RpQ.sqb {Φ H:Hp}{d:D}{v:V}{ds:List D}(s:Same Φ H)(h:RpQ K Φ H d v)(e:fA d=some ds):∃ (q:Bool) (a:Addr) (vs:List V),v=.ref a∧SqB K q H a vs∧RpL K Φ ds vs:=by
 obtain⟨a,vs,e1,h1,h2⟩:=h.seq s e
 rcases h1 with h1 | h1
 ·exact⟨true,a,vs,e1,h1,h2⟩
 ·exact⟨false,a,vs,e1,h1,h2⟩
def vw:aR:=fun ds R=>match ds with | [d]=>∃ ns:List Int,fA d=some (ns.map D.int)∧R (.int ns.sum) | _=>False
theorem pV (hc:X.calm=true):CallD K X (.builtin "sum") vw:=⟨fun hK pins s σ H xs us Q I rr hq0=>by
 obtain⟨Φ,ds,R,sm,hl,h,k⟩:=hq0
 match ds,h with
 | [d],⟨ns,e,h⟩ =>
  obtain⟨v,rfl,r⟩:=ei hl
  obtain⟨q,a,vs,rfl,q1,q2⟩:=r.sqb sm e
  rw[AH q2] at q1
  exact yA q hc pins s σ H _ us Q I rr ⟨a,ns,rfl,hK ▸ q1,k _ Φ H _ h (.refl sm) (.int _)⟩⟩
def qS (f:List Bool→Bool):aR:=fun ds R=>match ds with | [d]=>∃ bs:List Bool,fA d=some (bs.map D.bl)∧R (.bl (f bs)) | _=>False
theorem kK (hc:X.calm=true):CallD K X (.builtin "all") (qS fun bs=>bs.all id):=⟨fun hK pins s σ H xs us Q I rr hq0=>by
 obtain⟨Φ,ds,R,sm,hl,h,k⟩:=hq0
 match ds,h with
 | [d],⟨ns,e,h⟩ =>
  obtain⟨v,rfl,r⟩:=ei hl
  obtain⟨q,a,vs,rfl,q1,q2⟩:=r.sqb sm e
  rw[rB q2] at q1
  exact CP q hc pins s σ H _ us Q I rr ⟨a,ns,rfl,hK ▸ q1,k _ Φ H _ h (.refl sm) (.bl _)⟩⟩
theorem tV (hc:X.calm=true):CallD K X (.builtin "any") (qS fun bs=>bs.any id):=⟨fun hK pins s σ H xs us Q I rr hq0=>by
 obtain⟨Φ,ds,R,sm,hl,h,k⟩:=hq0
 match ds,h with
 | [d],⟨ns,e,h⟩ =>
  obtain⟨v,rfl,r⟩:=ei hl
  obtain⟨q,a,vs,rfl,q1,q2⟩:=r.sqb sm e
  rw[rB q2] at q1
  exact vP q hc pins s σ H _ us Q I rr ⟨a,ns,rfl,hK ▸ q1,k _ Φ H _ h (.refl sm) (.bl _)⟩⟩
def Bj:aR:=fun ds R=>match ds with | [.lst xs]=>R (.tup xs) | [.tup xs]=>R (.tup xs) | [.fzl xs]=>R (.tup xs) | _=>False
theorem bG:CallD K X (.type "tuple") Bj:=⟨fun hK pins s σ H xs us Q I rr hq0=>by
 obtain⟨Φ,ds,R,sm,hl,h,k⟩:=hq0
 match ds,h with
 | [.lst xs],h =>
  obtain⟨v,rfl,r⟩:=ei hl
  obtain⟨a,vs,rfl,q1,q2⟩:=r.lst sm
  exact mJ pins s σ H _ us Q I rr ⟨a,vs,rfl,.inl ⟨.of q1,fun p hp=>k _ _ _ _ h (.new sm hp _) ((q2.same (cI (sm.free hp) _)).tup (.of bw))⟩⟩
 | [.fzl xs],h =>
  obtain⟨v,rfl,r⟩:=ei hl
  obtain⟨a,vs,rfl,q1,q2⟩:=r.fzl sm
  exact mJ pins s σ H _ us Q I rr ⟨a,vs,rfl,.inl ⟨hK ▸ q1,fun p hp=>k _ _ _ _ h (.new sm hp _) ((q2.same (cI (sm.free hp) _)).tup (.of bw))⟩⟩
 | [.tup xs],h =>
  obtain⟨v,rfl,r⟩:=ei hl
  obtain⟨a,vs,rfl,q1,q3,q2⟩:=r.tup sm
  exact mJ pins s σ H _ us Q I rr ⟨a,vs,rfl,.inr ⟨hK ▸ q1,k _ Φ H _ h (.refl sm) (q2.tup q3)⟩⟩⟩
def z9 (t:TD):br:=fun ρ R=>t ρ fun d=>∃ ds,fA d=some ds∧R ds
theorem v7 (hg:Gl X "list")(hm:X.mg "list"=none)(ha:PQ K X e t)(he:starEach [e] X.env=(false,eval e X.env)::starEach [] X.env):PF K X (.Call (.Name "list" p) [e] [] pos) (z9 t) :=
 ⟨fun hK=>(nt CH hg hm boot_list (ik (ha.pe hK) pa_nil he) (by decide) (by decide) he ak).imp fun σ H Q hq0=>by obtain⟨H0,Φ,ρ,R,E,t,k⟩:=hq0;exact⟨H0,Φ,ρ,_,E,t,fun d Φ1 H1 v r g rv=>by
  obtain⟨ds,e1,r⟩:=r
  obtain⟨a,vs,rfl,q1,q2⟩:=rv.seq g.s e1
  exact⟨a,vs,rfl,hK ▸ q1,fun l hl=>k _ _ _ l _ r (g.trans (.fresh g.s hl _)) (g.h.free hl) (g.s.free hl) bw q2⟩⟩⟩
def Dp:aR:=fun ds R=>match ds with | [.int i]=>R (.int i) | [.bl b]=>R (.int (if b then 1 else 0)) | _=>False
theorem Dy:CallD K X (.type "int") Dp:=⟨fun hK pins s σ H xs us Q I rr hq0=>by
 obtain⟨Φ,ds,R,sm,hl,h,k⟩:=hq0
 match ds,h with
 | [.int i],h =>
  obtain⟨v,rfl,r⟩:=ei hl
  cases r.int
  exact rY pins s σ H _ us Q I rr (.inl ⟨i,rfl,k _ Φ H _ h (.refl sm) (.int _)⟩)
 | [.bl b],h =>
  obtain⟨v,rfl,r⟩:=ei hl
  cases r.bl
  exact rY pins s σ H _ us Q I rr (.inr ⟨b,rfl,k _ Φ H _ h (.refl sm) (.int _)⟩)⟩
end
structure SteadyD (K:Frag)(J:It)(Φ:Hp)(ds:List D):Prop where
 go:∀ i H,Same Φ H→i<ds.length→J.go i H
 yl:∀ i Φ2 H x H2 d,Same Φ Φ2→Same Φ2 H→ds[i]?=some d→J.yld i H x H2→∃ Φ3,Gr Φ2 H Φ3 H2∧Rp K Φ3 d x
 stop:∀ H,Same Φ H→J.stop ds.length H
section
variable {K:Frag}{Φ:Hp}{ds es:List D}{vs ws:List V}{a:Addr}
theorem Cj (h:SqL K Φ a vs)(r:RpL K Φ ds vs):SteadyD K (mY K a) Φ ds :=
 ⟨fun i H s hi=>⟨vs,vs[i]'(by rw[r.1];exact hi),s.seq h,aX _⟩,fun i Φ2 H x H2 d s2 s hd y=>by
  obtain⟨e,y⟩:=y
  subst e
  exact⟨Φ2,.refl s,(r.2 i x d (y vs ((s2.trans s).seq h)) hd).same s2⟩,fun H s=>⟨vs,s.seq h,by rw[r.1];exact Nat.le_refl _⟩⟩
theorem xY (h:SqT K Φ a vs)(r:RpL K Φ ds vs):SteadyD K (mm K a) Φ ds :=
 ⟨fun i H s hi=>⟨vs,vs[i]'(by rw[r.1];exact hi),s.sqt h,aX _⟩,fun i Φ2 H x H2 d s2 s hd y=>by
  obtain⟨e,y⟩:=y
  subst e
  exact⟨Φ2,.refl s,(r.2 i x d (y vs ((s2.trans s).sqt h)) hd).same s2⟩,fun H s=>⟨vs,s.sqt h,by rw[r.1];exact Nat.le_refl _⟩⟩
def dM (lo:Int)(n:Nat):List D:=(List.range n).map fun i=>D.int (lo+(i:Nat))
theorem cw (lo:Int)(n:Nat):(dM lo n).length=n:=by unfold dM;simp
theorem dZ {lo:Int}{n i:Nat}{d:D}(h:(dM lo n)[i]?=some d):i<n∧d=.int (lo+(i:Nat)):=by
 have hi:i<n:=by have:=c9 h;rwa [cw] at this
 unfold dM at h
 rw[List.getElem?_map,List.getElem?_range hi] at h
 cases h
 exact⟨hi,rfl⟩
theorem rJ {lo:Int}{n:Nat}:SteadyD K (jH lo n) Φ (dM lo n) :=
 ⟨fun i H s hi=>by rw[cw] at hi;exact hi,fun i Φ2 H x H2 d s2 s hd y=>by
  obtain⟨e,y⟩:=y
  subst e y
  rw[(dZ hd).2]
  exact⟨Φ2,.refl s,.int _⟩,fun H s=>by rw[cw];exact Nat.le_refl n⟩
def fX (ds:List D):List D:=ds.zipIdx.map fun p=>.tup [.int (p.2:Nat),p.1]
theorem ja (ds:List D):(fX ds).length=ds.length:=by unfold fX;simp
theorem lg {i:Nat}{d:D}(h:(fX ds)[i]?=some d):∃ e,ds[i]?=some e∧d=.tup [.int (i:Nat),e]:=by
 unfold fX at h
 rw[List.getElem?_map,List.getElem?_zipIdx] at h
 cases e:ds[i]? with
 | none=>rw[e] at h;cases h
 | some x=>rw[e] at h;cases h;exact⟨x,rfl,by simp⟩
theorem Rp.pair {H:Hp}{t:Addr}{d e:D}{x y:V}(h:H t=some (.tup [x,y]))(r1:Rp K H d x)(r2:Rp K H e y):Rp K H (.tup [d,e]) (.ref t):=(RpL.cons r1 (.one r2)).tup (.of h)
theorem zQ {b:Bool}(h:SqB K b Φ a vs)(r:RpL K Φ ds vs):SteadyD K (ke K b a) Φ (fX ds) :=
 ⟨fun i H s hi=>by rw[ja] at hi;exact⟨vs,vs[i]'(by rw[r.1];exact hi),SqB.same s h,aX _⟩,fun i Φ2 H x H2 d s2 s hd y=>by
  obtain⟨t,v,hn,e,e',y⟩:=y
  subst e e'
  obtain⟨e,he,rfl⟩:=lg hd
  have rv:=(r.2 i v e (y vs (SqB.same (s2.trans s) h)) he).same (s2.trans (cI (s.free hn) (.tup [.int i,v])))
  exact⟨_,.new s hn _,.pair bw (.int _) rv⟩,fun H s=>by rw[ja];exact⟨vs,SqB.same s h,by rw[r.1];exact Nat.le_refl _⟩⟩
def e7 (ds es:List D):List D:=List.zipWith (fun x y=>.tup [x,y]) ds es
theorem rF (ds es:List D):(e7 ds es).length=min ds.length es.length:=by unfold e7;simp
theorem Bz {i:Nat}{d:D}(h:(e7 ds es)[i]?=some d):∃ x y,ds[i]?=some x∧es[i]?=some y∧d=.tup [x,y]:=by
 unfold e7 at h
 rw[List.getElem?_zipWith] at h
 cases e:ds[i]? with
 | none=>rw[e] at h;cases h
 | some x =>
  cases e2:es[i]? with
  | none=>rw[e,e2] at h;cases h
  | some y=>rw[e,e2] at h;cases h;exact⟨x,y,rfl,rfl,rfl⟩
theorem BV {b1 b2:Bool}{a1 a2:Addr}(h1:SqB K b1 Φ a1 vs)(h2:SqB K b2 Φ a2 ws)(r1:RpL K Φ ds vs)(r2:RpL K Φ es ws):SteadyD K (l8 K b1 a1 b2 a2) Φ (e7 ds es) :=
 ⟨fun i H s hi=>by
  rw[rF] at hi
  have i1:i<vs.length:=by rw[r1.1];omega
  have i2:i<ws.length:=by rw[r2.1];omega
  exact⟨vs,ws,vs[i],ws[i],SqB.same s h1,SqB.same s h2,aX i1,aX i2⟩,fun i Φ2 H x H2 d s2 s hd y=>by
  obtain⟨t,u,v,hn,e,e',y1,y2⟩:=y
  subst e e'
  obtain⟨p,q,hp,hq,rfl⟩:=Bz hd
  have sn:=s2.trans (cI (s.free hn) (.tup [u,v]))
  exact⟨_,.new s hn _,.pair bw ((r1.2 i u p (y1 vs (SqB.same (s2.trans s) h1)) hp).same sn) ((r2.2 i v q (y2 ws (SqB.same (s2.trans s) h2)) hq).same sn)⟩,fun H s=>by
  rw[rF]
  exact⟨vs,ws,SqB.same s h1,SqB.same s h2,by rw[r1.1,r2.1];omega⟩⟩
end
def lI (K:Frag)(t:br):TI:=fun σ H R'=>∃ H0 Φ ρ R,EnvD K H0 Φ H σ ρ∧t ρ R∧∀ ds Φ' H' J,R ds→Gr Φ H Φ' H'→SteadyD K J Φ' ds→R' J H'
structure PID (K:Frag)(X:Cx)(tg e:Expr)(t:br):Prop where pi:X.K=K→PI X tg e (lI K t)
theorem PI.imp {X:Cx}{tg e:Expr}{t t':TI}(h:PI X tg e t)(k:∀ σ H R,t' σ H R→t σ H R):PI X tg e t':=fun pins s σ H R I hw=>h pins s σ H R I (k σ H R hw)
section
variable {K:Frag}{X:Cx}{tg e a b:Expr}{es:List Expr}{pos p tp:Pos}{t ta tb:TD}{tl:br}
theorem vc {es:List Expr}{k:Nat}{t:eE}{n:Nat}(hK:X.K=K)(hc:X.calm=true)(h:PGs X es t)(hn:(assignEach es X.env).length=n)(hst:(assignEach es X.env).findIdx? (·.1)=none):PG X (.Tuple es k pos) (ur K n t):=hK ▸ v8 hc h hn hst
theorem yo {es:List Expr}{k:Nat}{t:eE}{n:Nat}(hK:X.K=K)(hc:X.calm=true)(h:PGs X es t)(hn:(assignEach es X.env).length=n)(hst:(assignEach es X.env).findIdx? (·.1)=none):PG X (.Tuple es k pos) (uu K n t):=hK ▸ xB hc h hn hst
def zT (t:br):br:=fun ρ R=>t ρ fun ds=>match ds with | [.int j]=>(-(2 ^ 62)≤j∧j<2 ^ 62)∧R (dM 0 j.toNat) | _=>False
def vM (t:br):br:=fun ρ R=>t ρ fun ds=>match ds with | [.int i,.int j]=>(-(2 ^ 62)≤i∧i<2 ^ 62∧-(2 ^ 62)≤j∧j<2 ^ 62)∧R (dM i (j - i).toNat) | _=>False
theorem RpL.one_inv {Φ:Hp}{d:D}{vs:List V}(h:RpL K Φ [d] vs):∃ v,vs=[v]∧Rp K Φ d v:=by
 obtain⟨h1,h2⟩:=h
 match vs,h1,h2 with
 | [v],_,h2=>exact⟨v,rfl,h2 0 v d rfl rfl⟩
theorem RpL.two_inv {Φ:Hp}{d e:D}{vs:List V}(h:RpL K Φ [d,e] vs):∃ v w,vs=[v,w]∧Rp K Φ d v∧Rp K Φ e w:=by
 obtain⟨h1,h2⟩:=h
 match vs,h1,h2 with
 | [v,w],_,h2=>exact⟨v,w,rfl,h2 0 v d rfl rfl,h2 1 w e rfl rfl⟩
theorem dm (hg:Gl X "range")(hm:X.mg "range"=none)(ha:PAD K X [a] tl)(hs:starEach [a] X.env=[(false,eval a X.env)]:=by rfl):PID K X tg (.Call (.Name "range" p) [a] [] pos) (zT tl) :=
 ⟨fun hK=>(wC hg hm (ha.pa hK) hs).imp fun σ H R' hq0=>by obtain⟨H0,Φ,ρ,R,E,t,k⟩:=hq0;exact⟨H0,Φ,ρ,_,E,t,fun ds Φ1 H1 vs r g rv _=>by
  match ds,r with
  | [.int j],r =>
   obtain⟨v,rfl,r1⟩:=rv.one_inv
   cases r1
   exact⟨j,rfl,r.1.1,r.1.2,k _ Φ1 H1 _ r.2 g rJ⟩⟩⟩
theorem wx (hg:Gl X "range")(hm:X.mg "range"=none)(ha:PAD K X [a,b] tl)(hs:starEach [a,b] X.env=[(false,eval a X.env),(false,eval b X.env)]:=by rfl)(hs2:starEach [b] X.env=[(false,eval b X.env)]:=by rfl):PID K X tg (.Call (.Name "range" p) [a,b] [] pos) (vM tl) :=
 ⟨fun hK=>(BN hg hm (ha.pa hK) hs hs2).imp fun σ H R' hq0=>by obtain⟨H0,Φ,ρ,R,E,t,k⟩:=hq0;exact⟨H0,Φ,ρ,_,E,t,fun ds Φ1 H1 vs r g rv _=>by
  match ds,r with
  | [.int i,.int j],r =>
   obtain⟨v,w,rfl,r1,r2⟩:=rv.two_inv
   cases r1
   cases r2
   exact⟨i,j,rfl,r.1,k _ Φ1 H1 _ r.2 g rJ⟩⟩⟩
end
abbrev cX:=D→bP→(bP→Prop)→Prop
abbrev eD:=List D→bP→(bP→Prop)→Prop
def lG (K:Frag)(g:cX):TG:=fun v σ H Q=>∃ H0 Φ ρ d R,EnvD K H0 Φ H σ ρ∧Rp K Φ d v∧g d ρ R∧∀ ρ' σ',R ρ'→EnvD K H0 Φ H σ' ρ'→Q σ' H
def BJ (K:Frag)(g:eD):eE:=fun vs σ H Q=>∃ H0 Φ ρ ds R,EnvD K H0 Φ H σ ρ∧RpL K Φ ds vs∧g ds ρ R∧∀ ρ' σ',R ρ'→EnvD K H0 Φ H σ' ρ'→Q σ' H
structure PGD (K:Frag)(X:Cx)(e:Expr)(g:cX):Prop where pg:X.K=K→PG X e (lG K g)
structure PGDs (K:Frag)(X:Cx)(es:List Expr)(g:eD):Prop where pg:X.K=K→PGs X es (BJ K g)
theorem PG.imp {X:Cx}{e:Expr}{t t':TG}(h:PG X e t)(k:∀ v σ H Q,t' v σ H Q→t v σ H Q):PG X e t':=fun pins s σ H v u Q I r hw=>h pins s σ H v u Q I r (k v σ H Q hw)
theorem PGs.imp {X:Cx}{e:List Expr}{t t':eE}(h:PGs X e t)(k:∀ v σ H Q,t' v σ H Q→t v σ H Q):PGs X e t':=fun pins s σ H v u Q I r hw=>h pins s σ H v u Q I r (k v σ H Q hw)
section
variable {K:Frag}{X:Cx}{e:Expr}{es:List Expr}{pos:Pos}{g:cX}{gs:eD}
def mG (i:Nat):cX:=fun d ρ R=>R (ρ.set i (some (.v d)))
theorem aD {i:Nat}{x:Str}(hN:X.N.Nodup)(hi:X.N[i]?=some x)(hx:eO X.env.scope x)(hf:X.fn x=true∨X.env.scope.names.lookup x=some .local:=by first | exact .inl rfl | exact .inr rfl | assumption):PGD K X (.Name x pos) (mG i) :=
 ⟨fun _=>(Bd hN hi hx hf).imp fun v σ H Q hq0=>by obtain⟨H0,Φ,ρ,d,R,E,r,g,k⟩:=hq0;exact k _ _ g (E.set r i)⟩
def me:eD:=fun ds ρ R=>match ds with | []=>R ρ | _=>False
def kr (t:cX)(u:eD):eD:=fun ds ρ R=>match ds with | d::r=>t d ρ fun ρ'=>u r ρ' R | []=>False
theorem bZ:PGDs K X [] me:=⟨fun _=>pgs_nil.imp fun v σ H Q hq0=>by
 obtain⟨H0,Φ,ρ,ds,R,E,r,g,k⟩:=hq0
 cases ds with
 | nil=>exact⟨List.length_eq_zero_iff.mp r.1,k _ _ g E⟩
 | cons=>exact g.elim⟩
theorem bh (h1:PGD K X e g)(h2:PGDs K X es gs)(hs:(assignEach (e::es) X.env).map (·.2)=assign e X.env::(assignEach es X.env).map (·.2):=by rfl):PGDs K X (e::es) (kr g gs) :=
 ⟨fun hK=>(wQ (h1.pg hK) (h2.pg hK) hs).imp fun vs σ H Q hq0=>by
  obtain⟨H0,Φ,ρ,ds,R,E,r,g,k⟩:=hq0
  cases ds with
  | nil=>exact g.elim
  | cons d ds =>
   cases vs with
   | nil=>exact absurd r.1 (by simp)
   | cons v vs =>
    refine⟨v,vs,rfl,H0,Φ,ρ,d,_,E,r.2 0 v d rfl rfl,g,fun ρ' σ' g' E'=>⟨H0,Φ,ρ',ds,R,E',⟨by have:=r.1;simpa using this,fun i u f hu hf=>r.2 (i+1) u f hu hf⟩,g',k⟩⟩⟩
end
def dN (cap:List (Option Nat))(ρ:bP):bP:=cap.map fun o=>o.bind fun i=>(ρ[i]?).join
theorem Bx {α:Type}{o:Option (Option α)}{x:α}(h:o.join=some x):o=some (some x):=by
 cases o with
 | none=>cases h
 | some o=>cases o with
  | none=>cases h
  | some y=>cases h;rfl
theorem iT {α:Type}{cap:List (Option Nat)}{l:List (Option α)}{i:Nat}{x:α}(h:(cap.map fun o=>o.bind fun i=>(l[i]?).join)[i]?=some (some x)):∃ j,cap[i]?=some (some j)∧l[j]?=some (some x):=by
 rw[List.getElem?_map] at h
 cases e:cap[i]? with
 | none=>rw[e] at h;cases h
 | some o =>
  rw[e] at h
  cases o with
  | none=>cases h
  | some j=>exact⟨j,rfl,Bx (by simpa using h)⟩
theorem EnvD.cap {K:Frag}{H0 Φ H:Hp}{σ:St}{ρ:bP}{cap:List (Option Nat)}(E:EnvD K H0 Φ H σ ρ)(inj:∀ i j k:Nat,cap[i]?=some (some k)→cap[j]?=some (some k)→i=j):EnvD K H0 Φ H (dj cap σ) (dN cap ρ):=by
 have st:∀ {i j:Nat} {v:V},cap[i]?=some (some j)→σ[j]?=some (some v)→(dj cap σ)[i]?=some (some v):=fun hc hs=>by
  unfold dj
  rw[List.getElem?_map,hc]
  simp [hs]
 have ts:∀ {i j:Nat} {v:V},cap[i]?=some (some j)→(dj cap σ)[i]?=some (some v)→σ[j]?=some (some v):=fun hc hs=>by
  obtain⟨j',h1,h2⟩:=iT hs
  rw[hc] at h1
  cases h1
  exact h2
 refine⟨E.fz,by unfold dj dN;simp,fun i d h=>?_,fun i ds h=>?_,fun i j ds es p hi hj si sj=>?_,E.tb⟩
 ·obtain⟨j,h1,h2⟩:=iT h
  obtain⟨v,e,r⟩:=E.sl j d h2
  exact⟨v,st h1 e,r⟩
 ·obtain⟨j,h1,h2⟩:=iT h
  obtain⟨p,vs,e,q⟩:=E.ow j ds h2
  exact⟨p,vs,st h1 e,q⟩
 ·obtain⟨i',h1,h2⟩:=iT hi
  obtain⟨j',h3,h4⟩:=iT hj
  have:=E.ne i' j' ds es p h2 h4 (ts h1 si) (ts h3 sj)
  subst this
  exact inj i j i' h1 h3
structure GK (k:Nat)(g:cX):Prop where p:∀ d ρ R,g d ρ R→g d ρ fun ρ1=>ρ1.length=ρ.length∧ρ1.drop k=ρ.drop k∧R ρ1
structure GKs (k:Nat)(g:eD):Prop where p:∀ ds ρ R,g ds ρ R→g ds ρ fun ρ1=>ρ1.length=ρ.length∧ρ1.drop k=ρ.drop k∧R ρ1
theorem Ar {k i:Nat}(h:i<k):GK k (mG i):=⟨fun d ρ R r=>⟨by simp,by rw[List.drop_set_of_lt h],r⟩⟩
theorem DA {k:Nat}:GKs k me:=⟨fun ds ρ R r=>by
 cases ds with
 | nil=>exact⟨rfl,rfl,r⟩
 | cons=>exact r⟩
theorem An {t:cX}{u:eD}(ht:∀ d ρ R R',(∀ x,R x→R' x)→t d ρ R→t d ρ R')(hu:∀ d ρ R R',(∀ x,R x→R' x)→u d ρ R→u d ρ R'):∀ d ρ R R',(∀ x,R x→R' x)→kr t u d ρ R→kr t u d ρ R':=by
 intro ds ρ R R' h r
 cases ds with
 | nil=>exact r
 | cons d ds=>exact ht d ρ _ _ (fun x hx=>hu ds x _ _ h hx) r
structure GM (k:Nat)(g:cX):Prop where
 k:GK k g
 m:∀ d ρ R R',(∀ x,R x→R' x)→g d ρ R→g d ρ R'
structure GMs (k:Nat)(g:eD):Prop where
 k:GKs k g
 m:∀ d ρ R R',(∀ x,R x→R' x)→g d ρ R→g d ρ R'
theorem bf {k i:Nat}(h:i<k):GM k (mG i):=⟨Ar h,fun d ρ R R' h r=>h _ r⟩
theorem fi {k:Nat}:GMs k me:=⟨DA,fun ds ρ R R' h r=>by
 cases ds with
 | nil=>exact h _ r
 | cons=>exact r⟩
theorem cY {k:Nat}{t:cX}{u:eD}(h1:GM k t)(h2:GMs k u):GMs k (kr t u):=⟨⟨fun ds ρ R r=>by
 cases ds with
 | nil=>exact r
 | cons d ds =>
  have r1:t d ρ fun ρ'=>u ds ρ' R:=r
  refine h1.m _ _ _ _ (fun ρ1 q=>?_) (h1.k.p d ρ _ r1)
  exact h2.m _ _ _ _ (fun ρ2 q2=>⟨q2.1.trans q.1,q2.2.1.trans q.2.1,q2.2.2⟩) (h2.k.p ds ρ1 R q.2.2)⟩,An h1.m h2.m⟩
def lU:cz:=fun _ R=>R true
structure PIfD (K:Frag)(X:Cx)(ifs:List Expr)(t:cz):Prop where p:X.K=K→ig X ifs (lT K t)
theorem l0 {K:Frag}{X:Cx}:PIfD K X [] lU:=⟨fun _ pins s σ H Q I hq0=>by obtain⟨H0,Φ,ρ,R,E,t,k⟩:=hq0;exact zu pins s σ H Q I (k true Φ H t (.refl E.fz))⟩
theorem tF {K:Frag}{X:Cx}{c:Expr}{t:cz}(h:PTD K X c t):PIfD K X [c] t:=⟨fun hK=>AM (h.pt hK)⟩
theorem EnvD.side {K:Frag}{H0 Φ H:Hp}{σ:St}{ρ:bP}{p:Addr}{o u:HO}(E:EnvD K H0 Φ H σ ρ)(h0:H0 p=some u)(hn:Φ p=none):EnvD K H0 Φ (aJ H p o) σ ρ :=
 ⟨fun b w e=>by rw[ba (cx e hn)];exact E.fz b w e,E.len,E.sl,fun i ds h=>by
  obtain⟨q,vs,e,q0,qn,qp,qr⟩:=E.ow i ds h
  exact⟨q,vs,e,q0,qn,by rw[ba fun z=>by rw[z,h0] at q0;cases q0];exact qp,qr⟩,E.ne,E.tb⟩
theorem EnvD.base {K:Frag}{H0 Φ H:Hp}{σ:St}{ρ:bP}{p:Addr}{u:HO}(E:EnvD K H0 Φ H σ ρ)(hp:H p=none):EnvD K (aJ H0 p u) Φ H σ ρ :=
 ⟨E.fz,E.len,E.sl,fun i ds h=>by
  obtain⟨q,vs,e,q0,qn,qp,qr⟩:=E.ow i ds h
  exact⟨q,vs,e,by rw[ba (cx qp hp)];exact q0,qn,qp,qr⟩,E.ne,E.tb⟩
def mF (ti:br)(cap:List (Option Nat))(g:cX)(tc:cz)(te:TD):br:=fun ρ R=>ti ρ fun ds=>ds.length<sizeLine∧∃ P:Nat→Option D→Prop,
 (∀ i d,ds[i]?=some d→g d (dN cap ρ) fun ρ1=>tc ρ1 fun b=>(b=true→te ρ1 fun y=>P i (some y))∧(b=false→P i none))∧∀ ys:List (Option D),ys.length=ds.length→(∀ i y,ys[i]?=some y→P i y)→R (ys.filterMap id)
theorem xg (ys:List (Option D))(y:D):(ys++[some y]).filterMap id=ys.filterMap id++[y]:=by simp
theorem zx (ys:List (Option D)):(ys++[none]).filterMap id=ys.filterMap id:=by simp
theorem CW (ys:List (Option D)):(ys.filterMap id).length≤ys.length:=List.length_filterMap_le _ _
theorem qG {α:Type}{ys:List α}{y:α}{P:Nat→α→Prop}{n:Nat}(hl:ys.length=n)(h:∀ i z,ys[i]?=some z→P i z)(hy:P n y):∀ i z,(ys++[y])[i]?=some z→P i z:=by
 intro i z hz
 rcases Nat.lt_or_ge i ys.length with c | c
 ·rw[List.getElem?_append_left c] at hz
  exact h i z hz
 ·rw[List.getElem?_append_right c] at hz
  have h0:i - ys.length=0:=by
   rcases Nat.eq_zero_or_pos (i - ys.length) with e | e
   ·exact e
   ·rw[List.getElem?_eq_none (by simp only [List.length_cons,List.length_nil];omega)] at hz;cases hz
  rw[h0] at hz
  cases hz
  have:i=n:=by omega
  subst this
  exact hy
def eF (k:Nat)(cap:List (Option Nat)):Bool:=(cap.take k).all (·.isNone) && decide ((cap.filterMap id).Nodup)
theorem A5 {k:Nat}{cap:List (Option Nat)}(h:eF k cap=true){i:Nat}(hi:i<k){o:Option Nat}(e:cap[i]?=some o):o=none:=by
 unfold eF at h
 rw[Bool.and_eq_true] at h
 have:=List.all_eq_true.mp h.1 o (List.mem_of_getElem? (i:=i) (by rw[List.getElem?_take_of_lt hi];exact e))
 cases o with
 | none=>rfl
 | some _=>cases this
theorem sH {k:Nat}{cap:List (Option Nat)}(h:eF k cap=true):∀ i j n:Nat,cap[i]?=some (some n)→cap[j]?=some (some n)→i=j:=by
 unfold eF at h
 rw[Bool.and_eq_true] at h
 have nd:=of_decide_eq_true h.2
 clear h
 induction cap with
 | nil=>intro i j n hi;simp at hi
 | cons o cap ih =>
  intro i j n hi hj
  have nd':(cap.filterMap id).Nodup:=by
   cases o with
   | none=>simpa using nd
   | some m => have e : (some m :: cap).filterMap id = m :: cap.filterMap id := rfl
               rw [e] at nd; exact (List.nodup_cons.mp nd).2
  have one:∀ {i:Nat},o=some n→cap[i]?=some (some n)→False:=fun {i} ho hi'=>by
   subst ho
   have e:(some n::cap).filterMap id=n::cap.filterMap id:=rfl
   rw[e] at nd
   exact (List.nodup_cons.mp nd).1 (List.mem_filterMap.mpr ⟨some n,List.mem_of_getElem? hi',rfl⟩)
  cases i with
  | zero=>cases j with
   | zero=>rfl
   | succ j=>exact (one (by simpa using hi) (by simpa using hj)).elim
  | succ i=>cases j with
   | zero=>exact (one (by simpa using hj) (by simpa using hi)).elim
   | succ j=>exact congrArg Nat.succ (ih nd' i j n (by simpa using hi) (by simpa using hj))
section
variable {K:Frag}{X:Cx}{tg iter elt:Expr}{ifs:List Expr}{scope:Scope}{pos:Pos}{N':List Str}{cap:List (Option Nat)}{ti:br}{g:cX}{tc:cz}{te:TD}
theorem tL {k:Nat}(hcap:eF k cap=true)(hk:GM k g){σ:St}{H:Hp}{Q:VK}{H0 Φ:Hp}{ρ:bP}{R W:List D→Prop}(E:EnvD K H0 Φ H σ ρ)(t:ti ρ W)
  (conv:∀ ds,W ds→ds.length<sizeLine∧∃ P:Nat→Option D→Prop,(∀ i d,ds[i]?=some d→g d (dN cap ρ) fun ρ1=>tc ρ1 fun b=>(b=true→te ρ1 fun y=>P i (some y))∧(b=false→P i none))∧∀ ys:List (Option D),ys.length=ds.length→(∀ i y,ys[i]?=some y→P i y)→R (ys.filterMap id))
  (kk:∀ ds Φ' H' p vs,R ds→Gr Φ H Φ' H'→H p=none→Φ' p=none→H' p=some (.lst vs)→RpL K Φ' ds vs→Q (.ref p) H'):fV (lI K ti) cap (lG K g) (lT K tc) (lE K te) σ H Q:=by
 refine⟨H0,Φ,ρ,W,E,t,fun ds Φ1 H1 J hW g1 S Dd hD=>?_⟩
 obtain⟨hlen,P,hp,hr⟩:=conv ds hW
 have E1:=E.gr g1
 have hDΦ:Φ1 Dd=none:=g1.s.free hD
 have C0:EnvD K (aJ H0 Dd (.lst [])) Φ1 (aJ H1 Dd (.lst [])) (dj cap σ) (dN cap ρ):=((E1.base (u:=.lst []) hD).side (o:=.lst []) bw hDΦ).cap (sH hcap)
 refine⟨fun i m σ' H'=>m=ds.length - i∧i≤ds.length∧∃ (Φ':Hp) (vs:List V) (ys:List (Option D)),EnvD K (aJ H0 Dd (.lst [])) Φ' H' σ' (dN cap ρ)∧Gr Φ1 H1 Φ' H'∧Φ' Dd=none∧H' Dd=some (.lst vs)∧RpL K Φ' (ys.filterMap id) vs∧ys.length=i∧∀ j y,ys[j]?=some y→P j y,⟨ds.length,by simp,Nat.zero_le _,Φ1,[],[],C0,.fresh g1.s hD _,hDΦ,bw,.nil,rfl,fun j y hj=>by simp at hj⟩,?_⟩
 rintro i m σ' H' ⟨rfl,hi,Φ',vs,ys,Ei,gi,hDi,hDl,hrl,hyl,hy⟩
 by_cases hlt:i<ds.length
 ·refine .inr ⟨S.go i H' (gi.f.trans gi.s) hlt,fun σ2 H2=>∃ (Φ':Hp) (vs:List V) (ys:List (Option D)),EnvD K (aJ H0 Dd (.lst [])) Φ' H2 σ2 (dN cap ρ)∧Gr Φ1 H1 Φ' H2∧Φ' Dd=none∧H2 Dd=some (.lst vs)∧RpL K Φ' (ys.filterMap id) vs∧ys.length=i+1∧∀ j y,ys[j]?=some y→P j y,fun σ2 H2 h2=>⟨ds.length - (i+1),by omega,rfl,hlt,h2⟩,fun x H2 y=>?_⟩
  obtain⟨Φ3,g3,rx⟩:=S.yl i Φ' H' x H2 _ gi.f gi.s (aX hlt) y
  have E3:=Ei.gr g3
  refine⟨_,Φ3,dN cap ρ,_,_,E3,rx,hk.k.p _ _ _ (hp i _ (aX hlt)),fun ρ1 σ3 hq0 E4=>?_⟩
  obtain⟨hl1,hd1,t1⟩:=hq0
  have wk:∀ (j:Nat) x,(dN cap ρ)[j]?=some (some x)→ρ1[j]?=some (some x):=fun j x hj=>by
   rcases Nat.lt_or_ge j k with c | c
   ·obtain⟨n,h1,_⟩:=iT hj
    cases A5 hcap c h1
   ·have e1:(dN cap ρ)[j]?=((dN cap ρ).drop k)[j - k]?:=by rw[List.getElem?_drop];congr 1;omega
    have e2:ρ1[j]?=(ρ1.drop k)[j - k]?:=by rw[List.getElem?_drop];congr 1;omega
    rw[e2,hd1,← e1]
    exact hj
  have hD3:Φ3 Dd=none:=g3.o _ _ hDl hDi
  refine⟨_,Φ3,ρ1,_,E4,t1,fun b Φ4 H4 rb g4=>?_⟩
  have E5:=(E4.gr g4)
  have hDl4:=g4.h _ _ (g3.h _ _ hDl)
  have hD4:Φ4 Dd=none:=g4.o _ _ (g3.h _ _ hDl) hD3
  cases b with
  | false =>
   refine oh ?_
   refine⟨Φ4,vs,ys++[none],E5.weak hl1.symm wk,(gi.trans g3).trans g4,hD4,hDl4,?_,by rw[List.length_append,hyl];rfl,qG hyl hy (rb.2 rfl)⟩
   rw[zx]
   exact (hrl.same g3.f).same g4.f
  | true =>
   refine ng ?_
   refine⟨_,Φ4,ρ1,_,E5,rb.1 rfl,fun d Φ5 H5 v rd g5 rv=>?_⟩
   have E6:=E5.gr g5
   have hDl5:=g5.h _ _ hDl4
   have hD5:Φ5 Dd=none:=g5.o _ _ hDl4 hD4
   have gg:=((gi.trans g3).trans g4).trans g5
   refine⟨vs,hDl5,?_,Φ5,vs++[v],ys++[some d],(E6.weak hl1.symm wk).side bw hD5,?_,hD5,bw,?_,by rw[List.length_append,hyl];rfl,qG hyl hy rd⟩
   ·have:=CW ys
    rw[hrl.1]
    omega
   ·exact⟨gg.f,rD gg.h hD _,fun b u e=>by rw[ba (cx e hD5)];exact gg.s b u e,fun p u hp hn k=>gg.o p u hp hn k⟩
   ·rw[xg]
    exact (((hrl.same g3.f).same g4.f).same g5.f).append (.one rv)
 ·have e:i=ds.length:=by omega
  subst e
  exact .inl ⟨S.stop H' (gi.f.trans gi.s),kk _ Φ' H' Dd vs (hr ys hyl hy) (g1.trans gi) (g1.h.free hD) hDi hDl hrl⟩
theorem qB {k:Nat}(hcap:eF k cap=true)(hk:GM k g){σ:St}{H:Hp}{Q:VK}(h:lF K (mF ti cap g tc te) σ H Q):fV (lI K ti) cap (lG K g) (lT K tc) (lE K te) σ H Q:=by
 obtain⟨H0,Φ,ρ,R,E,t,kk⟩:=h
 exact tL hcap hk E t (fun ds h=>h) kk
theorem Ap {k:Nat}(hcalm:X.calm=true)(S:CompScope X.N X.env.scope scope N' cap)(hcap:eF k cap=true)(hk:GM k g)(hi:PID K X tg iter ti)
  (hg:∀ (cl:List (Str × Addr)) (fp:List Addr) (C:Addr) (s0:Shared) (H0:Hp),PGD K (bT X scope N' cl C s0 H0 fp) tg g) (ht:∀ (cl:List (Str × Addr)) (fp:List Addr) (C:Addr) (s0:Shared) (H0:Hp),PIfD K (bT X scope N' cl C s0 H0 fp) ifs tc)
  (he:∀ (cl:List (Str × Addr)) (fp:List Addr) (C:Addr) (s0:Shared) (H0:Hp),PD K (bT X scope N' cl C s0 H0 fp) elt te) (hs:∀ x,foldedSetIterable iter X.env x=pure x:=by intro _;rfl):PF K X (.ListComp elt [⟨tg,iter,ifs,0⟩] scope pos) (mF ti cap g tc te) :=
 ⟨fun hK=>(rH hcalm S (hi.pi hK) (fun cl fp C s0 H0=>(hg cl fp C s0 H0).pg hK) (fun cl fp C s0 H0=>(ht cl fp C s0 H0).p hK) (fun cl fp C s0 H0=>(he cl fp C s0 H0).pe hK) hs).imp fun _ _ _=>qB hcap hk⟩
def kq (ti:br)(cap:List (Option Nat))(g:cX)(te:TD):br:=fun ρ R=>ti ρ fun ds=>ds.length<sizeLine∧∃ P:Nat→D→Prop,
 (∀ i d,ds[i]?=some d→g d (dN cap ρ) fun ρ1=>te ρ1 (P i))∧∀ ys:List D,ys.length=ds.length→(∀ i y,ys[i]?=some y→P i y)→R ys
def yB (P:Nat→D→Prop):Nat→Option D→Prop:=fun i o=>match o with | some y=>P i y | none=>False
theorem uw {P:Nat→D→Prop}:∀ (ys:List (Option D)),(∀ (i:Nat) y,ys[i]?=some y→∃ z,y=some z)→∃ zs:List D,ys=zs.map some
 | [],_=>⟨[],rfl⟩
 | y::ys,h=>by
  obtain⟨z,rfl⟩:=h 0 y rfl
  obtain⟨zs,rfl⟩:=uw (P:=P) ys fun i y hy=>h (i+1) y hy
  exact⟨z::zs,rfl⟩
theorem xp {ds:List D}{ρ:bP}{R:List D→Prop}(h:ds.length<sizeLine∧∃ P:Nat→D→Prop,(∀ i d,ds[i]?=some d→g d (dN cap ρ) fun ρ1=>te ρ1 (P i))∧∀ ys:List D,ys.length=ds.length→(∀ i y,ys[i]?=some y→P i y)→R ys){k:Nat}(hk:GM k g) :
  ds.length<sizeLine∧∃ P:Nat→Option D→Prop,(∀ i d,ds[i]?=some d→g d (dN cap ρ) fun ρ1=>lU ρ1 fun b=>(b=true→te ρ1 fun y=>P i (some y))∧(b=false→P i none))∧∀ ys:List (Option D),ys.length=ds.length→(∀ i y,ys[i]?=some y→P i y)→R (ys.filterMap id):=by
 obtain⟨h0,P,h1,h2⟩:=h
 refine⟨h0,yB P,fun i d hd=>hk.m _ _ _ _ (fun ρ1 q=>⟨fun _=>q,fun e=>by cases e⟩) (h1 i d hd),fun ys hl hy=>?_⟩
 obtain⟨zs,rfl⟩:=uw (P:=P) ys fun i y e=>by
  have:=hy i y e
  cases y with
  | none=>exact this.elim
  | some z=>exact⟨z,rfl⟩
 rw[List.filterMap_map]
 have e:zs.filterMap (id ∘ some)=zs:=by simp
 rw[e]
 refine h2 zs (by simpa using hl) fun i y e=>?_
 exact hy i (some y) (by rw[List.getElem?_map,e];rfl)
theorem nT {k:Nat}(hcap:eF k cap=true)(hk:GM k g){σ:St}{H:Hp}{Q:VK}(h:lF K (kq ti cap g te) σ H Q):fV (lI K ti) cap (lG K g) (lT K lU) (lE K te) σ H Q:=by
 obtain⟨H0,Φ,ρ,R,E,t,kk⟩:=h
 exact tL hcap hk E t (fun ds h=>xp h hk) kk
theorem bH {k:Nat}(hcalm:X.calm=true)(S:CompScope X.N X.env.scope scope N' cap)(hcap:eF k cap=true)(hk:GM k g)(hi:PID K X tg iter ti)
  (hg:∀ (cl:List (Str × Addr)) (fp:List Addr) (C:Addr) (s0:Shared) (H0:Hp),PGD K (bT X scope N' cl C s0 H0 fp) tg g)
  (he:∀ (cl:List (Str × Addr)) (fp:List Addr) (C:Addr) (s0:Shared) (H0:Hp),PD K (bT X scope N' cl C s0 H0 fp) elt te) (hs:∀ x,foldedSetIterable iter X.env x=pure x:=by intro _;rfl):PF K X (.ListComp elt [⟨tg,iter,[],0⟩] scope pos) (kq ti cap g te) :=
 ⟨fun hK=>(rH hcalm S (hi.pi hK) (fun cl fp C s0 H0=>(hg cl fp C s0 H0).pg hK) (fun cl fp C s0 H0=>(l0 (K:=K)).p hK) (fun cl fp C s0 H0=>(he cl fp C s0 H0).pe hK) hs).imp fun _ _ _=>nT hcap hk⟩
end
structure EndsD where
 nx:bP→Prop
 rt:D→Prop
 bk:bP→Prop:=fun _=>False
 ct:bP→Prop:=fun _=>False
abbrev b8:=EndsD→bP→Prop
def mN (K:Frag)(Φ0 H0:Hp)(P:bP→Prop)(Q:St→Hp→Prop):Prop:=∀ ρ' Φ' H' σ',P ρ'→Gr Φ0 H0 Φ' H'→EnvD K H0 Φ' H' σ' ρ'→Q σ' H'
structure EndOk (K:Frag)(Φ0 H0:Hp)(De:EndsD)(E:Ends):Prop where
 nx:mN K Φ0 H0 De.nx E.nx
 rt:∀ d Φ' H' v,De.rt d→Gr Φ0 H0 Φ' H'→Rp K Φ' d v→E.rt v H'
 bk:mN K Φ0 H0 De.bk E.bk
 ct:mN K Φ0 H0 De.ct E.ct
def lS (K:Frag)(t:b8):TS:=fun E σ H=>∃ Φ0 H0 Φ ρ De,Gr Φ0 H0 Φ H∧EnvD K H0 Φ H σ ρ∧t De ρ∧EndOk K Φ0 H0 De E
structure PSD (K:Frag)(X:Cx)(st:Stmt)(t:b8):Prop where ps:X.K=K→PS X st (lS K t)
structure PSsD (K:Frag)(X:Cx)(st:List Stmt)(t:b8):Prop where ps:X.K=K→PSs X st (lS K t)
section
variable {K:Frag}{X:Cx}{st:Stmt}{rest:List Stmt}{t u:b8}{e a:Expr}{te:TD}{tf:br}{pos:Pos}{tt:cz}
def Ad:b8:=fun De ρ=>De.nx ρ
def xE (t u:b8):b8:=fun De ρ=>t { De with nx:=u De } ρ
def AZ (t u:b8):b8:=fun De ρ=>∃ I:bP→Prop,t { De with nx:=I } ρ∧∀ ρ',I ρ'→u De ρ'
theorem bt:PSsD K X [] Ad:=⟨fun _=>pss_nil.imp fun E σ H hq0=>by obtain⟨Φ0,H0,Φ,ρ,De,g,V,t,k⟩:=hq0;exact k.nx ρ Φ H σ t g V⟩
theorem ax (h1:PSD K X st t)(h2:PSsD K X rest u):PSsD K X (st::rest) (xE t u):=⟨fun hK=>(jA (h1.ps hK) (h2.ps hK)).imp fun E σ H hq0=>by obtain⟨Φ0,H0,Φ,ρ,De,g,V,t,k⟩:=hq0;exact
 ⟨Φ0,H0,Φ,ρ,_,g,V,t,⟨fun ρ' Φ' H' σ' t' g' V'=>⟨Φ0,H0,Φ',ρ',De,g',V',t',k⟩,k.rt,k.bk,k.ct⟩⟩⟩
theorem bz (h1:PSD K X st t)(h2:PSsD K X rest u):PSsD K X (st::rest) (AZ t u):=⟨fun hK=>(jA (h1.ps hK) (h2.ps hK)).imp fun E σ H hq0=>by obtain⟨Φ0,H0,Φ,ρ,De,g,V,⟨I,t,c⟩,k⟩:=hq0;exact
 ⟨Φ0,H0,Φ,ρ,_,g,V,t,⟨fun ρ' Φ' H' σ' t' g' V'=>⟨Φ0,H0,Φ',ρ',De,g',V',c ρ' t',k⟩,k.rt,k.bk,k.ct⟩⟩⟩
theorem az (h1:PSD K X st t):PSsD K X [st] t:=⟨fun hK=>pJ (h1.ps hK)⟩
def vT (i:Nat)(t:b8):b8:=fun De ρ=>t De (frz i ρ)
theorem gj (i:Nat)(h:PSsD K X rest t):PSsD K X rest (vT i t):=⟨fun hK=>(h.ps hK).imp fun E σ H hq0=>by
 obtain⟨Φ0,H0,Φ,ρ,De,g,V,t,k⟩:=hq0
 obtain⟨Φ',g',V'⟩:=V.frz g i
 exact⟨Φ0,H0,Φ',L2.frz i ρ,De,g',V',t,k⟩⟩
def yw:b8:=fun _ _=>False
theorem BZ:PSD K X st yw:=⟨fun _=>ps_never.imp fun E σ H hq0=>by obtain⟨Φ0,H0,Φ,ρ,De,g,V,t,k⟩:=hq0;exact t⟩
def jt (i:Nat)(te:TD):b8:=fun De ρ=>te ρ fun d=>De.nx (ρ.set i (some (.v d)))
theorem BR {i:Nat}{E:Ends}{σ:St}{H:Hp}(h:lS K (jt i te) E σ H):gO (lE K te) (gh i) E σ H:=by
 obtain⟨Φ0,H0,Φ,ρ,De,g,V,t,k⟩:=h
 exact⟨H0,Φ,ρ,_,V,t,fun d Φ1 H1 v r g1 rv=>k.nx _ Φ1 H1 _ r (g.trans g1) ((V.gr g1).set rv i)⟩
theorem aB {i:Nat}{x:Str}{pos':Pos}(hN:X.N.Nodup)(hi:X.N[i]?=some x)(hx:eO X.env.scope x)(he:PD K X e te)(hs:swapsWith e (some (.Name x pos')) pos.line X.env=pure false:=by rfl)(hf:X.fn x=true∨X.env.scope.names.lookup x=some .local:=by first | exact .inl rfl | exact .inr rfl | assumption) :
  PSD K X (.Assign [.Name x pos'] e pos) (jt i te):=⟨fun hK=>(om hN hi hx (he.pe hK) hs hf).imp fun _ _ _=>BR⟩
def kQ (i:Nat)(tf:br):b8:=fun De ρ=>tf ρ fun ds=>De.nx (ρ.set i (some (.own ds)))
theorem tj {i:Nat}{E:Ends}{σ:St}{H:Hp}(h:lS K (kQ i tf) E σ H):lF K tf σ H fun v H'=>gh i v σ H' E.nx:=by
 obtain⟨Φ0,H0,Φ,ρ,De,g,V,t,k⟩:=h
 refine⟨H0,Φ,ρ,_,V,t,fun ds Φ1 H1 p vs r g1 hp hn hl rl=>k.nx _ Φ1 H1 _ r (g.trans g1) ((V.gr g1).setOwn rl (g.h.free hp) hn hl (fun j es hj z=>?_) i)⟩
 obtain⟨q,ws,e,_,_,hq,_⟩:=V.ow j _ hj
 rw[e] at z
 cases z
 rw[hp] at hq
 cases hq
theorem gA {i:Nat}{x:Str}{pos':Pos}(hN:X.N.Nodup)(hi:X.N[i]?=some x)(hx:eO X.env.scope x)(he:PF K X e tf)(hs:swapsWith e (some (.Name x pos')) pos.line X.env=pure false:=by rfl)(hf:X.fn x=true∨X.env.scope.names.lookup x=some .local:=by first | exact .inl rfl | exact .inr rfl | assumption) :
  PSD K X (.Assign [.Name x pos'] e pos) (kQ i tf):=⟨fun hK=>(om hN hi hx (he.pe hK) hs hf).imp fun _ _ _ h=>tj h⟩
def wO (te:TD):b8:=fun De ρ=>te ρ De.rt
theorem aH (he:PD K X e te):PSD K X (.Return (some e) pos) (wO te) :=
 ⟨fun hK=>(zH (he.pe hK)).imp fun E σ H hq0=>by obtain⟨Φ0,H0,Φ,ρ,De,g,V,t,k⟩:=hq0;exact⟨H0,Φ,ρ,_,V,t,fun d Φ1 H1 v r g1 rv=>k.rt d Φ1 H1 v r (g.trans g1) rv⟩⟩
def za (c:cz)(t u:b8):b8:=fun De ρ=>c ρ fun b=>(b=true→t De ρ)∧(b=false→u De ρ)
theorem bj {c:Expr}{a b:List Stmt}(hc:PTD K X c tt)(ha:PSsD K X a t)(hb:PSsD K X b u):PSD K X (.If c a b pos) (za tt t u) :=
 ⟨fun hK=>(yD (hc.pt hK) (ha.ps hK) (hb.ps hK)).imp fun E σ H hq0=>by obtain⟨Φ0,H0,Φ,ρ,De,g,V,t,k⟩:=hq0;exact⟨H0,Φ,ρ,_,V,t,fun c Φ1 H1 r g1=>by
  cases c with
  | true=>refine ng ?_;exact⟨Φ0,H0,Φ1,ρ,De,g.trans g1,V.gr g1,r.1 rfl,k⟩
  | false=>refine oh ?_;exact⟨Φ0,H0,Φ1,ρ,De,g.trans g1,V.gr g1,r.2 rfl,k⟩⟩⟩
def uD (te:TD)(g:cX):b8:=fun De ρ=>te ρ fun d=>g d ρ De.nx
theorem fU {tg:Expr}{gd:cX}(he:PD K X e te)(hg:PGD K X tg gd)(hs:swapsWithSole [tg] e pos.line X.env=pure false:=by rfl)(hw:swappedStores [tg] e X.env=pure none:=by rfl)
  (h1:(assignEach [tg] X.env).map (·.2)=[assign tg X.env]:=by rfl):PSD K X (.Assign [tg] e pos) (uD te gd) :=
 ⟨fun hK=>(uT (he.pe hK) (hg.pg hK) hs hw h1).imp fun E σ H hq0=>by obtain⟨Φ0,H0,Φ,ρ,De,g,V,t,k⟩:=hq0;exact⟨H0,Φ,ρ,_,V,t,fun d Φ1 H1 v r g1 rv=>⟨H0,Φ1,ρ,d,_,V.gr g1,rv,r,fun ρ' σ' r' V'=>k.nx ρ' Φ1 H1 σ' r' (g.trans g1) V'⟩⟩⟩
def B4 (c:cz)(tb:b8):b8:=fun De ρ=>∃ I:Nat→bP→Prop,(∃ m,I m ρ)∧∀ m ρ',I m ρ'→c ρ' fun b=>(b=true→tb { De with nx:=fun ρ2=>∃ m',m'<m∧I m' ρ2,ct:=fun ρ2=>∃ m',m'<m∧I m' ρ2,bk:=De.nx } ρ')∧(b=false→De.nx ρ')
theorem tH {c:Expr}{body:List Stmt}{tb:b8}(hp:PassesOwn (model X.prog X.w) X.A X.env X.xe)(hc:PTD K X c tt)(hb:PSsD K X body tb):PSD K X (.While c body [] pos) (B4 tt tb) :=
 ⟨fun hK=>(w6 hp (hc.pt hK) (hb.ps hK)).imp fun E σ H hq0=>by
  obtain⟨Φ0,H0,Φ,ρ,De,g,V,⟨I,⟨m,h0⟩,hw⟩,k⟩:=hq0
  refine⟨fun m σ H=>∃ Φ' ρ',Gr Φ0 H0 Φ' H∧EnvD K H0 Φ' H σ ρ'∧I m ρ',⟨m,Φ,ρ,g,V,h0⟩,?_⟩
  rintro m σ' H' ⟨Φ',ρ',g',V',hi⟩
  refine⟨H0,Φ',ρ',_,V',hw m ρ' hi,fun b Φ1 H1 r g1=>?_⟩
  cases b with
  | false=>refine oh ?_;exact k.nx ρ' Φ1 H1 σ' (r.2 rfl) (g'.trans g1) (V'.gr g1)
  | true =>
   refine ng ?_
   refine⟨fun σ2 H2=>∃ m',m'<m∧∃ Φ' ρ',Gr Φ0 H0 Φ' H2∧EnvD K H0 Φ' H2 σ2 ρ'∧I m' ρ',fun σ2 H2 h=>h,Φ0,H0,Φ1,ρ',_,g'.trans g1,V'.gr g1,r.1 rfl,⟨?_,k.rt,k.nx,?_⟩⟩
   ·rintro ρ2 Φ2 H2 σ2 ⟨m',hm,hi'⟩ g2 V2
    exact⟨m',hm,Φ2,ρ2,g2,V2,hi'⟩
   ·rintro ρ2 Φ2 H2 σ2 ⟨m',hm,hi'⟩ g2 V2
    exact⟨m',hm,Φ2,ρ2,g2,V2,hi'⟩⟩
def CV (ti:br)(gd:cX)(tb:b8):b8:=fun De ρ=>ti ρ fun ds=>∃ I:Nat→bP→Prop,I 0 ρ∧(∀ i d ρ',ds[i]?=some d→I i ρ'→gd d ρ' fun ρ2=>tb { De with nx:=I (i+1),ct:=I (i+1),bk:=De.nx } ρ2)∧∀ ρ',I ds.length ρ'→De.nx ρ'
theorem eK {tg iter:Expr}{body:List Stmt}{ti:br}{gd:cX}{tb:b8}(hp:PassesOwn (model X.prog X.w) X.A X.env X.xe)(hc:X.calm=true)(hi:PID K X tg iter ti)(hg:PGD K X tg gd)(hb:PSsD K X body tb)
  (hs:∀ x,foldedSetIterable iter X.env x=pure x:=by intro _;rfl):PSD K X (.For tg iter body [] pos) (CV ti gd tb) :=
 ⟨fun hK=>(vW hp hc (hi.pi hK) (hg.pg hK) (hb.ps hK) hs).imp fun E σ H hq0=>by
  obtain⟨Φ0,H0,Φ,ρ,De,g,V,t,k⟩:=hq0
  refine⟨H0,Φ,ρ,_,V,t,fun ds Φ1 H1 J hq1 g1 S=>?_⟩
  obtain⟨I,h0,hst,hend⟩:=hq1
  refine⟨fun i m σ H'=>m=ds.length - i∧i≤ds.length∧∃ Φ' ρ',Gr Φ0 H0 Φ' H'∧Same Φ1 Φ'∧EnvD K H0 Φ' H' σ ρ'∧I i ρ',⟨ds.length,by simp,Nat.zero_le _,Φ1,ρ,g.trans g1,Same.refl _,V.gr g1,h0⟩,?_⟩
  rintro i m σ' H' ⟨rfl,hi,Φ',ρ',g',s',V',hI⟩
  by_cases hlt:i<ds.length
  ·refine .inr ⟨S.go i H' (s'.trans V'.fz) hlt,fun σ2 H2=>∃ Φ' ρ',Gr Φ0 H0 Φ' H2∧Same Φ1 Φ'∧EnvD K H0 Φ' H2 σ2 ρ'∧I (i+1) ρ',fun σ2 H2 h2=>⟨ds.length - (i+1),by omega,rfl,hlt,h2⟩,fun x H2 y=>?_⟩
   obtain⟨Φ3,g3,rx⟩:=S.yl i Φ' H' x H2 _ s' V'.fz (aX hlt) y
   refine⟨H0,Φ3,ρ',_,_,V'.gr g3,rx,hst i _ ρ' (aX hlt) hI,fun ρ2 σ3 t2 V3=>?_⟩
   refine⟨Φ3,H0,Φ3,ρ2,_,?_,V3,t2,⟨?_,?_,?_,?_⟩⟩
   ·exact⟨Same.refl _,(g'.trans g3).h,g3.s,fun p u hp hn _=>hn⟩
   ·intro ρ4 Φ4 H4 σ4 t4 g4 V4
    exact⟨Φ4,ρ4,(g'.trans g3).join g4,(s'.trans g3.f).trans g4.f,V4,t4⟩
   ·intro d Φ4 H4 v r g4 rv
    exact k.rt d Φ4 H4 v r ((g'.trans g3).join g4) rv
   ·intro ρ4 Φ4 H4 σ4 t4 g4 V4
    exact k.nx ρ4 Φ4 H4 σ4 t4 ((g'.trans g3).join g4) V4
   ·intro ρ4 Φ4 H4 σ4 t4 g4 V4
    exact⟨Φ4,ρ4,(g'.trans g3).join g4,(s'.trans g3.f).trans g4.f,V4,t4⟩
  ·have e:i=ds.length:=by omega
   subst e
   exact .inl ⟨S.stop H' (s'.trans V'.fz),k.nx ρ' Φ' H' σ' (hend ρ' hI) g' V'⟩⟩
end
section
variable {K:Frag}{X:Cx}{tg iter elt e a:Expr}{ifs:List Expr}{scope:Scope}{pos py spos:Pos}{N':List Str}{cap:List (Option Nat)}{ti:br}{g:cX}{tc:cz}{te ta tb:TD}{i:Nat}{y:Str}
theorem qc {tf:br}{E:Ends}{σ:St}{H:Hp}(lift:∀ {σ:St} {H:Hp} {Q:VK},lF K tf σ H Q→fV (lI K ti) cap (lG K g) (lT K tc) (lE K te) σ H Q)(h:lS K (jt i (k8 tf)) E σ H):gO (fV (lI K ti) cap (lG K g) (lT K tc) (lE K te)) (gh i) E σ H:=by
 obtain⟨Φ0,H0,Φ,ρ,De,gg,V,t,kk⟩:=h
 exact lift ⟨H0,Φ,ρ,_,V,t,fun ds Φ' H' p vs r g1 h0 hn hp rr=>kk.nx _ _ H' _ r (gg.trans (g1.freeze h0 hn hp)) ((V.gr (g1.freeze h0 hn hp)).set ((rr.same (cI hn _)).lst bw) i)⟩
theorem gy {k:Nat}(hcalm:X.calm=true)(hN:X.N.Nodup)(hy:X.N[i]?=some y)(hx:eO X.env.scope y)(S:CompScope X.N X.env.scope scope N' cap)(hcap:eF k cap=true)(hk:GM k g)(hi:PID K X tg iter ti)
  (hg:∀ (cl:List (Str × Addr)) (fp:List Addr) (C:Addr) (s0:Shared) (H0:Hp),PGD K (bT X scope N' cl C s0 H0 fp) tg g)
  (he:∀ (cl:List (Str × Addr)) (fp:List Addr) (C:Addr) (s0:Shared) (H0:Hp),PD K (bT X scope N' cl C s0 H0 fp) elt te) (hsw:swapsWith (.ListComp elt [⟨tg,iter,[],0⟩] scope pos) (some (.Name y py)) spos.line X.env=pure true:=by rfl)
  (hs:∀ x,foldedSetIterable iter X.env x=pure x:=by intro _;rfl) (hf:X.fn y=true∨X.env.scope.names.lookup y=some .local:=by first | exact .inl rfl | exact .inr rfl | assumption) :
  PSD K X (.Assign [.Name y py] (.ListComp elt [⟨tg,iter,[],0⟩] scope pos) spos) (jt i (k8 (kq ti cap g te))) :=
 ⟨fun hK=>(lY hcalm hN hy hx S (hi.pi hK) (fun cl fp C s0 H0=>(hg cl fp C s0 H0).pg hK) (fun cl fp C s0 H0=>(l0 (K:=K)).p hK) (fun cl fp C s0 H0=>(he cl fp C s0 H0).pe hK) hsw hs hf).imp fun _ _ _ h=>qc (fun q=>nT hcap hk q) h⟩
theorem vQ {k:Nat}(hcalm:X.calm=true)(hN:X.N.Nodup)(hy:X.N[i]?=some y)(hx:eO X.env.scope y)(S:CompScope X.N X.env.scope scope N' cap)(hcap:eF k cap=true)(hk:GM k g)(hi:PID K X tg iter ti)
  (hg:∀ (cl:List (Str × Addr)) (fp:List Addr) (C:Addr) (s0:Shared) (H0:Hp),PGD K (bT X scope N' cl C s0 H0 fp) tg g) (ht:∀ (cl:List (Str × Addr)) (fp:List Addr) (C:Addr) (s0:Shared) (H0:Hp),PIfD K (bT X scope N' cl C s0 H0 fp) ifs tc)
  (he:∀ (cl:List (Str × Addr)) (fp:List Addr) (C:Addr) (s0:Shared) (H0:Hp),PD K (bT X scope N' cl C s0 H0 fp) elt te) (hsw:swapsWith (.ListComp elt [⟨tg,iter,ifs,0⟩] scope pos) (some (.Name y py)) spos.line X.env=pure true:=by rfl)
  (hs:∀ x,foldedSetIterable iter X.env x=pure x:=by intro _;rfl) (hf:X.fn y=true∨X.env.scope.names.lookup y=some .local:=by first | exact .inl rfl | exact .inr rfl | assumption) :
  PSD K X (.Assign [.Name y py] (.ListComp elt [⟨tg,iter,ifs,0⟩] scope pos) spos) (jt i (k8 (mF ti cap g tc te))) :=
 ⟨fun hK=>(lY hcalm hN hy hx S (hi.pi hK) (fun cl fp C s0 H0=>(hg cl fp C s0 H0).pg hK) (fun cl fp C s0 H0=>(ht cl fp C s0 H0).p hK) (fun cl fp C s0 H0=>(he cl fp C s0 H0).pe hK) hsw hs hf).imp fun _ _ _ h=>qc (fun q=>qB hcap hk q) h⟩
theorem zp {tf:br}{E:Ends}{σ:St}{H:Hp}(lift:∀ {σ:St} {H:Hp} {Q:VK},lF K tf σ H Q→fV (lI K ti) cap (lG K g) (lT K tc) (lE K te) σ H Q)(h:lS K (kQ i tf) E σ H):gO (fV (lI K ti) cap (lG K g) (lT K tc) (lE K te)) (gh i) E σ H:=lift (tj h)
theorem nv {k:Nat}(hcalm:X.calm=true)(hN:X.N.Nodup)(hy:X.N[i]?=some y)(hx:eO X.env.scope y)(S:CompScope X.N X.env.scope scope N' cap)(hcap:eF k cap=true)(hk:GM k g)(hi:PID K X tg iter ti)
  (hg:∀ (cl:List (Str × Addr)) (fp:List Addr) (C:Addr) (s0:Shared) (H0:Hp),PGD K (bT X scope N' cl C s0 H0 fp) tg g)
  (he:∀ (cl:List (Str × Addr)) (fp:List Addr) (C:Addr) (s0:Shared) (H0:Hp),PD K (bT X scope N' cl C s0 H0 fp) elt te) (hsw:swapsWith (.ListComp elt [⟨tg,iter,[],0⟩] scope pos) (some (.Name y py)) spos.line X.env=pure true:=by rfl)
  (hs:∀ x,foldedSetIterable iter X.env x=pure x:=by intro _;rfl) (hf:X.fn y=true∨X.env.scope.names.lookup y=some .local:=by first | exact .inl rfl | exact .inr rfl | assumption) :
  PSD K X (.Assign [.Name y py] (.ListComp elt [⟨tg,iter,[],0⟩] scope pos) spos) (kQ i (kq ti cap g te)) :=
 ⟨fun hK=>(lY hcalm hN hy hx S (hi.pi hK) (fun cl fp C s0 H0=>(hg cl fp C s0 H0).pg hK) (fun cl fp C s0 H0=>(l0 (K:=K)).p hK) (fun cl fp C s0 H0=>(he cl fp C s0 H0).pe hK) hsw hs hf).imp fun _ _ _ h=>zp (fun q=>nT hcap hk q) h⟩
theorem yP {Φ0 H0 Φ H:Hp}{p:Addr}{o:HO}(g:Gr Φ0 H0 Φ H)(h0:H0 p=none)(hn:Φ p=none):Gr Φ0 H0 Φ (aJ H p o) :=
 ⟨g.f,rD g.h h0 _,fun b u e=>by rw[ba (cx e hn)];exact g.s b u e,fun p u hp hn k=>g.o p u hp hn k⟩
def tZ (i:Nat)(te:TD):b8:=fun De ρ=>match ρ[i]? with | some (some (.ob (.lst ds)))=>te ρ fun d=>ds.length<sizeLine∧NF (ds++[d]) fun es=>De.nx (ρ.set i (some (.own es))) | _=>False
theorem fc {apos cpos npos:Pos}{x:Str}(i:Nat)(he:PD K X e te)(hfew:((backTo cpos (starEach [e] X.env)).all (fun x=>!x.1) && (backToKw cpos (keywordEach [] X.env)).all (fun x=>x.1.isSome) && decide (([e]:List Expr).length+([]:List Keyword).length+(if ([]:List Keyword).isEmpty then 0 else 1)<30))=true)
  (hse:starEach [e] X.env=(false,eval e X.env)::starEach [] X.env) (hN:X.N[i]?=some x:=by rfl) (hv:iK X.env.scope x:=by first | exact Or.inl rfl | exact Or.inr (Or.inl rfl) | exact Or.inr (Or.inr rfl)) (hd:(x == ("__debug__":Str))=false:=by decide) (hcd:(x == ("__classdict__":Str))=false:=by decide)
  (hbase:attributeBase (.Name x npos) "append" X.env (eval (.Name x npos) X.env)=eval (.Name x npos) X.env:=by rfl) (hline:(apos.endLine == cpos.line)=true:=by rfl) (hs:swapsWith (.Call (.Attribute (.Name x npos) "append" apos) [e] [] cpos) none pos.line X.env=pure false:=by rfl) :
  PSD K X (.Expr (.Call (.Attribute (.Name x npos) "append" apos) [e] [] cpos) pos) (tZ i te) :=
 ⟨fun hK=>(zj (Ao PySem.F.plainAttrs_list PySem.F.slot_list_append PySem.F.type_list_append pH (pv i hN hv hd hcd) (ik (he.pe hK) pa_nil hse) hbase hfew hline hse ak) hs).imp fun E σ H hq0=>by
  obtain⟨Φ0,H0,Φ,ρ,De,g,V,t,k⟩:=hq0
  unfold tZ at t
  split at t
  ·next ds ho =>
   obtain⟨p,vs,e1,h0,hn,hp,rl⟩:=V.owl i ds ho
   refine⟨_,e1,.inl ⟨rfl,vs,SqL.of hp⟩,H0,Φ,ρ,_,V,t,fun d Φ1 H1 v r g1 rv=>?_⟩
   have hp1:=g1.h _ _ hp
   have hn1:=g1.o _ _ hp hn
   refine⟨p,vs,v,rfl,rfl,hp1,by rw[rl.1];exact r.1,k.nx _ Φ1 _ σ r.2.get (yP (g.trans g1) h0 hn1) ((V.gr g1).put ho e1 ((rl.same g1.f).append (.one rv)))⟩
  ·exact t.elim⟩
end
def gF (N:List Str)(ds:List D):bP:=ds.map (fun d=>some (.v d))++List.replicate (N.length - ds.length) none
theorem tQ {K:Frag}{Φ H:Hp}{N:List Str}{ds:List D}{vs:List V}(sm:Same Φ H)(tb:TabF K Φ)(r:RpL K Φ ds vs):EnvD K H Φ H (start N vs) (gF N ds):=by
 have own:∀ {i:Nat} {x:Sl},(gF N ds)[i]?=some (some x)→∃ d,ds[i]?=some d∧x=.v d:=fun {i x} h=>by
  unfold gF at h
  rcases Nat.lt_or_ge i (ds.map fun d=>some (Sl.v d)).length with c | c
  ·rw[List.getElem?_append_left c,List.getElem?_map] at h
   cases e:ds[i]? with
   | none=>rw[e] at h;cases h
   | some d=>rw[e] at h;cases h;exact⟨d,rfl,rfl⟩
  ·rw[List.getElem?_append_right c,List.getElem?_replicate] at h
   split at h
   ·cases h
   ·cases h
 refine⟨sm,by unfold start gF;simp [r.1],fun i d h=>?_,fun i es h=>?_,fun i j es fs p h=>?_,tb⟩
 ·obtain⟨d',h1,h2⟩:=own h
  cases h2
  obtain⟨v,hv,rv⟩:=r.at h1
  refine⟨v,?_,rv⟩
  unfold start
  rw[List.getElem?_append_left (by rw[List.length_map];exact c9 hv),List.getElem?_map,hv]
  rfl
 ·obtain⟨d',h1,h2⟩:=own h
  cases h2
 ·obtain⟨d',h1,h2⟩:=own h
  cases h2
section
variable {P:Program}{w:World}{K:Frag}{mg:Str→Option Value}{base:Heap}
theorem Fun.okD {x qual:Str}{st:Stmt}{f:Addr}{fd:FuncData}{N ps:List Str}{k:Nat}{sp:aR}(F:Fun K x qual st f fd)(S:FnScope N ps (ay st))(len:∀ ds R,sp ds R→ds.length=ps.length)
  (hbody:∀ (cdv:Value) (A:Around) (outer:List Env) (s:Shared) (H:Hp) (E:XK) (ds:List D) (R:D→Prop),Room k (A.deeper (envOfC qual (ay st) s.heap.objs.size f cdv))→sp ds R →
   ∃ t,PSsD K (fH aS P w K mg base N qual (ay st) f cdv A outer s H E).nox (eg st) t∧t { nx:=fun _=>R .non,rt:=R } (gF N ds)):FnOk P w K mg base aS (k+1) f fd ps (aZ K sp):=by
 refine F.ok S (fun vs H Q E ⟨Φ,ds,R,sm,tb,rl,h,_⟩=>by rw[rl.1];exact len ds R h) (fun cdv A outer s H vs Q E hr ⟨Φ,ds,R,sm,tb,rl,h,kk⟩=>?_)
 obtain⟨t,ht,hq⟩:=hbody cdv A outer s H E ds R hr h
 exact⟨lS K t,ht.ps rfl,Φ,H,Φ,gF N ds,_,.refl sm,tQ sm tb rl,hq,⟨fun ρ' Φ' H' σ' r g V=>kk .non Φ' H' .non r g .non,kk,fun _ _ _ _ h=>h.elim,fun _ _ _ _ h=>h.elim⟩⟩
end
def tW (K:Frag)(b:Bool)(a:Addr):It:=match b with | true=>mY K a | false=>mm K a
section
variable {K:Frag}{X:Cx}{tg e a b:Expr}{es:List Expr}{pos p tp:Pos}{t ta tb:TD}{tl:br}
theorem wX {l:Expr}{tl:TE}(hK:X.K=K)(hl:PE X l tl):PI X tg l (fun σ H R=>tl σ H fun x H1=>∃ q a,x=.ref a∧(∃ xs,SqB K q H1 a xs)∧R (tW K q a) H1):=by
 subst hK
 intro pins s σ H R I h
 refine aT (hl pins s σ H _ I h) fun v s1 hq0=>?_
 obtain⟨x,H1,I1,r1,q1⟩:=hq0
 obtain⟨bb,a,e,⟨xs,hq⟩,q⟩:=q1
 subst e
 cases r1
 have fp:∀ b∈[s1.heap.objs.size],FpOk X pins H1 b:=fun b hb=>by
  have e:b=s1.heap.objs.size:=by simpa using hb
  subst e
  exact I1.fpOk (Nat.le_refl _) (I1.hok.fresh (Nat.le_refl _))
 cases bb with
 | true =>
  obtain⟨its,rv,p,hz⟩:=I1.list hq
  refine wpAny_pyIter_list p.isList ?_
  exact⟨s1.heap.objs.size,[s1.heap.objs.size],_,_,H1,rfl,I1.kept (t':=s1.toks) fun b o e=>Heap.get?_push_of_some _ e,vv a _,⟨_,Heap.get?_push_size _ rfl,rfl,rfl⟩,fp,q⟩
 | false =>
  obtain⟨its,rv,p,hz⟩:=I1.tuple hq
  refine wpAny_pyIter_tuple (show s1.heap.IsTuple a its.toArray from p) ?_
  exact⟨s1.heap.objs.size,[s1.heap.objs.size],_,_,H1,rfl,I1.kept (t':=s1.toks) fun b o e=>Heap.get?_push_of_some _ e,Bn a _,⟨_,Heap.get?_push_size _ rfl,rfl,rfl⟩,fp,q⟩
theorem Cz {Φ:Hp}{ds:List D}{vs:List V}{a:Addr}{q:Bool}(h:SqB K q Φ a vs)(r:RpL K Φ ds vs):SteadyD K (tW K q a) Φ ds:=by
 cases q with
 | true=>exact Cj h r
 | false=>exact xY h r
def vB (t:TD):br:=fun ρ R=>t ρ fun d=>match d with | .lst ds=>R ds | .tup ds=>R ds | .fzl ds=>R ds | _=>False
theorem CC {d:D}{R:List D→Prop}(h:match d with | .lst ds=>R ds | .tup ds=>R ds | .fzl ds=>R ds | _=>False):∃ ds,fA d=some ds∧R ds:=by
 cases d with
 | lst ds=>exact⟨ds,rfl,h⟩
 | tup ds=>exact⟨ds,rfl,h⟩
 | fzl ds=>exact⟨ds,rfl,h⟩
 | _=>exact h.elim
theorem bO (h:PD K X e t):PID K X tg e (vB t):=⟨fun hK=>(wX hK (h.pe hK)).imp fun σ H R' hq0=>by obtain⟨H0,Φ,ρ,R,E,t,k⟩:=hq0;exact⟨H0,Φ,ρ,_,E,t,fun d Φ1 H1 v r g rv=>by
 obtain⟨ds,e1,r⟩:=CC r
 obtain⟨q,a,vs,rfl,h1,h2⟩:=rv.seq e1
 exact⟨q,a,rfl,⟨vs,SqB.same g.s h1⟩,k _ Φ1 H1 _ r g (Cz h1 h2)⟩⟩⟩
theorem CQ {a:Expr}{ta:TA}{es:List Expr}{k:Nat}(hK:X.K=K)(hg:Gl X "enumerate")(hm:X.mg "enumerate"=none)(ha:PA X [a] ta)(hs:starEach [a] X.env=[(false,eval a X.env)]) :
  PI X (.Tuple es k tp) (.Call (.Name "enumerate" p) [a] [] pos) (fun σ H R=>ta σ H fun vs H1=>∃ b a xs,vs=[.ref a]∧SqB K b H1 a xs∧R (ke K b a) H1):=by
 subst hK
 intro pins s σ H R I h
 refine Call_ (gC I hg hm boot_enumerate (PyProof.Rows.callWith_type1 (aT (ha pos pins s σ H _ I h) fun us s1 hq0=>?_) hs rfl))
 obtain⟨vs,H1,I1,r1,q1⟩:=hq0
 obtain⟨b,l,xs,e,hq,q⟩:=q1
 subst e
 cases r1 with
 | cons r rr =>
  cases rr
  cases r
  obtain⟨its,rv,p,hz⟩:=I1.sqb hq
  refine yW p fun h' he hi hsz hk=>wpAny_pyIter_enum he ?_
  have I2:Inv X pins σ H1 { s1 with heap:=h' }:=I1.kept (t':=s1.toks) hk
  have fr:∀ c,s1.heap.objs.size≤c→FpOk X pins H1 c:=fun c hc=>I1.fpOk hc (I1.hok.fresh hc)
  exact⟨s1.heap.objs.size+1,[s1.heap.objs.size+1,s1.heap.objs.size],_,_,H1,rfl,I2,wc b l _ _ (Nat.succ_ne_self _),⟨⟨_,he⟩,hi⟩,fun c hc=>by
   rcases List.mem_cons.mp hc with rfl | hc
   ·exact fr _ (Nat.le_succ _)
   ·rw[List.mem_singleton.mp hc];exact fr _ (Nat.le_refl _),q⟩
theorem Dx {a b:Expr}{ta:TA}{es:List Expr}{k:Nat}(hK:X.K=K)(hg:Gl X "zip")(hm:X.mg "zip"=none)(ha:PA X [a,b] ta)(hs:starEach [a,b] X.env=[(false,eval a X.env),(false,eval b X.env)])(hs2:starEach [b] X.env=[(false,eval b X.env)]) :
  PI X (.Tuple es k tp) (.Call (.Name "zip" p) [a,b] [] pos) (fun σ H R=>ta σ H fun vs H1=>∃ b1 b2 a1 a2 xs ys,vs=[.ref a1,.ref a2]∧SqB K b1 H1 a1 xs∧SqB K b2 H1 a2 ys∧R (l8 K b1 a1 b2 a2) H1):=by
 subst hK
 intro pins s σ H R I h
 refine Call_ (gC I hg hm boot_zip (PyProof.Rows.callWith_type1 (aT (ha pos pins s σ H _ I h) fun us s1 ⟨vs,H1,I1,r1,q1⟩=>?_) (by rw[hs,hs2]) (by rw[hs2];rfl)))
 obtain⟨b1,b2,l1,l2,xs,ys,e,hq1,hq2,q⟩:=q1
 subst e
 cases r1 with
 | cons r rr =>
  cases rr with
  | cons r' rr =>
   cases rr
   cases r
   cases r'
   obtain⟨its1,rv1,p1,_⟩:=I1.sqb hq1
   obtain⟨its2,rv2,p2,_⟩:=I1.sqb hq2
   refine xx p1 p2 fun h' z1 z2 z3 z4 z5 hk=>wpAny_pyIter_zip z1 ?_
   have I2:Inv X pins σ H1 { s1 with heap:=h' }:=I1.kept (t':=s1.toks) hk
   have fr:∀ c,s1.heap.objs.size≤c→FpOk X pins H1 c:=fun c hc=>I1.fpOk hc (I1.hok.fresh hc)
   generalize s1.heap.objs.size=n at *
   refine⟨n+4,[n+4,n+2,n+3,n,n+1],_,_,H1,rfl,I2,Az b1 b2 l1 l2 (n+4) (n+2) (n+3) n (n+1) (y0 n),⟨z1,z2,⟨_,_,z3⟩,z4,z5⟩,fun c hc=>fr c ?_,q⟩
   simp only [List.mem_cons,List.not_mem_nil,or_false] at hc
   rcases hc with rfl | rfl | rfl | rfl | rfl
   ·exact Nat.le_add_right _ _
   ·exact Nat.le_add_right _ _
   ·exact Nat.le_add_right _ _
   ·exact Nat.le_refl _
   ·exact Nat.le_add_right _ _
def vt (t:br):br:=fun ρ R=>t ρ fun ds=>match ds with | [.lst xs]=>R (fX xs) | [.tup xs]=>R (fX xs) | [.fzl xs]=>R (fX xs) | _=>False
theorem mB {ets:List Expr}{ek:Nat}(hg:Gl X "enumerate")(hm:X.mg "enumerate"=none)(ha:PAD K X [a] tl)(hs:starEach [a] X.env=[(false,eval a X.env)]:=by rfl):PID K X (.Tuple ets ek tp) (.Call (.Name "enumerate" p) [a] [] pos) (vt tl) :=
 ⟨fun hK=>(CQ hK hg hm (ha.pa hK) hs).imp fun σ H R' hq0=>by obtain⟨H0,Φ,ρ,R,E,t,k⟩:=hq0;exact⟨H0,Φ,ρ,_,E,t,fun ds Φ1 H1 vs r g rv _=>by
  have fin:∀ {d:D} {xs:List D},RpL K Φ1 [d] vs→fA d=some xs→R (fX xs)→∃ b a xs,vs=[.ref a]∧SqB K b H1 a xs∧R' (ke K b a) H1:=fun {d xs} rv hx r=>by
   obtain⟨v,rfl,r1⟩:=rv.one_inv
   obtain⟨q,a,ws,rfl,h1,h2⟩:=r1.seq hx
   exact⟨q,a,ws,rfl,SqB.same g.s h1,k _ Φ1 H1 _ r g (zQ h1 h2)⟩
  match ds,r with
  | [.lst xs],r=>exact fin rv rfl r
  | [.tup xs],r=>exact fin rv rfl r
  | [.fzl xs],r=>exact fin rv rfl r⟩⟩
def xm (t:br):br:=fun ρ R=>t ρ fun ds=>match ds with | [d,e]=>∃ xs ys,fA d=some xs∧fA e=some ys∧R (e7 xs ys) | _=>False
theorem fN {ets:List Expr}{ek:Nat}(hg:Gl X "zip")(hm:X.mg "zip"=none)(ha:PAD K X [a,b] tl)(hs:starEach [a,b] X.env=[(false,eval a X.env),(false,eval b X.env)]:=by rfl)(hs2:starEach [b] X.env=[(false,eval b X.env)]:=by rfl):PID K X (.Tuple ets ek tp) (.Call (.Name "zip" p) [a,b] [] pos) (xm tl) :=
 ⟨fun hK=>(Dx hK hg hm (ha.pa hK) hs hs2).imp fun σ H R' hq0=>by obtain⟨H0,Φ,ρ,R,E,t,k⟩:=hq0;exact⟨H0,Φ,ρ,_,E,t,fun ds Φ1 H1 vs r g rv _=>by
  match ds,r with
  | [d,e],⟨xs,ys,hx,hy,r⟩ =>
   obtain⟨v,w,rfl,r1,r2⟩:=rv.two_inv
   obtain⟨q1,a1,ws,rfl,h1,h2⟩:=r1.seq hx
   obtain⟨q2,a2,us,rfl,h3,h4⟩:=r2.seq hy
   exact⟨q1,q2,a1,a2,ws,us,rfl,SqB.same g.s h1,SqB.same g.s h3,k _ Φ1 H1 _ r g (BV h1 h3 h2 h4)⟩⟩⟩
variable {gs:eD}
def pQ (n:Nat)(t:eD):cX:=fun d ρ R=>match d with | .tup ds=>ds.length=n∧t ds ρ R | .lst ds=>ds.length=n∧t ds ρ R | _=>False
theorem PG.or {tg:Expr}{t t':TG}(h:PG X tg t)(h':PG X tg t'):PG X tg (fun v σ H Q=>t v σ H Q∨t' v σ H Q):=by
 intro pins s σ H v u Q I r hw
 rcases hw with hw | hw
 ·exact h pins s σ H v u Q I r hw
 ·exact h' pins s σ H v u Q I r hw
theorem cg {k n:Nat}(hc:X.calm=true)(h:PGDs K X es gs)(hn:(assignEach es X.env).length=n:=by rfl)(hst:(assignEach es X.env).findIdx? (·.1)=none:=by rfl):PGD K X (.Tuple es k pos) (pQ n gs) :=
 ⟨fun hK=>((vc hK hc (h.pg hK) hn hst).or (yo hK hc (h.pg hK) hn hst)).imp fun v σ H Q hq0=>by
  obtain⟨H0,Φ,ρ,d,R,E,r,g,k⟩:=hq0
  cases d with
  | tup ds=>cases r with | tup h1 h2 h3=>exact .inl ⟨_,_,rfl,E.fz.sqt h1,by rw[h2];exact g.1,H0,Φ,ρ,ds,R,E,⟨h2,h3⟩,g.2,k⟩
  | lst ds=>cases r with | lst h1 h2 h3=>exact .inr ⟨_,_,rfl,.of (E.fz _ _ h1),by rw[h2];exact g.1,H0,Φ,ρ,ds,R,E,⟨h2,h3⟩,g.2,k⟩
  | _=>exact g.elim⟩
theorem fo {k n:Nat}{t:eD}(h:GMs k t):GM k (pQ n t):=⟨⟨fun d ρ R r=>by
 cases d with
 | tup ds=>exact⟨r.1,h.k.p ds ρ R r.2⟩
 | lst ds=>exact⟨r.1,h.k.p ds ρ R r.2⟩
 | _=>exact r⟩,fun d ρ R R' hr r=>by
 cases d with
 | tup ds=>exact⟨r.1,h.m ds ρ R R' hr r.2⟩
 | lst ds=>exact⟨r.1,h.m ds ρ R R' hr r.2⟩
 | _=>exact r⟩
end
theorem fv {α:Type}{f:α→D}{ns:List α}{i:Nat}{x:D}(h:(ns.map f)[i]?=some x):∃ k,x=f k∧ns[i]?=some k:=by
 rw[List.getElem?_map] at h
 cases e:ns[i]? with
 | none=>rw[e] at h;cases h
 | some k=>rw[e] at h;cases h;exact⟨k,rfl,rfl⟩
theorem B3 {ns:List Int}{i:Nat}{x:D}(h:(ns.map D.int)[i]?=some x):∃ k,x=.int k∧ns[i]?=some k:=fv h
theorem bD {α:Type}{f:α→D}{ns:List α}{i:Nat}{n:α}{k:Int}(h:ns[i]?=some n)(e:k=(i:Int)):bJ (ns.map f) k=some (f n):=vN (by rw[List.getElem?_map,h];rfl) e
theorem Du {ns:List Int}{k:Int}(h0:0≤k)(h:k<(ns.length:Int)):∃ v:Int,bJ (ns.map D.int) k=some (.int v):=by
 have hk:k.toNat<ns.length:=by omega
 exact⟨_,bD (aX hk) (by omega)⟩
def p7:aR:=fun ds R=>∃ ns:List Int,ds=[.fzl (ns.map D.int)]∧ns.length≤63∧R (.bl true)
def sS (K:Frag):Sp:=fun vs H Q _=>∃ (a:Addr) (ns:List Int),vs=[.ref a]∧SqL K H a (ns.map V.int)∧ns.length≤63∧TabF K H∧∀ H',Q (.bl true) H'
theorem yC {K:Frag}:∀ vs H Q E,sS K vs H Q E→aZ K p7 vs H Q E:=by
 rintro vs H Q E ⟨a,ns,rfl,hS,hl,tb,q⟩
 refine⟨H,[.fzl (ns.map D.int)],fun d=>d=.bl true,Same.refl _,tb,.one ((RpL.ints ns).fzl hS),⟨ns,rfl,hl,rfl⟩,fun d Φ' H' v r g rv=>?_⟩
 subst r
 cases rv
 exact q _
def av (r:ao):D:=.tup [.tup (r.1.map D.int),.int r.2]
def aN (s:Int × Int):D:=.tup [.int s.1,.int s.2]
section
variable {K:Frag}{H H' Φ:Hp}{v:V}{vs:List V}
end
theorem hJ {α β:Type}(f:α→β)(xs:List α)(lo hi:Option Int):bR (xs.map f) lo hi=(bR xs lo hi).map f:=by
 unfold bR
 rw[List.length_map,List.map_take,List.map_drop]
theorem qQ (k:Nat)(zs:List Int):(List.replicate k (zs.map D.int)).flatten=((List.replicate k zs).flatten).map D.int:=by
 induction k with
 | zero=>rfl
 | succ k ih=>rw[List.replicate_succ,List.flatten_cons,ih,List.replicate_succ,List.flatten_cons,List.map_append]
theorem dz (k:Nat)(z:Int):(List.replicate k [D.int z]).flatten=(List.replicate k z).map D.int:=by
 induction k with
 | zero=>rfl
 | succ k ih=>rw[List.replicate_succ,List.flatten_cons,ih];rfl
section
variable {g:cX}{te:TD}{ρ:bP}{R:List D→Prop}
theorem Ck {ds:List D}(ws:List D)(hw:ws.length=ds.length)(hlen:ds.length<sizeLine)(Q:Nat→D→Prop)(hQ:∀ i y,Q i y→ws[i]?=some y)(hb:∀ i d,ds[i]?=some d→g d ρ fun ρ1=>te ρ1 (Q i))(k:R ws) :
  ds.length<sizeLine∧∃ P:Nat→D→Prop,(∀ i d,ds[i]?=some d→g d ρ fun ρ1=>te ρ1 (P i))∧∀ ys:List D,ys.length=ds.length→(∀ i y,ys[i]?=some y→P i y)→R ys:=by
 refine⟨hlen,Q,hb,fun ys hl hy=>?_⟩
 have:ys=ws:=by
  refine List.ext_getElem? fun i=>?_
  rcases Nat.lt_or_ge i ys.length with c | c
  ·rw[aX c,hQ i _ (hy i _ (aX c))]
  ·rw[List.getElem?_eq_none c,List.getElem?_eq_none (by omega)]
 rw[this]
 exact k
theorem eM {α:Type}{f:α→D}{xs:List α}(h:α→D)(hlen:xs.length<sizeLine)(hb:∀ x∈xs,g (f x) ρ fun ρ1=>te ρ1 fun y=>y=h x)(k:R (xs.map h)) :
  (xs.map f).length<sizeLine∧∃ P:Nat→D→Prop,(∀ i d,(xs.map f)[i]?=some d→g d ρ fun ρ1=>te ρ1 (P i))∧∀ ys:List D,ys.length=(xs.map f).length→(∀ i y,ys[i]?=some y→P i y)→R ys:=by
 refine Ck (xs.map h) (by simp) (by rw[List.length_map];exact hlen) (fun i=>match xs[i]? with | some x=>fun y=>y=h x | none=>fun _=>False) (fun i y q=>?_) (fun i d hd=>?_) k
 ·rw[List.getElem?_map]
  cases e:xs[i]? with
  | none=>rw[e] at q;exact q.elim
  | some x=>rw[e] at q;rw[q];rfl
 ·obtain⟨x,rfl,hx⟩:=fv hd
  have e:(match xs[i]? with | some x=>fun y=>y=h x | none=>fun _=>False:D→Prop)=fun y=>y=h x:=by rw[hx]
  rw[e]
  exact hb x (List.mem_of_getElem? hx)
theorem iS {lo:Int}{n:Nat}(h:Nat→D)(hlen:n<sizeLine)(hb:∀ i,i<n→g (.int (lo+(i:Nat))) ρ fun ρ1=>te ρ1 fun y=>y=h i)(k:R ((List.range n).map h)) :
  (dM lo n).length<sizeLine∧∃ P:Nat→D→Prop,(∀ i d,(dM lo n)[i]?=some d→g d ρ fun ρ1=>te ρ1 (P i))∧∀ ys:List D,ys.length=(dM lo n).length→(∀ i y,ys[i]?=some y→P i y)→R ys :=
 eM (f:=fun i:Nat=>D.int (lo+(i:Nat))) (xs:=List.range n) h (by rw[List.length_range];exact hlen) (fun x hx=>hb x (List.mem_range.mp hx)) k
theorem AY {α β:Type}(f:α→D)(h:β→D)(xs:List α)(ys:List β):e7 (xs.map f) (ys.map h)=(List.zip xs ys).map fun p=>.tup [f p.1,h p.2]:=by
 unfold e7
 rw[List.zipWith_map,List.map_zip_eq_zipWith]
 rfl
theorem fD {α β:Type}{f:α→D}{h:β→D}{xs:List α}{ys:List β}(w:α→β→D)(hlen:xs.length<sizeLine)(hb:∀ x∈xs,∀ y∈ys,g (.tup [f x,h y]) ρ fun ρ1=>te ρ1 fun z=>z=w x y)(k:R (List.zipWith w xs ys)) :
  (e7 (xs.map f) (ys.map h)).length<sizeLine∧∃ P:Nat→D→Prop,(∀ i d,(e7 (xs.map f) (ys.map h))[i]?=some d→g d ρ fun ρ1=>te ρ1 (P i))∧∀ zs:List D,zs.length=(e7 (xs.map f) (ys.map h)).length→(∀ i y,zs[i]?=some y→P i y)→R zs:=by
 rw[AY]
 refine eM (fun p:α × β=>w p.1 p.2) ?_ (fun p hp=>hb p.1 (List.of_mem_zip hp).1 p.2 (List.of_mem_zip hp).2) ?_
 ·rw[List.length_zip];omega
 ·rw[List.map_zip_eq_zipWith];exact k
end
end L2
namespace L2
theorem ff {p:Prop}(h:false=true):p:=by cases h
theorem tf {p:Prop}(h:true=false):p:=by cases h
end L2
namespace L2
theorem rP {α:Type}{xs:List α}{p:α→Bool}{b:Bool}(h:(fun bs:List Bool=>bs.any id) (xs.map p)=b):xs.any p=b:=by
 have h':(xs.map p).any id=b:=h
 rw[List.any_map] at h'
 exact h'
theorem jl {α:Type}{xs:List α}{p:α→Bool}{b:Bool}(h:(fun bs:List Bool=>bs.all id) (xs.map p)=b):xs.all p=b:=by
 have h':(xs.map p).all id=b:=h
 rw[List.all_map] at h'
 exact h'
end L2
namespace L2
theorem cN {α:Type}(f:α→D)(es:List α)(d:α):es.map f++[f d]=(es++[d]).map f:=by simp
theorem df {α:Type}(f:α→D)(es fs:List α):es.map f++fs.map f=(es++fs).map f:=by simp
end L2
namespace L2
open PySem PySem.Spec PyProof.Rows
section
variable {g:cX}{te:TD}{ρ:bP}{R:List D→Prop}
theorem du {α:Type}{f:α→D}{xs:List α}(h:α→Int)(hlen:xs.length<sizeLine)(hb:∀ x∈xs,g (f x) ρ fun ρ1=>te ρ1 fun y=>y=.int (h x))(k:R ((xs.map h).map D.int)) :
  (xs.map f).length<sizeLine∧∃ P:Nat→D→Prop,(∀ i d,(xs.map f)[i]?=some d→g d ρ fun ρ1=>te ρ1 (P i))∧∀ ys:List D,ys.length=(xs.map f).length→(∀ i y,ys[i]?=some y→P i y)→R ys :=
 eM (fun x=>D.int (h x)) hlen hb (by rw[List.map_map] at k;exact k)
end
theorem gJ {α:Type}{f:α→D}{P:α→Prop}:∀ {ys:List D},(∀ (i:Nat) y,ys[i]?=some y→∃ x,P x∧y=f x)→∃ xs:List α,ys=xs.map f∧∀ x∈xs,P x
 | [],_=>⟨[],rfl,fun x hx=>absurd hx List.not_mem_nil⟩
 | y::ys,h=>by
  obtain⟨x,hx,rfl⟩:=h 0 y rfl
  obtain⟨xs,rfl,hxs⟩:=gJ (ys:=ys) fun i y hy=>h (i+1) y hy
  exact⟨x::xs,rfl,fun z hz=>by
   rcases List.mem_cons.mp hz with rfl | hz
   ·exact hx
   ·exact hxs z hz⟩
section
variable {K:Frag}{X:Cx}{pins:List (Addr × Obj)}{σ:St}{Φ H:Hp}{s:Shared}
end
section
variable {K:Frag}{X:Cx}{a b:Expr}{ta tb:TD}{apos cpos:Pos}
end
section
variable {K:Frag}{X:Cx}{e b:Expr}{te tk:TD}{pos spos npos:Pos}{x:Str}
end
theorem ud {α:Type}:∀ xs:List α,(List.range xs.length).filterMap (fun k=>xs[k]?)=xs
 | []=>rfl
 | x::xs=>by
  rw[List.length_cons,List.range_succ_eq_map,List.filterMap_cons,List.filterMap_map]
  exact congrArg (x::·) (ud xs)
theorem xA (its:List Value):slicePick its.toArray none none (some (-1))=its.reverse.toArray:=by
 unfold slicePick
 have hb:sliceBounds none none (some (-1)) its.toArray.size=((its.length:Int) - 1,-1,-1):=by
  simp [sliceBounds]
 rw[hb]
 congr 1
 have hc:sliceRange ((its.length:Int) - 1) (-1) (-1)=(List.range its.length).map fun k=>its.length - 1 - k:=by
  unfold sliceRange
  have:(if (-1:Int)>0 then (if (its.length:Int) - 1 < -1 then (-1 - ((its.length:Int) - 1) + -1 - 1) / -1 else 0) else (if (its.length:Int) - 1 > -1 then ((its.length:Int) - 1 - -1 - -1 - 1) / (- -1) else 0)).toNat=its.length:=by
   rw[if_neg (by decide),show (- -1:Int)=1 from rfl,Int.ediv_one]
   split <;> omega
  simp only [this]
  refine List.map_congr_left fun k hk=>?_
  have:=List.mem_range.mp hk
  omega
 rw[hc,List.filterMap_map]
 have hcg:∀ (l:List Nat),(∀ k∈l,k<its.length)→l.filterMap ((fun i=>its.toArray[i]?) ∘ fun k=>its.length - 1 - k)=l.filterMap fun k=>its.reverse[k]?:=by
  intro l
  induction l with
  | nil=>intro _;rfl
  | cons k l ih =>
   intro h
   have hk:=h k List.mem_cons_self
   have e:((fun i=>its.toArray[i]?) ∘ fun k=>its.length - 1 - k) k=its.reverse[k]?:=by
    show its.toArray[its.length - 1 - k]?=its.reverse[k]?
    rw[List.getElem?_reverse hk,List.getElem?_toArray]
   rw[List.filterMap_cons,List.filterMap_cons,e,ih fun j hj=>h j (List.mem_cons_of_mem _ hj)]
 rw[hcg _ fun k hk=>List.mem_range.mp hk]
 have:=ud its.reverse
 rw[List.length_reverse] at this
 exact this
section
variable {K:Frag}{X:Cx}{e a st:Expr}{pos p2:Pos}{te:TE}
def Bo (K:Frag):V→Hp→VK→Prop:=fun x H Q=>∃ a xs,x=.ref a∧SqL K H a xs∧∀ p,H p=none→Q (.ref p) (aJ H p (.lst xs.reverse))
def p6 (K:Frag)(te:TE)(ts:TO):TE:=fun σ H Q=>te σ H fun x H1=>ts σ H1 fun o H2=>o=some (-1)∧Bo K x H2 Q
theorem vO {sp:Expr}{ts:TO}(he:PE X e te)(hst:PO X (some sp) ts):PE X (.Subscript e (.Slice none none (some sp) p2) pos) (p6 X.K te ts):=by
 intro pins s σ H Q I h
 refine Subscript_ (aT (he pins s σ H _ I h) fun v s1 hq0=>?_)
 obtain⟨x,H1,I1,r1,q1⟩:=hq0
 refine wpAny_Slice ?_
 rw[evalPart_none]
 refine wpAny_pure (wpAny_pure (aT (hst pins s1 σ H1 _ I1 q1) fun vs s2 hq1=>?_))
 obtain⟨o,H2,I2,ps,q2⟩:=hq1
 obtain⟨rfl,a,xs,rfl,hx,q⟩:=q2
 cases r1
 have I4:Inv X pins σ H2 { s2 with heap:=s2.heap.push { cls:=.type "slice",data:=.fields #[.none,.none,vs] } }:=I2.kept (t':=s2.toks) fun b ob q=>Heap.get?_push_of_some _ q
 obtain⟨its,r,ht,hz⟩:=I4.list hx
 have hlen:=r.length
 refine tail_any (ops:=[.ref a,.ref s2.heap.objs.size]) ht.isList.typeIs slot_list_getitem.lookup ?_ (by with_unfolding_all rfl)
 refine wpAny_getItem_list_slice ht.isList (Heap.IsSliceOf.new ..) .none .none ps (by simp) ?_ (by rw[List.size_toArray] <;> omega)
 rw[xA]
 refine⟨.ref _,_,I4.laid (t':=s2.toks) (o:=.lst xs.reverse) (fun b ob q=>Heap.get?_push_of_some _ q) (Nat.le_refl _) ?_,rfl,q _ (I4.hok.fresh (Nat.le_refl _))⟩
 exact⟨by rw[List.length_reverse];exact hz,_,0,r.reverse,Heap.get?_push_size _ rfl⟩
end
section
variable {K:Frag}{X:Cx}{a st:Expr}{pos p2:Pos}{ta:TD}{to:gH}
theorem Dk {te:TE}{ts:TO}(hK:X.K=K)(he:PE X a te)(hst:PO X (some st) ts):PE X (.Subscript a (.Slice none none (some st) p2) pos) (p6 K te ts):=hK ▸ vO he hst
def D7 (x:D)(R:D→Prop):Prop:=match x with
 | .lst ds=>NF ds.reverse fun zs=>R (.lst zs)
 | .fzl ds=>NF ds.reverse fun zs=>R (.lst zs)
 | _=>False
def Aw (t:TD)(to:gH):br:=fun ρ R=>t ρ fun x=>to ρ fun o=>o=some (-1)∧match x with
 | .lst ds=>NF ds.reverse R
 | .fzl ds=>NF ds.reverse R
 | _=>False
theorem zV (ha:PQ K X a ta)(hs:POD K X (some st) to):PF K X (.Subscript a (.Slice none none (some st) p2) pos) (Aw ta to) :=
 ⟨fun hK=>(Dk hK (ha.pe hK) (hs.po hK)).imp fun σ H Q hq0=>by obtain⟨H0,Φ,ρ,R,E,t,k⟩:=hq0;exact
  ⟨H0,Φ,ρ,_,E,t,fun dx Φ1 H1 x t1 g1 rx=>⟨H0,Φ1,ρ,_,E.gr g1,t1,fun o Φ2 H2 t2 g2=>by
   have g:=g1.trans g2
   have rx3:=rx.gr g2
   refine⟨t2.1,?_⟩
   have t3:=t2.2
   cases dx with
   | lst ds =>
    obtain⟨a,vs,rfl,q1,q2⟩:=rx3.lst g.s
    exact⟨a,vs,rfl,.of q1,fun p hp=>k _ _ _ p _ t3.get (g.trans (.fresh g.s hp _)) (g.h.free hp) (g.s.free hp) bw q2.reverse⟩
   | fzl ds =>
    obtain⟨a,vs,rfl,q1,q2⟩:=rx3.fzl g.s
    exact⟨a,vs,rfl,q1,fun p hp=>k _ _ _ p _ t3.get (g.trans (.fresh g.s hp _)) (g.h.free hp) (g.s.free hp) bw q2.reverse⟩
   | _=>exact t3.elim⟩⟩⟩
end
def apart (ds:List D):D→Prop
 | .int _=>True
 | .bl _=>True
 | .str _=>True
 | .non=>True
 | .lst xs=>xs≠[]∧(∀ x∈xs,∃ i,x=.int i)∧(∀ d∈ds,∀ i,d≠.int i)
 | .tup xs=>∀ x∈xs,∃ i,x=.int i
 | .fzl _=>False
 | .obj _ _=>False
def gQ (Φ:Hp)(p:Addr):Hp:=fun q=>if q=p then none else Φ q
section
variable {K:Frag}{Φ Φ0 Φ1 H H0 H1:Hp}{p:Addr}{d:D}{v:V}{ds:List D}{vs:List V}
theorem iI {q:Addr}(h:q≠p):gQ Φ p q=Φ q:=if_neg h
theorem sG:gQ Φ p p=none:=if_pos rfl
theorem uU {i:Int}(h:Rp K Φ d (.int i)):d=.int i:=by cases h;rfl
theorem v3 {a:Addr}{ws us:List V}(hp:Φ p=some (.lst us))(h:SqT K Φ a ws):SqT K (gQ Φ p) a ws:=by
 rcases h with h | h
 ·rcases h with h | ⟨o,h⟩
  ·exact .inl (.inl (by rw[iI (fun e=>by rw[e,hp] at h;cases h)];exact h))
  ·exact .inl (.inr ⟨o,by rw[iI (fun e=>by rw[e,hp] at h;cases h)];exact h⟩)
 ·exact .inr h
theorem sr {xs:List D}{ws:List V}(hx:∀ x∈xs,∃ i,x=D.int i)(h3:∀ (i:Nat) (v:V) (d:D),ws[i]?=some v→xs[i]?=some d→Rp K Φ d v)(i:Nat)(v:V)(d:D)(h:ws[i]?=some v)(e:xs[i]?=some d):Rp K Φ1 d v:=by
 obtain⟨j,rfl⟩:=hx d (List.mem_of_getElem? e)
 have:=h3 i v _ h e
 cases this
 exact .int j
theorem Rp.thaw (hp:Φ1 p=some (.lst vs))(r:RpL K Φ ds vs)(ha:apart ds d)(h:Rp K Φ1 d v):Rp K (gQ Φ1 p) d v:=by
 cases h with
 | int i=>exact .int i
 | bl i=>exact .bl i
 | str i=>exact .str i
 | non=>exact .non
 | tup h1 h2 h3=>exact .tup (v3 hp h1) h2 (sr ha h3)
 | @lst a ws xs h1 h2 h3 =>
  refine .lst (a:=a) (vs:=ws) ?_ h2 (sr ha.2.1 h3)
  rw[iI]
  ·exact h1
  intro e
  subst e
  rw[hp] at h1
  cases h1
  cases xs with
  | nil=>exact ha.1 rfl
  | cons x xs =>
   obtain⟨j,rfl⟩:=ha.2.1 _ List.mem_cons_self
   cases vs with
   | nil=>simp at h2
   | cons u vs =>
    have h4:=h3 0 u _ rfl rfl
    cases h4
    obtain⟨d0,e0,r0⟩:=r.at' (i:=0) rfl
    exact ha.2.2 d0 (List.mem_of_getElem? e0) j (uU r0)
 | fzl _ _ _=>exact ha.elim
 | obj _ _ _ _=>exact ha.elim
end
section
variable {K:Frag}{X:Cx}{e:Expr}{te:TD}{pos pos':Pos}
def nu (i j:Nat)(te:TD):b8:=fun De ρ=>match ρ[i]? with | some (some (.ob (.lst ds)))=>te (frz i ρ) fun d=>apart ds d∧De.nx (ρ.set j (some (.v d))) | _=>False
theorem AW {i j:Nat}{E:Ends}{σ:St}{H:Hp}(h:lS K (nu i j te) E σ H):gO (lE K te) (gh j) E σ H:=by
 obtain⟨Φ0,H0,Φ,ρ,De,g,V,t,k⟩:=h
 unfold nu at t
 split at t
 ·next ds ho =>
  obtain⟨p,vs,e1,h0,hn,hp,rl⟩:=V.owl i ds ho
  have s1:=cI hn (.lst vs)
  have V':EnvD K H0 (aJ Φ p (.lst vs)) H σ (frz i ρ):=by
   unfold L2.frz
   rw[ho]
   refine⟨fun b u e=>?_,by rw[List.length_set,V.len],fun j e2 h=>?_,fun j fs h=>?_,fun j k fs gs q hj hk sj sk=>?_,V.tb.same s1⟩
   ·by_cases c:b=p
    ·subst c;rw[bw] at e;cases e;exact hp
    ·rw[ba c] at e;exact V.fz b u e
   ·rcases cV h with⟨rfl,_,e3⟩ | ⟨c,h⟩
    ·cases e3
     exact⟨_,e1,(rl.same s1).lst bw⟩
    ·obtain⟨u,hu,ru⟩:=V.sl j e2 h
     exact⟨u,hu,ru.same s1⟩
   ·rcases cV h with⟨rfl,_,e3⟩ | ⟨c,h⟩
    ·cases e3
    ·obtain⟨q,us,e3,q0,qn,qp,qr⟩:=V.ow j fs h
     refine⟨q,us,e3,q0,?_,qp,qr.same s1⟩
     rw[ba fun z=>c (V.ne j i fs _ p h ho (by rw[e3,z]) e1)]
     exact qn
   ·rcases cV hj with⟨_,_,e3⟩ | ⟨_,hj⟩
    ·cases e3
    rcases cV hk with⟨_,_,e3⟩ | ⟨_,hk⟩
    ·cases e3
    exact V.ne j k fs gs q hj hk sj sk
  refine⟨H0,_,_,_,V',t,fun d Φ' H' v r g' rv=>?_⟩
  have hp':Φ' p=some (.lst vs):=g'.f _ _ bw
  have sf:Same Φ (gQ Φ' p):=fun b u e=>by
   have c:b≠p:=fun z=>by rw[z,hn] at e;cases e
   rw[iI c]
   exact g'.f b u (by rw[ba c];exact e)
  have so:∀ q (u:HO),H q=some u→Φ q=none→lr u→gQ Φ' p q=none:=fun q u hq hqn k=>by
   by_cases c:q=p
   ·subst c;exact sG
   ·rw[iI c];exact g'.o q u hq (by rw[ba c];exact hqn) k
  have gc:Gr Φ H (gQ Φ' p) H':=⟨sf,g'.h,fun b u e=>by
   by_cases c:b=p
   ·subst c;rw[sG] at e;cases e
   ·rw[iI c] at e;exact g'.s b u e,so⟩
  exact k.nx _ _ H' _ r.2 (g.trans gc) ((V.gr gc).set (rv.thaw hp' rl r.1) j)
 ·exact t.elim
theorem Bk {i j:Nat}{x:Str}(hN:X.N.Nodup)(hi:X.N[j]?=some x)(hx:eO X.env.scope x)(he:PD K X e te)(hs:swapsWith e (some (.Name x pos')) pos.line X.env=pure false:=by rfl)(hf:X.fn x=true∨X.env.scope.names.lookup x=some .local:=by first | exact .inl rfl | exact .inr rfl | assumption) :
  PSD K X (.Assign [.Name x pos'] e pos) (nu i j te):=⟨fun hK=>(om hN hi hx (he.pe hK) hs hf).imp fun _ _ _=>AW⟩
end
section
variable {K:Frag}{X:Cx}{Φ H:Hp}{a e:Expr}{es:List Expr}{ta:TD}{tl:br}{C:Addr}{fl:Str}{pos p:Pos}
theorem rn {g:Str}{d:D}:∀ {vs:List (Str × V)} {fs:List (Str × D)},vs.map (·.1)=fs.map (·.1)→(∀ (i:Nat) (v:Str × V) (e:Str × D),vs[i]?=some v→fs[i]?=some e→Rp K Φ e.2 v.2)→fs.lookup g=some d→∃ v,vs.lookup g=some v∧Rp K Φ d v
 | [],[],_,_,h=>by cases h
 | [],_::_,h,_,_=>by cases h
 | _::_,[],h,_,_=>by cases h
 | (x,v)::vs,(y,f)::fs,h,hr,hl=>by
  rw[List.map_cons,List.map_cons] at h
  obtain⟨h1,h2⟩:=List.cons.inj h
  have h1:x=y:=h1
  subst h1
  rw[List.lookup_cons] at hl ⊢
  cases c:g == x with
  | true =>
   rw[c] at hl
   cases hl
   exact⟨v,rfl,hr 0 _ _ rfl rfl⟩
  | false =>
   rw[c] at hl
   exact rn h2 (fun i u e hu he=>hr (i+1) u e hu he) hl
def xq (nm:Str)(f:Str)(t:TD):TD:=fun ρ R=>t ρ fun x=>match x with | .obj nm' fs=>nm'=nm∧∃ d,fs.lookup f=some d∧R d | _=>False
theorem BE {te:TE}(hK:X.K=K)(he:PE X a te)(hb:attributeBase a fl X.env (eval a X.env)=eval a X.env):PE X (.Attribute a fl pos) (pN K te fl):=hK ▸ wg he hb
theorem c8 {nm:Str}(c:Cls K C)(nA:NoAttr K C fl)(hC:nsIn K mainGlobals nm=some (some (.ref C)))(ha:PQ K X a ta)(hb:attributeBase a fl X.env (eval a X.env)=eval a X.env:=by rfl):PD K X (.Attribute a fl pos) (xq nm fl ta) :=
 ⟨fun hK=>(BE hK (ha.pe hK) hb).imp fun σ H Q hq0=>by obtain⟨H0,Φ,ρ,R,E,t,k⟩:=hq0;exact⟨H0,Φ,ρ,_,E,t,fun d Φ1 H1 v r g rv=>by
  cases d with
  | obj C' fs =>
   obtain⟨rfl,d,hl,r⟩:=r
   rcases rv with rv | ⟨_,_,_,e,_⟩
   ·cases rv with
    | obj h0 h1 h2 h3 =>
     rw[hC] at h0
     cases h0
     obtain⟨v,hv,rd⟩:=rn h2 h3 hl
     exact⟨_,_,_,_,v,rfl,g.s _ _ h1,c,nA,hv,k d Φ1 H1 v r g rd⟩
   ·cases e
  | _=>exact r.elim⟩⟩
def pZ (C:Addr)(ns:List Str):Sp:=fun vs H Q _=>∃ (x dx:Addr) (ws:List V),vs=.ref x::ws∧ws.length=ns.length∧H x=some (.ins C dx [])∧∀ H':Hp,(∀ b,b≠x→H' b=H b)→H' x=some (.ins C dx (ns.zip ws))→Q .non H'
def vm (nm:Str)(ns:List Str)(t:br):TD:=fun ρ R=>t ρ fun ds=>ds.length=ns.length∧R (.obj nm (ns.zip ds))
variable {CX:dQ}{k:Nat}{f:Addr}{fd:FuncData}{ps ns:List Str}{x:Str}{E:XK}
theorem nG {α:Type}:∀ {ns:List Str} {xs:List α},xs.length=ns.length→(ns.zip xs).map (·.1)=ns
 | [],[],_=>rfl
 | n::ns,y::xs,h=>by
  show n::(ns.zip xs).map (·.1)=_
  rw[nG (by simpa using h)]
theorem qw (hC:nsIn K mainGlobals x=some (some (.ref C)))(M:Mk K C f)(F:FnOk X.prog X.w X.K X.mg X.base CX k f fd ps (pZ C ns))(hr:Room (k+1) X.A)(hg:Gl X x)(hm:X.mg x=some (.ref C))(hb:Binds X.K fd ps [])(hx:h8 CX X E)
  (ha:PAD K X (e::es) tl) (he:starEach (e::es) X.env=(false,eval e X.env)::starEach es X.env) (hpl:(backTo pos (starEach es X.env)).any (·.1)=false) (hdb:(x == ("__debug__":Str))=false:=by decide) :
  PD K X (.Call (.Name x p) (e::es) [] pos) (vm x ns tl) :=
 ⟨fun hK=>(A8 (show Mk X.K C f from hK ▸ M) F hr hg hm hb .nil hx (ha.pa hK) hdb he hpl).imp fun σ H Q hq0=>by obtain⟨H0,Φ,ρ,R,E,t,k⟩:=hq0;exact⟨H0,Φ,ρ,_,E,t,fun ds Φ1 H1 vs r g rl _=>by
  intro y dy hy hdy hne
  rw[List.append_nil]
  have lv:vs.length=ns.length:=by rw[rl.1];exact r.1
  refine⟨y,dy,vs,rfl,lv,bw,fun H' hoff hon=>⟨rfl,?_⟩⟩
  have fy:=g.s.free hy
  have fdy:=g.s.free hdy
  have old:∀ b u,H1 b=some u→H' b=some u:=fun b u e=>by
   have n1:b≠y:=cx e hy
   have n2:b≠dy:=cx e hdy
   rw[hoff b n1,ba n1,ba n2]
   exact e
  have sf:Same Φ1 (aJ Φ1 y (.ins C dy (ns.zip vs))):=cI fy _
  have g2:Gr Φ1 H1 (aJ Φ1 y (.ins C dy (ns.zip vs))) H':=⟨sf,old,fun b u e=>by
   by_cases c:b=y
   ·subst c;rw[bw] at e;cases e;exact hon
   ·rw[ba c] at e;exact old b u (g.s b u e),fun q u hq hn _=>by rw[ba (cx hq hy)];exact hn⟩
  refine k _ _ H' _ r.2 (g.trans g2) (.obj (dx:=dy) hC bw ?_ fun i v d hv hd=>?_)
  ·rw[nG lv,nG r.1]
  ·rw[List.getElem?_zip_eq_some] at hv hd
   exact (rl.2 i v.2 d.2 hv.2 hd.2).same sf⟩⟩
end
section
variable {prog:Program}{w:World}{A:Around}{E:Value→Shared→Prop}{s:Shared}
theorem xF {Q:List Value→Shared→Prop}{r:Addr}{a b c:Int}{t u v:Tok}{n:Nat}(hh:A.handled=none)(hr:IsRange s.heap r a b c t u v)(hsmall:Builtin.Range.small a b c=true)
  (hn:Builtin.Range.rangeSize a b c=n) (hlen:n≤2 ^ 24)
  (hQ:∀ h' tk acc',(∀ b o',s.heap.get? b=some o'→h'.get? b=some o')→ItemsOf (fun i v=>∃ t,v=.int (a+i*c) t) acc' n→Q acc'.toList { s with heap:=h',toks:=tk }) :
  wpAny (model prog w) A (collect (.ref r)) Q E s:=by
 unfold collect
 refine wpAny_bind (wpAny_runValue (codeAny_builtin F.entry_proto_collect ?_))
 rw[Around.under_plainId F.plain_proto_collect _]
 show wpAny _ A.in1 (newList [] >>= fun l=>again (.builtin "list.__iadd__" ⟨[l,.ref r],[]⟩)) _ _ s
 refine wpAny_bind (wpAny_newObj_type ?_)
 refine wpAny_pure ⟨plainId_quiet F.plain_list_iadd _,codeAny_builtin F.entry_list_iadd ?_⟩
 rw[Around.under_plainId F.plain_list_iadd _]
 show wpAny _ A.in1 (Builtin.List.listExtendWith (.ref s.heap.objs.size) (.ref r) (.ref s.heap.objs.size)) _ _ _
 have hS:(s.heap.push { cls:=.type "list",data:=.seq ([]:List Value).toArray }).get? s.heap.objs.size=some { cls:=.type "list",data:=.seq #[] 0 }:=Heap.get?_push_size _ rfl
 have fin':∀ (h':Heap) (tk:Nat) (acc':Array Value) (c':Nat),(∀ b o,b≠s.heap.objs.size→(s.heap.push { cls:=.type "list",data:=.seq ([]:List Value).toArray }).get? b=some o→h'.get? b=some o) →
   h'.get? s.heap.objs.size=some { cls:=.type "list",dict:=none,data:=.seq acc' c',slots:=#[] }→ItemsOf (fun i v=>∃ t,v=.int (a+i*c) t) acc' n→wpAny (model prog w) A (match Value.ref s.heap.objs.size with
   | Value.ref a=>do
    match (← load a).data with
     | Data.seq xs _=>pure xs.toList
     | _=>unsupported "internal:collect"
   | _=>unsupported "internal:collect") Q E { s with heap:=h',toks:=tk }:=fun h' tk acc' c' hk hS' hacc=>by
  show wpAny _ A (load s.heap.objs.size >>= _) _ _ _
  refine wpAny_bind (wpAny_load hS' ?_)
  refine wpAny_pure ?_
  exact hQ h' tk acc' (fun b o hb=>hk b o (Nat.ne_of_lt (Heap.lt_size hb)) (Heap.get?_push_of_some _ hb)) hacc
 refine wpAny_mono (wpAny_extend_range (A:=A) (R:=fun r s'=>r=.ok (.ret (.ref s.heap.objs.size))∧∃ h' tk acc' c',s'={ s with heap:=h',toks:=tk }∧(∀ b o,b≠s.heap.objs.size→(s.heap.push { cls:=.type "list",data:=.seq ([]:List Value).toArray }).get? b=some o→h'.get? b=some o)∧h'.get? s.heap.objs.size=some { cls:=.type "list",dict:=none,data:=.seq acc' c',slots:=#[] }∧ItemsOf (fun i v=>∃ t,v=.int (a+i*c) t) acc' n)
  (s:={ s with heap:=s.heap.push { cls:=.type "list",data:=.seq ([]:List Value).toArray } }) hh (Heap.get?_push_of_some _ hr) hsmall hn hlen _ _ 0 hS fun h' tk acc' c' hk hS' hacc=>⟨rfl,h',tk,acc',c',rfl,hk,hS',hacc⟩) (fun fin s' h=>?_) (fun e s' h=>?_)
 ·cases fin with
  | done f =>
   obtain⟨e,h',tk,acc',c',rfl,hk,hS',hacc⟩:=h
   cases e
   exact fin' h' tk acc' c' hk hS' hacc
  | again c'=>exact⟨h.1,codeAny_mono h.2 fun r s'' hr=>by
    obtain⟨rfl,h',tk,acc',c',rfl,hk,hS',hacc⟩:=hr
    exact fin' h' tk acc' c' hk hS' hacc⟩
 ·exact absurd h.1 (by simp)
theorem yh {Q₁:Value→Shared→Prop}{r:Addr}{a b c:Int}{t u v:Tok}{n:Nat}(hh:A.handled=none)(hr:IsRange s.heap r a b c t u v)(hsmall:Builtin.Range.small a b c=true)
  (hn:Builtin.Range.rangeSize a b c=n) (hlen:n≤2 ^ 24)
  (h:∀ (h':Heap) (tk:Nat) (acc:Array Value),(∀ b o',s.heap.get? b=some o'→h'.get? b=some o')→ItemsOf (fun i v=>∃ t,v=.int (a+i*c) t) acc n→Q₁ (.ref h'.objs.size) { s with heap:=h'.push { cls:=.type "tuple",data:=.seq acc },toks:=tk }) :
  codeAny (model prog w) A (.call (.builtin "tuple.__new__") ⟨[.type "tuple",.ref r],[]⟩) (wants Q₁ E) s:=by
 refine codeAny_of_tree ?_
 show wpAny _ A.in1 (do checkBuiltinCall "tuple.__new__" ⟨[.type "tuple",.ref r],[]⟩;again (.builtin "tuple.__new__" ⟨[.type "tuple",.ref r],[]⟩)) _ _ s
 refine wpAny_bind (wpAny_of_eq (F.newCall_tuple_1 _) (wpAny_pure ⟨plainId_quiet F.plain_tuple_new _,codeAny_builtin F.entry_tuple_new ?_⟩))
 rw[Around.under_plainId F.plain_tuple_new _]
 have hsub:=sub_tuple_self
 have hinit:=init_tuple_lookup
 have hmh:=madeHere_tuple
 have hTI:s.TypeIs (.ref r) "range":=⟨_,hr,rfl⟩
 wp_walk using wpAny_typeOf hTI,xF (A:=A.in1) hh hr hsmall hn hlen
 intro h' tk acc hk hacc
 show wpAny _ _ (Builtin.Tuple.tupleExact acc.toList.toArray >>= fun v=>ret v) _ _ _
 unfold Builtin.Tuple.tupleExact
 refine wpAny_bind (wpAny_newObj_type ?_ (by show acc.toList.toArray.size≤sizeLine;simp only [Array.toArray_toList];rw[hacc.1,sizeLine_eq];omega))
 refine wpAny_pure ?_
 have e:acc.toList.toArray=acc:=by simp
 rw[e]
 exact h h' tk acc hk hacc
theorem wA {Q:Value→Shared→Prop}{r:Addr}{a b c:Int}{t u v:Tok}{n:Nat}(hh:A.handled=none)(hr:IsRange s.heap r a b c t u v)(hsmall:Builtin.Range.small a b c=true)
  (hn:Builtin.Range.rangeSize a b c=n) (hlen:n≤2 ^ 24)
  (hQ:∀ (h':Heap) (tk:Nat) (acc:Array Value),(∀ b o',s.heap.get? b=some o'→h'.get? b=some o')→ItemsOf (fun i v=>∃ t,v=.int (a+i*c) t) acc n→Q (.ref h'.objs.size) { s with heap:=h'.push { cls:=.type "tuple",data:=.seq acc },toks:=tk }) :
  wpAny (model prog w) A (call (.type "tuple") [.ref r]) Q E s:=by
 refine callType_codes (Q₁:=fun obj s₁=>s₁.TypeIs obj "tuple"∧Q obj s₁) F.called_tuple (F.typeCall_tuple_1 _) F.entry_object_init
  (yh hh hr hsmall hn hlen fun h' tk acc hk hacc=>⟨⟨_,Heap.get?_push_size _ rfl,rfl⟩,hQ h' tk acc hk hacc⟩) fun obj s₁ h₁=>?_
 exact⟨h₁.1,F.args_object_init_2 obj _,object_init_meets F.called_tuple.init.lookup F.called_tuple.made (by decide) prog w A.in1 _ s₁ ⟨h₁.1,rfl,h₁.2⟩⟩
end
section
variable {K:Frag}{X:Cx}{a:Expr}{pos p p2 pos2:Pos}{tl:br}
def zf (t:TA):TE:=fun σ H Q=>t σ H fun vs H1=>∃ j:Int,vs=[.int j]∧∀ r,H1 r=none→Q (.ref r) (aJ H1 r (.rng 0 j))
theorem xV {ta:TA}(hg:Gl X "range")(hm:X.mg "range"=none)(ha:PA X [a] ta)(hs:starEach [a] X.env=[(false,eval a X.env)]:=by rfl):PE X (.Call (.Name "range" p) [a] [] pos) (zf ta):=by
 intro pins s σ H R I h
 refine Call_ (gC I hg hm boot_range (PyProof.Rows.callWith_type1 (aT (ha pos pins s σ H _ I h) fun us s1 hq0=>?_) hs rfl))
 obtain⟨vs,H1,I1,r1,q1⟩:=hq0
 obtain⟨j,e,q⟩:=q1
 subst e
 cases r1 with
 | cons r rr =>
  cases rr
  obtain⟨t,rfl⟩:=r
  refine call_range_1 ⟨.ref s1.heap.objs.size,_,I1.laid (a:=s1.heap.objs.size) (o:=.rng 0 j) (t':=s1.toks+1+1) (fun b o e=>Heap.get?_push_of_some _ e) (Nat.le_refl _) ⟨_,_,_,Heap.get?_push_size _ rfl⟩,rfl,q _ (I1.hok.fresh (Nat.le_refl _))⟩
def ft (n:Nat):List V:=(List.range n).map fun i=>V.int (i:Nat)
theorem kN (n:Nat):(ft n).length=n:=by unfold ft;simp
theorem tD {α β:Type}{F:α→β→Prop}:∀ {xs:List α} {ys:List β},xs.length=ys.length→(∀ (i:Nat) x y,xs[i]?=some x→ys[i]?=some y→F x y)→Paired F xs ys
 | [],[],_,_=>.nil
 | x::xs,y::ys,hl,h=>.cons (h 0 x y rfl rfl) (tD (by simpa using hl) fun i u v hu hv=>h (i+1) u v hu hv)
theorem pO {n i:Nat}{v:V}(h:(ft n)[i]?=some v):v=.int (i:Nat):=by
 have hi:i<n:=by have:=c9 h;rwa [kN] at this
 unfold ft at h
 rw[List.getElem?_map,List.getElem?_range hi] at h
 cases h
 rfl
theorem Bf (hcalm:X.calm=true):dX X (.type "tuple") (fun xs H Q=>∃ p j,xs=[.ref p]∧H p=some (.rng 0 j)∧-(2 ^ 62)≤j∧j≤1000∧∀ l,H l=none→Q (.ref l) (aJ H l (.tup (ft j.toNat)))):=by
 intro pins s σ H xs us Q I r h
 obtain⟨p,j,rfl,hp,j0,j1,q⟩:=h
 obtain⟨u,rfl,rx⟩:=gz r
 cases rx
 obtain⟨t,u,v,ho⟩:=(show ObjOk X.prog X.w H s.heap p (.rng 0 j) from I.hok p _ hp)
 have hn:Builtin.Range.rangeSize 0 j 1=(j.toNat:Int):=by rw[rangeSize_one];split <;> omega
 refine wA (I.ok.hd hcalm) ho (small_one (by decide) (by decide) j0 (by omega)) hn (by omega) fun h' tk acc kp hacc=>?_
 have I1:Inv X pins σ H { s with heap:=h',toks:=tk }:=I.kept (t':=tk) kp
 have hv:Vals (ft j.toNat) acc.toList:=tD (by rw[kN,Array.length_toList,hacc.1]) fun i x y hx hy=>by
  rw[pO hx]
  obtain⟨t,rfl⟩:=hacc.2 i y (by simpa using hy)
  exact⟨t,by simp⟩
 have I2:Inv X pins σ (aJ H h'.objs.size (.tup (ft j.toNat))) { s with heap:=h'.push { cls:=.type "tuple",data:=.seq acc },toks:=tk } :=
  I1.laid (t':=tk) (fun b o e=>Heap.get?_push_of_some _ e) (Nat.le_refl _) (show ObjOk X.prog X.w _ _ _ (.tup (ft j.toNat)) from ⟨by rw[kN,sizeLine_eq];omega,acc.toList,hv,by simpa using IsTup.new _ _⟩)
 exact⟨.ref h'.objs.size,_,I2,rfl,q _ (I1.hok.fresh (Nat.le_refl _))⟩
def Ca (t:br):TD:=fun ρ R=>t ρ fun ds=>match ds with | [.int j]=>(-(2 ^ 62)≤j∧j≤1000)∧R (.tup (dM 0 j.toNat)) | _=>False
theorem vn {Φ:Hp}(n:Nat):RpL K Φ (dM 0 n) (ft n):=⟨by rw[kN,cw],fun i v d hv hd=>by
 rw[pO hv,(dZ hd).2,Int.zero_add]
 exact .int _⟩
theorem sN (hcalm:X.calm=true)(hg1:Gl X "tuple")(hm1:X.mg "tuple"=none)(hg2:Gl X "range")(hm2:X.mg "range"=none)(ha:PAD K X [a] tl)(hs:starEach [a] X.env=[(false,eval a X.env)]:=by rfl) :
  PD K X (.Call (.Name "tuple" p) [.Call (.Name "range" p2) [a] [] pos2] [] pos) (Ca tl) :=
 ⟨fun hK=>(nt (Bf hcalm) hg1 hm1 boot_tuple (ik (xV hg2 hm2 (ha.pa hK) hs) pa_nil aE) (by decide) (by decide) aE ak).imp fun σ H Q hq0=>by obtain⟨H0,Φ,ρ,R,E,t,k⟩:=hq0;exact⟨H0,Φ,ρ,_,E,t,fun ds Φ1 H1 vs r g rl _=>by
  match ds,r with
  | [.int j],r =>
   obtain⟨v,rfl,r1⟩:=rl.one_inv
   cases r1
   refine⟨j,rfl,fun r0 hr0=>⟨r0,j,rfl,bw,r.1.1,r.1.2,fun l hl=>?_⟩⟩
   have g1:=Gr.fresh g.s hr0 (.rng 0 j)
   have g2:=Gr.new g1.s hl (.tup (ft j.toNat))
   exact k _ _ _ _ r.2 ((g.trans g1).trans g2) ((vn _).tup (.of bw))⟩⟩
end
def ji (X:Cx)(A:Around)(scope:Scope)(N':List Str)(cl:List (Str × Addr))(f:Addr)(qual:Str)(cd:Value)(s0:Shared)(H0:Hp):Cx where
 prog:=X.prog
 w:=X.w
 K:=X.K
 mg:=X.mg
 base:=X.base
 A:=A.deeper (envX qual scope s0.heap.objs.size f cd cl)
 N:=N'
 s₀:=s0
 H₀:=H0
 env:=envX qual scope s0.heap.objs.size f cd cl
 outer:=X.stack
 stack:=envX qual scope s0.heap.objs.size f cd cl::X.stack
 ex:=[]
 fn:=fun _=>false
 calm:=true
 pn:=[]
 xe:=fun _ _=>False
section
variable {X:Cx}{A:Around}{scope:Scope}{p:Str}{r:List Str}{cap:List (Option Nat)}{cl:List (Str × Addr)}{f c':Addr}{qual name:Str}{cd pm ctv:Value}{pins:List (Addr × Obj)}{σ:St}{H:Hp}{s s1:Shared}{v:V}{u:Value}{params:Arguments}{body:Expr}{te:TE}{Q:VK}{E:Value→Shared→Prop}
theorem xc (S:CompScope X.N X.env.scope scope (p::r) (none::cap))(hpl:scope.names.lookup p=some .local)(hA:A.frames=some X.stack)(hh:A.handled=none)(I:Inv X pins σ H s)
  (hcl:∀ x c,cl.lookup x=some c→X.env.cells.lookup x=some c) (hfr:∀ x,(x,NameKind.free)∈scope.names→∃ c,cl.lookup x=some c) (hos:s1.os=s.os) (hg:s1.gens=s.gens)
  (hk:∀ b o,s.heap.get? b=some o→s1.heap.get? b=some o) (hn:s1.heap.Ns s.heap.objs.size (fun y=>List.lookup y [(p,u)])) (rv:RelV v u) :
  Inv (ji X A scope (p::r) cl f qual cd s H) [] ((dj (none::cap) σ).set 0 (some v)) H s1:=by
 have noA:∀ b:Addr,b∉(ji X A scope (p::r) cl f qual cd s H).ex:=fun b z=>absurd (show b∈([]:List Addr) from z) (by simp)
 refine⟨⟨I.ok.mod,S.kind,rfl,rfl,Nat.le_refl _,fun x y c h1 h2=>I.ok.inj x y c (hcl x c h1) (hcl y c h2),fun x hx=>?_,fun x c hx _=>absurd hx (by show ¬ (false=true);decide),fun _=>hh,Around.frames_deeper hA,.inr ⟨rfl,rfl⟩,
   fun b hb=>absurd hb (noA b),I.bs,Nat.le_trans I.ok.bsz I.sz,fun b o e hb=>absurd hb (noA b),fun b hb hf=>absurd hb (noA b),I.stack,I.stkFree⟩,
  hos,by rw[hg];exact I.bare,Un.kept hk,⟨_,hn,fun i x v' h1 h2 h3=>?_⟩,fun x c e=>?_,I.hok.fresh (Nat.le_refl _),fun x c e=>I.freeC x c (hcl x c e),fun p hp=>absurd (show p∈([]:List (Addr × Obj)) from hp) (by simp),I.hok.kept hk,?_⟩
 ·have hx:scope.names.lookup x=some .cell∨scope.names.lookup x=some .free:=hx
  rcases hx with hx | hx
  ·exact absurd rfl (S.nocell _ (PySem.mem_of_lookup hx))
  ·exact hfr x (PySem.mem_of_lookup hx)
 ·rcases cV h2 with⟨rfl,_,e1⟩ | ⟨c0,h2⟩
  ·cases e1
   have h1:(p::r)[0]?=some x:=h1
   cases h1
   exact⟨u,rv,.inl ⟨hpl,by simp⟩⟩
  ·have h2:((none::cap).map fun o=>o.bind fun i=>(σ[i]?).join)[i]?=some (some v'):=h2
   rw[List.getElem?_map] at h2
   cases ec:(none::cap)[i]? with
   | none=>rw[ec] at h2;cases h2
   | some o =>
    rw[ec] at h2
    have h2:(o.bind fun i=>(σ[i]?).join)=some v':=by simpa using h2
    cases o with
    | none=>cases h2
    | some j =>
     have h2:(σ[j]?).join=some v':=h2
     have hj:σ[j]?=some (some v'):=by
      cases ej:σ[j]? with
      | none=>rw[ej] at h2;cases h2
      | some y=>rw[ej] at h2;exact congrArg some h2
     have hz:((none::cap).zip (p::r))[i]?=some (some j,x):=by rw[List.getElem?_zip_eq_some];exact⟨ec,h1⟩
     obtain⟨q1,q2⟩:=S.at_ _ (List.mem_of_getElem? hz) j rfl
     obtain⟨mx,hnx,hl⟩:=I.loc
     have kc:=S.free _ q2 rfl
     obtain⟨u',r',lk⟩:=hl j x v' q1 hj (.inr (.inl kc))
     refine⟨u',r',?_⟩
     rcases lk with⟨k1,_⟩ | ⟨_,c,e,z⟩
     ·have:X.env.scope.names.lookup x=some .local:=k1
      rw[kc] at this;cases this
     ·obtain⟨c',hc'⟩:=hfr x q2
      have:=hcl x c' hc'
      rw[e] at this;cases this
      exact .inr ⟨.inr (S.fst _ q2 rfl),c,hc',let ⟨o,ho,hd⟩:=z;⟨o,hk c o ho,hd⟩⟩
 ·obtain⟨v,o,ho,hd⟩:=I.cell x c (hcl x c e)
  exact⟨v,o,hk c o ho,hd⟩
 ·show ((dj (none::cap) σ).set 0 (some v)).length=(p::r).length
  rw[List.length_set]
  unfold dj
  rw[List.length_map,S.len]
theorem A0 (S:CompScope X.N X.env.scope scope (p::r) (none::cap))(hpl:scope.names.lookup p=some .local)(hA:A.frames=some X.stack)(hh:A.handled=none)(hroom:A.depth<recursionLimit)(I:Inv X pins σ H s)
  (hcl:∀ x c,cl.lookup x=some c→X.env.cells.lookup x=some c) (hfr:∀ x,(x,NameKind.free)∈scope.names→∃ c,cl.lookup x=some c)
  (ho:s.heap.get? f=some (kla_obj name qual params body scope cl pm c' ctv)) (hcd:s.heap.CodeRec (.ref c') qual)
  (hbind:bindArgs (kla_fn name qual params body scope cl pm (.ref c') ctv) ⟨[u],[]⟩=pure [(p,u)]) (hco:scope.isCoroutine=false) (hgen:scope.isGenerator=false)
  (hb:PE (ji X A scope (p::r) cl f qual (.ref c') s H) body te) (rv:RelV v u) (hq:te ((dj (none::cap) σ).set 0 (some v)) H Q) :
  wpAny (model X.prog X.w) A (call (.ref f) [u]) (EP X pins σ Q) E s:=by
 refine wpAny_call (PySem.W.kla_callFunE hroom ho rfl hco hgen rfl hcd ?_)
 rw[hbind]
 refine wpAny_pure (wpAny_newFunctionEnv S.nocell (fun y hy => by have e : y = (p, u) := by simpa using hy
                                                                  subst e; exact hpl) (fun h₁ hns hsb => ⟨I.nolimit.fresh _ hsb, ?_⟩) S.kind)
 have hk₁:∀ b o,s.heap.get? b=some o→h₁.get? b=some o:=fun b o e=>hsb.extBut b o (Nat.ne_of_lt (Heap.lt_size e)) (Heap.get?_push_of_some _ e)
 show codeAny _ _ (.expr body (envX qual scope s.heap.objs.size f (.ref c') cl)) _ _
 have Iv:Inv (ji X A scope (p::r) cl f qual (.ref c') s H) [] ((dj (none::cap) σ).set 0 (some v)) H { s with heap:=h₁,toks:=s.toks+1 } :=
  xc S hpl hA hh I hcl hfr rfl rfl hk₁ hns rv
 refine PySem.W.kla_codeExpr (wpAny_mono (hb [] _ _ H Q Iv hq) (fun u' s' hq0=>?_) fun _ _ z=>z.elim)
 obtain⟨x,H',I',r',q⟩:=hq0
 exact⟨x,H',I.call' (ch:=[]) I'.os I'.base I'.hok I'.bare (fun b z=>absurd z (by simp)),r',q⟩
end
section
variable {X:Cx}{A:Around}{pins:List (Addr × Obj)}{σ:St}{H:Hp}{s:Shared}{params:Arguments}{body:Expr}{scope:Scope}{pos:Pos}{c P:Addr}{t0:Tok}{Q:Value→Shared→Prop}{E:Value→Shared→Prop}
theorem Inv.bat (I:Inv X pins σ H s){ps:Array Value}(hP:s.heap.get? P=some (tabObj ps)):mainGlobals≠P∧s.heap.BuiltinsAt X.mg P:=by
 have G:=I.mod.glob.keeps I.bk
 have hgP:mainGlobals≠P:=fun q=>by
  obtain⟨o,es,ep,e,hd,_⟩:=G
  rw[q,hP] at e;cases e;cases hd
 obtain⟨bm,ob,b1,b2,b3,b4,b5,b6⟩:=I.mod.bmod
 have b3:=I.bk _ _ b3
 refine⟨hgP,bm,ob,b1,b2,fun q=>?_,fun q=>?_,b3,b4,b5,b6⟩
 ·obtain⟨o,es,ep,e,hd,_⟩:=G
  rw[q,e] at b3;cases b3;rw[hd] at b6;cases b6
 ·rw[q,hP] at b3;cases b3;cases b4
theorem Inv.tabbed (I:Inv X pins σ H s){ps:Array Value}(hP:H P=some (.tbl ps)){c':Addr}{h':Heap}{o:Obj}{vs:Array Value}{x y:Value}{q:Str}{t t':Tok}(tk:Nat)(hps:ps=#[x,y,.str q t])
  (hx:Heap.ExtBut P s.heap h') (hge:s.heap.objs.size≤c') (ho:h'.get? c'=some o) (hd:o.data=.fields vs) (hv:vs[1]?=some (.str q t')) (hT:h'.get? P=some (tabObj #[x,y,.ref c'])) :
  Inv X pins σ (aJ H c' (.frz o (.own P))) { s with heap:=h',toks:=tk }:=by
 have hn:H c'=none:=I.hok.fresh hge
 have nP:∀ b,H b=none→b≠P:=fun b e z=>by rw[z,hP] at e;cases e
 have up:∀ b u,H b=some u→aJ H c' (.frz o (.own P)) b=some u:=fun b u e=>by rw[ba (cx e hn)];exact e
 have lt:∀ b ob,s.heap.get? b=some ob→b≠c':=fun b ob e=>Nat.ne_of_lt (Nat.lt_of_lt_of_le (Heap.lt_size e) hge)
 refine I.un ⟨fun b ob e n _ _=>hx b ob (nP b n) e,fun b ob e n _ _=>⟨ob.slots,hx b ob (nP b n) e⟩,fun b ob e n _=>by rw[ba (lt b ob e)];exact n,fun b ob e _=>?_,fun b xs e=>up _ _ e,fun b ob u e=>up _ _ e,fun b us e=>up _ _ e⟩ fun b u e=>?_
 ·by_cases hb:b=P
  ·subst hb;exact⟨_,hT⟩
  ·exact⟨ob,hx b ob hb e⟩
 ·by_cases hb:b=c'
  ·subst hb
   rw[bw] at e
   cases e
   exact⟨ho,o,ho⟩
  ·rw[ba hb] at e
   by_cases hp:b=P
   ·subst hp
    rw[hP] at e
    cases e
    exact .inr ⟨c',o,vs,x,y,q,t,t',hps,bw,hT,hd,hv⟩
   ·refine (I.hok b u e).stay (fun d w hc q=>hx d w ?_ q) (fun d q=>up _ _ q) (fun d xs q=>up _ _ q) fun d ob w q=>up _ _ q
    rcases hc with z | z
    ·rw[z];exact hp
    ·intro z2;rw[z2,hP] at z;cases z
theorem Dz (hP:H P=some (.tbl #[rawInt pos.line,rawInt pos.col,.str (X.env.qual++"<lambda>") t0]))(hcode:X.env.code=.ref c)(hC:codeHdIn X.K c P=true)(hdef:defaultsOf params X.env=([],[]))(I:Inv X pins σ H s)
  (hfree:∀ x∈scope.names,x.2=.free→X.env.scope.names.lookup x.1=some .cell)
  (h:∀ (f c':Addr) (cl:List (Str × Addr)) (pm ctv:Value) (o:Obj) (vs:Array Value) (t':Tok) (H':Hp) (s':Shared),(∀ x c,cl.lookup x=some c→X.env.cells.lookup x=some c)→(∀ x,(x,NameKind.free)∈scope.names→∃ c,cl.lookup x=some c) →
   (H'=H∨∃ b u,H b=none∧(∀ xs,u≠.lst xs)∧H'=aJ H b u)→Inv X pins σ H' s'→s'.heap.get? f=some (kla_obj "<lambda>" (X.env.qual++"<lambda>") params body scope cl pm c' ctv)→FpOk X pins H' f →
   H' c'=some (.frz o (.own P))→o.data=.fields vs→vs[1]?=some (.str (X.env.qual++"<lambda>") t')→s.heap.objs.size≤f→Q (.ref f) s') :
  wpAny (model X.prog X.w) A (eval (.Lambda params body scope pos) X.env) Q E s:=by
 have C:=PySem.W.codeHd_of_K I.kIn hC
 obtain⟨cl,hcl,h1,h2⟩:=l7 (scope:=scope) (env:=X.env) fun x hx hf=>I.ok.has x.1 (.inl (hfree x hx hf))
 have G:=I.mod.glob.keeps I.bk
 refine PySem.W.kla_eval hdef ?_
 rcases (show ObjOk X.prog X.w H s.heap P (.tbl _) from I.hok P _ hP) with hT | ⟨c',o,vs,x,y,q,t,t',e1,e2,e3,e4,e5⟩
 ·obtain⟨hgP,hb⟩:=I.bat hT
  refine PySem.W.kla_makeFunction (mg:=X.mg) hcl I.ok.glob G hcode C hT (show TriplesOk [] from trivial) rfl hgP hb fun c' ctv h' tk hx hge hlt hrec htb=>?_
  obtain⟨c2,o,vs,t',e,ho,hd,hv⟩:=hrec
  cases e
  have I1:=I.tabbed hP tk rfl hx hge ho hd hv (by simpa using htb)
  have I2:Inv X pins σ _ { s with heap:=h'.push (kla_obj "<lambda>" (X.env.qual++"<lambda>") params body scope cl ((X.mg "__name__").getD .none) c' ctv),toks:=tk }:=I1.kept (t':=tk) fun b u e=>Heap.get?_push_of_some _ e
  refine h h'.objs.size c' cl _ ctv o vs t' _ _ h1 h2 (.inr ⟨c',_,I.hok.fresh hge,fun xs z=>(by cases z),rfl⟩) I2 (Heap.get?_push_size _ rfl) (I1.fpOk (Nat.le_refl _) (I1.hok.fresh (Nat.le_refl _))) bw hd hv (Nat.le_trans hge (Nat.le_of_lt hlt))
 ·cases e1
  obtain⟨_,hb⟩:=I.bat e3
  refine PySem.W.kla_makeFunctionHit (cv:=.ref c') (mg:=X.mg) hcl I.ok.glob G hcode C e3 (show TriplesOk [.int _ _,.int _ _,_] from trivial) (by simp [codeAmong,rawInt]) hb fun ctv h' tk hk hsz=>?_
  have I1:Inv X pins σ H { s with heap:=h',toks:=tk }:=I.kept (t':=tk) hk
  have I2:Inv X pins σ H { s with heap:=h'.push (kla_obj "<lambda>" (X.env.qual++"<lambda>") params body scope cl ((X.mg "__name__").getD .none) c' ctv),toks:=tk }:=I1.kept (t':=tk) fun b u e=>Heap.get?_push_of_some _ e
  exact h h'.objs.size c' cl _ ctv o vs t' H _ h1 h2 (.inl rfl) I2 (Heap.get?_push_size _ rfl) (I1.fpOk (Nat.le_refl _) (I1.hok.fresh (Nat.le_refl _))) e2 e4 e5 hsz
end
theorem FpOk.to {X:Cx}{pins:List (Addr × Obj)}{H H':Hp}{b:Addr}(h:FpOk X pins H b)(hn:H' b=none):FpOk X pins H' b:=⟨hn,h.2⟩
section
variable {X:Cx}{pins:List (Addr × Obj)}{σ:St}{H:Hp}{xs:List V}{l S I f:Addr}{fob:Obj}{kf:Nat→Int}{G:Hp→Prop}{R:Result→Shared→Prop}{kw:List (Str × Value)}
theorem CU (hh:X.A.handled=none)(hfo:∀ v,fob.data≠.cell v)(fS:FpOk X pins H S)(fI:FpOk X pins H I)(ff:FpOk X pins H f)(nSI:S≠I)(nSf:S≠f)(nIf:I≠f)(nlI:l≠I)
  (hG:∀ H',G H'→H' l=some (.lst xs))
  (turn:∀ (i:Nat) (x:V) (u:Value) (s:Shared) (H':Hp) (pl:List (Addr × Obj)),xs[i]?=some x→RelV x u→G H'→s.heap.get? f=some fob→Inv X pl σ H' s →
   wpAny (model X.prog X.w) X.A.in1 (call (.ref f) [u]) (EP X pl σ fun v H2=>v=.int (kf i)∧G H2) (fun _ _=>False) s)
  (hR:∀ i x u s H',xs[i]?=some x→RelV x u→(∀ j,j<xs.length→kf i≤kf j∧(j<i→kf i<kf j))→G H'→Inv X pins σ H' s→R (.ok (.ret u)) s) :
  ∀ (r j i:Nat) (s:Shared) (H':Hp) (x:V) (vb:Value) (tb:Tok) (c:Nat),xs.length - (j+1)=r→j+1≤xs.length→G H'→Inv X pins σ H' s→H' S=none→H' I=none→H' f=none →
   s.heap.get? S=some (seqObj "list" #[vb,.int (kf i) tb] c)→s.heap.IsListIter I l (j+1)→s.heap.get? f=some fob→xs[i]?=some x→RelV x vb→i≤j→(∀ j',j'≤j→kf i≤kf j'∧(j'<i→kf i<kf j')) →
   codeAny (model X.prog X.w) X.A (.builtin "min.loop" ⟨[.ref I,.ref f,.ref S],kw⟩) R s:=by
 have hname:(toString "min"++toString ".loop":String)="min.loop":=by decide
 intro r
 induction r with
 | zero =>
  intro j i s H' x vb tb c hr hj hg IV nS nI nf oS hit of hx rv hij hbest
  have hin:j+1=xs.length:=by omega
  obtain⟨hz,its,n,rvs,e1,e2⟩:=IV.lstM (hG H' hg)
  have W:=Walks.list (prog:=X.prog) (w:=X.w) (A:=X.A.in1) hh I l nlI its.toArray
  have hsz:its.toArray.size=xs.length:=by rw[List.size_toArray,e1]
  refine codeAny_builtin PySem.F.entry_min_loop ?_
  rw[Around.under_plainId PySem.F.plain_min_loop _]
  show wpAny _ X.A.in1 (seqItems? (.ref S) >>= _) _ _ _
  refine wpAny_bind (wpAny_seqItems oS rfl ?_)
  show wpAny _ X.A.in1 (tryCatch (pyNext (.ref I)) _ >>= _) _ _ _
  refine wpAny_bind (wpAny_tryCatch (W.done _ _ _ ⟨by rw[hsz,← hin];exact hit,⟨_,e2,rfl,_,rfl⟩⟩ fun h' tk' hk'=>?_))
  have oS':=hk' S _ (by simpa using nSI) oS
  have s1:=Heap.SameBut.update h' S (Obj.mapSeq fun _=>(#[]:Array Value))
  show wpAny _ X.A.in1 (updateSeq S (fun _=>#[]) >>= _) _ _ _
  refine wpAny_bind ?_
  refine wpAny_updateSeq oS' rfl (wpAny_bind (wpAny_letGo (wpAny_pure ?_)))
  have I1:=IV.turnedL (ch:=[I]) (h':=h') (t':=tk') (fun b o hb e=>hk' b o hb e) (fun b hb=>by rw[List.mem_singleton.mp hb];exact fI.to nI)
  have I2:=I1.turnedL (ch:=[S]) (h':=h'.update S (Obj.mapSeq fun _=>(#[]:Array Value))) (t':=tk') (fun b o hb e=>(s1.2 b (fun z=>hb (by simp [z]))).trans e) (fun b hb=>by rw[List.mem_singleton.mp hb];exact fS.to nS)
  exact hR i x vb _ H' hx rv (fun j' hj'=>hbest j' (by omega)) hg I2
 | succ r ih =>
  intro j i s H' x vb tb c hr hj hg IV nS nI nf oS hit of hx rv hij hbest
  have hlt:j+1<xs.length:=by omega
  obtain⟨hz,its,n,rvs,e1,e2⟩:=IV.lstM (hG H' hg)
  have W:=Walks.list (prog:=X.prog) (w:=X.w) (A:=X.A.in1) hh I l nlI its.toArray
  have hsz:its.toArray.size=xs.length:=by rw[List.size_toArray,e1]
  refine codeAny_builtin PySem.F.entry_min_loop ?_
  rw[Around.under_plainId PySem.F.plain_min_loop _]
  show wpAny _ X.A.in1 (seqItems? (.ref S) >>= _) _ _ _
  refine wpAny_bind (wpAny_seqItems oS rfl ?_)
  show wpAny _ X.A.in1 (tryCatch (pyNext (.ref I)) _ >>= _) _ _ _
  refine wpAny_bind (wpAny_tryCatch (W.item (j+1) _ _ _ (by rw[hsz];exact hlt) ⟨hit,⟨_,e2,rfl,_,rfl⟩⟩ fun v h' tk' hP hst' hk'=>?_))
  have hv:its[j+1]?=some v:=by simpa using hP
  obtain⟨y,hy⟩:∃ y,xs[j+1]?=some y:=⟨_,aX hlt⟩
  obtain⟨v',hv',ry⟩:=rvs.get hy
  rw[hv] at hv'
  cases hv'
  obtain⟨oI',hoI',hoc,hod⟩:=id hst'.1
  have I1:Inv X pins σ H' { s with heap:=h',toks:=tk' }:=IV.turnedL (ch:=[I]) (h':=h') (t':=tk') (fun b o hb e=>hk' b o hb e) (fun b hb=>by rw[List.mem_singleton.mp hb];exact fI.to nI)
  have I2:Inv X (pins++[(S,seqObj "list" #[vb,.int (kf i) tb] c),(I,oI'),(f,fob)]) σ H' { s with heap:=h',toks:=tk' }:=I1.pins_of fun p hp=>by
   rcases List.mem_append.mp hp with hp | hp
   ·exact I1.pin p (List.mem_append_right _ hp)
   ·simp only [List.mem_cons,List.not_mem_nil,or_false] at hp
    rcases hp with rfl | rfl | rfl
    ·exact⟨hk' S _ (by simpa using nSI) oS,nS,fS.2.1,fS.2.2.1,fun v z=>by cases z⟩
    ·exact⟨hoI',nI,fI.2.1,fI.2.2.1,fun v z=>by rw[hod] at z;cases z⟩
    ·exact⟨hk' f _ (by simpa using nIf.symm) of,nf,ff.2.1,ff.2.2.1,hfo⟩
  show wpAny _ X.A.in1 (tryCatch (holding [v] (call (.ref f) [v])) _ >>= _) _ _ _
  refine wpAny_bind (wpAny_tryCatch (wpAny_holding (wpAny_mono (turn (j+1) y v _ H' _ hy ry hg (hk' f _ (by simpa using nIf.symm) of) I2) (fun u s2 he=>?_) fun _ _ hF=>hF.elim)))
  obtain⟨v2,H2,I3,r3,rfl,g2⟩:=he
  obtain⟨t2,rfl⟩:=(show ∃ t,u=Value.int (kf (j+1)) t from r3)
  have pS:=I3.pin (S,seqObj "list" #[vb,.int (kf i) tb] c) (List.mem_append_right _ (List.mem_append_right _ (by simp)))
  have pI:=I3.pin (I,oI') (List.mem_append_right _ (List.mem_append_right _ (by simp)))
  have pf:=I3.pin (f,fob) (List.mem_append_right _ (List.mem_append_right _ (by simp)))
  have I4:Inv X pins σ H2 s2:=I3.unpinned
  have hit2:s2.heap.IsListIter I l (j+1+1):=⟨oI',pI.1,hoc,hod⟩
  show wpAny _ X.A.in1 (tryCatch (holding [v,.int (kf (j+1)) t2] (richCompare .Lt (.int (kf (j+1)) t2) (.int (kf i) tb) >>= _)) _ >>= _) _ _ _
  refine wpAny_bind (wpAny_tryCatch (wpAny_holding (wpAny_bind (CmpOf.ints_lt (prog:=X.prog) (w:=X.w) (A:=X.A.in1) (P:=fun i v=>∃ t,v=.int (kf i) t) kf (fun i v h=>h) (j+1) i _ _ _ _ _ ⟨t2,rfl⟩ ⟨tb,rfl⟩ ?_))))
  refine wpAny_bind (wpAny_holding (wpAny_truthy_bool ?_))
  refine wpAny_bind (wpAny_letGo (wpAny_pure ?_))
  by_cases hb':kf (j+1)<kf i
  ·have s1:=Heap.SameBut.update s2.heap S (Obj.mapSeq fun _=>#[v,.int (kf (j+1)) t2])
   obtain⟨c2,hc2⟩:∃ c2,(s2.heap.update S (Obj.mapSeq fun _=>#[v,.int (kf (j+1)) t2])).get? S=some (seqObj "list" #[v,.int (kf (j+1)) t2] c2):=⟨_,get?_update_seq pS.1 fun _=>#[v,.int (kf (j+1)) t2]⟩
   simp only [hb',decide_true,if_true]
   refine wpAny_bind ?_
   refine wpAny_updateSeq pS.1 rfl (wpAny_bind (wpAny_letGo ?_))
   rw[hname]
   have I5:=I4.turnedL (ch:=[S]) (h':=s2.heap.update S (Obj.mapSeq fun _=>#[v,.int (kf (j+1)) t2])) (t':=s2.toks) (fun b o hb e=>(s1.2 b (fun z=>hb (by simp [z]))).trans e) (fun b hb=>by rw[List.mem_singleton.mp hb];exact fS.to pS.2.1)
   refine wpAny_pure ⟨plainId_quiet PySem.F.plain_min_loop _,ih (j+1) (j+1) _ H2 y v t2 c2 (by omega) hlt g2 I5 pS.2.1 pI.2.1 pf.2.1 hc2 ⟨oI',(s1.2 I nSI.symm).trans pI.1,hoc,hod⟩ ((s1.2 f nSf.symm).trans pf.1) hy ry (Nat.le_refl _) fun j' hj'=>?_⟩
   by_cases e:j'=j+1
   ·subst e
    exact⟨by omega,fun _=>by omega⟩
   ·have hb1:=hbest j' (by omega)
    have hb2:=hb1.1
    exact⟨by omega,fun _=>by omega⟩
  ·simp only [hb',decide_false,Bool.false_eq_true,if_false]
   refine wpAny_bind (wpAny_letGo ?_)
   rw[hname]
   refine wpAny_pure ⟨plainId_quiet PySem.F.plain_min_loop _,ih (j+1) i s2 H2 x vb tb c (by omega) hlt g2 I4 pS.2.1 pI.2.1 pf.2.1 pS.1 hit2 pf.1 hx rv (by omega) fun j' hj'=>?_⟩
   by_cases e:j'=j+1
   ·subst e
    exact⟨by omega,fun _=>by omega⟩
   ·exact hbest j' (by omega)
end
theorem z0 (a v u:Value):argsOk "min" ⟨[a],[(Str.ofString "key",v),(Str.ofString "default",u)]⟩:=by unfold argsOk;kernel_rfl
section
variable {X:Cx}{pins:List (Addr × Obj)}{σ:St}{H:Hp}{xs:List V}{l f:Addr}{fob:Obj}{kf:Nat→Int}{G:Hp→Prop}{s:Shared}{Q:Value→Shared→Prop}{E:Value→Shared→Prop}
theorem BS (hh:X.A.handled=none)(hfo:∀ v,fob.data≠.cell v)(ff:FpOk X pins H f)(IV:Inv X pins σ H s)(g0:G H)(of:s.heap.get? f=some fob)
  (hG:∀ H',G H'→H' l=some (.lst xs))
  (turn:∀ (i:Nat) (x:V) (u:Value) (s:Shared) (H':Hp) (pl:List (Addr × Obj)),xs[i]?=some x→RelV x u→G H'→s.heap.get? f=some fob→Inv X pl σ H' s →
   wpAny (model X.prog X.w) X.A.in1 (call (.ref f) [u]) (EP X pl σ fun v H2=>v=.int (kf i)∧G H2) (fun _ _=>False) s)
  (hQ0:xs=[]→∀ s,Inv X pins σ H s→Q .none s)
  (hQ:∀ i x u s H',xs[i]?=some x→RelV x u→(∀ j,j<xs.length→kf i≤kf j∧(j<i→kf i<kf j))→G H'→Inv X pins σ H' s→Q u s) :
  wpAny (model X.prog X.w) X.A (call (.builtin "min") [.ref l] [(Str.ofString "key",.ref f),(Str.ofString "default",.none)]) Q E s:=by
 have hname:(toString "min"++toString ".loop":String)="min.loop":=by decide
 obtain⟨hz,its,n,rvs,e1,e2⟩:=IV.lstM (hG H g0)
 have hls:s.heap.IsList l its.toArray:=⟨_,e2,rfl,_,rfl⟩
 refine kmk_tree PySem.F.kind_min PySem.F.plain_min PySem.F.entry_min (z0 _ _ _) ?_
 show wpAny _ X.A.in1 (Builtin.Builtins.bindParams "min" ["key","default"] 0 ⟨[],[(Str.ofString "key",.ref f),(Str.ofString "default",.none)]⟩ >>= _) _ _ s
 refine wpAny_bind (wpAny_of_eq (show Builtin.Builtins.bindParams "min" ["key","default"] 0 ⟨[],[(Str.ofString "key",.ref f),(Str.ofString "default",.none)]⟩=pure [some (.ref f),some .none] from rfl) ?_)
 refine wpAny_bind (wpAny_pure ?_)
 refine wpAny_bind (wpAny_pyIter_list hls ?_)
 refine wpAny_bind (wpAny_newList ?_ (Nat.zero_le _))
 rw[hname]
 generalize eI:s.heap.push { cls:=.type "list_iterator",data:=.fields #[.ref l,.int 0 0] }=h1
 have k1:∀ b o,s.heap.get? b=some o→h1.get? b=some o:=fun b o e=>by rw[← eI];exact Heap.get?_push_of_some _ e
 have z1:h1.objs.size=s.heap.objs.size+1:=by rw[← eI];exact Heap.size_push ..
 have gI:h1.get? s.heap.objs.size=some { cls:=.type "list_iterator",data:=.fields #[.ref l,.int 0 0] }:=by rw[← eI];exact Heap.get?_push_size _ rfl
 have I1:Inv X pins σ H { s with heap:=h1 }:=IV.kept (t':=s.toks) k1
 have I2:Inv X pins σ H { s with heap:=h1.push (seqObj "list" #[] 0) }:=I1.kept (t':=s.toks) fun b o e=>Heap.get?_push_of_some _ e
 have fI:FpOk X pins H s.heap.objs.size:=IV.fpOk (Nat.le_refl _) IV.fresh
 have fS:FpOk X pins H h1.objs.size:=I1.fpOk (Nat.le_refl _) I1.fresh
 have gS:(h1.push (seqObj "list" #[] 0)).get? h1.objs.size=some (seqObj "list" #[] 0):=Heap.get?_push_size _ rfl
 have gI2:=Heap.get?_push_of_some (seqObj "list" #[] 0) gI
 have nSI:h1.objs.size≠s.heap.objs.size:=by rw[z1];exact Nat.succ_ne_self _
 have nIf:s.heap.objs.size≠f:=Nat.ne_of_gt (Heap.lt_size of)
 have nSf:h1.objs.size≠f:=Nat.ne_of_gt (by rw[z1];exact Nat.lt_succ_of_lt (Heap.lt_size of))
 have nlI:l≠s.heap.objs.size:=Nat.ne_of_lt (Heap.lt_size e2)
 have of2:=Heap.get?_push_of_some (seqObj "list" #[] 0) (k1 _ _ of)
 have ol2:=Heap.get?_push_of_some (seqObj "list" #[] 0) (k1 _ _ e2)
 have W:=Walks.list (prog:=X.prog) (w:=X.w) (A:=X.A.in1) hh s.heap.objs.size l nlI its.toArray
 have hsz:its.toArray.size=xs.length:=by rw[List.size_toArray,e1]
 refine wpAny_pure ⟨plainId_quiet PySem.F.plain_min_loop _,?_⟩
 refine codeAny_builtin PySem.F.entry_min_loop ?_
 rw[Around.under_plainId PySem.F.plain_min_loop _]
 show wpAny _ X.A.in1 (seqItems? (.ref h1.objs.size) >>= _) _ _ _
 refine wpAny_bind (wpAny_seqItems gS rfl ?_)
 show wpAny _ X.A.in1 (tryCatch (pyNext (.ref s.heap.objs.size)) _ >>= _) _ _ _
 cases xs with
 | nil =>
  refine wpAny_bind (wpAny_tryCatch (W.done _ _ _ ⟨by rw[hsz];exact⟨_,gI2,rfl,rfl⟩,⟨_,ol2,rfl,_,rfl⟩⟩ fun h' tk' hk'=>?_))
  have I3:=I2.turnedL (ch:=[s.heap.objs.size]) (h':=h') (t':=tk') (fun b o hb e=>hk' b o hb e) (fun b hb=>by rw[List.mem_singleton.mp hb];exact fI)
  exact wpAny_bind (wpAny_rule (wpAny_pure (hQ0 rfl _ I3)))
 | cons x0 xs =>
  refine wpAny_bind (wpAny_tryCatch (W.item 0 _ _ _ (by rw[hsz];exact Nat.succ_pos _) ⟨⟨_,gI2,rfl,rfl⟩,⟨_,ol2,rfl,_,rfl⟩⟩ fun v h' tk' hP hst' hk'=>?_))
  have hv:its[0]?=some v:=by simpa using hP
  obtain⟨v',hv',ry⟩:=rvs.get (i:=0) (x:=x0) rfl
  rw[hv] at hv'
  cases hv'
  obtain⟨oI',hoI',hoc,hod⟩:=id hst'.1
  have I3:Inv X pins σ H { s with heap:=h',toks:=tk' }:=I2.turnedL (ch:=[s.heap.objs.size]) (h':=h') (t':=tk') (fun b o hb e=>hk' b o hb e) (fun b hb=>by rw[List.mem_singleton.mp hb];exact fI)
  have of3:=hk' f _ (by simpa using nIf.symm) of2
  have oS3:=hk' h1.objs.size _ (by simpa using nSI) gS
  have I4:Inv X (pins++[(h1.objs.size,seqObj "list" #[] 0),(s.heap.objs.size,oI'),(f,fob)]) σ H { s with heap:=h',toks:=tk' }:=I3.pins_of fun p hp=>by
   rcases List.mem_append.mp hp with hp | hp
   ·exact I3.pin p (List.mem_append_right _ hp)
   ·simp only [List.mem_cons,List.not_mem_nil,or_false] at hp
    rcases hp with rfl | rfl | rfl
    ·exact⟨oS3,fS.1,fS.2.1,fS.2.2.1,fun v z=>by cases z⟩
    ·exact⟨hoI',fI.1,fI.2.1,fI.2.2.1,fun v z=>by rw[hod] at z;cases z⟩
    ·exact⟨of3,ff.1,ff.2.1,ff.2.2.1,hfo⟩
  show wpAny _ X.A.in1 (tryCatch (holding [v] (call (.ref f) [v])) _ >>= _) _ _ _
  refine wpAny_bind (wpAny_tryCatch (wpAny_holding (wpAny_mono (turn 0 x0 v _ H _ rfl ry g0 of3 I4) (fun u s2 he=>?_) fun _ _ hF=>hF.elim)))
  obtain⟨v2,H2,I5,r3,rfl,g2⟩:=he
  obtain⟨t2,rfl⟩:=(show ∃ t,u=Value.int (kf 0) t from r3)
  have pS:=I5.pin (h1.objs.size,seqObj "list" #[] 0) (List.mem_append_right _ (List.mem_append_right _ (by simp)))
  have pI:=I5.pin (s.heap.objs.size,oI') (List.mem_append_right _ (List.mem_append_right _ (by simp)))
  have pf:=I5.pin (f,fob) (List.mem_append_right _ (List.mem_append_right _ (by simp)))
  have I6:Inv X pins σ H2 s2:=I5.unpinned
  have s1:=Heap.SameBut.update s2.heap h1.objs.size (Obj.mapSeq fun _=>#[v,.int (kf 0) t2])
  obtain⟨c2,hc2⟩:∃ c2,(s2.heap.update h1.objs.size (Obj.mapSeq fun _=>#[v,.int (kf 0) t2])).get? h1.objs.size=some (seqObj "list" #[v,.int (kf 0) t2] c2):=⟨_,get?_update_seq pS.1 fun _=>#[v,.int (kf 0) t2]⟩
  show wpAny _ X.A.in1 (updateSeq h1.objs.size (fun _=>#[v,.int (kf 0) t2]) >>= _) _ _ _
  refine wpAny_bind ?_
  refine wpAny_updateSeq pS.1 rfl ?_
  rw[hname]
  have I7:=I6.turnedL (ch:=[h1.objs.size]) (h':=s2.heap.update h1.objs.size (Obj.mapSeq fun _=>#[v,.int (kf 0) t2])) (t':=s2.toks) (fun b o hb e=>(s1.2 b (fun z=>hb (by simp [z]))).trans e) (fun b hb=>by rw[List.mem_singleton.mp hb];exact fS.to pS.2.1)
  refine wpAny_pure ⟨plainId_quiet PySem.F.plain_min_loop _,CU (kf:=kf) (G:=G) hh hfo fS fI ff nSI nSf nIf nlI hG turn hQ _ 0 0 _ H2 x0 v t2 c2 rfl (Nat.succ_le_succ (Nat.zero_le _)) g2 I7 pS.2.1 pI.2.1 pf.2.1 hc2 ⟨oI',(s1.2 _ nSI.symm).trans pI.1,hoc,hod⟩ ((s1.2 f nSf.symm).trans pf.1) rfl ry (Nat.le_refl _) fun j' hj'=>?_⟩
  have e:j'=0:=by omega
  subst e
  exact⟨Int.le_refl _,fun z=>absurd z (Nat.lt_irrefl _)⟩
end
def xy (tl:TD)(cap:List (Option Nat))(tb:TD):TD:=fun ρ R=>tl ρ fun d=>match d with
 | .lst ds=>∃ kf:Nat→Int,(∀ i e,ds[i]?=some e→tb ((dN (none::cap) ρ).set 0 (some (.v e))) fun r=>r=.int (kf i))∧(ds=[]→R .non) ∧
   ∀ i e,ds[i]?=some e→(∀ j,j<ds.length→kf i≤kf j∧(j<i→kf i<kf j))→R e
 | _=>False
section
variable {K:Frag}{X:Cx}{l body:Expr}{tl tb:TD}{scope:Scope}{p:Str}{r:List Str}{cap:List (Option Nat)}{params:Arguments}{np pos lp kp1 kp2 kp3:Pos}{c P:Addr}{j:Nat}
theorem zD (hr:Room 1 X.A)(hg:Gl X "min")(hm:X.mg "min"=none)(hl:PQ K X l tl)(S:CompScope X.N X.env.scope scope (p::r) (none::cap))(hcap:eF 1 (none::cap)=true)
  (hpl:scope.names.lookup p=some .local) (hco:scope.isCoroutine=false) (hgen:scope.isGenerator=false) (hdef:defaultsOf params X.env=([],[]))
  (hbind:∀ (qual:Str) (cl:List (Str × Addr)) (pm cd ctv u:Value),bindArgs (kla_fn "<lambda>" qual params body scope cl pm cd ctv) ⟨[u],[]⟩=pure [(p,u)])
  (hcode:X.env.code=.ref c) (hC:codeHdIn X.K c P=true) (ht:(P,#[rawInt lp.line,rawInt lp.col,.str (X.env.qual++"<lambda>") 0])∈bX K)
  (hb:∀ (A:Around) (cl:List (Str × Addr)) (f:Addr) (cd:Value) (s0:Shared) (H0:Hp),PD K (ji X A scope (p::r) cl f (X.env.qual++"<lambda>") cd s0 H0) body tb)
  (he:starEach [l] X.env=[(false,eval l X.env)]) :
  PD K X (.Call (.Name "min" np) [l] [⟨some "key",.Lambda params body scope lp,kp1⟩,⟨some "default",.Constant .none j kp2,kp3⟩] pos) (xy tl cap tb):=⟨fun hK=>by
 subst hK
 intro pins s σ H Q I ⟨H0,Φ,ρ,R,V,t,k⟩
 refine wpAny_Call_Name_kw (gC I hg hm boot_min ?_)
 have he':backTo pos (starEach [l] X.env)=(false,eval l X.env)::backTo pos (starEach [] X.env):=by rw[he];rfl
 refine callWith_kw (aT (ik (hl.pe rfl) pa_nil (by rw[he];rfl) pos pins s σ H (fun vs H1=>∃ x ds Φ1,vs=[x]∧Gr Φ H Φ1 H1∧RpQ X.K Φ1 H1 (.lst ds) x∧∃ kf:Nat→Int,(∀ i e,ds[i]?=some e→tb ((dN (none::cap) ρ).set 0 (some (.v e))) fun r=>r=.int (kf i))∧(ds=[]→R .non) ∧
   ∀ i e,ds[i]?=some e→(∀ j,j<ds.length→kf i≤kf j∧(j<i→kf i<kf j))→R e) I ⟨H0,Φ,ρ,_,V,t,fun d Φ1 H1 v r g rv=>?_⟩) fun us s1 ⟨vs,H1,I1,r1,q1⟩=>?_) he' (by rw[he'];rfl)
 ·cases d with
  | lst ds=>exact⟨v,ds,Φ1,rfl,g,rv,r⟩
  | _=>exact r.elim
 ·obtain⟨x,ds,Φ1,rfl,g1,rq,kf,hk1,hk2,hk3⟩:=q1
  obtain⟨a,xs,rfl,hxs,rl⟩:=rq.lst g1.s
  cases r1 with
  | cons r rr =>
  cases rr
  cases r
  have V1:=V.gr g1
  have hP:=g1.s _ _ (V1.tb _ ht)
  refine kws_cons (Dz hP hcode hC hdef I1 S.free fun f c' cl pm ctv o vs t' H2 s2 hcl hfr hH I2 of ff hc hod hv hsz=>?_)
  refine kws_cons (Constant_none (kws_nil ?_))
  show wpAny _ X.A (call (.builtin "min") [.ref a] [(Str.ofString "key",.ref f),(Str.ofString "default",.none)]) _ _ _
  have g2:Gr Φ1 H1 Φ1 H2:=by
   rcases hH with rfl | ⟨b,u,hb0,_,rfl⟩
   ·exact .refl g1.s
   ·exact .fresh g1.s hb0 _
  refine BS (kf:=kf) (G:=fun H'=>∃ Φ',Gr Φ1 H2 Φ' H') hr.hd (fun v z=>by cases z) ff I2 ⟨Φ1,.refl g2.s⟩ of (fun H' hq1=>by obtain⟨Φ',g'⟩:=hq1;exact g'.h _ _ (g2.h _ _ hxs)) (fun i x u s3 H3 pl hx ru ⟨Φ3,g3⟩ of3 I3=>?_) (fun hnil s3 I3=>?_) fun i x u s3 H3 hx ru hbest ⟨Φ3,g3⟩ I3=>?_
  ·obtain⟨e,hei,re⟩:=rl.at' hx
   have hc3:=g3.h _ _ hc
   obtain⟨o3,_⟩:=(show ObjOk X.prog X.w H3 s3.heap c' (.frz o (.own P)) from I3.hok c' _ hc3)
   have V3:=((V1.gr g2).gr g3).cap (sH hcap)
   refine A0 S hpl (show X.A.in1.frames=some X.stack from I.ok.frames) (show X.A.in1.handled=none from hr.hd) (show X.A.in1.depth<recursionLimit from hr.depth) I3 hcl hfr of3 ⟨c',o,vs,t',rfl,o3,hod,hv⟩ (hbind _ _ _ _ _ u) hco hgen ((hb _ _ _ _ _ _).pe rfl) ru
    ⟨H0,Φ3,_,_,V3.set (re.same (g2.f.trans g3.f)) 0,hk1 i e hei,fun d Φ4 H4 v r g4 rv=>?_⟩
   subst r
   cases rv
   exact⟨rfl,Φ4,g3.trans g4⟩
  ·have hd:ds=[]:=by
    have:=rl.1
    rw[hnil] at this
    exact List.length_eq_zero_iff.mp this.symm
   exact⟨.non,H2,I3,rfl,k .non Φ1 H2 .non (hk2 hd) (g1.trans g2) .non⟩
  ·obtain⟨e,hei,re⟩:=rl.at' hx
   exact⟨x,H3,I3,ru,k e Φ3 H3 x (hk3 i e hei fun j hj=>hbest j (by rw[rl.1];exact hj)) ((g1.trans g2).trans g3) (re.same (g2.f.trans g3.f))⟩⟩
end
structure LamT (K:Frag)(q:Str)(fd:FuncData)(c P:Addr)(lp:Pos):Prop where
 code:fd.code=.ref c
 hd:codeHdIn K c P=true
 tab:(P,#[rawInt lp.line,rawInt lp.col,.str (q++".<locals>."++"<lambda>") 0])∈bX K
section
variable {P:Program}{w:World}{K:Frag}{mg:Str→Option Value}{base:Heap}
theorem Fun.okL {x qual:Str}{st:Stmt}{f:Addr}{fd:FuncData}{N ps:List Str}{k:Nat}{sp:Sp}(F:Fun K x qual st f fd)(S:FnScope N ps (ay st))(len:∀ vs H Q E,sp vs H Q E→vs.length=ps.length)
  (hbody:∀ (cdv:Value) (A:Around) (outer:List Env) (s:Shared) (H:Hp) (vs:List V) (Q:VK) (E:XK),fd.code=cdv→Room k (A.deeper (envOfC qual (ay st) s.heap.objs.size f cdv))→sp vs H Q E →
   ∃ t,PSs (fH aS P w K mg base N qual (ay st) f cdv A outer s H E).nox (eg st) t∧t { nx:=fun _ H'=>Q .non H',rt:=Q } (start N vs) H):FnOk P w K mg base aS (k+1) f fd ps sp:=by
 obtain⟨oc,od,kV,doc,pm,an,cdv,ct,osl,rfl,lk,hcd⟩:=F.ex
 refine rf lk hcd S len fun A outer s H vs Q E hr hsp=>?_
 obtain⟨t,h,q⟩:=hbody cdv A outer s H vs Q E rfl hr hsp
 exact⟨t,h.nox,q⟩
theorem Fun.okDL {x qual:Str}{st:Stmt}{f:Addr}{fd:FuncData}{N ps:List Str}{k:Nat}{sp:aR}(F:Fun K x qual st f fd)(S:FnScope N ps (ay st))(len:∀ ds R,sp ds R→ds.length=ps.length)
  (hbody:∀ (cdv:Value) (A:Around) (outer:List Env) (s:Shared) (H:Hp) (E:XK) (ds:List D) (R:D→Prop),fd.code=cdv→Room k (A.deeper (envOfC qual (ay st) s.heap.objs.size f cdv))→sp ds R →
   ∃ t,PSsD K (fH aS P w K mg base N qual (ay st) f cdv A outer s H E).nox (eg st) t∧t { nx:=fun _=>R .non,rt:=R } (gF N ds)):FnOk P w K mg base aS (k+1) f fd ps (aZ K sp):=by
 refine F.okL S (fun vs H Q E ⟨Φ,ds,R,sm,tb,rl,h,_⟩=>by rw[rl.1];exact len ds R h) (fun cdv A outer s H vs Q E hcd hr ⟨Φ,ds,R,sm,tb,rl,h,kk⟩=>?_)
 obtain⟨t,ht,hq⟩:=hbody cdv A outer s H E ds R hcd hr h
 exact⟨lS K t,ht.ps rfl,Φ,H,Φ,gF N ds,_,.refl sm,tQ sm tb rl,hq,⟨fun ρ' Φ' H' σ' r g V=>kk .non Φ' H' .non r g .non,kk,fun _ _ _ _ h=>h.elim,fun _ _ _ _ h=>h.elim⟩⟩
end
theorem o5 {K:Frag}{x:Str}{f c P:Addr}{fd:FuncData}{oc oc':Value}{od od':Option Addr}{sl sl':Array (Option Value)}{vs:Array Value}{pos:Pos}(a:nsIn K mainGlobals x=some (some (.ref f)))(l:K.lookup f=some ⟨oc,od,.func fd,sl⟩)
  (e:fd.code=.ref c) (lc:K.lookup c=some ⟨oc',od',.fields vs,sl'⟩) (h11:(vs[11]?:Option Value)=some (.ref P)) (hp:oQ fd.body=some pos) :
  ib K x=some (P,#[rawInt pos.line,rawInt pos.col,.str (fd.qualname++".<locals>."++"<lambda>") 0]):=by
 unfold ib
 simp only [a,l,e,lc,h11,hp]
theorem uP {K:Frag}{c P:Addr}{o:Obj}(h:K.lookup c=some o)(v:codeHdIn [(c,o)] c P=true):codeHdIn K c P=true:=by
 have e:List.lookup c [(c,o)]=some o:=by simp
 unfold codeHdIn at v ⊢
 rw[h]
 rw[e] at v
 exact v
theorem qJ {K:Frag}{x:Str}(a:nsIn K mainGlobals x=some none):ib K x=none:=by
 unfold ib
 simp only [a]
theorem tU {K:Frag}{t:Addr × Array Value}(h1:ib K "least_grown"=some t)(h2:ib K "greatest_first"=none):bX K=[t]:=by
 unfold bX
 simp [h1,h2]
def gN (K:Frag):Hp:=fun b=>((bX K).find? fun u=>u.1 == b).map fun u=>HO.tbl u.2
theorem Bh {P:Program}{w:World}{K:Frag}{mg mb:Str→Option Value}{CX:dQ}{k:Nat}{fa a:Addr}{fd:FuncData}{x:Str}{sp:Sp}{s₁:Shared}{vs:List Value}{ns:List Int}
  (KX:K.In s₁.heap) (hns:s₁.heap.Ns mainGlobals mg) (hb:s₁.heap.Ns builtinsNs mb) (hbb:∀ x:Str,x≠"__name__"→mb x=bootBuiltins x) (hlim:s₁.heap.NoLimit)
  (hbm:∃ bm ob,mg "__builtins__"=some (.ref bm)∧bm≠builtinsNs∧s₁.heap.get? bm=some ob∧ob.cls=.type "module"∧ob.dict=some builtinsNs∧ob.data=.plain) (hg:s₁.gens=#[])
  (ha:s₁.heap.get? a=some { cls:=.type "list",data:=.seq vs.toArray }) (hi:IntsAre vs ns) (hl:ns.length≤sizeLine) (hr:Room k callerA)
  (F:∀ base:Heap,K.In base→base.Ns mainGlobals mg→FnOk P w K mg base CX k fa fd [x] sp) (hbind:∀ (s:Shared) (u:Value),BindsTo s fd ⟨[u],[]⟩ [(x,u)])
  (hT:∀ t∈bX K,s₁.heap.get? t.1=some (tabObj #[])∧K.lookup t.1=none∧isCodeTable s₁.heap t.1) (hnd:∀ t∈bX K,∀ u∈bX K,t.1=u.1→t=u)
  (hsp:∀ H:Hp,SqL K H a (ns.map V.int)→TabF K H→sp [.ref a] H (fun v _=>v=.bl true) fun _ _ _=>False)
  (hCX:∀ H e s',CX [] H s₁ (fun _ _ _=>False) e s'→False) :
  codeAny (model P w) callerA (.call (.ref fa) ⟨[.ref a],[]⟩) (fun r s'=>r=.ok (.ret (.bool true))∧OldK s₁.heap s'.heap∧s'.os=s₁.os∧AllBare s'.gens) s₁:=by
 have rv:=ri hi
 have lenV:=hi.length
 have core:∀ H:Hp,SqL K H a (ns.map V.int)→TabF K H→(∀ b u,H b=some u→(b=a∧K.lookup a=none∧u=.frz { cls:=.type "list",data:=.seq vs.toArray } (.lst (ns.map V.int)))∨∃ t∈bX K,t.1=b∧u=.tbl t.2) →
   codeAny (model P w) callerA (.call (.ref fa) ⟨[.ref a],[]⟩) (fun r s'=>r=.ok (.ret (.bool true))∧OldK s₁.heap s'.heap∧s'.os=s₁.os∧AllBare s'.gens) s₁:=by
  intro H hS hTab hcl
  have hok:HOk P w H s₁.heap:=fun b u e=>by
   rcases hcl b u e with⟨rfl,_,rfl⟩ | ⟨t,ht,rfl,rfl⟩
   ·exact⟨ha,by rw[List.length_map];exact hl,vs,_,rv,ha⟩
   ·exact .inl (hT t ht).1
  have base_of:∀ {b:Addr} {o:Obj},s₁.heap.get? b=some o→H b=none→(fK s₁.heap H).get? b=some o:=fun e n=>By e n
  have noO:∀ {b:Addr} {o:Obj},s₁.heap.get? b=some o→(o={ cls:=.type "list",data:=.seq vs.toArray }→False)→(o=tabObj #[]→False)→H b=none:=fun {b o} e n1 n2=>by
   cases q:H b with
   | none=>rfl
   | some u =>
    rcases hcl b u q with⟨rfl,_,_⟩ | ⟨t,ht,rfl,_⟩
    ·rw[ha] at e;cases e;exact (n1 rfl).elim
    ·rw[(hT t ht).1] at e;cases e;exact (n2 rfl).elim
  have nsK:∀ {b:Addr} {m:Str→Option Value},s₁.heap.Ns b m→(fK s₁.heap H).Ns b m:=fun {b m} hq0=>by obtain⟨o,es,ep,e,d,r⟩:=hq0;exact⟨o,es,ep,base_of e (noO e (fun z=>by rw[z] at d;cases d) fun z=>by rw[z] at d;cases d),d,r⟩
  have hKb:K.In (fK s₁.heap H):=fun b o e=>base_of (KX b o e) (by
   cases q:H b with
   | none=>rfl
   | some u =>
    rcases hcl b u q with⟨rfl,z,_⟩ | ⟨t,ht,rfl,_⟩
    ·rw[z] at e;cases e
    ·rw[(hT t ht).2.1] at e;cases e)
  have hM:Mod K mg (fK s₁.heap H):=⟨hKb,nsK hns,⟨mb,nsK hb,hbb⟩,let ⟨mc,h1,h2⟩:=hlim;⟨mc,nsK h1,h2⟩,let ⟨bm,ob,b1,b2,b3,b4,b5,b6⟩:=hbm;⟨bm,ob,b1,b2,base_of b3 (noO b3 (fun z=>by rw[z] at b6;cases b6) fun z=>by rw[z] at b6;cases b6),b4,b5,b6⟩⟩
  have e0:Env0 P w K mg (fK s₁.heap H) callerA [] s₁ H:=⟨rfl,hM,fun b o e=>zh e,Nat.le_of_eq (wj _ _),trivial,fun b hb=>absurd (show b∈([]:List Addr) from hb) (by simp),hok,.of_eq hg⟩
  refine codeAny_mono ((F _ hKb (nsK hns)).run callerA [] s₁ H ⟨[.ref a],[]⟩ [.ref a] [.ref a] _ _ hr e0 (hbind s₁ (.ref a)) (.cons rfl .nil) (hsp H hS hTab)) fun r s' h=>?_
  cases r with
  | error e=>exact (hCX H e s' h).elim
  | ok fl =>
   cases fl with
   | next=>exact False.elim h
   | brk=>exact False.elim h
   | cont=>exact False.elim h
   | ret u =>
    obtain⟨v,H',os,bare,un,hok',r',q⟩:=h
    have q':v=.bl true:=q
    subst q'
    obtain rfl:u=Value.bool true:=r'
    refine⟨rfl,⟨fun b o e=>?_,fun b o e=>un.there b o e (by simp)⟩,os,bare⟩
    cases q:H b with
    | none=>exact .inl (un.keep b o e q (by intro z;exact absurd (show b∈([]:List Addr) from z) (by simp)) (by simp))
    | some u =>
     rcases hcl b u q with⟨rfl,_,rfl⟩ | ⟨t,ht,rfl,rfl⟩
     ·obtain⟨e1,_⟩:=hok b _ q
      obtain⟨e2,_⟩:=hok' b _ (un.frzs b _ _ q)
      rw[e] at e1;cases e1
      exact .inl e2
     ·rw[(hT t ht).1] at e
      cases e
      rcases (show ObjOk P w H' s'.heap t.1 (.tbl t.2) from hok' t.1 _ (un.tbls t.1 _ q)) with z | ⟨c,oc,us,y,z,qq,t1,t2,_,_,z3,_⟩
      ·exact .inl z
      ·exact .inr (.inl ⟨(hT t ht).2.2,rfl,#[],#[y,z,.ref c],rfl,by simpa using z3⟩)
 have tabH:∀ t∈bX K,gN K t.1=some (.tbl t.2):=fun t ht=>by
  unfold gN
  cases e:(bX K).find? fun u=>u.1 == t.1 with
  | none=>have:=List.find?_eq_none.mp e t ht;simp at this
  | some u =>
   have h1:=List.find?_some e
   have h2:=List.mem_of_find?_eq_some e
   have h3:u=t:=hnd u h2 t ht (by simpa using h1)
   rw[h3];rfl
 have tabI:∀ b u,gN K b=some u→∃ t∈bX K,t.1=b∧u=.tbl t.2:=fun b u h=>by
  unfold gN at h
  cases e:(bX K).find? fun u=>u.1 == b with
  | none=>rw[e] at h;cases h
  | some t =>
   rw[e] at h
   cases h
   exact⟨t,List.mem_of_find?_eq_some e,by simpa using List.find?_some e,rfl⟩
 have naT:∀ t∈bX K,t.1≠a:=fun t ht z=>by
  have:=(hT t ht).1
  rw[z,ha] at this
  cases this
 cases hk:K.lookup a with
 | some o =>
  have e:=KX a o hk
  rw[ha] at e
  cases e
  exact core (gN K) (.inr ⟨_,vs.toArray,_,hk,rfl,rfl,rfl,by rw[List.size_toArray,lenV];exact hl,by simpa using rv⟩) tabH fun b u z=>.inr (tabI b u z)
 | none =>
  refine core (fun b=>if b=a then some (.frz { cls:=.type "list",data:=.seq vs.toArray } (.lst (ns.map V.int))) else gN K b) (.inl (.inr ⟨{ cls:=.type "list",data:=.seq vs.toArray },if_pos rfl⟩)) (fun t ht=>?_) fun b u z=>?_
  ·show (if t.1=a then _ else gN K t.1)=_
   rw[if_neg (naT t ht)]
   exact tabH t ht
  ·by_cases hb:b=a
   ·have z':=(if_pos hb).symm.trans z
    cases z'
    exact .inl ⟨hb,hk,rfl⟩
   ·have z':=(if_neg hb).symm.trans z
    exact .inr (tabI b u z')
theorem walk_ofT {l:PySem.W.OpenLaw}{n k:Nat}{q:Program}{loose:List Str}{XP:(Str→Option Value)→Heap→Prop}{YP:World→Heap→Prop}{d:DefRec}{K:Params→Frag}{CX:World→dQ}{sp:World→Sp}{x:Str}
  (hn:l.most=some n) (hn2:n≤sizeLine) (hdf:d.params.defaults=[]) (hr:Room k callerA)
  (hY:∀ (w:World) (h:Heap),YP w h→(K w.params).In h)
  (hT:∀ (w:World) (h:Heap),YP w h→∀ t∈bX (K w.params),h.get? t.1=some (tabObj #[])∧(K w.params).lookup t.1=none∧isCodeTable h t.1) (hnd:∀ (w:World),∀ t∈bX (K w.params),∀ u∈bX (K w.params),t.1=u.1→t=u)
  (F:∀ (w:World) (mg:Str→Option Value) (fa:Addr) (h:Heap),(K w.params).In h→h.Ns mainGlobals mg→mg d.name=some (.ref fa) →
   ∃ fd:FuncData,(∀ (s:Shared) (u:Value),BindsTo s fd ⟨[u],[]⟩ [(x,u)]) ∧
    ∀ base:Heap,(K w.params).In base→base.Ns mainGlobals mg→FnOk l.prog w (K w.params) mg base (CX w) k fa fd [x] (sp w))
  (hsp:∀ (w:World) (H:Hp) (a:Addr) (ns:List Int),ns.length≤n→SqL (K w.params) H a (ns.map V.int)→TabF (K w.params) H→sp w [.ref a] H (fun v _=>v=.bl true) fun _ _ _=>False)
  (hCX:∀ (w:World) (H:Hp) (s:Shared) (e:Value) (s':Shared),CX w [] H s (fun _ _ _=>False) e s'→False) :
  PySem.W.WalkO q loose XP YP l.row.toRowW d [] (fun f vs=>PySem.call f vs):=by
 refine Att.attach_call hn hdf fun w s₀ s₁ mg mb fa o pm cd doc a vs ns G Y ho hd hcd hmg hobj hints hlen hg=>?_
 have KX:=hY w _ Y
 obtain⟨fd,hb,hF⟩:=F w mg fa _ KX G.T.g hmg
 exact Bh KX G.T.g G.T.b G.T.builtins G.T.nolimit G.T.bmain hg hobj hints (Nat.le_trans hlen hn2) hr hF hb (hT w _ Y) (hnd w) (fun H hS hTb=>hsp w H a ns hlen hS hTb) fun H e s'=>hCX w H s₁ e s'
end L2
namespace L2
open PySem PySem.W PyProof.Rows
def Go {α:Type}(f:Nat→Nat→Bool)(N:Nat)(P:α→Prop):KasT α→Prop
 | .ret a=>P a
 | .ask i j k=>i<N∧j<N∧Go f N P (k (f i j))
theorem Go.bind {α β:Type}{f:Nat→Nat→Bool}{N:Nat}{P:α→Prop}{P':β→Prop}{g:α→KasT β}:∀ {t:KasT α},Go f N P t→(∀ a,P a→Go f N P' (g a))→Go f N P' (t.bind g)
 | .ret a,h,hg=>hg a h
 | .ask i j k,h,hg=>⟨h.1,h.2.1,Go.bind (t:=k (f i j)) h.2.2 hg⟩
theorem Go.imp {α:Type}{f:Nat→Nat→Bool}{N:Nat}{P P':α→Prop}:∀ {t:KasT α},Go f N P t→(∀ a,P a→P' a)→Go f N P' t
 | .ret a,h,hg=>hg a h
 | .ask i j k,h,hg=>⟨h.1,h.2.1,Go.imp (t:=k (f i j)) h.2.2 hg⟩
theorem Go.wp {α:Type}{f:Nat→Nat→Bool}{N:Nat}{P:α→Prop}{cmp:Nat→Nat→(Bool→Shared→Prop)→Shared→Prop}{Q:α→Shared→Prop}{s:Shared}
  (hc:∀ i j (C:Bool→Shared→Prop),i<N→j<N→C (f i j) s→cmp i j C s) (hq:∀ a,P a→Q a s):∀ {t:KasT α},Go f N P t→t.kasWp cmp Q s
 | .ret a,h=>hq a h
 | .ask i j k,h=>hc i j _ h.1 h.2.1 (Go.wp hc hq (t:=k (f i j)) h.2.2)
section
variable {key:Nat→Int}{N:Nat}{p:Array Nat}
def Ky (key:Nat→Int)(p:Array Nat)(i:Nat):Int:=key (p.getD i 0)
abbrev fk (key:Nat→Int):Nat→Nat→Bool:=fun i j=>decide (key i<key j)
def fT (key:Nat→Int)(p:Array Nat)(n:Nat):Prop:=∀ i,i+1<n→Ky key p i<Ky key p (i+1)
def ot (key:Nat→Int)(p:Array Nat)(n:Nat):Prop:=∀ i,i+1<n→Ky key p (i+1)<Ky key p i
structure Pm (key:Nat→Int)(N:Nat)(p:Array Nat):Prop where
 sz:p.size=N
 pm:p.Perm (List.range N).toArray
theorem pD {p:Array Nat}{i:Nat}(h:i<p.size):p[i]?=some (p.getD i 0):=by simp [Array.getD,h]
theorem Pm.lt (h:Pm key N p)(hN:0<N)(i:Nat):p.getD i 0<N:=by
 by_cases c:i<p.size
 ·have h1:p.getD i 0∈p:=by
   have e:p.getD i 0=p[i]:=by simp [Array.getD,c]
   rw[e]
   exact Array.getElem_mem c
  have h2:=(h.pm.mem_iff).mp h1
  simpa using h2
 ·have e:p.getD i 0=0:=by simp [Array.getD,c]
  rw[e]
  exact hN
theorem Pm.inj (h:Pm key N p){i j:Nat}(hi:i<N)(hj:j<N)(e:p.getD i 0=p.getD j 0):i=j:=by
 have nd:p.toList.Nodup:=by
  have:=h.pm.toList
  exact this.nodup_iff.mpr (by simpa using List.nodup_range)
 have e1:p.toList[i]?=some (p.getD i 0):=by rw[Array.getElem?_toList];exact pD (by rw[h.sz];exact hi)
 have e2:p.toList[j]?=some (p.getD j 0):=by rw[Array.getElem?_toList];exact pD (by rw[h.sz];exact hj)
 obtain⟨h1,q1⟩:=List.getElem?_eq_some_iff.mp e1
 obtain⟨h2,q2⟩:=List.getElem?_eq_some_iff.mp e2
 exact (List.getElem_inj nd).mp (q1.trans (e.trans q2.symm))
variable (hk:∀ i j,i<N→j<N→key i=key j→i=j)
include hk
theorem Pm.ne (h:Pm key N p){i j:Nat}(hi:i<N)(hj:j<N)(hne:i≠j):Ky key p i≠Ky key p j:=fun e =>
 hne (h.inj hi hj (hk _ _ (h.lt (by omega) i) (h.lt (by omega) j) e))
theorem nh (h:Pm key N p):∀ f n,1≤n→n+f≤N→fT key p n→Go (fk key) N (fun m=>n≤m∧m≤n+f∧fT key p m∧(m<n+f→Ky key p m<Ky key p (m - 1))) (kas_asc p f n)
 | 0,n,_,_,ha=>⟨Nat.le_refl _,Nat.le_refl _,ha,fun h=>absurd h (by omega)⟩
 | f+1,n,h1,h2,ha=>by
  refine⟨h.lt (by omega) n,h.lt (by omega) (n - 1),?_⟩
  by_cases c:key (p.getD n 0)<key (p.getD (n - 1) 0)
  ·simp only [fk,decide_eq_true c,if_true]
   exact⟨Nat.le_refl _,by omega,ha,fun _=>c⟩
  ·simp only [fk,decide_eq_false c,Bool.false_eq_true,if_false]
   have hne:=h.ne hk (i:=n) (j:=n - 1) (by omega) (by omega) (by omega)
   have hlt:Ky key p (n - 1)<Ky key p n:=by
    have c':¬ Ky key p n<Ky key p (n - 1):=c
    omega
   refine (nh h f (n+1) (by omega) (by omega) fun i hi=>?_).imp fun m hm=>⟨by omega,by omega,hm.2.2.1,fun z=>hm.2.2.2 (by omega)⟩
   by_cases e:i+1=n
   ·have e':n - 1=i:=by omega
    rw[e'] at hlt
    rw[e]
    exact hlt
   ·exact ha i (by omega)
theorem rE (h:Pm key N p):∀ f n,1≤n→n+f≤N→ot key p n→Go (fk key) N (fun r=>r.1=p∧n≤r.2.1∧r.2.1≤n+f∧r.2.2=0∧ot key p r.2.1) (kas_desc f p n 0)
 | 0,n,_,_,ha=>⟨rfl,Nat.le_refl _,Nat.le_refl _,rfl,ha⟩
 | f+1,n,h1,h2,ha=>by
  refine⟨h.lt (by omega) n,h.lt (by omega) (n - 1),?_⟩
  have hne:=h.ne hk (i:=n) (j:=n - 1) (by omega) (by omega) (by omega)
  by_cases c:key (p.getD n 0)<key (p.getD (n - 1) 0)
  ·simp only [fk,decide_eq_true c,if_true]
   rw[if_neg (by omega)]
   refine (rE h f (n+1) (by omega) (by omega) fun i hi=>?_).imp fun r hr=>⟨hr.1,by omega,by omega,hr.2.2.2⟩
   by_cases e:i+1=n
   ·have e':n - 1=i:=by omega
    rw[e]
    have c':Ky key p n<Ky key p (n - 1):=c
    rw[e'] at c'
    exact c'
   ·exact ha i (by omega)
  ·simp only [fk,decide_eq_false c,Bool.false_eq_true,if_false]
   refine⟨h.lt (by omega) (n - 1),h.lt (by omega) n,?_⟩
   have c2:key (p.getD (n - 1) 0)<key (p.getD n 0):=by
    have c':¬ Ky key p n<Ky key p (n - 1):=c
    show Ky key p (n - 1)<Ky key p n
    omega
   simp only [decide_eq_true c2,if_true]
   exact⟨rfl,Nat.le_refl _,by show n≤n+(f+1);omega,rfl,ha⟩
omit hk in
theorem Pm.rev (h:Pm key N p){n:Nat}:Pm key N (kas_rev p 0 n):=⟨by unfold kas_rev;rw[mirror_size];exact h.sz,(mirror_perm ..).trans h.pm⟩
omit hk in
theorem qR (h:Pm key N p){n i:Nat}(hn:n≤N):Ky key (kas_rev p 0 n) i=if i<n then Ky key p (n - 1 - i) else Ky key p i:=by
 have e:=getElem?_mirror (xs:=p) (i:=0) (j:=n) (by rw[h.sz];exact hn) ((n - 0) / 2) (by omega) i
 have g:∀ (q:Array Nat) (k:Nat),q.getD k 0=(q[k]?).getD 0:=fun q k=>by simp [Array.getD_eq_getD_getElem?]
 unfold Ky kas_rev
 rw[g,e]
 by_cases c:i<n
 ·rw[if_pos c]
  by_cases d:(0≤i∧i<0+(n - 0) / 2)∨(n - (n - 0) / 2≤i∧i<n)
  ·rw[if_pos d,g]
   congr 3
   omega
  ·rw[if_neg d,g]
   congr 3
   omega
 ·rw[if_neg c,if_neg (by omega),g]
theorem C1 (h:Pm key N p){n:Nat}(h1:1≤n)(h2:n≤N)(hd:ot key p n):Go (fk key) N (fun r=>1≤r.1∧r.1≤N∧Pm key N r.2∧fT key r.2 r.1) (kas_tail3 n N p):=by
 unfold kas_tail3
 have ha:fT key (kas_rev p 0 n) n:=fun i hi=>by
  rw[qR h h2,qR h h2,if_pos (by omega),if_pos hi]
  have:=hd (n - 1 - (i+1)) (by omega)
  have e:n - 1 - (i+1)+1=n - 1 - i:=by omega
  rw[e] at this
  exact this
 exact (nh hk h.rev (N - n) n h1 (by omega) ha).bind fun m hm=>⟨by omega,by omega,h.rev,hm.2.2.1⟩
theorem CB (h:Pm key N p)(h1:1≤N):Go (fk key) N (fun r=>1≤r.1∧r.1≤N∧Pm key N r.2∧fT key r.2 r.1) (kas_count N p):=by
 unfold kas_count
 refine (nh hk h (N - 1) 1 (by omega) (by omega) fun i hi=>absurd hi (by omega)).bind fun n hn=>?_
 obtain⟨n1,n2,ha,hs⟩:=hn
 by_cases c:(n == N)=true
 ·rw[if_pos c]
  exact⟨n1,by omega,h,ha⟩
 ·rw[if_neg c]
  have cn:n≠N:=fun e=>c (by simp [e])
  by_cases d:n>1
  ·rw[if_pos d]
   refine⟨h.lt (by omega) 0,h.lt (by omega) (n - 1),?_⟩
   have up:∀ k,0<k→k<n→Ky key p 0<Ky key p k:=by
    intro k
    induction k with
    | zero=>intro z;omega
    | succ k ih =>
     intro _ hkn
     have h3:=ha k hkn
     by_cases e:k=0
     ·subst e;exact h3
     ·have:=ih (by omega) (by omega)
      omega
   have c2:key (p.getD 0 0)<key (p.getD (n - 1) 0):=up (n - 1) (by omega) (by omega)
   simp only [fk,decide_eq_true c2,if_true]
   exact⟨n1,by omega,h,ha⟩
  ·rw[if_neg d]
   have e1:n=1:=by omega
   subst e1
   unfold kas_descPart
   have h2:=hs (by omega)
   refine (rE hk h (N - (1+1)) (1+1) (by omega) (by omega) fun i hi=>?_).bind fun r hr=>?_
   ·have e:i=0:=by omega
    subst e
    exact h2
   ·obtain⟨e1,r1,r2,e2,hd⟩:=hr
    rw[if_neg (by omega),e1]
    exact C1 hk h (by omega) (by omega) hd
theorem lZ (h:Pm key N p){k:Nat}(hkN:k<N)(ha:fT key p k):∀ f l r,l≤r→r≤k→r - l≤f→(∀ i,i<l→Ky key p i<Ky key p k)→(∀ i,r≤i→i<k→Ky key p k<Ky key p i) →
  Go (fk key) N (fun m=>m≤k∧(∀ i,i<m→Ky key p i<Ky key p k)∧∀ i,m≤i→i<k→Ky key p k<Ky key p i) (kas_place p k f l r)
 | 0,l,r,h1,h2,h3,h4,h5=>⟨by omega,h4,fun i hi=>h5 i (by omega)⟩
 | f+1,l,r,h1,h2,h3,h4,h5=>by
  have mono:∀ i j,i<j→j<k→Ky key p i<Ky key p j:=by
   intro i j
   induction j with
   | zero=>intro z;omega
   | succ j ih =>
    intro hij hjk
    have:=ha j hjk
    by_cases e:i=j
    ·subst e;exact this
    ·have:=ih (by omega) (by omega)
     omega
  unfold kas_place
  by_cases c:l≥r
  ·rw[if_pos c]
   exact⟨by omega,h4,fun i hi=>h5 i (by omega)⟩
  ·rw[if_neg c]
   refine⟨h.lt (by omega) k,h.lt (by omega) _,?_⟩
   have hne:=h.ne hk (i:=k) (j:=(l+r) / 2) (by omega) (by omega) (by omega)
   by_cases d:key (p.getD k 0)<key (p.getD ((l+r) / 2) 0)
   ·simp only [fk,decide_eq_true d,if_true]
    refine lZ h hkN ha f l ((l+r) / 2) (by omega) (by omega) (by omega) h4 fun i hi hik=>?_
    have d':Ky key p k<Ky key p ((l+r) / 2):=d
    by_cases e:i=(l+r) / 2
    ·rw[e];exact d'
    ·have:=mono ((l+r) / 2) i (by omega) hik
     omega
   ·simp only [fk,decide_eq_false d,Bool.false_eq_true,if_false]
    refine lZ h hkN ha f ((l+r) / 2+1) r (by omega) (by omega) (by omega) (fun i hi=>?_) h5
    have d':¬ Ky key p k<Ky key p ((l+r) / 2):=d
    by_cases e:i=(l+r) / 2
    ·rw[e];omega
    ·have:=mono i ((l+r) / 2) (by omega) (by omega)
     omega
omit hk in
theorem Pm.bub (h:Pm key N p){k d:Nat}:Pm key N (bubble p k d):=⟨by rw[bubble_size];exact h.sz,(bubble_perm ..).trans h.pm⟩
theorem rX:∀ f (p:Array Nat) k,Pm key N p→k+f=N→1≤k→fT key p k→Go (fk key) N (fun q=>Pm key N q∧fT key q N) (kas_bin f p k)
 | 0, p, k, h, e, _, ha => ⟨h, by have : k = N := by omega
                                  subst this; exact ha⟩
 | f+1,p,k,h,e,h1,ha=>by
  unfold kas_bin
  refine (lZ hk h (by omega) ha k 0 k (by omega) (by omega) (by omega) (fun i hi=>absurd hi (by omega)) fun i hi hi2=>absurd hi (by omega)).bind fun l hl=>?_
  obtain⟨l1,l2,l3⟩:=hl
  refine rX f _ (k+1) h.bub (by omega) (by omega) fun i hi=>?_
  have g:∀ (q:Array Nat) (k:Nat),q.getD k 0=(q[k]?).getD 0:=fun q k=>by simp [Array.getD_eq_getD_getElem?]
  have ky:∀ j,Ky key (bubble p k (k - l)) j=if j=l then Ky key p k else if l<j∧j≤k then Ky key p (j - 1) else Ky key p j:=fun j=>by
   have e:=getElem?_bubble (xs:=p) (src:=k) (by rw[h.sz];omega) (k - l) (by omega) j
   have e1:k - (k - l)=l:=by omega
   rw[e1] at e
   unfold Ky
   rw[g,e]
   by_cases c:j=l
   ·rw[if_pos c,if_pos c,g]
   ·rw[if_neg c,if_neg c]
    by_cases d:l<j∧j≤k
    ·rw[if_pos d,if_pos d,g]
    ·rw[if_neg d,if_neg d,g]
  rw[ky,ky]
  by_cases c1:i=l
  ·subst c1
   rw[if_pos rfl,if_neg (by omega),if_pos (by omega)]
   exact l3 _ (by omega) (by omega)
  ·rw[if_neg c1]
   by_cases c2:i+1=l
   ·rw[if_pos c2,if_neg (by omega)]
    exact l2 i (by omega)
   ·rw[if_neg c2]
    by_cases c3:l<i
    ·rw[if_pos (by omega),if_pos (by omega)]
     have:=ha (i - 1) (by omega)
     have e1:i - 1+1=i:=by omega
     rw[e1] at this
     exact this
    ·rw[if_neg (by omega),if_neg (by omega)]
     exact ha i (by omega)
theorem Cd (h1:1≤N):Go (fk key) N (fun q=>Pm key N q∧fT key q N) (kas_sort N):=by
 unfold kas_sort
 have h0:Pm key N (List.toArray (List.range N)):=⟨by simp,Array.Perm.refl _⟩
 refine (CB hk h0 h1).bind fun r hr=>?_
 obtain⟨r1,r2,hp,ha⟩:=hr
 by_cases c:r.1<N
 ·rw[if_pos c]
  have e:max r.1 1=r.1:=by omega
  rw[e]
  exact rX hk (N - r.1) r.2 r.1 hp (by omega) r1 ha
 ·rw[if_neg c]
  have e:r.1=N:=by omega
  rw[e] at ha
  exact⟨hp,ha⟩
end
end L2
namespace L2
open PySem PySem.Spec PySem.W PyProof.Rows PySem.Calls
section
variable {prog:Program}{w:World}{A:Around}{E:Value→Shared→Prop}{s:Shared}{h₀:Heap}{L a:Addr}{m:Str→Option Value}{news:List (Addr × Obj)}{vs:List Value}
theorem xG {n:Nat}{P:PySem.Fin→Shared→Prop}(F:Fr h₀ L s.heap m)(N:News h₀ L s.heap news)(ho:s.heap.get? a=some (seqObj "list" vs.toArray n))(haL:a≠L)(ha0:h₀.get? a=none)(hna:∀ p∈news,p.1≠a)
  (h2:vs.length<2) (h:∀ h' c,Fr h₀ L h' m→News h₀ L h' ((a,seqObj "list" vs.toArray c)::news)→P (.done (.ret .none)) { s with heap:=h' }) :
  wpAny (model prog w) A (Builtin.«list.sort» ⟨[.ref a],[]⟩) P E s:=by
 have ha:a<s.heap.objs.size:=Heap.lt_size ho
 have s1:=Heap.SameBut.update s.heap a (Obj.mapSeq fun _=>(#[]:Array Value))
 obtain⟨e1,ho1⟩:∃ e1,(s.heap.update a (Obj.mapSeq fun _=>(#[]:Array Value))).get? a=some (seqObj "list" #[] e1):=⟨_,get?_update_seq ho fun _=>#[]⟩
 have F3:Fr h₀ L (((s.heap.update a (Obj.mapSeq fun _=>(#[]:Array Value))).push (seqObj "tuple" vs.toArray 0)).push (seqObj "list" #[] 0)) m:=((kas_fr F s1 haL ha0).push _).push _
 have N2:News h₀ L (((s.heap.update a (Obj.mapSeq fun _=>(#[]:Array Value))).push (seqObj "tuple" vs.toArray 0)).push (seqObj "list" #[] 0)) news :=
  (kas_news N s1 hna).grown fun b x e=>Heap.get?_push_of_some _ (Heap.get?_push_of_some _ e)
 have ho3:(((s.heap.update a (Obj.mapSeq fun _=>(#[]:Array Value))).push (seqObj "tuple" vs.toArray 0)).push (seqObj "list" #[] 0)).get? a=some (seqObj "list" #[] e1):=Heap.get?_push_of_some _ (Heap.get?_push_of_some _ ho1)
 rw[list_sort_plain]
 refine wpAny_bind (listItems_at ho rfl ?_)
 refine wpAny_bind (listUpdate_at ho rfl ?_ (by rw[List.size_toArray,sizeLine_eq];omega) (Nat.zero_le _))
 refine wpAny_bind (seqEpoch_at ho1 rfl ?_)
 refine wpAny_bind (wpAny_newTuple ?_ (by show vs.length≤_;rw[sizeLine_eq];omega))
 refine wpAny_bind (wpAny_newList ?_ (Nat.zero_le _))
 refine wpAny_holding ?_
 show wpAny (model prog w) A _ P E { s with heap:=((s.heap.update a (Obj.mapSeq fun _=>(#[]:Array Value))).push (seqObj "tuple" vs.toArray 0)).push (seqObj "list" #[] 0) }
 dsimp only
 have hn2:vs.toArray.size<2:=by rw[List.size_toArray];omega
 rw[if_pos hn2,if_pos hn2]
 refine wpAny_bind (wpAny_pure ?_)
 refine wpAny_bind (wpAny_of_eq (show (pure ():StateT SortSt Sem Unit).run (SortSt.mk' general' (vs.toArray.zip vs.toArray) #[] 7 none)=pure ((),SortSt.mk' general' (vs.toArray.zip vs.toArray) #[] 7 none) from rfl) ?_)
 dsimp only
 have hout:(arrOf (SortSt.mk' general' (vs.toArray.zip vs.toArray) #[] 7 none)).map (·.2)=vs.toArray:=by
  show (vs.toArray.zip vs.toArray).map (·.2)=vs.toArray
  have key:∀ l:List Value,(l.zip l).map (·.2)=l:=by
   intro l
   induction l with
   | nil=>rfl
   | cons x t ih=>rw[List.zip_cons_cons,List.map_cons,ih]
  apply Array.toList_inj.mp
  simp [key]
 rw[hout]
 generalize ((s.heap.update a (Obj.mapSeq fun _=>(#[]:Array Value))).push (seqObj "tuple" vs.toArray 0)).push (seqObj "list" #[] 0)=h3 at *
 have s2:=Heap.SameBut.update h3 a (Obj.mapSeq fun _=>vs.toArray)
 obtain⟨c2,hc2⟩:∃ c2,(h3.update a (Obj.mapSeq fun _=>vs.toArray)).get? a=some (seqObj "list" vs.toArray c2):=⟨_,get?_update_seq ho3 fun _=>vs.toArray⟩
 refine wpAny_bind (seqEpoch_at ho3 rfl ?_)
 refine wpAny_bind (listUpdate_at ho3 rfl ?_ (Nat.zero_le _) (by rw[List.size_toArray,sizeLine_eq];omega))
 simp only [bne_self_eq_false,Bool.false_eq_true,if_false]
 refine wpAny_pure (h _ c2 (kas_fr F3 s2 haL ha0) fun p hp=>?_)
 rcases List.mem_cons.mp hp with rfl | hp
 ·exact⟨hc2,haL,ha0⟩
 ·exact kas_news N2 s2 hna p hp
theorem xr {l:Addr}{Q:Value→Shared→Prop}(F:Fr h₀ L s.heap m)(N:News h₀ L s.heap news)(hl:s.heap.IsList l vs.toArray)(h2:vs.length<2)
  (h:∀ D h' c,Fr h₀ L h' m→News h₀ L h' ((D,seqObj "list" vs.toArray c)::news)→s.heap.objs.size≤D→Q (.ref D) { s with heap:=h' }) :
  wpAny (model prog w) A (call (.builtin "sorted") [.ref l]) Q E s:=by
 refine Calls.call_function_entry kind_sorted plain_sorted entry_sorted (args_sorted1 _) ?_
 unfold Builtin.«sorted»
 refine wpAny_bind (m:=checkCount "sorted" 1 1 _) (wpAny_pure ?_)
 refine wpAny_bind (collect_list hl ?_ (by rw[sizeLine_eq];omega))
 refine wpAny_bind (wpAny_newList ?_ (by rw[sizeLine_eq];omega))
 have hsz:((s.heap.push (seqObj "list" #[] 0)).update s.heap.objs.size (Obj.mapSeq (·++vs.toArray))).objs.size=s.heap.objs.size+1:=by
  rw[Heap.size_update,size_push']
 have hoL:(((s.heap.push (seqObj "list" #[] 0)).update s.heap.objs.size (Obj.mapSeq (·++vs.toArray))).push (seqObj "list" vs.toArray 0)).get? (s.heap.objs.size+1)=some (seqObj "list" vs.toArray 0):=by
  rw[← hsz];exact Heap.get?_push_size _ rfl
 have keep:∀ b o,s.heap.get? b=some o→(((s.heap.push (seqObj "list" #[] 0)).update s.heap.objs.size (Obj.mapSeq (·++vs.toArray))).push (seqObj "list" vs.toArray 0)).get? b=some o:=fun b o q=>by
  have hlt:b<s.heap.objs.size:=Heap.lt_size q
  rw[Heap.get?_push_ne _ _ _ (by rw[hsz];exact Nat.ne_of_lt (Nat.lt_succ_of_lt hlt)),Heap.get?_update_ne _ _ _ _ (Nat.ne_of_lt hlt),Heap.get?_push_ne _ _ _ (Nat.ne_of_lt hlt)]
  exact q
 have hL:L<s.heap.objs.size:=F.ns.lt
 show wpAny _ _ _ _ _ { s with heap:=((s.heap.push (seqObj "list" #[] 0)).update s.heap.objs.size (Obj.mapSeq (·++vs.toArray))).push (seqObj "list" vs.toArray 0) }
 rw[hsz]
 refine wpAny_bind (wpAny_holding (wpAny_call_entry slot_list_sort ⟨_,hoL,rfl⟩ entry_list_sort ?body (args_list_sort _)))
 case body =>
  refine xG (s:={ s with heap:=((s.heap.push (seqObj "list" #[] 0)).update s.heap.objs.size (Obj.mapSeq (·++vs.toArray))).push (seqObj "list" vs.toArray 0) })
   (F.kept keep) (N.grown keep) hoL (Nat.ne_of_gt (Nat.lt_succ_of_lt hL)) (Heap.get?_none_of_le (Nat.le_trans F.above (Nat.le_succ_of_le (Nat.le_of_lt hL))))
   (fun p hp=>Nat.ne_of_lt (Nat.lt_succ_of_lt (Heap.lt_size (N p hp).1))) h2 fun h' c F' N'=>?_
  exact⟨_,rfl,wpAny_pure ⟨_,rfl,h _ h' c F' N' (Nat.le_succ _)⟩⟩
theorem uR {x y:Addr}{a1 a2 b1 b2:Int}{t1 t2 u1 u2:Tok}{Q:Bool→Shared→Prop}(hx:IsTup s.heap x #[.int a1 t1,.int a2 t2])(hy:IsTup s.heap y #[.int b1 u1,.int b2 u2])
  (h:Q (decide (a1<b1)) s) (he:a1=b1→a2=b2):wpAny (model prog w) A (keyLt' (tuples' true) (.ref x) (.ref y)) Q E s:=by
 obtain⟨ox,hox,_,n,hdx⟩:=hx
 obtain⟨oy,hoy,_,k,hdy⟩:=hy
 refine kat_lt hox hdx hoy hdy ?_
 refine kat_cons (wpAny_eqBool_int ?_)
 by_cases c:a1=b1
 ·subst c
  have c2:=he rfl
  subst c2
  have e1:(a1 == a1)=true:=by simp
  rw[e1]
  refine kat_yes (kat_cons (wpAny_eqBool_int ?_))
  have e2:(a2 == a2)=true:=by simp
  rw[e2]
  refine kat_yes (kat_nil ?_)
  have e3:decide (a1<a1)=false:=by simp
  rw[e3] at h
  exact h
 ·have e1:(a1 == b1)=false:=by simpa using c
  rw[e1]
  refine kat_no ?_
  show wpAny _ _ (oneLt' true _ _) _ _ _
  exact kat_lt_int h
end
end L2
namespace L2
open PySem PySem.Spec PySem.W PyProof.Rows PySem.Calls
theorem HOk.there {P:Program}{w:World}{H:Hp}{h:Heap}{a:Addr}{o:HO}(x:HOk P w H h)(e:H a=some o):∃ ob,h.get? a=some ob:=by
 have x:=x a o e
 cases o with
 | lst xs=>obtain⟨_,_,_,_,e⟩:=x;exact⟨_,e⟩
 | tup xs=>obtain⟨_,_,_,ob,e,_⟩:=x;exact⟨_,e⟩
 | dK kvs=>obtain⟨_,_,_,_,o,_,_,e,_⟩:=x;exact⟨_,e⟩
 | dT kvs=>obtain⟨_,_,_,_,o,_,_,e,_⟩:=x;exact⟨_,e⟩
 | set S n=>obtain⟨o,_,_,_,e,_⟩:=x;exact⟨_,e⟩
 | ins C dx fs=>obtain⟨_,_,_,e,_⟩:=x;exact⟨_,e⟩
 | own y=>obtain⟨_,e⟩:=x;exact⟨_,e⟩
 | xd fs=>obtain⟨_,⟨_,_,_,e,_⟩,_⟩:=x;exact⟨_,e⟩
 | rng lo hi=>obtain⟨_,_,_,e⟩:=x;exact⟨_,e⟩
 | frz ob u=>obtain⟨e,_⟩:=x;exact⟨_,e⟩
 | tbl ps=>rcases x with x | ⟨_,_,_,_,_,_,_,_,_,_,x,_⟩ <;> exact⟨_,x⟩
 | met f y=>exact⟨_,(show h.get? a=some _ from x)⟩
 | ext φ=>obtain⟨_,⟨_,e⟩,_⟩:=x;exact⟨_,e⟩
theorem Inv.listNew {X:Cx}{pins:List (Addr × Obj)}{σ:St}{H:Hp}{s:Shared}{h':Heap}{m:Str→Option Value}{Da:Addr}{vs:List V}{its:List Value}{c:Nat}(I:Inv X pins σ H s)(hm:s.heap.Ns X.env.locals m)(hm':h'.Ns X.env.locals m)
  (keep:∀ b o,b≠X.env.locals→s.heap.get? b=some o→h'.get? b=some o) (hD:s.heap.get? Da=none) (hDo:h'.get? Da=some (seqObj "list" its.toArray c)) (rv:Vals vs its) (hz:vs.length≤sizeLine) :
  H Da=none∧Inv X pins σ (aJ H Da (.lst vs)) { s with heap:=h' }:=by
 have hn:H Da=none:=by
  cases e:H Da with
  | none=>rfl
  | some o=>obtain⟨ob,q⟩:=I.hok.there e;rw[hD] at q;cases q
 refine⟨hn,I.step (H':=aJ H Da (.lst vs)) (h':=h') (g':=s.gens) (t':=s.toks) (d':=s.drawn) (ch:=[]) (fun b z=>absurd z (by simp)) (fun b o hL _ _ e _=>keep b o hL e) (fun b o hL _ _ e _=>⟨o.slots,keep b o hL e⟩) (fun b o _ e n=>?_) (fun b o _ e=>?_)
  (fun b xs e=>by rw[ba (cx e hn)];exact e) (fun b o u e=>by rw[ba (cx e hn)];exact e) (fun b ps e=>by rw[ba (cx e hn)];exact e) (fun m' h2=>?_) (fun b u e=>?_) I.bare⟩
 ·have hb:b≠Da:=fun z=>by rw[z,hD] at e;cases e
  rw[ba hb];exact n
 ·by_cases hL:b=X.env.locals
  ·obtain⟨o',_,_,ho',_⟩:=hm'
   exact⟨o',by rw[hL];exact ho'⟩
  ·exact⟨o,keep b o hL e⟩
 ·rw[h2.eq_nsMap,← hm.eq_nsMap]
  exact hm'
 ·by_cases hb:b=Da
  ·subst hb
   rw[bw] at e
   cases e
   exact⟨hz,its,c,rv,hDo⟩
  ·rw[ba hb] at e
   refine (I.hok b u e).stay (fun d v hc q=>keep d v ?_ q) (fun d q=>by rw[ba (cx q hn)];exact q) (fun d xs q=>by rw[ba (cx q hn)];exact q) fun d ob w q=>by rw[ba (cx q hn)];exact q
   rcases hc with z | z
   ·rw[z];intro z2;rw[z2,I.free] at e;cases e
   ·intro z2;rw[z2,I.free] at z;cases z
theorem ug {h:Heap}:∀ {its:List Value},(∀ v∈its,∃ (x:Addr) (a b:Int) (t t':Tok),v=.ref x∧IsTup h x #[.int a t,.int b t'])→∃ fs,KatTups h its fs∧fs.length=its.length∧∀ v∈fs,∃ (i:Int) (t:Tok),v=Value.int i t
 | [],_=>⟨[],.nil,rfl,fun v hv=>by simp at hv⟩
 | v::its,hv=>by
  obtain⟨fs,h1,h2,h3⟩:=ug (its:=its) fun v' hv'=>hv v' (List.mem_cons_of_mem _ hv')
  obtain⟨x,a,b,t,t',rfl,o,ho,hc,n,hd⟩:=hv v List.mem_cons_self
  refine⟨.int a t::fs,.cons ho hc hd rfl h1,by simp [h2],fun v' hv'=>?_⟩
  rcases List.mem_cons.mp hv' with rfl | hv'
  ·exact⟨a,t,rfl⟩
  ·exact h3 v' hv'
theorem sO {vs:List V}{its:List Value}(r:Vals vs its):∀ l:List Nat,Vals (l.map fun i=>vs.getD i .non) (l.map fun i=>its.getD i .none)
 | []=>.nil
 | i::l=>by
  refine .cons ?_ (sO r l)
  show RelV (vs.getD i .non) (its.getD i .none)
  rw[List.getD_eq_getElem?_getD,List.getD_eq_getElem?_getD]
  cases e:vs[i]? with
  | none=>rw[r.none_of e];rfl
  | some v=>obtain⟨u,h1,h2⟩:=r.get e;rw[h1];exact h2
abbrev iL (p:Int × Int):D:=.tup [.int p.1,.int p.2]
def vf:aR:=fun ds R=>match ds with
 | [.lst es]=>∃ ps:List (Int × Int),es=ps.map iL∧ps.length<64∧(∀ (i j:Nat) (p q:Int × Int),ps[i]?=some p→ps[j]?=some q→p.1=q.1→i=j)∧∀ qs:List (Int × Int),qs.Perm ps→qs.Pairwise (fun a b=>a.1<b.1)→R (.lst (qs.map iL))
 | _=>False
theorem mq {α:Type}(d:α)(l:List α):(List.range l.length).map (fun i=>l.getD i d)=l:=by
 refine List.ext_getElem? fun i=>?_
 rw[List.getElem?_map]
 by_cases h:i<l.length
 ·rw[List.getElem?_range h]
  show some (l.getD i d)=_
  rw[List.getD_eq_getElem?_getD,List.getElem?_eq_getElem h]
  rfl
 ·rw[List.getElem?_eq_none (by rw[List.length_range];omega),List.getElem?_eq_none (by omega)]
  rfl
section
variable {K:Frag}{X:Cx}
theorem pP:CallD K X (.builtin "sorted") vf:=⟨fun hK pins s σ H xs us Q I rr hq0=>by
 obtain⟨Φ,ds,R,sm,hl,h,k⟩:=hq0
 subst hK
 match ds,h with
 | [.lst es],⟨ps,hes,h64,hinj,hR⟩ =>
  subst hes
  obtain⟨v,rfl,r⟩:=ei hl
  obtain⟨a,vs,rfl,q1,q2⟩:=r.lst sm
  cases rr with
  | cons r0 rr =>
  cases rr
  cases r0
  obtain⟨hz,its,n,rvs,e1,e2⟩:=I.lstM q1
  have lv:vs.length=ps.length:=by rw[q2.1,List.length_map]
  have tp:∀ (i:Nat) (p:Int × Int),ps[i]?=some p→∃ (x:Addr) (t t':Tok),its[i]?=some (.ref x)∧IsTup s.heap x #[.int p.1 t,.int p.2 t']:=fun i p hp=>by
   obtain⟨v,hv,rv⟩:=q2.at (i:=i) (d:=iL p) (by rw[List.getElem?_map,hp];rfl)
   cases rv with
   | @tup x ws _ h1 h2 h3 =>
    obtain⟨u,hu,ru⟩:=rvs.get hv
    cases (show u=Value.ref x from ru)
    match ws,h2,h1,h3 with
    | [y,z],_,h1,h3 =>
     have r1:=h3 0 y (.int p.1) rfl rfl
     have r2:=h3 1 z (.int p.2) rfl rfl
     cases r1
     cases r2
     obtain⟨its',r',p',_⟩:=I.tuple (sm.sqt h1)
     cases r' with
     | cons a1 r' =>
     cases r' with
     | cons a2 r' =>
     cases r'
     obtain⟨t,rfl⟩:=a1
     obtain⟨t',rfl⟩:=a2
     exact⟨x,t,t',hu,p'⟩
  obtain⟨m,hm,hloc⟩:=id I.loc
  have F:=Att.fr_all hm
  have N:News (Att.noObjs s.heap) X.env.locals s.heap (jI (Att.noObjs s.heap) s.heap X.env.locals):=vz
  have keepN:∀ {h':Heap} {l:List (Addr × Obj)},News (Att.noObjs s.heap) X.env.locals h' l→(∀ q∈jI (Att.noObjs s.heap) s.heap X.env.locals,q∈l)→∀ b o,b≠X.env.locals→s.heap.get? b=some o→h'.get? b=some o:=fun N' hs b o hL e=>(N' (b,o) (hs _ (qK hL (Att.noObjs_get _ _) e))).1
  have notT:∀ {x:Addr} {us:Array Value},IsTup s.heap x us→x≠X.env.locals:=fun {x us} hq1 z=>by
   obtain⟨o,ho,_,n,hd⟩:=hq1
   obtain⟨o',es,ep,ho',hd',_⟩:=hm
   rw[z,ho'] at ho;cases ho;rw[hd'] at hd;cases hd
  have fin:∀ (l:List Nat) (Da:Addr) (h':Heap) (c:Nat),l.Perm (List.range ps.length)→(l.map fun i=>ps.getD i (0,0)).Pairwise (fun a b=>a.1<b.1)→s.heap.get? Da=none→h'.Ns X.env.locals m→(∀ b o,b≠X.env.locals→s.heap.get? b=some o→h'.get? b=some o) →
    h'.get? Da=some (seqObj "list" (l.map fun i=>its.getD i .none).toArray c)→EP X pins σ Q (.ref Da) { s with heap:=h' }:=fun l Da h' c hp hs hD hm' keep hDo=>by
   have rp:=sO rvs l
   have ll:l.length=ps.length:=by rw[hp.length_eq,List.length_range]
   obtain⟨hn,I2⟩:=I.listNew hm hm' keep hD hDo rp (by rw[List.length_map,ll,← lv];exact hz)
   have sn:=cI (sm.free hn) (.lst (l.map fun i=>vs.getD i .non))
   have rl:RpL X.K Φ ((l.map fun i=>ps.getD i (0,0)).map iL) (l.map fun i=>vs.getD i .non):=by
    refine⟨by simp,fun i v d hv hd=>?_⟩
    rw[List.getElem?_map] at hv hd
    rw[List.getElem?_map] at hd
    cases e:l[i]? with
    | none=>rw[e] at hv;cases hv
    | some j =>
     rw[e] at hv hd
     cases hv
     cases hd
     have hj:j<ps.length:=List.mem_range.mp (hp.mem_iff.mp (List.mem_of_getElem? e))
     refine q2.2 j _ _ ?_ ?_
     ·show vs[j]?=some (vs.getD j .non)
      rw[List.getD_eq_getElem?_getD,aX (show j<vs.length by omega)];rfl
     ·show (ps.map iL)[j]?=some (iL (ps.getD j (0,0)))
      rw[List.getElem?_map,List.getD_eq_getElem?_getD,aX hj];rfl
   have pq:(l.map fun i=>ps.getD i (0,0)).Perm ps:=by
    have:=hp.map fun i=>ps.getD i (0,0)
    rw[mq] at this
    exact this
   exact⟨.ref Da,_,I2,rfl,k _ _ _ _ (hR _ pq hs) (.new sm hn _) ((rl.same sn).lst bw)⟩
  have hls:s.heap.IsList a its.toArray:=⟨_,e2,rfl,_,rfl⟩
  by_cases c2:its.length<2
  ·refine xr F N hls c2 fun Da h' c F' N' hge=>?_
   refine fin (List.range ps.length) Da h' c (.refl _) ?_ (Heap.get?_none_of_le hge) F'.ns (keepN N' fun q hq=>List.mem_cons_of_mem _ hq) ?_
   ·rw[mq]
    match ps,(show ps.length<2 by omega) with
    | [],_=>exact .nil
    | [p],_=>exact List.pairwise_singleton _ _
   ·have:(List.range ps.length).map (fun i=>its.getD i Value.none)=its:=by
     rw[← lv,e1]
     exact mq _ its
    rw[this]
    exact (N' _ List.mem_cons_self).1
  ·have lp:its.length=ps.length:=by omega
   refine kat_sorted F N hls (by omega) (by omega) fun Da d1 h' F' N' hlt=>?_
   have keep:=keepN N' fun q hq=>List.mem_cons_of_mem _ hq
   have hD:s.heap.get? Da=none:=by
    cases e:s.heap.get? Da with
    | none=>rfl
    | some o =>
     have nL:=(N' _ List.mem_cons_self).2.1
     exact absurd (hlt _ (qK nL (Att.noObjs_get _ _) e)) (Nat.lt_irrefl _)
   have tp':∀ (i:Nat) (p:Int × Int),ps[i]?=some p→∃ (x:Addr) (t t':Tok),its[i]?=some (.ref x)∧IsTup h' x #[.int p.1 t,.int p.2 t']:=fun i p hp=>by
    obtain⟨x,t,t',h1,h2⟩:=tp i p hp
    have nL:=notT h2
    obtain⟨o,ho,r⟩:=h2
    exact⟨x,t,t',h1,o,keep _ _ nL ho,r⟩
   obtain⟨fs,k1,k2,k3⟩:=ug (h:=h') (its:=its) fun v hv=>by
    obtain⟨i,hi⟩:=List.getElem?_of_mem hv
    have hil:i<ps.length:=by have:=c9 hi;omega
    obtain⟨x,t,t',h1,h2⟩:=tp' i _ (aX hil)
    rw[hi] at h1
    cases h1
    exact⟨x,_,_,t,t',rfl,h2⟩
   refine kat_kind (s:={ s with heap:=h' }) (T:=.type "int") k1 (by omega) (fun v hv=>by obtain⟨i,t,rfl⟩:=k3 v hv;exact Looks.of_pure rfl) (by decide) ?_
   show KasT.kasWp (kas_ask _ _ _ (tuples' true) its) (kas_sort its.length) _ _
   have hk:∀ i j,i<its.length→j<its.length→(fun i=>(ps.getD i (0,0)).1) i=(fun i=>(ps.getD i (0,0)).1) j→i=j:=fun i j hi hj e=>by
    have g:∀ i,i<ps.length→ps[i]?=some (ps.getD i (0,0)):=fun i hi=>by rw[List.getD_eq_getElem?_getD,aX hi];rfl
    exact hinj i j _ _ (g i (by omega)) (g j (by omega)) e
   refine Go.wp (f:=fk fun i=>(ps.getD i (0,0)).1) (N:=its.length) (fun i j C hi hj hC=>?_) (fun p hp=>?_) (Cd (key:=fun i=>(ps.getD i (0,0)).1) hk (by omega))
   ·have g:∀ i,i<ps.length→ps[i]?=some (ps.getD i (0,0)):=fun i hi=>by rw[List.getD_eq_getElem?_getD,aX hi];rfl
    obtain⟨x,t1,t2,x1,x2⟩:=tp' i _ (g i (by omega))
    obtain⟨y,u1,u2,y1,y2⟩:=tp' j _ (g j (by omega))
    have ex:its.getD i Value.none=.ref x:=by rw[List.getD_eq_getElem?_getD,x1];rfl
    have ey:its.getD j Value.none=.ref y:=by rw[List.getD_eq_getElem?_getD,y1];rfl
    unfold kas_ask
    rw[ex,ey]
    exact uR x2 y2 hC fun e=>by
     have:=hinj i j _ _ (g i (by omega)) (g j (by omega)) e
     rw[this]
   ·obtain⟨hpm,hasc⟩:=hp
    refine KasFin.intro F' N' (.head fun q hq=>Nat.ne_of_lt (hlt q hq)) fun h2 c F2 N2=>?_
    have hp:p.toList.Perm (List.range ps.length):=by
     have:=hpm.pm.toList
     rw[← lp]
     simpa using this
    refine fin p.toList Da h2 c hp ?_ hD F2.ns (keepN N2 fun q hq=>List.mem_cons_of_mem _ hq) (N2 _ List.mem_cons_self).1
    have up:∀ j i,i<j→j<its.length→Ky (fun i=>(ps.getD i (0,0)).1) p i<Ky (fun i=>(ps.getD i (0,0)).1) p j:=by
     intro j
     induction j with
     | zero=>intro i hi;omega
     | succ j ih =>
      intro i hi hj
      have h3:=hasc j hj
      by_cases e:i=j
      ·subst e;exact h3
      ·have:=ih i (by omega) (by omega)
       omega
    rw[List.pairwise_iff_getElem]
    intro i j hi hj hij
    rw[List.length_map] at hi hj
    have hpl:p.toList.length=its.length:=by rw[Array.length_toList];exact hpm.sz
    have h4:=up j i hij (by omega)
    have gd:∀ i (hi:i<p.toList.length),p.getD i 0=p.toList[i]:=fun i hi=>by
     have:i<p.size:=by simpa using hi
     simp [Array.getD,this]
    unfold Ky at h4
    rw[gd i hi,gd j hj] at h4
    simpa using h4⟩
end
end L2
namespace L2
open PySem PySem.Spec PyProof.Rows
section
variable {X:Cx}
end
section
variable {K:Frag}{X:Cx}{e e2:Expr}{te te2:TD}{pos:Pos}
end
section
variable {K:Frag}{X:Cx}
end
section
variable {K:Frag}{X:Cx}{e ev:Expr}{te tv:TD}{pos:Pos}
end
section
variable {X:Cx}
end
section
variable {K:Frag}{X:Cx}{a b:Expr}{ta tb:TD}{apos cpos:Pos}
end
end L2
namespace L2
open PySem PySem.Spec PySem.W PyProof.Rows PySem.Calls
section
variable {K:Frag}{X:Cx}
end
end L2
namespace L2
open PySem PySem.Spec PyProof.Rows
section
variable {K:Frag}{X:Cx}{e ev:Expr}{te tv:TD}{tk:TDK}{pos p:Pos}
end
section
variable {K:Frag}{X:Cx}{a:Expr}{pos p p2 pos2:Pos}{tl:br}
end
section
variable {K:Frag}{X:Cx}{e:Expr}{es:List Expr}{pos p:Pos}{tl:br}{te:TD}{tf:br}{sp:aR}{CX:dQ}{k:Nat}{f:Addr}{fd:FuncData}{ps:List Str}{x:Str}{E:XK}
end
structure Cl (P:Program)(w:World)(K:Frag)(mg:Str→Option Value)(base:Heap)(n:Nat)(x:Str)(ps:List Str)(z:aR):Prop where
 ex:∃ (f:Addr) (fd:FuncData),FnOk P w K mg base aS n f fd ps (aZ K z)∧Binds K fd ps []∧keepIn K (.ref f)=true∧mg x=some (.ref f)
section
variable {P:Program}{w:World}{K:Frag}{mg:Str→Option Value}{base:Heap}{n m:Nat}{x:Str}{ps:List Str}{z:aR}{X:Cx}{e:Expr}{es:List Expr}{pos p:Pos}{tl:br}{st:Stmt}{f:Addr}{fd:FuncData}{h:Heap}
theorem Cl.mono (C:Cl P w K mg base n x ps z)(k:n≤m):Cl P w K mg base m x ps z:=by
 obtain⟨f,fd,F,r⟩:=C.ex
 exact⟨f,fd,F.mono k,r⟩
theorem Cl.of (F:Fun K x x st f fd)(b:Binds K fd ps [])(m:mg x=some (.ref f))(H:FnOk P w K mg base aS n f fd ps (aZ K z)):Cl P w K mg base n x ps z:=⟨f,fd,H,b,F.kp,m⟩
theorem aC (C:Cl X.prog X.w K X.mg X.base n x ps z)(hr:Room n X.A)(hg:Gl X x)
  (ha:PAD K X (e::es) tl) (he:starEach (e::es) X.env=(false,eval e X.env)::starEach es X.env) (hpl:(backTo pos (starEach es X.env)).any (·.1)=false) (hdb:(x == ("__debug__":Str))=false:=by decide) :
  PD K X (.Call (.Name x p) (e::es) [] pos) (ka z tl):=⟨fun hK=>by
 subst hK
 obtain⟨f,fd,F,b,k,m⟩:=C.ex
 exact (zw F hr hg m k b mO ha he hpl hdb).pe rfl⟩
def dE (P:Params)(x:Str)(n:Nat)(v:Value):DictEntry:=⟨PyData.keyHash P x,.str x n,v⟩
def cO (n:Str)(a:Nat)(q:Str)(b c:Nat)(l m:Int)(k:Int)(r:Nat)(g:Int)(t:Nat)(x y:Value)(z:Nat)(i:Int)(d:Nat):Obj:=⟨.type "code",none,.fields #[.str n a,.str q b,.str "/claim/cut.py" c,.int l 0,.int m 0,.int 0 0,.int 0 0,.int k 0,.ref r,.bool true,.int g 0,.ref t,.none,x,y,.ref z,.int i 0,.int l 0,.str "/claim/cut.py" d],#[]⟩
def fO (s:Stmt)(n q m:Str)(i c:Nat):Obj:=⟨.type "function",none,.func (fnOf n q (fh s) (eg s) (ay s) .none .none .none (.str m i) none (.ref c) .none),#[]⟩
def Has (K:Frag)(s:Stmt)(x:Str):Prop:=∃ f m i c,nsIn K mainGlobals x=some (some (.ref f))∧K.lookup f=some (fO s x x m i c)∧codeIn K (.ref c) x=true
theorem Has.of {s:Stmt}{m:Str}{i c:Nat}(a:nsIn K mainGlobals x=some (some (.ref f)))(l:K.lookup f=some (fO s x x m i c))(k:codeIn K (.ref c) x=true):Has K s x:=⟨f,m,i,c,a,l,k⟩
theorem Has.fn (a:Has K st x)(X:K.In h)(G:h.Ns mainGlobals mg):∃ f fd,Fun K x x st f fd∧mg x=some (.ref f)∧∃ m i c,fd=fnOf x x (fh st) (eg st) (ay st) .none .none .none (.str m i) none (.ref c) .none:=by
 obtain⟨f,m,i,c,a,l,k⟩:=a
 exact⟨f,_,l5 l k (by unfold keepIn;simp only [l];rfl),mg_of X G a,m,i,c,rfl⟩
theorem Fun.cl (F:Fun K x x st f fd)(m:mg x=some (.ref f))(H:FnOk P w K mg base aS n f fd ps (aZ K z))
  (b:∀ (kV doc pm:Value) (an:Option Addr) (cdv ct:Value) (us:List Value),us.length=ps.length→bindArgs (fnOf x x (fh st) (eg st) (ay st) .none kV doc pm an cdv ct) ⟨us,[]⟩=pure (ps.zip us)):Cl P w K mg base n x ps z:=.of F (F.binds b) m H
end
section
variable {K:Frag}{X:Cx}{n:Nat}{x:Str}{ps:List Str}{z:aR}{e:Expr}{es:List Expr}{pos p:Pos}{tl:br}
end
end L2
namespace Wk
def sm:Nat→(Nat→Int)→Int
 | 0,_=>0
 | n+1,f=>sm n f+f n
theorem sm_congr:∀ {n:Nat} {f g:Nat→Int},(∀ i,i<n→f i=g i)→sm n f=sm n g
 | 0,_,_,_=>rfl
 | n+1,f,g,h=>by
  show sm n f+f n=sm n g+g n
  rw[sm_congr fun i hi=>h i (by omega),h n (by omega)]
theorem sm_zero:∀ (n:Nat),sm n (fun _=>0)=0
 | 0=>rfl
 | n+1=>by show sm n _+0=0;rw[sm_zero n];rfl
theorem gk (x y:Int)(f g:Nat→Int):∀ n:Nat,sm n (fun i=>x*f i+y*g i)=x*sm n f+y*sm n g
 | 0=>by show (0:Int)=x*0+y*0;omega
 | n+1=>by
  show sm n _+(x*f n+y*g n)=x*(sm n f+f n)+y*(sm n g+g n)
  rw[gk x y f g n]
  grind
theorem sm_add (f g:Nat→Int)(n:Nat):sm n (fun i=>f i+g i)=sm n f+sm n g:=by
 have:=gk 1 1 f g n
 simp only [Int.one_mul] at this
 exact this
theorem sm_mul (x:Int)(f:Nat→Int)(n:Nat):sm n (fun i=>x*f i)=x*sm n f:=by
 have:=gk x 0 f f n
 simp only [Int.zero_mul,Int.add_zero] at this
 exact this
theorem eH:∀ {n k:Nat} {f:Nat→Int},k<n→(∀ i,i<n→i≠k→f i=0)→sm n f=f k
 | 0,_,_,h,_=>absurd h (by omega)
 | n+1,k,f,h,hz=>by
  show sm n f+f n=f k
  by_cases c:k=n
  ·subst c
   rw[sm_congr (g:=fun _=>0) fun i hi=>hz i (by omega) (by omega),sm_zero]
   omega
  ·rw[eH (by omega:k<n) fun i hi=>hz i (by omega),hz n (by omega) (by omega)]
   omega
theorem qi:∀ {n k:Nat} {f:Nat→Int},k+1<n→(∀ i,i<n→i≠k→i≠k+1→f i=0)→sm n f=f k+f (k+1)
 | 0,_,_,h,_=>absurd h (by omega)
 | n+1,k,f,h,hz=>by
  show sm n f+f n=f k+f (k+1)
  by_cases c:k+1=n
  ·subst c
   rw[eH (by omega:k<k+1) fun i hi hne=>hz i (by omega) hne (by omega)]
  ·rw[qi (by omega:k+1<n) fun i hi=>hz i (by omega),hz n (by omega) (by omega) (by omega)]
   omega
theorem jz (f:Nat→Nat→Int)(m:Nat):∀ n:Nat,sm n (fun i=>sm m (f i))=sm m (fun j=>sm n fun i=>f i j)
 | 0=>(sm_zero m).symm
 | n+1=>by
  show sm n _+sm m (f n)=sm m (fun j=>sm n (fun i=>f i j)+f n j)
  rw[jz f m n,← sm_add]
abbrev Mx:=Nat→Nat→Int
def mn (i:Nat)(A:Mx):Mx:=fun a j=>A (if a<i then a else a+1) (j+1)
def sg:Nat→Int
 | 0=>1
 | n+1=>- sg n
def det:Nat→Mx→Int
 | 0,_=>1
 | n+1,A=>sm (n+1) fun i=>sg i*A i 0*det n (mn i A)
def up (A:Mx)(k:Nat)(r:Nat→Int):Mx:=fun i j=>if i=k then r j else A i j
theorem gK {A:Mx}{k:Nat}{r:Nat→Int}:up A k r k=r:=by funext j;unfold up;rw[if_pos rfl]
theorem fC {A:Mx}{k i:Nat}{r:Nat→Int}(h:i≠k):up A k r i=A i:=by funext j;unfold up;rw[if_neg h]
theorem xX {A:Mx}{k:Nat}{r q:Nat→Int}:up (up A k r) k q=up A k q:=by
 funext i j
 unfold up
 split <;> rfl
theorem mS {A:Mx}{k:Nat}:up A k (A k)=A:=by
 funext i j
 unfold up
 split
 ·next h=>rw[h]
 ·rfl
theorem nJ {A:Mx}{k l:Nat}{r q:Nat→Int}(h:k≠l):up (up A k r) l q=up (up A l q) k r:=by
 funext i j
 unfold up
 by_cases c:i=l
 ·subst c
  rw[if_pos rfl,if_neg (Ne.symm h),if_pos rfl]
 ·rw[if_neg c,if_neg c]
theorem mL {A:Mx}{i:Nat}{r:Nat→Int}:mn i (up A i r)=mn i A:=by
 funext a j
 unfold mn up
 have:¬ (if a<i then a else a+1)=i:=by split <;> omega
 rw[if_neg this]
theorem nR {A:Mx}{i k:Nat}{r:Nat→Int}(h:i≠k):mn i (up A k r)=up (mn i A) (if k<i then k else k - 1) (fun j=>r (j+1)):=by
 funext a j
 unfold mn up
 by_cases c:(if a<i then a else a+1)=k
 ·have c':a=(if k<i then k else k - 1):=by split at c <;> split <;> omega
  rw[if_pos c,if_pos c']
 ·have c':¬ a=(if k<i then k else k - 1):=by split at c <;> split <;> omega
  rw[if_neg c,if_neg c']
theorem det_congr:∀ {n:Nat} {A B:Mx},(∀ i j,i<n→j<n→A i j=B i j)→det n A=det n B
 | 0,_,_,_=>rfl
 | n+1,A,B,h=>by
  unfold det
  refine sm_congr fun i hi=>?_
  rw[h i 0 hi (by omega),det_congr (A:=mn i A) (B:=mn i B) fun a j ha hj=>h _ _ (by split <;> omega) (by omega)]
theorem i4 (x y:Int):∀ {n:Nat} {A:Mx} {k:Nat} (r q:Nat→Int),k<n→det n (up A k fun j=>x*r j+y*q j)=x*det n (up A k r)+y*det n (up A k q)
 | 0,_,_,_,_,h=>absurd h (by omega)
 | n+1,A,k,r,q,h=>by
  unfold det
  rw[← gk]
  refine sm_congr fun i hi=>?_
  by_cases c:i=k
  ·subst c
   rw[mL,mL,mL,gK,gK,gK]
   grind
  ·rw[nR c,nR c,nR c,fC c,fC c,fC c]
   rw[i4 x y (A:=mn i A) (k:=if k<i then k else k - 1) (fun j=>r (j+1)) (fun j=>q (j+1)) (by split <;> omega)]
   grind
theorem ly:∀ {n:Nat} {A:Mx} {k:Nat},k+1<n→(∀ j,j<n→A k j=A (k+1) j)→det n A=0
 | 0,_,_,h,_=>absurd h (by omega)
 | n+1,A,k,h,he=>by
  unfold det
  rw[qi h fun i hi h1 h2=>?_]
  ·have e:det n (mn k A)=det n (mn (k+1) A):=det_congr fun a j ha hj=>by
    unfold mn
    by_cases c:a=k
    ·subst c
     rw[if_neg (by omega),if_pos (by omega)]
     exact (he (j+1) (by omega)).symm
    ·by_cases c2:a<k
     ·rw[if_pos c2,if_pos (by omega)]
     ·rw[if_neg c2,if_neg (by omega)]
   rw[e,he 0 (by omega)]
   show sg k*A (k+1) 0*_+(- sg k)*A (k+1) 0*_=0
   grind
  ·have:det n (mn i A)=0:=by
    by_cases c:i<k
    ·refine ly (k:=k - 1) (by omega) fun j hj=>?_
     unfold mn
     rw[if_neg (by omega),if_neg (by omega),show k - 1+1=k by omega]
     exact he (j+1) (by omega)
    ·refine ly (k:=k) (by omega) fun j hj=>?_
     unfold mn
     rw[if_pos (by omega),if_pos (by omega)]
     exact he (j+1) (by omega)
   rw[this,Int.mul_zero]
theorem xP {n:Nat}{A:Mx}{k:Nat}(h:k+1<n)(r q:Nat→Int):det n (up (up A k r) (k+1) q) = - det n (up (up A k q) (k+1) r):=by
 have z:∀ s:Nat→Int,det n (up (up A k s) (k+1) s)=0:=fun s=>ly h fun j _=>by
  rw[fC (by omega:k≠k+1),gK,gK]
 have lk:∀ v:Nat→Int,det n (up (up A k fun j=>1*r j+1*q j) (k+1) v)=1*det n (up (up A k r) (k+1) v)+1*det n (up (up A k q) (k+1) v):=fun v=>by
  have hc:k≠k+1:=by omega
  rw[nJ hc,nJ hc,nJ hc]
  exact i4 1 1 r q (by omega)
 have e1:=z fun j=>1*r j+1*q j
 rw[i4 1 1 r q (by omega),lk,lk,z,z] at e1
 omega
theorem nU:∀ (d:Nat) {n:Nat} {A:Mx} {k:Nat},k+d+1<n→(∀ j,A k j=A (k+d+1) j)→det n A=0
 | 0,n,A,k,h,he=>ly h fun j _=>he j
 | d+1,n,A,k,h,he=>by
  have e:A=up (up A (k+d+1) (A (k+d+1))) (k+d+1+1) (A (k+d+1+1)):=by rw[mS,mS]
  rw[e,xP (by omega)]
  have:det n (up (up A (k+d+1) (A (k+d+1+1))) (k+d+1+1) (A (k+d+1)))=0:=by
   refine nU d (k:=k) (by omega) fun j=>?_
   rw[fC (by omega),fC (by omega),fC (by omega),gK]
   exact he j
  rw[this]
  rfl
theorem zm {n:Nat}{A:Mx}{k l:Nat}(hk:k<n)(hl:l<n)(hne:k≠l)(he:A k=A l):det n A=0:=by
 rcases Nat.lt_or_ge k l with c | c
 ·exact nU (l - k - 1) (k:=k) (by omega) fun j=>by rw[show k+(l - k - 1)+1=l by omega,he]
 ·exact nU (k - l - 1) (k:=l) (by omega) fun j=>by rw[show l+(k - l - 1)+1=k by omega,he]
def un (i:Nat):Nat→Int:=fun j=>if j=i then 1 else 0
theorem mW:∀ n:Nat,det n un=1
 | 0=>rfl
 | n+1=>by
  unfold det
  rw[eH (k:=0) (by omega) fun i hi hne=>?_]
  ·have e:mn 0 un=un:=by
    funext a j
    show (if j+1=(if a<0 then a else a+1) then (1:Int) else 0)=if j=a then 1 else 0
    rw[show (if a<0 then a else a+1)=a+1 from if_neg (by omega)]
    by_cases c:j=a
    ·rw[if_pos c,if_pos (by omega)]
    ·rw[if_neg c,if_neg (by omega)]
   rw[e,mW n]
   rfl
  ·show sg i*(if (0:Nat)=i then 1 else 0)*_=0
   rw[if_neg (by omega)]
   grind
def co (n:Nat)(A:Mx)(k:Nat):Nat→Int:=fun j=>det n (up A k (un j))
theorem yV {n:Nat}{A:Mx}{k:Nat}(h:k<n):det n (up A k fun _=>0)=0:=by
 have:=i4 0 0 (A:=A) (fun _=>0) (fun _=>0) h
 have e:(fun j:Nat=>(0:Int)*(fun _=>0) j+0*(fun _=>0) j)=fun _=>0:=by funext j;rfl
 rw[e] at this
 omega
theorem o8 {n:Nat}{A:Mx}{k:Nat}(h:k<n)(r:Nat→Int):∀ m:Nat,det n (up A k fun j=>if j<m then r j else 0)=sm m (fun j=>r j*co n A k j)
 | 0=>by
  have e:(fun j=>if j<0 then r j else 0)=fun _=>(0:Int):=by funext j;rw[if_neg (by omega)]
  rw[e]
  exact yV h
 | m+1=>by
  have e:(fun j=>if j<m+1 then r j else 0)=fun j=>1*(if j<m then r j else 0)+r m*un m j:=by
   funext j
   unfold un
   by_cases c:j=m
   ·subst c;rw[if_pos (by omega),if_neg (by omega),if_pos rfl];omega
   ·rw[if_neg c]
    by_cases c2:j<m
    ·rw[if_pos c2,if_pos (by omega)];omega
    ·rw[if_neg c2,if_neg (by omega)];omega
  rw[e,i4 1 (r m) _ (un m) h,o8 h r m]
  show 1*_+r m*co n A k m=_+r m*co n A k m
  omega
theorem um {n:Nat}{A:Mx}{k:Nat}(h:k<n)(r:Nat→Int):sm n (fun j=>r j*co n A k j)=det n (up A k r):=by
 rw[← o8 h r n]
 refine det_congr fun i j hi hj=>?_
 unfold up
 split
 ·show (if j<n then r j else 0)=r j
  rw[if_pos hj]
 ·rfl
theorem oo {n:Nat}{A:Mx}{k l:Nat}(h:k<n)(hl:l<n):sm n (fun j=>A l j*co n A k j)=if l=k then det n A else 0:=by
 rw[um h]
 split
 ·next e=>subst e;rw[mS]
 ·next e =>
  refine zm h hl (Ne.symm e) ?_
  rw[gK,fC e]
theorem A6 {n:Nat}{A:Mx}{k:Nat}{r:Nat→Int}:co n (up A k r) k=co n A k:=by
 funext j
 unfold co
 rw[xX]
theorem sm_abs {E:Nat}:∀ {n:Nat} {f:Nat→Int},(∀ i,i<n→(f i).natAbs≤E)→(sm n f).natAbs≤n*E
 | 0,_,_=>by show (0:Int).natAbs≤_;simp
 | n+1,f,h=>by
  show (sm n f+f n).natAbs≤_
  have h1:=sm_abs (n:=n) (f:=f) fun i hi=>h i (by omega)
  have h2:=h n (by omega)
  have h3:=Int.natAbs_add_le (sm n f) (f n)
  rw[Nat.succ_mul]
  omega
theorem qf:∀ n:Nat,(sg n).natAbs=1
 | 0=>rfl
 | n+1=>by show (- sg n).natAbs=1;rw[Int.natAbs_neg,qf n]
theorem det_abs {E:Nat}:∀ {n N:Nat} {A:Mx},n≤N→(∀ i j,i<n→j<n→(A i j).natAbs≤E)→(det n A).natAbs≤(N*E) ^ n
 | 0,_,_,_,_=>by show (1:Int).natAbs≤_;simp
 | n+1,N,A,hN,h=>by
  unfold det
  have h1:(sm (n+1) fun i=>sg i*A i 0*det n (mn i A)).natAbs≤(n+1)*(E*(N*E) ^ n):=sm_abs fun i hi=>by
   rw[Int.natAbs_mul,Int.natAbs_mul,qf,Nat.one_mul]
   exact Nat.mul_le_mul (h i 0 hi (by omega)) (det_abs (by omega) fun a j ha hj=>h _ _ (by split <;> omega) (by omega))
  refine Nat.le_trans h1 ?_
  rw[Nat.pow_succ,← Nat.mul_assoc,Nat.mul_comm ((N*E) ^ n)]
  exact Nat.mul_le_mul_right _ (Nat.mul_le_mul_right _ hN)
end Wk
namespace Wk
def dt (n:Nat)(x y:Nat→Int):Int:=sm n fun i=>x i*y i
theorem dt_lin (n:Nat)(r:Nat→Int)(x y:Int)(u v:Nat→Int):dt n r (fun i=>x*u i+y*v i)=x*dt n r u+y*dt n r v:=by
 unfold dt
 rw[← gk]
 exact sm_congr fun i _=>by grind
theorem qM (n m:Nat)(r:Nat→Int)(c:Nat→Int)(u:Mx):dt n r (fun i=>sm m fun k=>c k*u k i)=sm m fun k=>c k*dt n r (u k):=by
 unfold dt
 have e:(fun i=>r i*sm m fun k=>c k*u k i)=fun i=>sm m fun k=>c k*(r i*u k i):=by
  funext i
  rw[← sm_mul]
  exact sm_congr fun k _=>by grind
 rw[e,jz]
 exact sm_congr fun k _=>sm_mul _ _ _
structure Sd where
 h:Nat→Nat
 W:Mx
 x:Nat→Int
 b:Int
structure Ok (n:Nat)(a:Mx)(B:Nat→Int)(M:Nat)(S:Sd):Prop where
 pos:0<S.b
 lt:∀ k,k<n→S.h k<M
 eps:∃ e:Int,(e=1∨e = -1)∧S.b=e*det n (fun k=>a (S.h k))∧∀ k j,k<n→j<n→S.W k j=e*co n (fun k=>a (S.h k)) k j
 lf:∀ i j,i<n→j<n→sm n (fun k=>S.W k i*a (S.h k) j)=if i=j then S.b else 0
 cor:∀ i,i<n→S.x i=sm n fun k=>B (S.h k)*S.W k i
section
variable {n M:Nat}{a:Mx}{B:Nat→Int}{S:Sd}
theorem Ok.rt (o:Ok n a B M S){l k:Nat}(hl:l<n)(hk:k<n):dt n (a (S.h l)) (S.W k)=if l=k then S.b else 0:=by
 obtain⟨e,_,hb,hw⟩:=o.eps
 have h1:dt n (a (S.h l)) (S.W k)=e*sm n (fun j=>a (S.h l) j*co n (fun k=>a (S.h k)) k j):=by
  unfold dt
  rw[← sm_mul]
  exact sm_congr fun j hj=>by rw[hw k j hk hj];grind
 rw[h1,oo (A:=fun k=>a (S.h k)) hk hl]
 split
 ·exact hb.symm
 ·exact Int.mul_zero e
theorem Ok.row (o:Ok n a B M S)(r:Nat→Int){j:Nat}(hj:j<n):sm n (fun k=>dt n r (S.W k)*a (S.h k) j)=S.b*r j:=by
 have e:(sm n fun k=>dt n r (S.W k)*a (S.h k) j)=sm n fun i=>r i*sm n fun k=>S.W k i*a (S.h k) j:=by
  have e1:(fun k=>dt n r (S.W k)*a (S.h k) j)=fun k=>sm n fun i=>r i*(S.W k i*a (S.h k) j):=by
   funext k
   unfold dt
   rw[Int.mul_comm,← sm_mul]
   exact sm_congr fun i _=>by grind
  rw[e1,jz]
  exact sm_congr fun i _=>sm_mul _ _ _
 rw[e,eH hj fun i hi hne=>by rw[o.lf i j hi hj,if_neg hne,Int.mul_zero],o.lf j j hj hj,if_pos rfl,Int.mul_comm]
theorem Ok.comb (o:Ok n a B M S)(r y:Nat→Int):S.b*dt n r y=sm n fun k=>dt n r (S.W k)*dt n (a (S.h k)) y:=by
 have e:(sm n fun k=>dt n r (S.W k)*dt n (a (S.h k)) y)=sm n fun j=>y j*sm n fun k=>dt n r (S.W k)*a (S.h k) j:=by
  have e1:(fun k=>dt n r (S.W k)*dt n (a (S.h k)) y)=fun k=>sm n fun j=>y j*(dt n r (S.W k)*a (S.h k) j):=by
   funext k
   conv=>lhs;rhs;unfold dt
   rw[← sm_mul]
   exact sm_congr fun i _=>by grind
  rw[e1,jz]
  exact sm_congr fun i _=>sm_mul _ _ _
 rw[e]
 conv=>lhs;unfold dt
 rw[← sm_mul]
 exact sm_congr fun j hj=>by rw[o.row r hj];grind
theorem Ok.corner (o:Ok n a B M S){k:Nat}(hk:k<n):dt n (a (S.h k)) S.x=B (S.h k)*S.b:=by
 have e:dt n (a (S.h k)) S.x=dt n (a (S.h k)) (fun i=>sm n fun l=>B (S.h l)*S.W l i):=sm_congr fun i hi=>by rw[o.cor i hi]
 rw[e,qM,eH hk fun l hl hne=>by rw[o.rt hk hl,if_neg (Ne.symm hne),Int.mul_zero],o.rt hk hk,if_pos rfl]
theorem Ok.nil (o:Ok n a B M S){y:Nat→Int}(h:∀ k,k<n→dt n (a (S.h k)) y=0){i:Nat}(hi:i<n):y i=0:=by
 have e:S.b*y i=sm n fun k=>S.W k i*dt n (a (S.h k)) y:=by
  have e1:(fun k=>S.W k i*dt n (a (S.h k)) y)=fun k=>sm n fun j=>y j*(S.W k i*a (S.h k) j):=by
   funext k
   unfold dt
   rw[← sm_mul]
   exact sm_congr fun i _=>by grind
  rw[e1,jz]
  have e2:∀ j,j<n→(sm n fun k=>y j*(S.W k i*a (S.h k) j))=y j*(if i=j then S.b else 0):=fun j hj=>by rw[sm_mul,o.lf i j hi hj]
  rw[sm_congr e2,eH hi fun j hj hne=>by rw[if_neg (Ne.symm hne),Int.mul_zero],if_pos rfl,Int.mul_comm]
 rw[sm_congr (g:=fun _=>0) fun k hk=>by rw[h k hk,Int.mul_zero],sm_zero] at e
 rcases Int.mul_eq_zero.mp e with h | h
 ·have:=o.pos;omega
 ·exact h
def gr (n:Nat)(a:Mx)(S:Sd)(q k:Nat):Int:=dt n (a q) (S.W k)
def ov (n:Nat)(a:Mx)(B:Nat→Int)(S:Sd)(q:Nat):Int:=dt n (a q) S.x - B q*S.b
def wy (n:Nat)(a:Mx)(S:Sd)(p q:Nat):Nat→Int:=fun i=>if gr n a S q p<0 then - S.W p i else S.W p i
def pv (n:Nat)(a:Mx)(B:Nat→Int)(S:Sd)(p q:Nat):Sd where
 h:=fun k=>if k=p then q else S.h k
 W:=fun o i=>if o=p then wy n a S p q i else (((gr n a S q p).natAbs:Int)*S.W o i - gr n a S q o*wy n a S p q i) / S.b
 x:=fun i=>(((gr n a S q p).natAbs:Int)*S.x i - ov n a B S q*wy n a S p q i) / S.b
 b:=((gr n a S q p).natAbs:Int)
theorem uF {p q:Nat}:(fun k=>a ((pv n a B S p q).h k))=up (fun k=>a (S.h k)) p (a q):=by
 funext k j
 show a (if k=p then q else S.h k) j=if k=p then a q j else a (S.h k) j
 split <;> rfl
theorem Ok.pv_all (o:Ok n a B M S){p q:Nat}(hp:p<n)(hq:q<M)(hg:gr n a S q p≠0) :
  Ok n a B M (pv n a B S p q)∧(∀ l i,l<n→l≠p→i<n→S.b*(pv n a B S p q).W l i=(pv n a B S p q).b*S.W l i - gr n a S q l*wy n a S p q i) ∧
   (∀ i,i<n→S.b*(pv n a B S p q).x i=(pv n a B S p q).b*S.x i - ov n a B S q*wy n a S p q i):=by
 obtain⟨e,he,hb,hw⟩:=o.eps
 have bp:=o.pos
 obtain⟨sn,hsn,hs,hwy⟩:∃ sn:Int,(sn=1∨sn = -1)∧((gr n a S q p).natAbs:Int)=sn*gr n a S q p∧wy n a S p q=fun i=>sn*S.W p i:=by
  by_cases c:gr n a S q p<0
  ·exact⟨-1,.inr rfl,by omega,by funext i;unfold wy;rw[if_pos c];omega⟩
  ·exact⟨1,.inl rfl,by omega,by funext i;unfold wy;rw[if_neg c];omega⟩
 have hs2:sn*sn=1:=by rcases hsn with h | h <;> rw[h] <;> rfl
 have he2:e*e=1:=by rcases he with h | h <;> rw[h] <;> rfl
 generalize hsz:((gr n a S q p).natAbs:Int)=s at hs
 have hs0:0<s:=by omega
 let A:Mx:=fun k=>a (S.h k)
 let A':Mx:=up A p (a q)
 have eA':(fun k=>a ((pv n a B S p q).h k))=A':=uF
 have hgr:gr n a S q p=e*det n A':=by
  have:gr n a S q p=e*sm n (fun j=>a q j*co n A p j):=by
   unfold gr dt
   rw[← sm_mul]
   exact sm_congr fun j hj=>by rw[hw p j hp hj];grind
  rw[this,um hp]
 have hdet:det n A'=e*gr n a S q p:=by rw[hgr];grind
 have hb':s=(sn*e)*det n A':=by rw[hs,hgr];grind
 have dtwy:∀ r:Nat→Int,dt n r (wy n a S p q)=sn*dt n r (S.W p):=fun r=>by
  rw[hwy]
  unfold dt
  rw[← sm_mul]
  exact sm_congr fun j _=>by grind
 have exact_:∀ l,l<n→l≠p→∀ i,i<n→S.b*((sn*e)*co n A' l i)=s*S.W l i - gr n a S q l*wy n a S p q i:=by
  intro l hl hne
  let y:Nat→Int:=fun i=>S.b*((sn*e)*co n A' l i) - (s*S.W l i - gr n a S q l*wy n a S p q i)
  have hy:∀ r:Nat→Int,dt n r y=S.b*(sn*e)*dt n r (co n A' l) - (s*dt n r (S.W l) - gr n a S q l*(sn*dt n r (S.W p))):=fun r=>by
   rw[← dtwy]
   have e1:dt n r y=dt n r (fun i=>1*(fun i=>(S.b*(sn*e))*co n A' l i+0*0) i+(-1)*(fun i=>s*S.W l i+(- gr n a S q l)*wy n a S p q i) i):=by
    unfold dt
    exact sm_congr fun i _=>by show r i*(_ - _)=r i*_;grind
   rw[e1,dt_lin,dt_lin,dt_lin]
   grind
  have cow:∀ k,k<n→dt n (A' k) (co n A' l)=if k=l then det n A' else 0:=fun k hk=>oo hl hk
  have aq:dt n (a q) y=0:=by
   have h1:=cow p hp
   rw[if_neg (Ne.symm hne)] at h1
   have h2:A' p=a q:=gK
   rw[h2] at h1
   rw[hy,h1]
   show _ - (s*gr n a S q l - gr n a S q l*(sn*gr n a S q p))=0
   rw[hs]
   grind
  have rest:∀ k,k<n→k≠p→dt n (a (S.h k)) y=0:=fun k hk hkp=>by
   have h1:=cow k hk
   have h2:A' k=a (S.h k):=fC hkp
   rw[h2] at h1
   rw[hy,h1,o.rt hk hl,o.rt hk hp,if_neg hkp]
   split
   ·have:S.b*(sn*e)*det n A'=S.b*s:=by rw[hb'];grind
    rw[this]
    grind
   ·grind
  have ap:dt n (a (S.h p)) y=0:=by
   have h1:=o.comb (a q) y
   rw[aq,Int.mul_zero,eH hp fun k hk hkp=>by rw[rest k hk hkp,Int.mul_zero]] at h1
   rcases Int.mul_eq_zero.mp h1.symm with h | h
   ·exact absurd h hg
   ·exact h
  intro i hi
  have h0:y i=0:=o.nil (fun k hk=>by
   by_cases c:k=p
   ·subst c;exact ap
   ·exact rest k hk c) hi
  have h0':S.b*((sn*e)*co n A' l i) - (s*S.W l i - gr n a S q l*wy n a S p q i)=0:=h0
  omega
 have hWl:∀ l i,l<n→l≠p→i<n→(pv n a B S p q).W l i=(sn*e)*co n A' l i:=fun l i hl hne hi=>by
  show (if l=p then _ else (((gr n a S q p).natAbs:Int)*S.W l i - gr n a S q l*wy n a S p q i) / S.b)=_
  rw[if_neg hne,hsz,← exact_ l hl hne i hi,Int.mul_ediv_cancel_left _ (by omega)]
 have hWp:∀ i,(pv n a B S p q).W p i=wy n a S p q i:=fun i=>if_pos rfl
 have eb:(pv n a B S p q).b=s:=hsz
 have hmul:∀ l i,l<n→l≠p→i<n→S.b*(pv n a B S p q).W l i=s*S.W l i - gr n a S q l*wy n a S p q i:=fun l i hl hne hi=>by
  rw[hWl l i hl hne hi];exact exact_ l hl hne i hi
 have pz:∀ i,s*S.W p i - gr n a S q p*wy n a S p q i=0:=fun i=>by rw[hwy,hs];grind
 have hall:∀ l i,l<n→i<n→S.b*(pv n a B S p q).W l i=(s*S.W l i - gr n a S q l*wy n a S p q i)+(if l=p then S.b*wy n a S p q i else 0):=fun l i hl hi=>by
  by_cases c:l=p
  ·subst c
   rw[hWp,pz,if_pos rfl,Int.zero_add]
  ·rw[if_neg c,hmul l i hl c hi,Int.add_zero]
 have hx:∀ i,i<n→S.b*(sm n fun k=>B ((pv n a B S p q).h k)*(pv n a B S p q).W k i)=s*S.x i - ov n a B S q*wy n a S p q i:=fun i hi=>by
  have gx:(sm n fun k=>B (S.h k)*gr n a S q k)=dt n (a q) S.x:=by
   have e1:dt n (a q) S.x=dt n (a q) (fun i=>sm n fun l=>B (S.h l)*S.W l i):=sm_congr fun i hi=>by rw[o.cor i hi]
   rw[e1,qM]
   rfl
  rw[← sm_mul]
  have e1:∀ k,k<n→S.b*(B ((pv n a B S p q).h k)*(pv n a B S p q).W k i)=(s*(B (S.h k)*S.W k i)+(- wy n a S p q i)*(B (S.h k)*gr n a S q k))+(if k=p then B q*(S.b*wy n a S p q i) else 0):=fun k hk=>by
   have h1:=hall k i hk hi
   by_cases c:k=p
   ·subst c
    have h2:(pv n a B S k q).h k=q:=if_pos rfl
    have h3:=pz i
    rw[h2,if_pos rfl]
    rw[if_pos rfl,h3] at h1
    have h4:s*(B (S.h k)*S.W k i)+(- wy n a S k q i)*(B (S.h k)*gr n a S q k)=B (S.h k)*(s*S.W k i - gr n a S q k*wy n a S k q i):=by grind
    rw[h4,h3]
    grind
   ·have h2:(pv n a B S p q).h k=S.h k:=if_neg c
    rw[h2,if_neg c]
    rw[if_neg c] at h1
    grind
  rw[sm_congr e1,sm_add,gk,← o.cor i hi,gx,eH hp fun k _ hne=>if_neg hne,if_pos rfl]
  unfold ov
  grind
 have hxx:∀ i,i<n→(pv n a B S p q).x i=sm n fun k=>B ((pv n a B S p q).h k)*(pv n a B S p q).W k i:=fun i hi=>by
  show (((gr n a S q p).natAbs:Int)*S.x i - ov n a B S q*wy n a S p q i) / S.b=_
  rw[hsz,← hx i hi,Int.mul_ediv_cancel_left _ (by omega)]
 refine⟨⟨by rw[eb];exact hs0,fun k hk=>?_,⟨sn*e,?_,by rw[eb,eA'];exact hb',fun k j hk hj=>?_⟩,fun i j hi hj=>?_,hxx⟩,fun l i hl hne hi=>by rw[eb];exact hmul l i hl hne hi,fun i hi=>by rw[hxx i hi,eb];exact hx i hi⟩
 ·show (if k=p then q else S.h k)<M
  split
  ·exact hq
  ·exact o.lt k hk
 ·rcases hsn with h | h <;> rcases he with h' | h' <;> rw[h,h'] <;> simp
 ·rw[eA']
  by_cases c:k=p
  ·subst c
   rw[hWp,hwy,show co n A' k=co n A k from A6]
   show sn*S.W k j=_
   rw[hw k j hk hj]
   grind
  ·exact hWl k j hk c hj
 ·rw[eb]
  have e1:S.b*(sm n fun k=>(pv n a B S p q).W k i*a ((pv n a B S p q).h k) j)=S.b*(if i=j then s else 0):=by
   rw[← sm_mul]
   have e2:∀ k,k<n→S.b*((pv n a B S p q).W k i*a ((pv n a B S p q).h k) j)=(s*(S.W k i*a (S.h k) j)+(- wy n a S p q i)*(gr n a S q k*a (S.h k) j))+(if k=p then S.b*wy n a S p q i*a q j else 0):=fun k hk=>by
    have h1:=hall k i hk hi
    by_cases c:k=p
    ·subst c
     have h2:(pv n a B S k q).h k=q:=if_pos rfl
     have h3:=pz i
     rw[h2,if_pos rfl]
     rw[if_pos rfl,h3] at h1
     have h4:s*(S.W k i*a (S.h k) j)+(- wy n a S k q i)*(gr n a S q k*a (S.h k) j)=(s*S.W k i - gr n a S q k*wy n a S k q i)*a (S.h k) j:=by grind
     rw[h4,h3]
     grind
    ·have h2:(pv n a B S p q).h k=S.h k:=if_neg c
     rw[h2,if_neg c]
     rw[if_neg c] at h1
     grind
   rw[sm_congr e2,sm_add,gk,o.lf i j hi hj,eH hp fun k _ hne=>if_neg hne,if_pos rfl]
   have e3:(sm n fun k=>gr n a S q k*a (S.h k) j)=S.b*a q j:=o.row (a q) hj
   rw[e3]
   split <;> grind
  exact Int.eq_of_mul_eq_mul_left (by omega) e1
end
end Wk
namespace Wk
theorem mE:∀ {n:Nat} {f:Nat→Int},(∀ i,i<n→f i≤0)→sm n f≤0
 | 0,_,_=>Int.le_refl 0
 | n+1,f,h=>by
  show sm n f+f n≤0
  have h1:=mE (n:=n) (f:=f) fun i hi=>h i (by omega)
  have h2:=h n (by omega)
  omega
theorem rQ:∀ {n k:Nat} {f:Nat→Int},(∀ i,i<n→f i≤0)→k<n→f k<0→sm n f<0
 | 0,_,_,_,h,_=>absurd h (by omega)
 | n+1,k,f,h,hk,hn=>by
  show sm n f+f n<0
  by_cases c:k=n
  ·subst c
   have h1:=mE (n:=k) (f:=f) fun i hi=>h i (by omega)
   omega
  ·have h1:=rQ (n:=n) (f:=f) (fun i hi=>h i (by omega)) (by omega:k<n) hn
   have h2:=h n (by omega)
   omega
theorem np {a b:Int}(ha:0≤a)(hb:b≤0):a*b≤0:=Int.mul_nonpos_of_nonneg_of_nonpos ha hb
theorem pn {a b:Int}(ha:a≤0)(hb:0≤b):a*b≤0:=Int.mul_nonpos_of_nonpos_of_nonneg ha hb
theorem kg {a b:Int}(ha:0<a)(hb:b<0):a*b<0:=Int.mul_neg_of_pos_of_neg ha hb
def In (n:Nat)(S:Sd)(r:Nat):Prop:=∃ k,k<n∧S.h k=r
structure StA (n M:Nat)(a:Mx)(B:Nat→Int)(S:Sd)(p q:Nat):Prop where
 hp:p<n
 hq:q<M
 mis:ov n a B S q<0
 least:∀ r,r<q→0≤ov n a B S r
 grows:0<gr n a S q p
 first:∀ k,k<n→S.h k<S.h p→gr n a S q k≤0
structure StB (n M:Nat)(a:Mx)(B:Nat→Int)(c:Nat→Int)(S:Sd)(p q:Nat):Prop where
 hp:p<n
 hq:q<M
 feas:∀ r,r<M→0≤ov n a B S r
 gain:0<dt n c (S.W p)
 first:∀ k,k<n→S.h k<S.h p→dt n c (S.W k)≤0
 falls:gr n a S q p<0
 least:∀ r,r<M→gr n a S r p<0→ov n a B S q*(- gr n a S r p)≤ov n a B S r*(- gr n a S q p)∧(r<q→ov n a B S q*(- gr n a S r p)<ov n a B S r*(- gr n a S q p))
section
variable {n M:Nat}{a:Mx}{B:Nat→Int}{c:Nat→Int}{S T:Sd}
theorem Ok.inj (o:Ok n a B M S){k l:Nat}(hk:k<n)(hl:l<n)(e:S.h k=S.h l):k=l:=by
 have h1:=o.rt hl hk
 rw[← e,o.rt hk hk,if_pos rfl] at h1
 split at h1
 ·next h=>exact h.symm
 ·have:=o.pos;omega
theorem Ok.ov0 (o:Ok n a B M S){r:Nat}(h:In n S r):ov n a B S r=0:=by
 obtain⟨k,hk,rfl⟩:=h
 unfold ov
 rw[o.corner hk]
 omega
theorem Ok.uniq (o:Ok n a B M S)(o':Ok n a B M T)(h:∀ k,k<n→S.h k=T.h k):S.b=T.b∧(∀ k j,k<n→j<n→S.W k j=T.W k j)∧∀ i,i<n→S.x i=T.x i:=by
 obtain⟨e,he,hb,hw⟩:=o.eps
 obtain⟨f,hf,hb',hw'⟩:=o'.eps
 have ed:det n (fun k=>a (S.h k))=det n (fun k=>a (T.h k)):=det_congr fun i j hi _=>by show a (S.h i) j=a (T.h i) j;rw[h i hi]
 have ec:∀ k j,k<n→co n (fun k=>a (S.h k)) k j=co n (fun k=>a (T.h k)) k j:=fun k j hk=>det_congr fun i l hi _=>by
  unfold up
  split
  ·rfl
  ·show a (S.h i) l=a (T.h i) l;rw[h i hi]
 have p1:=o.pos
 have p2:=o'.pos
 have ef:e=f:=by
  rw[hb] at p1
  rw[hb',← ed] at p2
  rcases he with rfl | rfl <;> rcases hf with rfl | rfl
  ·rfl
  ·omega
  ·omega
  ·rfl
 subst ef
 have hW:∀ k j,k<n→j<n→S.W k j=T.W k j:=fun k j hk hj=>by rw[hw k j hk hj,hw' k j hk hj,ec k j hk]
 refine⟨by rw[hb,hb',ed],hW,fun i hi=>?_⟩
 rw[o.cor i hi,o'.cor i hi]
 exact sm_congr fun k hk=>by rw[h k hk,hW k i hk hi]
structure Nx (n M:Nat)(a:Mx)(B:Nat→Int)(S T:Sd)(p q:Nat):Prop where
 ok:Ok n a B M S
 ok':Ok n a B M T
 hp:p<n
 hq:q<M
 ne:gr n a S q p≠0
 hh:∀ k,k<n→T.h k=if k=p then q else S.h k
theorem Nx.at (x:Nx n M a B S T p q):T.b=(gr n a S q p).natAbs∧∀ i,i<n→S.b*T.x i=T.b*S.x i - ov n a B S q*wy n a S p q i:=by
 obtain⟨o,h1,h2⟩:=x.ok.pv_all x.hp x.hq x.ne
 obtain⟨eb,_,ex⟩:=x.ok'.uniq o x.hh
 refine⟨eb,fun i hi=>?_⟩
 rw[ex i hi,h2 i hi,eb]
theorem Nx.dtx (x:Nx n M a B S T p q)(r:Nat→Int):S.b*dt n r T.x=T.b*dt n r S.x - ov n a B S q*dt n r (wy n a S p q):=by
 have e:S.b*dt n r T.x=dt n r (fun i=>T.b*S.x i+(- ov n a B S q)*wy n a S p q i):=by
  unfold dt
  rw[← sm_mul]
  refine sm_congr fun i hi=>?_
  have:=x.at.2 i hi
  grind
 rw[e,dt_lin]
 grind
theorem o9 (r u:Nat→Int):dt n r (fun i=>- u i) = - dt n r u:=by
 have:=dt_lin n r (-1) 0 u u
 have e:(fun i=>-1*u i+0*u i)=fun i=>- u i:=by funext i;omega
 rw[e] at this
 omega
theorem tw {p q:Nat}(h:gr n a S q p<0):wy n a S p q=fun i=>- S.W p i:=by
 funext i
 unfold wy
 rw[if_pos h]
theorem Nx.inn (x:Nx n M a B S T p q)(hq:¬ In n S q){r:Nat}:In n T r↔(In n S r∧r≠S.h p)∨r=q:=by
 constructor
 ·rintro⟨k,hk,rfl⟩
  rw[x.hh k hk]
  split
  ·exact .inr rfl
  ·next h=>exact .inl ⟨⟨k,hk,rfl⟩,fun e=>h (x.ok.inj hk x.hp e)⟩
 ·rintro (⟨⟨k,hk,rfl⟩,h⟩ | rfl)
  ·refine⟨k,hk,?_⟩
   rw[x.hh k hk,if_neg fun e=>h (by rw[e])]
  ·exact⟨p,x.hp,by rw[x.hh p x.hp,if_pos rfl]⟩
theorem StA.notin (s:StA n M a B S p q)(o:Ok n a B M S):¬ In n S q:=fun h=>by
 have:=o.ov0 h
 have:=s.mis
 omega
theorem StB.notin (s:StB n M a B c S p q)(o:Ok n a B M S):¬ In n S q:=fun⟨k,hk,e⟩=>by
 have h1:=s.falls
 unfold gr at h1
 rw[← e,o.rt hk s.hp] at h1
 have:=o.pos
 split at h1 <;> omega
theorem StB.stays (s:StB n M a B c S p q)(x:Nx n M a B S T p q){r:Nat}(hr:r<M):0≤ov n a B T r:=by
 have h1:=x.dtx (a r)
 rw[tw s.falls,o9] at h1
 have hb:=x.at.1
 have hf:=s.falls
 have hTb:T.b = - gr n a S q p:=by omega
 have p0:=x.ok.pos
 have o1:=s.feas r hr
 have o2:=s.feas q s.hq
 have key:S.b*ov n a B T r=(- gr n a S q p)*ov n a B S r+ov n a B S q*gr n a S r p:=by
  unfold ov gr at *
  rw[Int.mul_sub,h1,hTb]
  grind
 have nn:0≤S.b*ov n a B T r:=by
  rw[key]
  by_cases c:gr n a S r p<0
  ·have:=(s.least r hr c).1
   grind
  ·have m1:=Int.mul_nonneg (show 0≤- gr n a S q p by omega) o1
   have m2:=Int.mul_nonneg o2 (show 0≤gr n a S r p by omega)
   omega
 rcases Int.lt_or_le (ov n a B T r) 0 with h | h
 ·have:=Int.mul_neg_of_pos_of_neg p0 h
  omega
 ·exact h
theorem StB.worth (s:StB n M a B c S p q)(x:Nx n M a B S T p q):S.b*dt n c T.x=T.b*dt n c S.x+ov n a B S q*dt n c (S.W p):=by
 have h1:=x.dtx c
 rw[tw s.falls,o9] at h1
 rw[h1]
 grind
theorem qt (o:Ok n a B M S)(o':Ok n a B M T)(h:∀ r,In n S r→In n T r):∀ i,i<n→T.b*S.x i=S.b*T.x i:=fun i hi=>by
 have:(fun i=>T.b*S.x i+(- S.b)*T.x i) i=0:=o.nil (y:=fun i=>T.b*S.x i+(- S.b)*T.x i) (fun k hk=>by
  rw[dt_lin,o.corner hk]
  obtain⟨l,hl,e⟩:=h _ ⟨k,hk,rfl⟩
  rw[← e,o'.corner hl]
  grind) hi
 have:T.b*S.x i+(- S.b)*T.x i=0:=this
 grind
theorem qh {x y:Nat→Int}{s t:Int}(h:∀ i,i<n→t*x i=s*y i)(r:Nat→Int):t*dt n r x=s*dt n r y:=by
 unfold dt
 rw[← sm_mul,← sm_mul]
 exact sm_congr fun i hi=>by have:=h i hi;grind
theorem nF (h:∀ i,i<n→T.b*S.x i=S.b*T.x i)(r:Nat):T.b*ov n a B S r=S.b*ov n a B T r:=by
 have:=qh h (a r)
 unfold ov
 grind
end
structure Chain (n M:Nat)(a:Mx)(B:Nat→Int)(c:Nat→Int)(m:Nat)(S:Nat→Sd)(P Q:Nat→Nat):Prop where
 nx:∀ i,i<m→Nx n M a B (S i) (S (i+1)) (P i) (Q i)
 st:∀ i,i<m→StA n M a B (S i) (P i) (Q i)∨StB n M a B c (S i) (P i) (Q i)
section
variable {n M:Nat}{a:Mx}{B:Nat→Int}{c:Nat→Int}{m:Nat}{S:Nat→Sd}{P Q:Nat→Nat}
theorem Chain.notin (C:Chain n M a B c m S P Q){i:Nat}(hi:i<m):¬ In n (S i) (Q i):=(C.st i hi).elim (fun s=>s.notin (C.nx i hi).ok) (fun s=>s.notin (C.nx i hi).ok)
theorem Chain.ok (C:Chain n M a B c m S P Q)(hm:0<m){i:Nat}(hi:i≤m):Ok n a B M (S i):=by
 rcases Nat.lt_or_ge i m with h | h
 ·exact (C.nx i h).ok
 ·obtain⟨j,rfl⟩:∃ j,i=j+1:=⟨i - 1,by omega⟩
  exact (C.nx j (by omega)).ok'
theorem Chain.inn (C:Chain n M a B c m S P Q){i:Nat}(hi:i<m){r:Nat}:In n (S (i+1)) r↔(In n (S i) r∧r≠(S i).h (P i))∨r=Q i:=(C.nx i hi).inn (C.notin hi)
theorem Chain.still (C:Chain n M a B c m S P Q)(he:∀ r,In n (S 0) r↔In n (S m) r){r:Nat}(hr:∀ i,i<m→Q i≠r){i:Nat}(hi:i≤m):In n (S i) r↔In n (S 0) r:=by
 have down:∀ d j,j+d≤m→In n (S (j+d)) r→In n (S j) r:=by
  intro d
  induction d with
  | zero=>intro j _ h;exact h
  | succ d ih =>
   intro j hj h
   refine ih j (by omega) ?_
   have h2:In n (S (j+d+1)) r:=h
   rcases (C.inn (by omega:j+d<m)).mp h2 with h | h
   ·exact h.1
   ·exact absurd h.symm (hr _ (by omega))
 constructor
 ·intro h;exact down i 0 (by omega) (by rw[Nat.zero_add];exact h)
 ·intro h
  have:=(he r).mp h
  exact down (m - i) i (by omega) (by rw[show i+(m - i)=m by omega];exact this)
theorem Chain.left (C:Chain n M a B c m S P Q)(he:∀ r,In n (S 0) r↔In n (S m) r){i:Nat}(hi:i<m):∃ j,j<m∧Q j=(S i).h (P i):=by
 apply Classical.byContradiction
 intro no
 have hr:∀ j,j<m→Q j≠(S i).h (P i):=fun j hj e=>no ⟨j,hj,e⟩
 have hin:In n (S i) ((S i).h (P i)):=⟨P i,(C.nx i hi).hp,rfl⟩
 have h1:=(C.still he hr (Nat.le_of_lt hi)).mp hin
 have h2:=(C.still he hr (show i+1≤m by omega)).mpr h1
 rcases (C.inn hi).mp h2 with h | h
 ·exact h.2 rfl
 ·exact hr i hi h.symm
theorem Chain.enters (C:Chain n M a B c m S P Q)(he:∀ r,In n (S 0) r↔In n (S m) r){i:Nat}(hi:i<m):∃ j,j<m∧(S j).h (P j)=Q i:=by
 apply Classical.byContradiction
 intro no
 have up_:∀ d j,j+d≤m→In n (S j) (Q i)→In n (S (j+d)) (Q i):=by
  intro d
  induction d with
  | zero=>intro j _ h;exact h
  | succ d ih =>
   intro j hj h
   exact (C.inn (by omega:j+d<m)).mpr (.inl ⟨ih j (by omega) h,fun e=>no ⟨j+d,by omega,e.symm⟩⟩)
 have h1:In n (S (i+1)) (Q i):=(C.inn hi).mpr (.inr rfl)
 have h2:=up_ (m - (i+1)) (i+1) (by omega) h1
 rw[show i+1+(m - (i+1))=m by omega] at h2
 have h3:=up_ i 0 (by omega) ((he _).mpr h2)
 rw[Nat.zero_add] at h3
 exact C.notin hi h3
theorem mf (Q:Nat→Nat):∀ m,0<m→∃ i,i<m∧∀ j,j<m→Q j≤Q i
 | 0,h=>absurd h (by omega)
 | 1,_=>⟨0,by omega,fun j hj=>by rw[show j=0 by omega];exact Nat.le_refl _⟩
 | m+2,_=>by
  obtain⟨i,hi,h⟩:=mf Q (m+1) (by omega)
  by_cases e:Q (m+1)≤Q i
  ·exact⟨i,by omega,fun j hj=>by
    by_cases e2:j=m+1
    ·rw[e2];exact e
    ·exact h j (by omega)⟩
  ·exact⟨m+1,by omega,fun j hj=>by
    by_cases e2:j=m+1
    ·rw[e2];exact Nat.le_refl _
    ·have:=h j (by omega);omega⟩
theorem Chain.allA (C:Chain n M a B c m S P Q)(hm:0<m)(he:∀ r,In n (S 0) r↔In n (S m) r)(hA:∀ i,i<m→StA n M a B (S i) (P i) (Q i)):False:=by
 obtain⟨i2,h2,ht⟩:=mf Q m hm
 obtain⟨i1,h1,hl⟩:=C.enters he h2
 have o1:=(C.nx i1 h1).ok
 have o2:=(C.nx i2 h2).ok
 have s1:=hA i1 h1
 have s2:=hA i2 h2
 have p1:=o1.pos
 have p2:=o2.pos
 have key:(S i1).b*ov n a B (S i2) (Q i1)=(sm n fun k=>gr n a (S i1) (Q i1) k*ov n a B (S i2) ((S i1).h k))+(S i2).b*ov n a B (S i1) (Q i1):=by
  have e1:=o1.comb (a (Q i1)) (S i2).x
  have e2:=o1.comb (a (Q i1)) (S i1).x
  have e3:(sm n fun k=>dt n (a (Q i1)) ((S i1).W k)*dt n (a ((S i1).h k)) (S i1).x)=(S i1).b*sm n fun k=>gr n a (S i1) (Q i1) k*B ((S i1).h k):=by
   rw[← sm_mul]
   exact sm_congr fun k hk=>by rw[o1.corner hk];unfold gr;grind
  rw[e3] at e2
  have e4:=Int.eq_of_mul_eq_mul_left (by omega) e2
  have e5:(sm n fun k=>gr n a (S i1) (Q i1) k*ov n a B (S i2) ((S i1).h k))=1*(sm n fun k=>gr n a (S i1) (Q i1) k*dt n (a ((S i1).h k)) (S i2).x)+(- (S i2).b)*(sm n fun k=>gr n a (S i1) (Q i1) k*B ((S i1).h k)):=by
   rw[← gk]
   exact sm_congr fun k _=>by unfold ov;grind
  rw[e5,← e4]
  have e6:(sm n fun k=>gr n a (S i1) (Q i1) k*dt n (a ((S i1).h k)) (S i2).x)=(S i1).b*dt n (a (Q i1)) (S i2).x:=e1.symm
  rw[e6]
  unfold ov
  grind
 have neg:ov n a B (S i2) (Q i1)<0:=by
  have hs:(sm n fun k=>gr n a (S i1) (Q i1) k*ov n a B (S i2) ((S i1).h k))≤0:=mE fun k hk=>by
   by_cases c1:∃ j,j<m∧Q j=(S i1).h k
   ·obtain⟨j,hj,ej⟩:=c1
    have hle:=ht j hj
    by_cases c2:(S i1).h k=Q i2
    ·have ek:k=P i1:=o1.inj hk s1.hp (by rw[c2,hl])
     subst ek
     have g1:=s1.grows
     have m2:=s2.mis
     rw[c2]
     exact np (by omega) (by omega)
    ·have g1:=s1.first k hk (by rw[hl];omega)
     have m2:=s2.least ((S i1).h k) (by omega)
     exact pn g1 m2
   ·have hr:∀ j,j<m→Q j≠(S i1).h k:=fun j hj e=>c1 ⟨j,hj,e⟩
    have hin:=(C.still he hr (Nat.le_of_lt h1)).mp ⟨k,hk,rfl⟩
    have hin2:=(C.still he hr (Nat.le_of_lt h2)).mpr hin
    rw[o2.ov0 hin2,Int.mul_zero]
    exact Int.le_refl 0
  have hm1:=kg p2 s1.mis
  rcases Int.lt_or_le (ov n a B (S i2) (Q i1)) 0 with h | h
  ·exact h
  ·have:=Int.mul_nonneg (Int.le_of_lt p1) h
   omega
 have hne:Q i1≠Q i2:=fun e=>s1.notin o1 ⟨P i1,s1.hp,by rw[hl,e]⟩
 have hle:=ht i1 h1
 have:=s2.least (Q i1) (by omega)
 omega
theorem Chain.allB (C:Chain n M a B c m S P Q)(hm:0<m)(he:∀ r,In n (S 0) r↔In n (S m) r)(hB:∀ i,i<m→StB n M a B c (S i) (P i) (Q i)):False:=by
 have up_:∀ i,i≤m→0≤(S 0).b*dt n c (S i).x - (S i).b*dt n c (S 0).x:=by
  intro i
  induction i with
  | zero=>intro _;omega
  | succ i ih =>
   intro hi
   have h0:=ih (by omega)
   have w:=(hB i (by omega)).worth (C.nx i (by omega))
   have g:=(hB i (by omega)).gain
   have f:=(hB i (by omega)).feas _ (hB i (by omega)).hq
   have q0:=(C.ok hm (show 0≤m by omega)).pos
   have q1:=(C.ok hm (show i≤m by omega)).pos
   have q2:=(C.ok hm hi).pos
   have m1:=Int.mul_nonneg f (Int.le_of_lt g)
   have m2:=Int.mul_nonneg (Int.le_of_lt q0) m1
   have m3:=Int.mul_nonneg (Int.le_of_lt q2) h0
   have e:(S i).b*((S 0).b*dt n c (S (i+1)).x - (S (i+1)).b*dt n c (S 0).x)=(S (i+1)).b*((S 0).b*dt n c (S i).x - (S i).b*dt n c (S 0).x)+(S 0).b*(ov n a B (S i) (Q i)*dt n c ((S i).W (P i))):=by grind
   rcases Int.lt_or_le ((S 0).b*dt n c (S (i+1)).x - (S (i+1)).b*dt n c (S 0).x) 0 with h | h
   ·have:=kg q1 h
    omega
   ·exact h
 have sc:=qt (C.ok hm (show 0≤m by omega)) (C.ok hm (Nat.le_refl m)) fun r=>(he r).mp
 have end_:(S 0).b*dt n c (S m).x - (S m).b*dt n c (S 0).x=0:=by
  have:=qh sc c
  omega
 have flat:∀ d,d≤m→(S 0).b*dt n c (S (m - d)).x - (S (m - d)).b*dt n c (S 0).x=0∧(0<d→ov n a B (S (m - d)) (Q (m - d))=0):=by
  intro d
  induction d with
  | zero=>intro _;exact⟨by rw[Nat.sub_zero];exact end_,fun h=>absurd h (by omega)⟩
  | succ d ih =>
   intro hd
   have h0:=(ih (by omega)).1
   obtain⟨i,hi,hi'⟩:∃ i,m - (d+1)=i∧m - d=i+1:=⟨m - (d+1),rfl,by omega⟩
   rw[hi'] at h0
   rw[hi]
   have w:=(hB i (by omega)).worth (C.nx i (by omega))
   have g:=(hB i (by omega)).gain
   have f:=(hB i (by omega)).feas _ (hB i (by omega)).hq
   have q0:=(C.ok hm (show 0≤m by omega)).pos
   have q1:=(C.ok hm (show i≤m by omega)).pos
   have q2:=(C.ok hm (show i+1≤m by omega)).pos
   have u:=up_ i (by omega)
   have m1:=Int.mul_nonneg f (Int.le_of_lt g)
   have m2:=Int.mul_nonneg (Int.le_of_lt q0) m1
   have m3:=Int.mul_nonneg (Int.le_of_lt q2) u
   have e:(S i).b*((S 0).b*dt n c (S (i+1)).x - (S (i+1)).b*dt n c (S 0).x)=(S (i+1)).b*((S 0).b*dt n c (S i).x - (S i).b*dt n c (S 0).x)+(S 0).b*(ov n a B (S i) (Q i)*dt n c ((S i).W (P i))):=by grind
   rw[h0,Int.mul_zero] at e
   have e1:(S (i+1)).b*((S 0).b*dt n c (S i).x - (S i).b*dt n c (S 0).x)=0:=by omega
   have e2:(S 0).b*(ov n a B (S i) (Q i)*dt n c ((S i).W (P i)))=0:=by omega
   refine⟨?_,fun _=>?_⟩
   ·rcases Int.mul_eq_zero.mp e1 with h | h
    ·omega
    ·exact h
   ·rcases Int.mul_eq_zero.mp e2 with h | h
    ·omega
    ·rcases Int.mul_eq_zero.mp h with h | h
     ·exact h
     ·omega
 have zero:∀ i,i<m→ov n a B (S i) (Q i)=0:=fun i hi=>by
  have:=(flat (m - i) (by omega)).2 (by omega)
  rw[show m - (m - i)=i by omega] at this
  exact this
 have corner:∀ i,i≤m→∀ j,j<n→(S 0).b*(S i).x j=(S i).b*(S 0).x j:=by
  intro i
  induction i with
  | zero=>intro _ j _;rfl
  | succ i ih =>
   intro hi j hj
   have h0:=ih (by omega) j hj
   have h1:=(C.nx i (by omega)).at.2 j hj
   rw[zero i (by omega),Int.zero_mul,Int.sub_zero] at h1
   have q1:=(C.ok hm (show i≤m by omega)).pos
   refine Int.eq_of_mul_eq_mul_left (show (S i).b≠0 by omega) ?_
   grind
 have ovz:∀ i j r,i≤m→j≤m→ov n a B (S i) r=0→ov n a B (S j) r=0:=fun i j r hi hj h=>by
  have e1:=nF (a:=a) (B:=B) (S:=S i) (T:=S 0) (corner i hi) r
  have e2:=nF (a:=a) (B:=B) (S:=S j) (T:=S 0) (corner j hj) r
  have q0:=(C.ok hm (show 0≤m by omega)).pos
  have q1:=(C.ok hm hi).pos
  rw[h,Int.mul_zero] at e1
  rcases Int.mul_eq_zero.mp e1.symm with h3 | h3
  ·omega
  ·rw[h3,Int.mul_zero] at e2
   rcases Int.mul_eq_zero.mp e2 with h4 | h4
   ·omega
   ·exact h4
 obtain⟨i2,h2,ht⟩:=mf Q m hm
 obtain⟨i1,h1,hl⟩:=C.enters he h2
 have o1:=(C.nx i1 h1).ok
 have o2:=(C.nx i2 h2).ok
 have s1:=hB i1 h1
 have s2:=hB i2 h2
 have key:=o1.comb c ((S i2).W (P i2))
 have hs:(sm n fun k=>dt n c ((S i1).W k)*dt n (a ((S i1).h k)) ((S i2).W (P i2)))<0:=by
  refine rQ (k:=P i1) (fun k hk=>?_) s1.hp ?_
  ·by_cases c1:∃ j,j<m∧Q j=(S i1).h k
   ·obtain⟨j,hj,ej⟩:=c1
    have hle:=ht j hj
    by_cases c2:(S i1).h k=Q i2
    ·have ek:k=P i1:=o1.inj hk s1.hp (by rw[c2,hl])
     subst ek
     have g1:=s1.gain
     have f2:=s2.falls
     unfold gr at f2
     rw[c2]
     exact np (by omega) (by omega)
    ·have g1:=s1.first k hk (by rw[hl];omega)
     refine pn g1 ?_
     rcases Int.lt_or_le (dt n (a ((S i1).h k)) ((S i2).W (P i2))) 0 with h | h
     ·have hlt:=o1.lt k hk
      have l2:=(s2.least ((S i1).h k) hlt h).2 (by omega)
      have z1:ov n a B (S i2) ((S i1).h k)=0:=ovz i1 i2 _ (by omega) (by omega) (o1.ov0 ⟨k,hk,rfl⟩)
      rw[zero i2 h2,z1,Int.zero_mul,Int.zero_mul] at l2
      omega
     ·exact h
   ·have hr:∀ j,j<m→Q j≠(S i1).h k:=fun j hj e=>c1 ⟨j,hj,e⟩
    have hin:=(C.still he hr (Nat.le_of_lt h1)).mp ⟨k,hk,rfl⟩
    obtain⟨l,hl2,e2⟩:=(C.still he hr (Nat.le_of_lt h2)).mpr hin
    have hne:l≠P i2:=fun e=>by
     obtain⟨j,hj,ej⟩:=C.left he h2
     exact hr j hj (by rw[ej,← e2,e])
    rw[← e2,o2.rt hl2 s2.hp,if_neg hne,Int.mul_zero]
    exact Int.le_refl 0
  ·have g1:=s1.gain
   have f2:=s2.falls
   unfold gr at f2
   rw[hl]
   exact kg g1 f2
 rw[← key] at hs
 have:=Int.mul_pos o1.pos s2.gain
 omega
theorem Chain.never (C:Chain n M a B c m S P Q)(hm:0<m)(he:∀ r,In n (S 0) r↔In n (S m) r):False:=by
 by_cases hf:∃ i,i<m∧StB n M a B c (S i) (P i) (Q i)
 ·obtain⟨i0,hi0,s0⟩:=hf
  have fe:∀ d,i0+d≤m→∀ r,r<M→0≤ov n a B (S (i0+d)) r:=by
   intro d
   induction d with
   | zero=>intro _ r hr;exact s0.feas r hr
   | succ d ih =>
    intro hd r hr
    rcases C.st (i0+d) (by omega) with s | s
    ·have:=ih (by omega) _ s.hq
     have:=s.mis
     omega
    ·exact s.stays (C.nx (i0+d) (by omega)) hr
  have fm:=fe (m - i0) (by omega)
  rw[show i0+(m - i0)=m by omega] at fm
  have sc:=qt (C.ok hm (show 0≤m by omega)) (C.ok hm (Nat.le_refl m)) fun r=>(he r).mp
  have f0:∀ r,r<M→0≤ov n a B (S 0) r:=fun r hr=>by
   have e:=nF (a:=a) (B:=B) sc r
   have q0:=(C.ok hm (show 0≤m by omega)).pos
   have qm:=(C.ok hm (Nat.le_refl m)).pos
   rcases Int.lt_or_le (ov n a B (S 0) r) 0 with h | h
   ·have:=kg qm h
    have:=Int.mul_nonneg (Int.le_of_lt q0) (fm r hr)
    omega
   ·exact h
  have fall_:∀ i,i≤m→∀ r,r<M→0≤ov n a B (S i) r:=by
   intro i
   induction i with
   | zero=>intro _;exact f0
   | succ i ih =>
    intro hi r hr
    rcases C.st i (by omega) with s | s
    ·have:=ih (by omega) _ s.hq
     have:=s.mis
     omega
    ·exact s.stays (C.nx i (by omega)) hr
  refine C.allB hm he fun i hi=>?_
  rcases C.st i hi with s | s
  ·have:=fall_ i (by omega) _ s.hq
   have:=s.mis
   omega
  ·exact s
 ·refine C.allA hm he fun i hi=>?_
  rcases C.st i hi with s | s
  ·exact s
  ·exact absurd ⟨i,hi,s⟩ hf
end
end Wk
namespace Wk
theorem j6:∀ (N:Nat) {m:Nat} {f:Nat→Nat},(∀ i,i≤m→f i<N)→(∀ i j,i<j→j≤m→f i≠f j)→m<N
 | 0,m,f,h,_=>absurd (h 0 (by omega)) (by omega)
 | N+1,m,f,h,hi=>by
  by_cases c:∃ i,i≤m∧f i=N
  ·obtain⟨k,hk,e⟩:=c
   by_cases c0:m=0
   ·omega
   ·have:=j6 N (m:=m - 1) (f:=fun i=>if i<k then f i else f (i+1)) (fun i h1=>?_) (fun i j h1 h2=>?_)
    ·omega
    ·show (if i<k then f i else f (i+1))<N
     split
     ·next h2 =>
      have:=h i (by omega)
      have:=hi i k h2 hk
      omega
     ·next h2 =>
      have:=h (i+1) (by omega)
      have:=hi k (i+1) (by omega) (by omega)
      omega
    ·show (if i<k then f i else f (i+1))≠(if j<k then f j else f (j+1))
     split <;> split
     ·exact hi i j h1 (by omega)
     ·exact hi i (j+1) (by omega) (by omega)
     ·omega
     ·exact hi (i+1) (j+1) (by omega) (by omega)
  ·have:=j6 N (m:=m) (f:=f) (fun i h1=>by
    have:=h i h1
    have:f i≠N:=fun e=>c ⟨i,h1,e⟩
    omega) hi
   omega
def gm (p:Nat→Bool):Nat→Nat
 | 0=>0
 | r+1=>gm p r+(if p r=true then 2 ^ r else 0)
theorem kX (p:Nat→Bool):∀ M,gm p M<2 ^ M
 | 0=>Nat.zero_lt_one
 | r+1=>by
  have:=kX p r
  show gm p r+_<2 ^ (r+1)
  rw[Nat.pow_succ]
  split <;> omega
theorem oY {p q:Nat→Bool}:∀ {M:Nat},gm p M=gm q M→∀ r,r<M→p r=q r
 | 0,_,r,hr=>absurd hr (by omega)
 | M+1,h,r,hr=>by
  have h':gm p M+(if p M=true then 2 ^ M else 0)=gm q M+(if q M=true then 2 ^ M else 0):=h
  have l1:=kX p M
  have l2:=kX q M
  have e:p M=q M:=by
   cases c1:p M <;> cases c2:q M
   ·rfl
   ·rw[c1,c2,if_neg (by decide),if_pos rfl] at h';omega
   ·rw[c1,c2,if_pos rfl,if_neg (by decide)] at h';omega
   ·rfl
  by_cases c:r=M
  ·rw[c,e]
  ·rw[e] at h'
   exact oY (M:=M) (by omega) r (by omega)
open Classical in
noncomputable def j7 (n:Nat)(S:Sd)(M:Nat):Nat:=gm (fun r=>decide (In n S r)) M
section
variable {n M:Nat}{a:Mx}{B:Nat→Int}{c:Nat→Int}{m:Nat}{S:Nat→Sd}{P Q:Nat→Nat}
theorem Chain.part (C:Chain n M a B c m S P Q){i j:Nat}(h:j≤m):Chain n M a B c (j - i) (fun k=>S (i+k)) (fun k=>P (i+k)) (fun k=>Q (i+k)) :=
 ⟨fun k hk=>C.nx (i+k) (by omega),fun k hk=>C.st (i+k) (by omega)⟩
theorem Ok.in_lt {S:Sd}(o:Ok n a B M S){r:Nat}(h:In n S r):r<M:=by
 obtain⟨k,hk,rfl⟩:=h
 exact o.lt k hk
open Classical in
theorem Chain.unlike (C:Chain n M a B c m S P Q){i j:Nat}(h:i<j)(hj:j≤m):j7 n (S i) M≠j7 n (S j) M:=fun e=>by
 have o1:=C.ok (by omega) (show i≤m by omega)
 have o2:=C.ok (by omega) hj
 have hs:∀ r,In n (S i) r↔In n (S j) r:=fun r=>by
  by_cases c:r<M
  ·have h1:=oY e r c
   constructor
   ·intro h
    exact of_decide_eq_true (h1.symm.trans (decide_eq_true h))
   ·intro h
    exact of_decide_eq_true (h1.trans (decide_eq_true h))
  ·exact⟨fun h=>absurd (o1.in_lt h) c,fun h=>absurd (o2.in_lt h) c⟩
 refine (C.part (i:=i) hj).never (by omega) fun r=>?_
 show In n (S (i+0)) r↔In n (S (i+(j - i))) r
 rw[show i+(j - i)=j by omega]
 exact hs r
theorem Chain.short (C:Chain n M a B c m S P Q):m<2 ^ M :=
 j6 (2 ^ M) (m:=m) (f:=fun i=>j7 n (S i) M) (fun i _=>kX _ M) fun i j h hj=>C.unlike h hj
theorem Chain.more (C:Chain n M a B c m S P Q){T:Sd}{p q:Nat}(x:Nx n M a B (S m) T p q)(s:StA n M a B (S m) p q∨StB n M a B c (S m) p q) :
  Chain n M a B c (m+1) (fun i=>if i≤m then S i else T) (fun i=>if i<m then P i else p) (fun i=>if i<m then Q i else q):=by
 constructor
 ·intro i hi
  show Nx n M a B (if i≤m then S i else T) (if i+1≤m then S (i+1) else T) (if i<m then P i else p) (if i<m then Q i else q)
  by_cases c:i<m
  ·rw[if_pos (by omega),if_pos (by omega),if_pos c,if_pos c]
   exact C.nx i c
  ·obtain rfl:i=m:=by omega
   rw[if_pos (by omega),if_neg (by omega),if_neg c,if_neg c]
   exact x
 ·intro i hi
  show StA n M a B (if i≤m then S i else T) (if i<m then P i else p) (if i<m then Q i else q)∨StB n M a B _ (if i≤m then S i else T) (if i<m then P i else p) (if i<m then Q i else q)
  by_cases c:i<m
  ·rw[if_pos (by omega),if_pos c,if_pos c]
   exact C.st i c
  ·obtain rfl:i=m:=by omega
   rw[if_pos (by omega),if_neg c,if_neg c]
   exact s
theorem chain0 (T:Sd):Chain n M a B c 0 (fun _=>T) (fun _=>0) (fun _=>0):=⟨fun i h=>absurd h (by omega),fun i h=>absurd h (by omega)⟩
theorem ok_start (hn:n≤M)(ha:∀ k j,k<n→j<n→a k j=un k j):Ok n a B M ⟨fun k=>k,fun k=>un k,fun i=>B i,1⟩:=by
 have ed:det n (fun k=>a k)=1:=by
  rw[← mW n]
  exact det_congr fun i j hi hj=>ha i j hi hj
 have ec:∀ k j,k<n→j<n→co n (fun k=>a k) k j=un k j:=fun k j hk hj=>by
  have e1:co n (fun k=>a k) k j=co n un k j:=det_congr fun i l hi hl=>by
   unfold up
   split
   ·rfl
   ·exact ha i l hi hl
  rw[e1]
  have h:=oo (A:=un) hk hj
  rw[eH hj fun i hi hne=>?_] at h
  ·rw[mW] at h
   have e2:un j j=1:=if_pos rfl
   rw[e2,Int.one_mul] at h
   rw[h]
   rfl
  ·show (if i=j then (1:Int) else 0)*_=0
   rw[if_neg hne,Int.zero_mul]
 refine⟨by show (0:Int)<1;decide,fun k hk=>by show k<M;omega,⟨1,.inl rfl,?_,fun k j hk hj=>?_⟩,fun i j hi hj=>?_,fun i hi=>?_⟩
 ·show (1:Int)=1*det n (fun k=>a k)
  rw[ed]
  rfl
 ·show un k j=1*co n (fun k=>a k) k j
  rw[ec k j hk hj,Int.one_mul]
 ·show (sm n fun k=>un k i*a k j)=if i=j then 1 else 0
  rw[eH hi fun k hk hne=>?_,ha i j hi hj]
  ·have e2:un i i=1:=if_pos rfl
   rw[e2,Int.one_mul]
   unfold un
   by_cases c:i=j
   ·rw[if_pos c,if_pos c.symm]
   ·rw[if_neg c,if_neg (Ne.symm c)]
  ·show (if i=k then (1:Int) else 0)*_=0
   rw[if_neg (Ne.symm hne),Int.zero_mul]
 ·show B i=sm n fun k=>B k*un k i
  rw[eH hi fun k hk hne=>?_]
  ·have e2:un i i=1:=if_pos rfl
   rw[e2,Int.mul_one]
  ·show _*(if i=k then (1:Int) else 0)=0
   rw[if_neg (Ne.symm hne),Int.mul_zero]
end
end Wk
namespace Wk
def eB (M:Nat)(h:Nat→Nat):Nat→Nat
 | 0=>0
 | n+1=>eB M h n*M+h n
theorem l4 {M:Nat}{h:Nat→Nat}:∀ {n:Nat},(∀ k,k<n→h k<M)→eB M h n<M ^ n
 | 0,_=>by show 0<1;decide
 | n+1,hl=>by
  have ih:=l4 (n:=n) fun k hk=>hl k (by omega)
  have h1:=hl n (by omega)
  show eB M h n*M+h n<M ^ n*M
  have h2:(eB M h n+1)*M≤M ^ n*M:=Nat.mul_le_mul_right M ih
  rw[Nat.add_mul] at h2
  omega
theorem p3 {M:Nat}{h g:Nat→Nat}:∀ {n:Nat},(∀ k,k<n→h k<M)→(∀ k,k<n→g k<M)→eB M h n=eB M g n→∀ k,k<n→h k=g k
 | 0,_,_,_,k,hk=>absurd hk (by omega)
 | n+1,h1,h2,e,k,hk=>by
  have e:eB M h n*M+h n=eB M g n*M+g n:=e
  have a:=h1 n (by omega)
  have b:=h2 n (by omega)
  have em:(eB M h n*M+h n) % M=(eB M g n*M+g n) % M:=by rw[e]
  rw[Nat.mul_add_mod_self_right,Nat.mul_add_mod_self_right,Nat.mod_eq_of_lt a,Nat.mod_eq_of_lt b] at em
  by_cases c:k=n
  ·rw[c];exact em
  ·have e2:eB M h n*M=eB M g n*M:=by omega
   have e3:=Nat.eq_of_mul_eq_mul_right (show 0<M by omega) e2
   exact p3 (fun k hk=>h1 k (by omega)) (fun k hk=>h2 k (by omega)) e3 k (by omega)
section
variable {n M:Nat}{a:Mx}{B:Nat→Int}{c:Nat→Int}{m:Nat}{S:Nat→Sd}{P Q:Nat→Nat}
theorem Chain.fewer (C:Chain n M a B c m S P Q)(o0:Ok n a B M (S 0)):m<M ^ n:=by
 by_cases hm:m=0
 ·subst hm
  have:=l4 (M:=M) (h:=(S 0).h) (n:=n) fun k hk=>o0.lt k hk
  omega
 refine j6 (M ^ n) (m:=m) (f:=fun i=>eB M (S i).h n) (fun i hi=>l4 fun k hk=>(C.ok (by omega) hi).lt k hk) fun i j h hj e=>?_
 have o1:=C.ok (by omega) (show i≤m by omega)
 have o2:=C.ok (by omega) hj
 have hh:=p3 (fun k hk=>o1.lt k hk) (fun k hk=>o2.lt k hk) e
 refine C.unlike h hj ?_
 unfold j7
 have:(fun r=>@decide (In n (S i) r) (Classical.propDecidable _))=fun r=>@decide (In n (S j) r) (Classical.propDecidable _):=by
  funext r
  have:In n (S i) r↔In n (S j) r:=⟨fun⟨k,hk,e⟩=>⟨k,hk,by rw[← hh k hk];exact e⟩,fun⟨k,hk,e⟩=>⟨k,hk,by rw[hh k hk];exact e⟩⟩
  exact decide_eq_decide.mpr this
 rw[this]
end
end Wk
namespace Kx
open PySem L2
section
variable {P:Program}{w:World}{K:Frag}{mg:Str→Option Value}{base:Heap}
def top (i:Nat):Stmt:=PySem.Challenge.pw_cutyard_k21_endings_true.main.body.getD i (.Pass ⟨0,0,0,0⟩)
abbrev k7:Stmt:=top 4
theorem sc_common_of_two:FnScope ["one","other","greater","lesser","rest"] ["one","other"] (ay k7):=⟨rfl,rfl,rfl,by decide +kernel,rfl,by decide +kernel,by decide +kernel⟩
abbrev kS:Stmt:=top 5
theorem sc_common:FnScope ["numbers","divisor","number"] ["numbers"] (ay kS):=⟨rfl,rfl,rfl,by decide +kernel,rfl,by decide +kernel,by decide +kernel⟩
abbrev jJ:Stmt:=top 6
theorem sc_lowest:FnScope ["tops","bottom","divisor"] ["tops","bottom"] (ay jJ):=⟨rfl,rfl,rfl,by decide +kernel,rfl,by decide +kernel,by decide +kernel⟩
abbrev jd:Stmt:=top 8
theorem xi:FnScope ["n","place"] ["n","place"] (ay jd):=⟨rfl,rfl,rfl,by decide +kernel,rfl,by decide +kernel,by decide +kernel⟩
abbrev jG:Stmt:=top 9
theorem Am:FnScope ["entries","spot"] ["entries","spot"] (ay jG):=⟨rfl,rfl,rfl,by decide +kernel,rfl,by decide +kernel,by decide +kernel⟩
abbrev kv:Stmt:=top 10
theorem va:FnScope ["row","point"] ["row","point"] (ay kv):=⟨rfl,rfl,rfl,by decide +kernel,rfl,by decide +kernel,by decide +kernel⟩
abbrev ko:Stmt:=top 12
theorem Ab:FnScope ["rows","number"] ["rows","number"] (ay ko):=⟨rfl,rfl,rfl,by decide +kernel,rfl,by decide +kernel,by decide +kernel⟩
abbrev jL:Stmt:=top 13
theorem sc_shares_sum:FnScope ["rows","shares","n","entries","bound","number","weight","row"] ["rows","shares","n"] (ay jL):=⟨rfl,rfl,rfl,by decide +kernel,rfl,by decide +kernel,by decide +kernel⟩
abbrev jD:Stmt:=top 14
theorem sc_none_holds:FnScope ["rows","goal","shares","summed"] ["rows","goal","shares"] (ay jD):=⟨rfl,rfl,rfl,by decide +kernel,rfl,by decide +kernel,by decide +kernel⟩
abbrev jK:Stmt:=top 15
theorem C9:FnScope ["rows","goal","ray"] ["rows","goal","ray"] (ay jK):=⟨rfl,rfl,rfl,by decide +kernel,rfl,by decide +kernel,by decide +kernel⟩
abbrev jq:Stmt:=top 16
theorem yG:FnScope ["rows","goal","point"] ["rows","goal","point"] (ay jq):=⟨rfl,rfl,rfl,by decide +kernel,rfl,by decide +kernel,by decide +kernel⟩
abbrev jo:Stmt:=top 17
theorem sc_best_holds:FnScope ["rows","goal","point","shares","divisor","summed"] ["rows","goal","point","shares","divisor"] (ay jo):=⟨rfl,rfl,rfl,by decide +kernel,rfl,by decide +kernel,by decide +kernel⟩
abbrev kj:Stmt:=top 18
theorem uI:FnScope ["rows","goal","told"] ["rows","goal","told"] (ay kj):=⟨rfl,rfl,rfl,by decide +kernel,rfl,by decide +kernel,by decide +kernel⟩
abbrev iF:Stmt:=top 21
theorem sc_beginning:FnScope ["rows","n","ways","tops"] ["rows","n"] (ay iF):=⟨rfl,rfl,rfl,by decide +kernel,rfl,by decide +kernel,by decide +kernel⟩
abbrev i3:Stmt:=top 22
theorem vy:FnScope ["stand","entries"] ["stand","entries"] (ay i3):=⟨rfl,rfl,rfl,by decide +kernel,rfl,by decide +kernel,by decide +kernel⟩
abbrev kB:Stmt:=top 23
theorem wL:FnScope ["row","stand"] ["row","stand"] (ay kB):=⟨rfl,rfl,rfl,by decide +kernel,rfl,by decide +kernel,by decide +kernel⟩
abbrev k9:Stmt:=top 24
theorem sc_missed_row:FnScope ["rows","numbers","stand","number"] ["rows","numbers","stand"] (ay k9):=⟨rfl,rfl,rfl,by decide +kernel,rfl,by decide +kernel,by decide +kernel⟩
abbrev dR:Stmt:=top 25
theorem sc_least_grown:FnScope ["stand","grown","places"] ["stand","grown"] (ay dR):=⟨rfl,rfl,rfl,by decide +kernel,rfl,by decide +kernel,by decide +kernel⟩
abbrev kD:Stmt:=top 26
theorem sc_stopping_row:FnScope ["rows","numbers","stand","way","chosen","chosen_over","chosen_fall","number","fall","row_over"] ["rows","numbers","stand","way"] (ay kD):=⟨rfl,rfl,rfl,by decide +kernel,rfl,by decide +kernel,by decide +kernel⟩
abbrev jw:Stmt:=top 27
theorem zW:FnScope ["numbers","way","shift","size","bottom"] ["numbers","way","shift","size","bottom"] (ay jw):=⟨rfl,rfl,rfl,by decide +kernel,rfl,by decide +kernel,by decide +kernel⟩
abbrev iE:Stmt:=top 28
theorem sc_exchanged:FnScope ["rows","stand","place","number","row","grown","size","way","ways","other","tops","held"] ["rows","stand","place","number"] (ay iE):=⟨rfl,rfl,rfl,by decide +kernel,rfl,by decide +kernel,by decide +kernel⟩
abbrev jv:Stmt:=top 29
theorem xf:FnScope ["stand","grown"] ["stand","grown"] (ay jv):=⟨rfl,rfl,rfl,by decide +kernel,rfl,by decide +kernel,by decide +kernel⟩
abbrev iq:Stmt:=top 30
theorem sc_in_lowest:FnScope ["pairs","bottom","reduced"] ["pairs","bottom"] (ay iq):=⟨rfl,rfl,rfl,by decide +kernel,rfl,by decide +kernel,by decide +kernel⟩
abbrev lH:Stmt:=top 31
theorem sc_none_ending:FnScope ["stand","number","grown","reduced"] ["stand","number","grown"] (ay lH):=⟨rfl,rfl,rfl,by decide +kernel,rfl,by decide +kernel,by decide +kernel⟩
abbrev kE:Stmt:=top 32
theorem sc_best_ending:FnScope ["stand","grown","reduced"] ["stand","grown"] (ay kE):=⟨rfl,rfl,rfl,by decide +kernel,rfl,by decide +kernel,by decide +kernel⟩
abbrev jF:Stmt:=top 33
theorem sc_endless_ending:FnScope ["stand","way","divisor"] ["stand","way"] (ay jF):=⟨rfl,rfl,rfl,by decide +kernel,rfl,by decide +kernel,by decide +kernel⟩
abbrev jY:Stmt:=top 34
theorem sc_next_step:FnScope ["rows","numbers","goal","stand","number","raised","place","grown"] ["rows","numbers","goal","stand"] (ay jY):=⟨rfl,rfl,rfl,by decide +kernel,rfl,by decide +kernel,by decide +kernel⟩
abbrev kF:Stmt:=top 35
theorem sc_walk_on:FnScope ["rows","numbers","goal","stand","steps","told"] ["rows","numbers","goal","stand"] (ay kF):=⟨rfl,rfl,rfl,by decide +kernel,rfl,by decide +kernel,by decide +kernel⟩
abbrev jX:Stmt:=top 36
theorem Br:FnScope ["rows","goal"] ["rows","goal"] (ay jX):=⟨rfl,rfl,rfl,by decide +kernel,rfl,by decide +kernel,by decide +kernel⟩
abbrev kW:Stmt:=top 37
theorem yx:FnScope ["rows","goal"] ["rows","goal"] (ay kW):=⟨rfl,rfl,rfl,by decide +kernel,rfl,by decide +kernel,by decide +kernel⟩
abbrev lB:Stmt:=top 39
theorem Cb:FnScope ["_law_script","_law_k"] ["_law_script","_law_k"] (ay lB):=⟨rfl,rfl,rfl,by decide +kernel,rfl,by decide +kernel,by decide +kernel⟩
abbrev jW:Stmt:=top 40
theorem sc__law_draws:FnScope ["_law_cell_here","_law_salt","_law_sizes","_law_row","_law_rest","_law_k","_law_size","_law_mixed"] ["_law_cell_here","_law_salt","_law_sizes"] (ay jW):=⟨rfl,rfl,rfl,by decide +kernel,rfl,by decide +kernel,by decide +kernel⟩
abbrev jj:Stmt:=top 41
theorem sc__law_total:FnScope ["_law_rows_here","_law_shares","_law_n","_law_total_here","_law_number","_law_weight","_law_row"] ["_law_rows_here","_law_shares","_law_n"] (ay jj):=⟨rfl,rfl,rfl,by decide +kernel,rfl,by decide +kernel,by decide +kernel⟩
abbrev jr:Stmt:=top 42
theorem sc__law_rows:FnScope ["_law_cell_here","_law_salt","_law_n","_law_many","_law_big","_law_numbers","_law_rows_here","_law_k","_law_part"] ["_law_cell_here","_law_salt","_law_n","_law_many","_law_big"] (ay jr):=⟨rfl,rfl,rfl,by decide +kernel,rfl,by decide +kernel,by decide +kernel⟩
abbrev i9:Stmt:=top 43
theorem wH:FnScope ["_law_entries","_law_spot"] ["_law_entries","_law_spot"] (ay i9):=⟨rfl,rfl,rfl,by decide +kernel,rfl,by decide +kernel,by decide +kernel⟩
abbrev jh:Stmt:=top 44
theorem yr:FnScope ["_law_n","_law_at"] ["_law_n","_law_at"] (ay jh):=⟨rfl,rfl,rfl,by decide +kernel,rfl,by decide +kernel,by decide +kernel⟩
abbrev ki:Stmt:=top 45
theorem sc__law_told:FnScope ["_law_kind","_law_parts","_law_point","_law_ray","_law_shares","_law_divisor"] ["_law_kind","_law_parts"] (ay ki):=⟨rfl,rfl,rfl,by decide +kernel,rfl,by decide +kernel,by decide +kernel⟩
abbrev gW:Stmt:=top 46
theorem sc__law_none_built:FnScope ["_law_cells","_law_n","_law_many","_law_big","_law_leasts","_law_rows_here","_law_numbers","_law_shares","_law_total_here","_law_at"] ["_law_cells","_law_n","_law_many","_law_big"] (ay gW):=⟨rfl,rfl,rfl,by decide +kernel,rfl,by decide +kernel,by decide +kernel⟩
abbrev jB:Stmt:=top 47
theorem y9:FnScope ["_law_entries","_law_ray"] ["_law_entries","_law_ray"] (ay jB):=⟨rfl,rfl,rfl,by decide +kernel,rfl,by decide +kernel,by decide +kernel⟩
abbrev lJ:Stmt:=top 48
theorem uS:FnScope ["_law_top","_law_bottom","_law_slack"] ["_law_top","_law_bottom","_law_slack"] (ay lJ):=⟨rfl,rfl,rfl,by decide +kernel,rfl,by decide +kernel,by decide +kernel⟩
abbrev ie:Stmt:=top 49
theorem sc__law_endless_built:FnScope ["_law_cells","_law_n","_law_many","_law_big","_law_numbers","_law_ray","_law_tops","_law_bottom","_law_slacks","_law_rows_here","_law_drawn","_law_k","_law_entries","_law_goal"] ["_law_cells","_law_n","_law_many","_law_big"] (ay ie):=⟨rfl,rfl,rfl,by decide +kernel,rfl,by decide +kernel,by decide +kernel⟩
abbrev iR:Stmt:=top 50
theorem sc__law_best_rows:FnScope ["_law_cells","_law_n","_law_many","_law_big","_law_point","_law_ray","_law_tops","_law_bottom","_law_slacks","_law_rows_here","_law_k","_law_entries","_law_bound","_law_total_here"] ["_law_cells","_law_n","_law_many","_law_big","_law_point","_law_ray"] (ay iR):=⟨rfl,rfl,rfl,by decide +kernel,rfl,by decide +kernel,by decide +kernel⟩
abbrev jg:Stmt:=top 51
theorem B9:FnScope ["_law_entries","_law_bound","_law_least","_law_point"] ["_law_entries","_law_bound","_law_least","_law_point"] (ay jg):=⟨rfl,rfl,rfl,by decide +kernel,rfl,by decide +kernel,by decide +kernel⟩
abbrev fL:Stmt:=top 52
theorem sc__law_best_built:FnScope ["_law_cells","_law_n","_law_many","_law_big","_law_numbers","_law_ray","_law_tops","_law_bottom","_law_rows_here","_law_divisor","_law_shares","_law_k","_law_entries","_law_bound","_law_weight","_law_total_here","_law_goal","_law_times","_law_scale","_law_point"] ["_law_cells","_law_n","_law_many","_law_big"] (ay fL):=⟨rfl,rfl,rfl,by decide +kernel,rfl,by decide +kernel,by decide +kernel⟩
abbrev hX:Stmt:=top 53
theorem sc__law_wild:FnScope ["_law_cells","_law_n","_law_many","_law_big","_law_leasts","_law_rows_here","_law_drawn","_law_numbers","_law_shares","_law_point","_law_ray"] ["_law_cells","_law_n","_law_many","_law_big"] (ay hX):=⟨rfl,rfl,rfl,by decide +kernel,rfl,by decide +kernel,by decide +kernel⟩
abbrev kU:Stmt:=top 54
theorem sc__law_bent_shares:FnScope ["_law_shares","_law_way","_law_at","_law_step","_law_number","_law_weight","_law_rest"] ["_law_shares","_law_way","_law_at","_law_step"] (ay kU):=⟨rfl,rfl,rfl,by decide +kernel,rfl,by decide +kernel,by decide +kernel⟩
abbrev iZ:Stmt:=top 55
theorem sc__law_bent_point:FnScope ["_law_point","_law_way","_law_at","_law_step","_law_tops","_law_bottom"] ["_law_point","_law_way","_law_at","_law_step"] (ay iZ):=⟨rfl,rfl,rfl,by decide +kernel,rfl,by decide +kernel,by decide +kernel⟩
abbrev jV:Stmt:=top 56
theorem sc__law_bent:FnScope ["_law_parts","_law_spoil","_law_way","_law_at","_law_step","_law_point","_law_ray","_law_shares","_law_divisor"] ["_law_parts","_law_spoil","_law_way","_law_at","_law_step"] (ay jV):=⟨rfl,rfl,rfl,by decide +kernel,rfl,by decide +kernel,by decide +kernel⟩
abbrev k6:Stmt:=top 57
theorem sc__law_bent_rows:FnScope ["_law_rows_here","_law_goal","_law_spoil","_law_at","_law_step"] ["_law_rows_here","_law_goal","_law_spoil","_law_at","_law_step"] (ay k6):=⟨rfl,rfl,rfl,by decide +kernel,rfl,by decide +kernel,by decide +kernel⟩
abbrev lx:Stmt:=top 58
theorem AC:FnScope ["_law_kind","_law_wild_here","_law_cells","_law_n","_law_many","_law_big"] ["_law_kind","_law_wild_here","_law_cells","_law_n","_law_many","_law_big"] (ay lx):=⟨rfl,rfl,rfl,by decide +kernel,rfl,by decide +kernel,by decide +kernel⟩
abbrev iD:Stmt:=top 59
theorem sc__law_planted:FnScope ["_law_cell_here","_law_parts","_law_n","_law_far","_law_point","_law_ray","_law_shares","_law_divisor","_law_numbers"] ["_law_cell_here","_law_parts","_law_n","_law_far"] (ay iD):=⟨rfl,rfl,rfl,by decide +kernel,rfl,by decide +kernel,by decide +kernel⟩
abbrev iY:Stmt:=top 60
theorem wY:FnScope ["_law_rows_here","_law_point"] ["_law_rows_here","_law_point"] (ay iY):=⟨rfl,rfl,rfl,by decide +kernel,rfl,by decide +kernel,by decide +kernel⟩
abbrev gn:Stmt:=top 61
theorem sc__law_endless_true:FnScope ["_law_rows_here","_law_goal","_law_point","_law_ray","_law_planted_here","_law_often","_law_tops"] ["_law_rows_here","_law_goal","_law_point","_law_ray","_law_planted_here"] (ay gn):=⟨rfl,rfl,rfl,by decide +kernel,rfl,by decide +kernel,by decide +kernel⟩
abbrev ir:Stmt:=top 62
theorem sc__law_first_told:FnScope ["_law_script","_law_shape","_law_n","_law_many","_law_numbers","_law_rows_here","_law_goal"] ["_law_script"] (ay ir):=⟨rfl,rfl,rfl,by decide +kernel,rfl,by decide +kernel,by decide +kernel⟩
abbrev je:Stmt:=top 63
theorem sc_law:FnScope ["_law_script","_law_shape","_law_kind","_law_n","_law_cells","_law_wild_here","_law_rows_here","_law_goal","_law_parts","_law_planted_here","_law_step","_law_told_here"] ["_law_script"] (ay je):=⟨rfl,rfl,rfl,by decide +kernel,rfl,by decide +kernel,by decide +kernel⟩
abbrev gT:Stmt:=y8 (top 20) 0
theorem C8:FnScope ["self","held","ways","tops","bottom"] ["self","held","ways","tops","bottom"] (ay gT):=⟨rfl,rfl,rfl,by decide +kernel,rfl,by decide +kernel,by decide +kernel⟩
structure TxtStand (K:Frag)(mg:Str→Option Value)(C:Addr):Prop where
 cl:Cls K C
 n_held:NoAttr K C "held"
 n_ways:NoAttr K C "ways"
 n_tops:NoAttr K C "tops"
 n_bottom:NoAttr K C "bottom"
 mgC:mg "Stand"=some (.ref C)
 ns:nsIn K mainGlobals "Stand"=some (some (.ref C))
abbrev aW (x:Int):Prop:=x.natAbs<2 ^ 60000
abbrev cD (r:ao):Prop:=(∀ x∈r.1,aW x)∧aW r.2
theorem cF {a b:Int}(ha:aW a)(hb:aW b):IntMulOk a b:=qu (m:=60000) (n:=60000) (by decide) (by decide) ha hb (by decide)
theorem dq {R:D→Prop}{a b:Bool}(q:R (.bl a))(e:b=a):R (.bl b):=e ▸ q
theorem fW {rs:List ao}{k:Int}(h0:0≤k)(h1:k<rs.length):bJ (rs.map av) k=some (av (au rs k)):=bD (oR h0 h1) (by omega)
def g9:aR:=fun ds R=>∃ (xs ys:List Int),ds=[.tup (xs.map D.int),.tup (ys.map D.int)]∧xs.length≤1000∧(∀ x∈xs,aW x)∧(∀ y∈ys,aW y)∧R (.int (aj xs ys))
theorem Cs {n:Nat}{f:Addr}{fd:FuncData}(F:Fun K "left" "left" jG f fd)(iU:mg "sum"=none)(cy:mg "zip"=none):FnOk P w K mg base aS (n+1) f fd ["entries","spot"] (aZ K g9):=by
 refine F.okD Am (fun ds R h=>?_) (fun cdv A outer s H E ds R hr h=>?_)
 ·obtain⟨xs,ys,rfl,_⟩:=h;rfl
 obtain⟨xs,ys,rfl,hl,hx,hy,q⟩:=h
 refine⟨_,(az (aH (bB (pV rfl) rfl iU PyProof.Rows.boot_sum (aI (PD.q (PF.d (bH (k:=2) (N':=["entry","number"]) (cap:=[none,none]) rfl (.ok (show bu ["entries","spot"] (ay jG) _ ["entry","number"] [none,none]=true by decide +kernel)) (by decide +kernel) (fo (n:=2) (cY (bf (by decide)) (cY (bf (by decide)) fi))) (fN rfl cy (aa (dv 0) (aa (dv 1) ag ab) ab)) (fun _ _ _ _ _=>(cg (n:=2) rfl (bh (aD (i:=0) (show List.Nodup (["entry","number"]:List Str) by decide +kernel) rfl (Or.inl rfl)) (bh (aD (i:=1) (show List.Nodup (["entry","number"]:List Str) by decide +kernel) rfl (Or.inl rfl)) bZ)))) (fun _ _ _ _ _=>(ah aQ (ae 0) (ae 1)))))) aM aV) aV ak))),?_⟩
 refine⟨_,_,rfl,rfl,?_⟩
 refine fD (fun x y=>D.int (x*y)) (bc hl) (fun x hx' y hy'=>⟨rfl,cF (hx x hx') (hy y hy'),rfl⟩) ?_
 exact⟨List.zipWith (fun x y=>x*y) xs ys,by rw[List.map_zipWith];rfl,q⟩
theorem ku (f:Str)(v:V):∀ fs:List (Str × V),(cP f v fs).length≤fs.length+1
 | []=>Nat.le_refl 1
 | (g,x)::r=>by
  have:=ku f v r
  unfold cP
  split
  ·rw[List.length_cons,List.length_cons];omega
  ·rw[List.length_cons,List.length_cons];omega
abbrev oi (K:Frag)(C:Addr):Sp:=pZ C ["held","ways","tops","bottom"]
theorem AS {n:Nat}{f:Addr}{fd:FuncData}(F:Fun K "__init__" "Stand.__init__" gT f fd){C_Stand:Addr}(T_Stand:TxtStand K mg C_Stand):FnOk P w K mg base aS (n+1) f fd ["self","held","ways","tops","bottom"] (oi K C_Stand):=by
 refine F.ok C8 (fun vs H Q E h=>?_) (fun cdv A outer s H vs Q E hr h=>?_)
 ·obtain⟨x,dx,ws,rfl,hl,_⟩:=h;rw[List.length_cons,hl];rfl
 obtain⟨x,dx,ws,rfl,hl,hx,q⟩:=h
 obtain⟨w1,w2,w3,w4,rfl⟩:∃ w1 w2 w3 w4,ws=[w1,w2,w3,w4]:=by
  match ws,hl with
  | [w1,w2,w3,w4],_=>exact⟨w1,w2,w3,w4,rfl⟩
 refine⟨_,(jA (kH (pv 0) (pv 1) rfl)
   (jA (kH (pv 0) (pv 2) rfl)
   (jA (kH (pv 0) (pv 3) rfl)
   (pJ (kH (pv 0) (pv 4) rfl))))),?_⟩
 refine⟨_,rfl,_,rfl,x,C_Stand,dx,[],rfl,hx,T_Stand.cl,T_Stand.n_held,by decide,?_⟩
 have l1:=ku "held" w1 []
 have l2:=ku "ways" w2 (cP "held" w1 [])
 have l3:=ku "tops" w3 (cP "ways" w2 (cP "held" w1 []))
 rw[List.length_nil] at l1
 refine⟨_,rfl,_,rfl,x,C_Stand,dx,_,rfl,bw,T_Stand.cl,T_Stand.n_ways,by omega,?_⟩
 refine⟨_,rfl,_,rfl,x,C_Stand,dx,_,rfl,bw,T_Stand.cl,T_Stand.n_tops,by omega,?_⟩
 refine⟨_,rfl,_,rfl,x,C_Stand,dx,_,rfl,bw,T_Stand.cl,T_Stand.n_bottom,by omega,?_⟩
 refine q _ (fun b hb=>by rw[ba hb,ba hb,ba hb,ba hb]) ?_
 rw[bw]
 rfl
structure Std where
 held:List Int
 ways:List (List Int)
 tops:List Int
 bot:Int
def wD (w:List Int):D:=.tup (w.map D.int)
def bY (s:Std):D:=.obj "Stand" [("held",.tup (s.held.map D.int)),("ways",.tup (s.ways.map wD)),("tops",.tup (s.tops.map D.int)),("bottom",.int s.bot)]
structure StB (s:Std):Prop where
 hl:s.held.length≤1000
 wl:s.ways.length≤1000
 wb:∀ w∈s.ways,∀ x∈w,aW x
 tb:∀ x∈s.tops,aW x
 bb:aW s.bot
theorem ju (s:Std):([("held",.tup (s.held.map D.int)),("ways",.tup (s.ways.map wD)),("tops",.tup (s.tops.map D.int)),("bottom",.int s.bot)]:List (Str × D)).lookup ("held":Str)=some (.tup (s.held.map D.int)):=by rfl
theorem i8 (s:Std):([("held",.tup (s.held.map D.int)),("ways",.tup (s.ways.map wD)),("tops",.tup (s.tops.map D.int)),("bottom",.int s.bot)]:List (Str × D)).lookup ("ways":Str)=some (.tup (s.ways.map wD)):=by rfl
theorem km (s:Std):([("held",.tup (s.held.map D.int)),("ways",.tup (s.ways.map wD)),("tops",.tup (s.tops.map D.int)),("bottom",.int s.bot)]:List (Str × D)).lookup ("tops":Str)=some (.tup (s.tops.map D.int)):=by rfl
theorem gM (s:Std):([("held",.tup (s.held.map D.int)),("ways",.tup (s.ways.map wD)),("tops",.tup (s.tops.map D.int)),("bottom",.int s.bot)]:List (Str × D)).lookup ("bottom":Str)=some (.int s.bot):=by rfl
def ma:aR:=fun ds R=>∃ (s:Std) (es:List Int),ds=[bY s,.tup (es.map D.int)]∧StB s∧es.length≤1000∧(∀ x∈es,aW x)∧R (.tup ((s.ways.map fun w=>aj es w).map D.int))
theorem wJ {n:Nat}{f:Addr}{fd:FuncData}(F:Fun K "growths" "growths" i3 f fd){C_Stand:Addr}(T_Stand:TxtStand K mg C_Stand)(eT:Cl P w K mg base n "left" ["entries","spot"] g9)(aG:mg "tuple"=none):FnOk P w K mg base aS (n+1) f fd ["stand","entries"] (aZ K ma):=by
 refine F.okD vy (fun ds R h=>?_) (fun cdv A outer s H E ds R hr h=>?_)
 ·obtain⟨s,es,rfl,_⟩:=h;rfl
 obtain⟨s,es,rfl,hs,hl,he,q⟩:=h
 refine⟨_,(az (aH (bF bG rfl aG PyProof.Rows.boot_tuple (aI (PD.q (PF.d (bH (k:=1) (N':=["way","entries"]) (cap:=[none,some 1]) rfl (.ok (show bu ["stand","entries"] (ay i3) _ ["way","entries"] [none,some 1]=true by decide +kernel)) (by decide +kernel) (bf (by decide)) (bO (c8 T_Stand.cl T_Stand.n_ways T_Stand.ns (ae 0))) (fun _ _ _ _ _=>(aD (i:=0) (show List.Nodup (["way","entries"]:List Str) by decide +kernel) rfl (Or.inl rfl))) (fun _ _ _ _ _=>(aC eT hr rfl (aa (dv 1) (aa (dv 0) ag ab) ab) ab (ai ab ak)))))) aM aV) aV ak))),?_⟩
 refine⟨rfl,_,i8 s,?_⟩
 exact du (f:=wD) (fun w=>aj es w) (bc hs.wl) (fun w hw=>⟨es,w,rfl,hl,he,hs.wb w hw,rfl⟩) q
def bQ (r:ao)(s:Std):Int:=aj r.1 s.tops - r.2*s.bot
def kT:aR:=fun ds R=>∃ (r:ao) (s:Std),ds=[av r,bY s]∧StB s∧r.1.length≤1000∧cD r∧R (.int (bQ r s))
theorem BC {n:Nat}{f:Addr}{fd:FuncData}(F:Fun K "over" "over" kB f fd){C_Stand:Addr}(T_Stand:TxtStand K mg C_Stand)(eT:Cl P w K mg base n "left" ["entries","spot"] g9):FnOk P w K mg base aS (n+1) f fd ["row","stand"] (aZ K kT):=by
 refine F.okD wL (fun ds R h=>?_) (fun cdv A outer s H E ds R hr h=>?_)
 ·obtain⟨r,sd,rfl,_⟩:=h;rfl
 obtain⟨r,sd,rfl,hs,hl,hb,q⟩:=h
 refine⟨_,(az (aH (ah cG (PD.q (aC eT hr rfl (aa (ar (ae 0) (PD.q af) (fun _ _=>rfl)) (aa (c8 T_Stand.cl T_Stand.n_tops T_Stand.ns (ae 1)) ag da) aw) aw (ai da ak))) (PD.q (ah aQ (PD.q (ar (ae 0) (PD.q af) (fun _ _=>rfl))) (PD.q (c8 T_Stand.cl T_Stand.n_bottom T_Stand.ns (ae 1)))))))),?_⟩
 exact⟨_,rfl,rfl,_,km sd,r.1,sd.tops,rfl,hl,hb.1,hs.tb,_,rfl,rfl,_,gM sd,cF hb.2 hs.bb,q⟩
abbrev mC (rs:List ao):Prop:=∀ r∈rs,r.1.length≤1000∧cD r
def rk:aR:=fun ds R=>∃ (rs:List ao) (ns:List Int) (sd:Std),ds=[.tup (rs.map av),.tup (ns.map D.int),bY sd]∧StB sd∧mC rs∧(∀ k∈ns,0≤k∧k<rs.length) ∧
 (∀ (i:Nat) (k:Int),ns[i]?=some k→bQ (au rs k) sd<0→(∀ (j:Nat) (k':Int),j<i→ns[j]?=some k'→0≤bQ (au rs k') sd)→R (.int k))∧((∀ k∈ns,0≤bQ (au rs k) sd)→R .non)
theorem xW {n:Nat}{f:Addr}{fd:FuncData}(F:Fun K "missed_row" "missed_row" k9 f fd)(jO:Cl P w K mg base n "over" ["row","stand"] kT):FnOk P w K mg base aS (n+1) f fd ["rows","numbers","stand"] (aZ K rk):=by
 refine F.okD sc_missed_row (fun ds R h=>?_) (fun cdv A outer s H E ds R hr h=>?_)
 ·obtain⟨rs,ns,sd,rfl,_⟩:=h;rfl
 obtain⟨rs,ns,sd,rfl,hs,hrr,hn,q1,q0⟩:=h
 refine⟨_,(ax (eK PassesOwn.never rfl (bO (dv 1)) (aD (i:=3) sc_missed_row.nd rfl (Or.inl rfl)) (az (bj (bg dA (PD.q (aC jO hr rfl (aa (ar (ae 0) (ae 3) (fun _ _=>rfl)) (aa (dv 2) ag ab) aw) aw (ai ab ak))) (PD.q af) (aO _)) (az (aH (dv 3))) bt)))
   (az (aH e9))),?_⟩
 refine⟨fun i ρ=>∃ u3:Option Sl,ρ=[some (.v (.tup (rs.map av))),some (.v (.tup (ns.map D.int))),some (.v (bY sd)),u3]∧∀ (j:Nat) (k':Int),j<i→ns[j]?=some k'→0≤bQ (au rs k') sd,⟨_,rfl,fun j k' h=>absurd h (by omega)⟩,?_,?_⟩
 ·rintro i d ρ hd ⟨u3,rfl,hI⟩
  obtain⟨k,rfl,hk⟩:=fv hd
  obtain⟨k0,k1⟩:=hn k (List.mem_of_getElem? hk)
  have hrow:=hrr _ (dW k0 k1)
  refine⟨_,fW k0 k1,au rs k,sd,rfl,hs,hrow.1,hrow.2,fun h=>q1 i k hk (dP h) hI,fun h=>⟨_,rfl,fun j k' hj hk'=>?_⟩⟩
  by_cases c:j=i
  ·subst c
   rw[hk] at hk'
   cases hk'
   have:=of_decide_eq_false h
   omega
  ·exact hI j k' (by omega) hk'
 ·rintro ρ ⟨u3,rfl,hI⟩
  rw[List.length_map] at hI
  exact q0 fun k hk=>by
   obtain⟨j,hj⟩:=List.getElem?_of_mem hk
   exact hI j k (c9 hj) hj
def cm (rs:List ao)(way:List Int)(k:Int):Int:=- aj (au rs k).1 way
def pE:Option Int→D
 | none=>.non
 | some k=>.int k
def Stop (rs:List ao)(ns:List Int)(sd:Std)(way:List Int)(m:Nat):Option Int→Prop
 | none=>∀ (j:Nat) (k':Int),j<m→ns[j]?=some k'→cm rs way k'≤0
 | some k=>∃ i:Nat,i<m∧ns[i]?=some k∧0<cm rs way k∧∀ (j:Nat) (k':Int),j<m→ns[j]?=some k'→0<cm rs way k'→bQ (au rs k) sd*cm rs way k'≤bQ (au rs k') sd*cm rs way k∧(j<i→bQ (au rs k) sd*cm rs way k'<bQ (au rs k') sd*cm rs way k)
theorem vJ {o f oq fq ok fk:Int}(hq:0<fq)(hf:0<f)(hk:0<fk)(h1:ok*fq<oq*fk)(h2:oq*f≤o*fq):ok*f<o*fk:=by
 have a1:=Int.mul_lt_mul_of_pos_right h1 hf
 have a2:=Int.mul_le_mul_of_nonneg_right h2 (Int.le_of_lt hk)
 have e1:ok*fq*f=(ok*f)*fq:=by grind
 have e2:o*fq*fk=(o*fk)*fq:=by grind
 have e3:oq*fk*f=oq*f*fk:=by grind
 have:(ok*f)*fq<(o*fk)*fq:=by omega
 exact Int.lt_of_mul_lt_mul_right this (Int.le_of_lt hq)
theorem Stop.keep {rs:List ao}{ns:List Int}{sd:Std}{way:List Int}{m:Nat}{o:Option Int}{k:Int}(h:Stop rs ns sd way m o)(hk:ns[m]?=some k)(hf:cm rs way k≤0):Stop rs ns sd way (m+1) o:=by
 have old:∀ j k',j<m+1→ns[j]?=some k'→0<cm rs way k'→j<m:=fun j k' hj hk' hp=>by
  by_cases c:j=m
  ·subst c
   rw[hk] at hk'
   cases hk'
   omega
  ·omega
 cases o with
 | none =>
  show ∀ (j:Nat) (k':Int),j<m+1→ns[j]?=some k'→cm rs way k'≤0
  intro j k' hj hk'
  rcases Int.lt_or_le 0 (cm rs way k') with hp | hp
  ·exact h j k' (old j k' hj hk' hp) hk'
  ·exact hp
 | some q =>
  obtain⟨i,hi,hq,hqf,hall⟩:=h
  exact⟨i,by omega,hq,hqf,fun j k' hj hk' hp=>hall j k' (old j k' hj hk' hp) hk' hp⟩
theorem Stop.take {rs:List ao}{ns:List Int}{sd:Std}{way:List Int}{m:Nat}{k:Int}(h:∀ (j:Nat) (k':Int),j<m→ns[j]?=some k'→0<cm rs way k'→bQ (au rs k) sd*cm rs way k'<bQ (au rs k') sd*cm rs way k)(hk:ns[m]?=some k)(hf:0<cm rs way k):Stop rs ns sd way (m+1) (some k):=by
 refine⟨m,by omega,hk,hf,fun j k' hj hk' hp=>?_⟩
 by_cases c:j=m
 ·subst c
  rw[hk] at hk'
  cases hk'
  exact⟨Int.le_refl _,fun h=>absurd h (by omega)⟩
 ·have:=h j k' (by omega) hk' hp
  exact⟨Int.le_of_lt this,fun _=>this⟩
def oV:aR:=fun ds R=>∃ (rs:List ao) (ns:List Int) (sd:Std) (way:List Int),ds=[.tup (rs.map av),.tup (ns.map D.int),bY sd,.tup (way.map D.int)]∧StB sd∧mC rs∧(∀ k∈ns,0≤k∧k<rs.length)∧(∀ x∈way,aW x) ∧
 (∀ k∈ns,aW (bQ (au rs k) sd)∧aW (cm rs way k))∧∀ o,Stop rs ns sd way ns.length o→R (pE o)
theorem yR {n:Nat}{f:Addr}{fd:FuncData}(F:Fun K "stopping_row" "stopping_row" kD f fd)(eT:Cl P w K mg base n "left" ["entries","spot"] g9)(jO:Cl P w K mg base n "over" ["row","stand"] kT):FnOk P w K mg base aS (n+1) f fd ["rows","numbers","stand","way"] (aZ K oV):=by
 refine F.okD sc_stopping_row (fun ds R h=>?_) (fun cdv A outer s H E ds R hr h=>?_)
 ·obtain⟨rs,ns,sd,way,rfl,_⟩:=h;rfl
 obtain⟨rs,ns,sd,way,rfl,hs,hrr,hn,hw,hbig,q⟩:=h
 refine⟨_,(ax (aB (i:=4) sc_stopping_row.nd rfl (Or.inl rfl) e9)
   (ax (aB (i:=5) sc_stopping_row.nd rfl (Or.inl rfl) af)
   (ax (aB (i:=6) sc_stopping_row.nd rfl (Or.inl rfl) af)
   (ax (eK PassesOwn.never rfl (bO (dv 1)) (aD (i:=7) sc_stopping_row.nd rfl (Or.inl rfl)) (ax (aB (i:=8) sc_stopping_row.nd rfl (Or.inl rfl) (dS (PD.q (aC eT hr rfl (aa (ar (PD.q (ar (ae 0) (ae 7) (fun _ _=>rfl))) (PD.q af) (fun _ _=>rfl)) (aa (dv 3) ag ab) aw) aw (ai ab ak)))))
   (az (bj (bg gq (ae 8) (PD.q af) (aO _)) (ax (aB (i:=9) sc_stopping_row.nd rfl (Or.inl rfl) (aC jO hr rfl (aa (ar (ae 0) (ae 7) (fun _ _=>rfl)) (aa (dv 2) ag ab) aw) aw (ai ab ak)))
   (az (bj (PWD.td (iB (bg gD (ae 4) (PD.q e9) (aO _)) (jm (bg dA (PD.q (ah aQ (ae 9) (ae 6))) (PD.q (ah aQ (ae 5) (ae 8))) (aO _))))) (ax (aB (i:=4) sc_stopping_row.nd rfl (Or.inl rfl) (dv 7))
   (ax (aB (i:=5) sc_stopping_row.nd rfl (Or.inl rfl) (dv 9))
   (az (aB (i:=6) sc_stopping_row.nd rfl (Or.inl rfl) (dv 8))))) bt))) bt))))
   (az (aH (dv 4))))))),?_⟩
 refine⟨fun i ρ=>∃ (o:Option Int) (ov fl:Int) (u7 u8 u9:Option Sl),ρ=[some (.v (.tup (rs.map av))),some (.v (.tup (ns.map D.int))),some (.v (bY sd)),some (.v (.tup (way.map D.int))),some (.v (pE o)),some (.v (.int ov)),some (.v (.int fl)),u7,u8,u9]∧Stop rs ns sd way i o∧∀ q,o=some q→ov=bQ (au rs q) sd∧fl=cm rs way q∧q∈ns,⟨none,0,1,_,_,_,rfl,fun j k' h=>absurd h (by omega),fun q h=>by cases h⟩,?_,?_⟩
 ·rintro i d ρ hd ⟨o,ov,fl,u7,u8,u9,rfl,hst,ho⟩
  obtain⟨k,rfl,hk⟩:=fv hd
  have hkm:=List.mem_of_getElem? hk
  obtain⟨k0,k1⟩:=hn k hkm
  have hrow:=hrr _ (dW k0 k1)
  obtain⟨b1,b2⟩:=hbig k hkm
  refine⟨_,fW k0 k1,_,rfl,(au rs k).1,way,rfl,hrow.1,hrow.2.1,hw,fun h=>?_,fun h=>?_⟩
  ·have hf:0<cm rs way k:=dP h
   refine⟨_,fW k0 k1,au rs k,sd,rfl,hs,hrow.1,hrow.2,?_⟩
   cases o with
   | none =>
    refine⟨fun _=>⟨fun _=>⟨some k,bQ (au rs k) sd,cm rs way k,_,_,_,rfl,?_,fun q e=>by cases e;exact⟨rfl,rfl,hkm⟩⟩,fun h=>ff h.symm⟩,fun h=>by cases h⟩
    refine Stop.take (fun j k' hj hk' hp=>?_) hk hf
    have:=hst j k' hj hk'
    omega
   | some p =>
    obtain⟨rfl,rfl,hpm⟩:=ho p rfl
    obtain⟨c1,c2⟩:=hbig p hpm
    refine⟨fun h=>(by cases h),fun _=>⟨cF b1 c2,cF c1 b2,fun h=>?_,fun h=>?_⟩⟩
    ·have hlt:=dP h
     refine⟨some k,bQ (au rs k) sd,cm rs way k,_,_,_,rfl,?_,fun q e=>by cases e;exact⟨rfl,rfl,hkm⟩⟩
     obtain⟨i0,_,_,hpf,hall⟩:=hst
     exact Stop.take (fun j k' hj hk' hp=>vJ hpf hp hf hlt (hall j k' hj hk' hp).1) hk hf
    ·have hge:=of_decide_eq_false h
     refine⟨some p,_,_,_,_,_,rfl,?_,fun q e=>by cases e;exact⟨rfl,rfl,hpm⟩⟩
     obtain⟨i0,hi0,hp0,hpf,hall⟩:=hst
     refine⟨i0,by omega,hp0,hpf,fun j k' hj hk' hp=>?_⟩
     by_cases c:j=i
     ·subst c
      rw[hk] at hk'
      cases hk'
      have hge':¬ bQ (au rs k) sd*cm rs way p<bQ (au rs p) sd*cm rs way k:=hge
      exact⟨by omega,fun h=>absurd h (by omega)⟩
     ·exact hall j k' (by omega) hk' hp
  ·have hf:=of_decide_eq_false h
   have hf':¬ 0<cm rs way k:=hf
   exact⟨o,ov,fl,_,_,_,rfl,hst.keep hk (by omega),ho⟩
 ·rintro ρ ⟨o,ov,fl,u7,u8,u9,rfl,hst,_⟩
  rw[List.length_map] at hst
  exact q o hst
def dY (sz sh b:Int)(xs ys:List Int):List Int:=List.zipWith (fun x y=>(sz*x - sh*y) / b) xs ys
def o6:aR:=fun ds R=>∃ (xs ys:List Int) (sh sz b:Int),ds=[.tup (xs.map D.int),.tup (ys.map D.int),.int sh,.int sz,.int b]∧xs.length≤1000∧(∀ x∈xs,aW x)∧(∀ y∈ys,aW y)∧aW sh∧aW sz∧0<b∧b<2 ^ 9000∧R (.tup ((dY sz sh b xs ys).map D.int))
theorem B1 {n:Nat}{f:Addr}{fd:FuncData}(F:Fun K "moved" "moved" jw f fd)(aG:mg "tuple"=none)(cy:mg "zip"=none):FnOk P w K mg base aS (n+1) f fd ["numbers","way","shift","size","bottom"] (aZ K o6):=by
 refine F.okD zW (fun ds R h=>?_) (fun cdv A outer s H E ds R hr h=>?_)
 ·obtain⟨xs,ys,sh,sz,b,rfl,_⟩:=h;rfl
 obtain⟨xs,ys,sh,sz,b,rfl,hl,hx,hy,h1,h2,b0,b1,q⟩:=h
 refine⟨_,(az (aH (bF bG rfl aG PyProof.Rows.boot_tuple (aI (PD.q (PF.d (bH (k:=2) (N':=["number","step","bottom","size","shift"]) (cap:=[none,none,some 4,some 3,some 2]) rfl (.ok (show bu ["numbers","way","shift","size","bottom"] (ay jw) _ ["number","step","bottom","size","shift"] [none,none,some 4,some 3,some 2]=true by decide +kernel)) (by decide +kernel) (fo (n:=2) (cY (bf (by decide)) (cY (bf (by decide)) fi))) (fN rfl cy (aa (dv 0) (aa (dv 1) ag ab) ab)) (fun _ _ _ _ _=>(cg (n:=2) rfl (bh (aD (i:=0) (show List.Nodup (["number","step","bottom","size","shift"]:List Str) by decide +kernel) rfl (Or.inl rfl)) (bh (aD (i:=1) (show List.Nodup (["number","step","bottom","size","shift"]:List Str) by decide +kernel) rfl (Or.inl rfl)) bZ)))) (fun _ _ _ _ _=>(ah eQ (PD.q (ah cG (PD.q (ah aQ (ae 3) (ae 0))) (PD.q (ah aQ (ae 4) (ae 1))))) (ae 2)))))) aM aV) aV ak))),?_⟩
 refine⟨_,_,rfl,rfl,?_⟩
 refine fD (fun x y=>D.int ((sz*x - sh*y) / b)) (bc hl) (fun x hx' y hy'=>⟨rfl,cF h2 (hx x hx'),cF h1 (hy y hy'),CDivB.of b0 b1,rfl⟩) ?_
 have e:List.zipWith (fun x y=>D.int ((sz*x - sh*y) / b)) xs ys=(dY sz sh b xs ys).map D.int:=by
  unfold dY
  rw[List.map_zipWith]
 rw[e]
 exact q
def bW (sd:Std)(r:ao)(p:Nat):List Int:=if aj r.1 (sd.ways.getD p [])<0 then (sd.ways.getD p []).map (fun x=>-x) else sd.ways.getD p []
def ee (sd:Std)(r:ao)(p:Nat):Int:=if aj r.1 (sd.ways.getD p [])<0 then - aj r.1 (sd.ways.getD p []) else aj r.1 (sd.ways.getD p [])
theorem pU (sd:Std)(r:ao)(p:Nat):ee sd r p=((aj r.1 (sd.ways.getD p [])).natAbs:Int):=by unfold ee;split <;> omega
def cq (r:ao)(sd:Std)(p:Nat)(q:Int):Std where
 held:=(List.range sd.ways.length).map fun o=>if o=p then q else sd.held.getD o 0
 ways:=(List.range sd.ways.length).map fun o=>if o=p then bW sd r p else dY (ee sd r p) (aj r.1 (sd.ways.getD o [])) sd.bot (sd.ways.getD o []) (bW sd r p)
 tops:=dY (ee sd r p) (bQ r sd) sd.bot sd.tops (bW sd r p)
 bot:=ee sd r p
structure ExB (r:ao)(sd:Std)(p:Nat):Prop where
 sb:StB sd
 rl:r.1.length≤1000
 rb:cD r
 hp:p<sd.ways.length
 hh:sd.held.length=sd.ways.length
 wl:∀ w∈sd.ways,w.length≤1000
 tl:sd.tops.length≤1000
 gb:∀ w∈sd.ways,aW (aj r.1 w)
 ob:aW (bQ r sd)
 b0:0<sd.bot
 b1:sd.bot<2 ^ 9000
theorem cA {α:Type}{xs:List α}{i:Nat}{d:α}(h:i<xs.length):xs.getD i d∈xs:=by
 rw[List.getD_eq_getElem?_getD,aX h]
 exact List.getElem_mem h
theorem cS {α:Type}{xs:List α}{i:Nat}{d:α}(h:i<xs.length):xs[i]?=some (xs.getD i d):=by
 rw[List.getD_eq_getElem?_getD,aX h]
 rfl
theorem uX {r:ao}{sd:Std}{p:Nat}(h:ExB r sd p):(∀ x∈bW sd r p,aW x)∧(bW sd r p).length=(sd.ways.getD p []).length:=by
 unfold bW
 split
 ·refine⟨fun x hx=>?_,by rw[List.length_map]⟩
  obtain⟨y,hy,rfl⟩:=List.mem_map.mp hx
  show (-y).natAbs<_
  rw[Int.natAbs_neg]
  exact h.sb.wb _ (cA h.hp) y hy
 ·exact⟨fun x hx=>h.sb.wb _ (cA h.hp) x hx,rfl⟩
def rT:aR:=fun ds R=>∃ (rs:List ao) (sd:Std) (p:Nat) (q:Int),ds=[.tup (rs.map av),bY sd,.int (p:Int),.int q]∧(0≤q∧q<rs.length)∧ExB (au rs q) sd p∧R (bY (cq (au rs q) sd p q))
theorem wF {n:Nat}{f:Addr}{fd:FuncData}(F:Fun K "exchanged" "exchanged" iE f fd){C_Stand:Addr}(T_Stand:TxtStand K mg C_Stand)(lN:Cl P w K mg base (n+1) "growths" ["stand","entries"] ma)(uA:Cl P w K mg base (n+1) "moved" ["numbers","way","shift","size","bottom"] o6)(jO:Cl P w K mg base (n+1) "over" ["row","stand"] kT){jP:Addr}{jN:FuncData}(oH:FnOk P w K mg base aS n jP jN ["self","held","ways","tops","bottom"] (oi K C_Stand))(oI:Binds K jN ["self","held","ways","tops","bottom"] [])(oK:Mk K C_Stand jP)(eA:mg "abs"=none)(bx:mg "range"=none)(aG:mg "tuple"=none)(bq:mg "len"=none):FnOk P w K mg base aS (n+2) f fd ["rows","stand","place","number"] (aZ K rT):=by
 refine F.okD sc_exchanged (fun ds R h=>?_) (fun cdv A outer s H E ds R hr h=>?_)
 ·obtain⟨rs,sd,p,qn,rfl,_⟩:=h;rfl
 obtain⟨rs,sd,p,qn,rfl,⟨q0,q1⟩,hx,q⟩:=h
 refine⟨_,(ax (aB (i:=4) sc_exchanged.nd rfl (Or.inl rfl) (ar (ae 0) (ae 3) (fun _ _=>rfl)))
   (ax (aB (i:=5) sc_exchanged.nd rfl (Or.inl rfl) (aC lN hr rfl (aa (dv 1) (aa (ar (ae 4) (PD.q af) (fun _ _=>rfl)) ag aw) ab) ab (ai aw ak)))
   (ax (aB (i:=6) sc_exchanged.nd rfl (Or.inl rfl) (bB ij rfl eA PyProof.Rows.boot_abs (aI (PD.q (ar (ae 5) (ae 2) (fun _ _=>rfl))) aM aw) aw ak))
   (ax (aB (i:=7) sc_exchanged.nd rfl (Or.inl rfl) (ar (PD.q (c8 T_Stand.cl T_Stand.n_ways T_Stand.ns (ae 1))) (ae 2) (fun _ _=>rfl)))
   (bz (bj (bg dA (PD.q (ar (ae 5) (ae 2) (fun _ _=>rfl))) (PD.q af) (aO _)) (az (aB (i:=7) sc_exchanged.nd rfl (Or.inl rfl) (bF bG rfl aG PyProof.Rows.boot_tuple (aI (PD.q (PF.d (bH (k:=1) (N':=["step"]) (cap:=[none]) rfl (.ok (show bu ["rows","stand","place","number","row","grown","size","way","ways","other","tops","held"] (ay iE) _ ["step"] [none]=true by decide +kernel)) (by decide +kernel) (bf (by decide)) (bO (dv 7)) (fun _ _ _ _ _=>(aD (i:=0) (show List.Nodup (["step"]:List Str) by decide +kernel) rfl (Or.inl rfl))) (fun _ _ _ _ _=>(dS (ae 0)))))) aM aV) aV ak))) bt)
   (ax (gA (i:=8) sc_exchanged.nd rfl (Or.inl rfl) (bC ag))
   (ax (eK PassesOwn.never rfl (dm rfl bx (aa (bB cc rfl bq PySem.boot_len (aI (ae 5) aM ab) ab ak) ag aE)) (aD (i:=9) sc_exchanged.nd rfl (Or.inl rfl)) (az (bj (bg (bI hr.units) (ae 9) (ae 2) (aO _)) (az (fc 8 (dv 7) (fb ab) ab)) (az (fc 8 (aC uA hr rfl (aa (ar (PD.q (c8 T_Stand.cl T_Stand.n_ways T_Stand.ns (ae 1))) (ae 9) (fun _ _=>rfl)) (aa (dv 7) (aa (ar (ae 5) (ae 9) (fun _ _=>rfl)) (aa (dv 6) (aa (c8 T_Stand.cl T_Stand.n_bottom T_Stand.ns (ae 1)) ag da) ab) aw) ab) aw) aw (ai ab (ai aw (ai ab (ai da ak))))) (fb aE) aE)))))
   (ax (aB (i:=10) sc_exchanged.nd rfl (Or.inl rfl) (aC uA hr rfl (aa (c8 T_Stand.cl T_Stand.n_tops T_Stand.ns (ae 1)) (aa (dv 7) (aa (aC jO hr rfl (aa (dv 4) (aa (dv 1) ag ab) ab) ab (ai ab ak)) (aa (dv 6) (aa (c8 T_Stand.cl T_Stand.n_bottom T_Stand.ns (ae 1)) ag da) ab) aE) ab) da) da (ai ab (ai aE (ai ab (ai da ak))))))
   (ax (gy (i:=11) (k:=1) (N':=["other","number","place","stand"]) (cap:=[none,some 3,some 2,some 1]) rfl sc_exchanged.nd rfl (Or.inl rfl) (.ok (show bu ["rows","stand","place","number","row","grown","size","way","ways","other","tops","held"] (ay iE) _ ["other","number","place","stand"] [none,some 3,some 2,some 1]=true by decide +kernel)) (by decide +kernel) (bf (by decide)) (dm rfl bx (aa (bB cc rfl bq PySem.boot_len (aI (ae 5) aM ab) ab ak) ag aE)) (fun _ _ _ _ _=>(aD (i:=0) (show List.Nodup (["other","number","place","stand"]:List Str) by decide +kernel) rfl (Or.inl rfl))) (fun _ _ _ _ _=>(sR (bg (bI hr.units) (ae 0) (ae 2) (aO _)) (dv 1) (ar (PD.q (c8 T_Stand.cl T_Stand.n_held T_Stand.ns (ae 3))) (ae 0) (fun _ _=>rfl)))))
   (az (aH (qw T_Stand.ns oK oH hr rfl T_Stand.mgC oI mO (aa (bF bG rfl aG PyProof.Rows.boot_tuple (aI (ae 11) aM ab) ab ak) (aa (bF bG rfl aG PyProof.Rows.boot_tuple (aI (ae 8) aM ab) ab ak) (aa (dv 10) (aa (dv 6) ag ab) ab) aE) aE) aE (ai aE (ai ab (ai ab ak))))))))))))))),?_⟩
 have hwp:=cA (d:=[]) hx.hp
 have hgl:(((sd.ways.map fun w=>aj (au rs qn).1 w).map D.int).length:Int)=(sd.ways.length:Int):=by rw[List.length_map,List.length_map]
 have gat:∀ (o:Nat) (k:Int),o<sd.ways.length→k=(o:Int)→bJ ((sd.ways.map fun w=>aj (au rs qn).1 w).map D.int) k=some (.int (aj (au rs qn).1 (sd.ways.getD o []))):=fun o k ho e=>bD (i:=o) (by rw[List.getElem?_map,cS (d:=[]) ho];rfl) e
 have wat:∀ (o:Nat) (k:Int),o<sd.ways.length→k=(o:Int)→bJ (sd.ways.map wD) k=some (wD (sd.ways.getD o [])):=fun o k ho e=>bD (i:=o) (cS ho) e
 have hat:∀ (o:Nat) (k:Int),o<sd.ways.length→k=(o:Int)→bJ (sd.held.map D.int) k=some (.int (sd.held.getD o 0)):=fun o k ho e=>bD (i:=o) (cS (by rw[hx.hh];exact ho)) e
 obtain⟨wb,wl⟩:=uX hx
 have hsz:aW (ee sd (au rs qn) p):=by
  have:=hx.gb _ hwp
  rw[pU]
  show (((aj (au rs qn).1 (sd.ways.getD p [])).natAbs:Int)).natAbs<_
  rw[Int.natAbs_natCast]
  exact this
 refine⟨_,fW q0 q1,_,rfl,sd,(au rs qn).1,rfl,hx.sb,hx.rl,hx.rb.1,?_⟩
 refine⟨_,gat p _ hx.hp rfl,rfl,_,i8 sd,_,wat p _ hx.hp rfl,?_⟩
 refine⟨fun ρ=>ρ=[some (.v (.tup (rs.map av))),some (.v (bY sd)),some (.v (.int p)),some (.v (.int qn)),some (.v (av (au rs qn))),some (.v (.tup ((sd.ways.map fun w=>aj (au rs qn).1 w).map D.int))),some (.v (.int (ee sd (au rs qn) p))),some (.v (wD (bW sd (au rs qn) p))),none,none,none,none],?_,?_⟩
 ·refine⟨_,gat p _ hx.hp rfl,fun h=>?_,fun h=>?_⟩
  ·refine du (f:=D.int) (fun x=>-x) (bc (hx.wl _ hwp)) (fun x _=>rfl) ?_
   have e:bW sd (au rs qn) p=(sd.ways.getD p []).map fun x=>-x:=by unfold bW;rw[if_pos (dP h)]
   rw[e]
   rfl
  ·have e:bW sd (au rs qn) p=sd.ways.getD p []:=by unfold bW;rw[if_neg (of_decide_eq_false h)]
   rw[e]
   rfl
 rintro ρ rfl
 have hwl:=hx.sb.wl
 refine⟨⟨by omega,by omega⟩,fun i ρ=>∃ u9:Option Sl,ρ=[some (.v (.tup (rs.map av))),some (.v (bY sd)),some (.v (.int p)),some (.v (.int qn)),some (.v (av (au rs qn))),some (.v (.tup ((sd.ways.map fun w=>aj (au rs qn).1 w).map D.int))),some (.v (.int (ee sd (au rs qn) p))),some (.v (wD (bW sd (au rs qn) p))),some (.own (((cq (au rs qn) sd p qn).ways.take i).map wD)),u9,none,none],⟨_,rfl⟩,?_,?_⟩
 ·rintro i d ρ hd ⟨u9,rfl⟩
  obtain⟨hi,rfl⟩:=dZ hd
  have hi':i<sd.ways.length:=by omega
  have hel:(cq (au rs qn) sd p qn).ways.length=sd.ways.length:=by show ((List.range _).map _).length=_;rw[List.length_map,List.length_range]
  have hei:(cq (au rs qn) sd p qn).ways[i]?=some (if i=p then bW sd (au rs qn) p else dY (ee sd (au rs qn) p) (aj (au rs qn).1 (sd.ways.getD i [])) sd.bot (sd.ways.getD i []) (bW sd (au rs qn) p)):=by
   show ((List.range _).map _)[i]?=_
   rw[List.getElem?_map,List.getElem?_range hi']
   rfl
  have hsn:∀ w,(cq (au rs qn) sd p qn).ways[i]?=some w→(((cq (au rs qn) sd p qn).ways.take i).map wD)++[wD w]=((cq (au rs qn) sd p qn).ways.take (i+1)).map wD:=fun w hw=>by
   rw[cN,List.take_succ,hw]
   rfl
  have hlt:(((cq (au rs qn) sd p qn).ways.take i).map wD).length<sizeLine:=by rw[List.length_map,List.length_take];exact bc (by omega)
  by_cases c:i=p
  ·subst c
   rw[if_pos rfl] at hei
   refine⟨fun _=>⟨hlt,_,hsn _ hei,_,rfl⟩,fun h=>?_⟩
   have:((0+(i:Int)) == (i:Int))=false:=h
   rw[Int.zero_add] at this
   simp at this
  ·rw[if_neg c] at hei
   refine⟨fun h=>?_,fun _=>?_⟩
   ·have:((0+(i:Int)) == (p:Int))=true:=h
    have:=eq_of_beq this
    omega
   ·refine⟨rfl,_,i8 sd,_,wat i _ hi' (by omega),_,gat i _ hi' (by omega),rfl,_,gM sd,sd.ways.getD i [],bW sd (au rs qn) p,_,_,_,rfl,hx.wl _ (cA hi'),hx.sb.wb _ (cA hi'),wb,hx.gb _ (cA hi'),hsz,hx.b0,hx.b1,hlt,_,hsn _ hei,_,rfl⟩
 rintro ρ ⟨u9,rfl⟩
 have hel:(cq (au rs qn) sd p qn).ways.length=sd.ways.length:=by show ((List.range _).map _).length=_;rw[List.length_map,List.length_range]
 refine⟨rfl,_,km sd,au rs qn,sd,rfl,hx.sb,hx.rl,hx.rb,rfl,_,gM sd,sd.tops,bW sd (au rs qn) p,_,_,_,rfl,hx.tl,hx.sb.tb,wb,hx.ob,hsz,hx.b0,hx.b1,⟨by omega,by omega⟩,?_⟩
 refine iS (fun o=>D.int (if o=p then qn else sd.held.getD o 0)) (bc (by omega)) (fun i hi=>?_) ?_
 ·have hi':i<sd.ways.length:=by omega
  by_cases c:i=p
  ·subst c
   refine⟨fun _=>by rw[if_pos rfl];rfl,fun h=>?_⟩
   have:((0+(i:Int)) == (i:Int))=false:=h
   rw[Int.zero_add] at this
   simp at this
  ·refine⟨fun h=>?_,fun _=>⟨rfl,_,ju sd,_,hat i _ hi' (by omega),by rw[if_neg c]⟩⟩
   have:((0+(i:Int)) == (p:Int))=true:=h
   have:=eq_of_beq this
   omega
 refine⟨rfl,?_⟩
 have e0:((((sd.ways.map fun w=>aj (au rs qn).1 w).map D.int).length:Int)).toNat=sd.ways.length:=by omega
 have e1:(cq (au rs qn) sd p qn).ways.take sd.ways.length=(cq (au rs qn) sd p qn).ways:=List.take_of_length_le (by omega)
 have e2:(List.range sd.ways.length).map (fun o=>D.int (if o=p then qn else sd.held.getD o 0))=(cq (au rs qn) sd p qn).held.map D.int:=by
  show _=((List.range _).map _).map _
  rw[List.map_map]
  rfl
 show R (.obj "Stand" [("held",.tup _),("ways",.tup _),("tops",.tup _),("bottom",.int _)])
 rw[cw,e0,e1,e2]
 exact q
def og:aR:=fun ds R=>∃ a b:Int,ds=[.int a,.int b]∧R (.int (Int.gcd a b))
theorem xZ {n:Nat}{f:Addr}{fd:FuncData}(F:Fun K "common_of_two" "common_of_two" k7 f fd)(eA:mg "abs"=none):FnOk P w K mg base aS (n+1) f fd ["one","other"] (aZ K og):=by
 refine F.okD sc_common_of_two (fun ds R h=>?_) (fun cdv A outer s H E ds R hr h=>?_)
 ·obtain⟨a,b,rfl,_⟩:=h;rfl
 obtain⟨a,b,rfl,q⟩:=h
 refine⟨_,(ax (aB (i:=2) sc_common_of_two.nd rfl (Or.inl rfl) (bB ij rfl eA PyProof.Rows.boot_abs (aI (ae 0) aM ab) ab ak))
   (ax (aB (i:=3) sc_common_of_two.nd rfl (Or.inl rfl) (bB ij rfl eA PyProof.Rows.boot_abs (aI (ae 1) aM ab) ab ak))
   (ax (tH PassesOwn.never (bg (jb hr.units) (ae 3) (PD.q af) (aO _)) (ax (aB (i:=4) sc_common_of_two.nd rfl (Or.inl rfl) (ah dD (ae 2) (ae 3)))
   (ax (aB (i:=2) sc_common_of_two.nd rfl (Or.inl rfl) (dv 3))
   (az (aB (i:=3) sc_common_of_two.nd rfl (Or.inl rfl) (dv 4))))))
   (az (aH (dv 2)))))),?_⟩
 refine⟨fun m ρ=>∃ (g l:Int) (u4:Option Sl),ρ=[some (.v (.int a)),some (.v (.int b)),some (.v (.int g)),some (.v (.int l)),u4]∧m=l.toNat∧0≤g∧0≤l∧Int.gcd g l=Int.gcd a b,⟨_,_,_,_,rfl,rfl,by split <;> omega,by split <;> omega,?_⟩,?_⟩
 ·have h1:∀ x:Int,(if x<0 then -x else x)=(x.natAbs:Int):=fun x=>by split <;> omega
  rw[h1,h1]
  unfold Int.gcd
  simp
 rintro m ρ ⟨g,l,u4,rfl,rfl,hg,hl,e⟩
 refine⟨fun h=>?_,fun h=>?_⟩
 ·have hne:l≠0:=fun e0=>by rw[e0] at h;cases h
  have hl':0<l:=by omega
  have h1:=Int.emod_lt_of_pos g hl'
  have h2:=Int.emod_nonneg g (b:=l) (by omega)
  exact⟨hl',(g % l).toNat,by omega,l,g % l,_,rfl,rfl,hl,h2,(wm hg hl').trans e⟩
 ·have h0:l=0:=by
   have:(!(l == 0))=false:=h
   simp at this
   exact this
  subst h0
  have e2:g=(Int.gcd a b:Int):=by
   rw[← e]
   simp
   omega
  rw[e2]
  exact q
def lP:aR:=fun ds R=>∃ ns:List Int,ds=[.tup (ns.map D.int)]∧R (.int (bA ns))
theorem vj {n:Nat}{f:Addr}{fd:FuncData}(F:Fun K "common" "common" kS f fd)(oE:Cl P w K mg base n "common_of_two" ["one","other"] og):FnOk P w K mg base aS (n+1) f fd ["numbers"] (aZ K lP):=by
 refine F.okD sc_common (fun ds R h=>?_) (fun cdv A outer s H E ds R hr h=>?_)
 ·obtain⟨ns,rfl,_⟩:=h;rfl
 obtain⟨ns,rfl,q⟩:=h
 refine⟨_,(ax (aB (i:=1) sc_common.nd rfl (Or.inl rfl) af)
   (ax (eK PassesOwn.never rfl (bO (dv 0)) (aD (i:=2) sc_common.nd rfl (Or.inl rfl)) (az (aB (i:=1) sc_common.nd rfl (Or.inl rfl) (aC oE hr rfl (aa (dv 2) (aa (dv 1) ag ab) ab) ab (ai ab ak)))))
   (az (aH (dv 1))))),?_⟩
 refine⟨fun i ρ=>∃ u2:Option Sl,ρ=[some (.v (.tup (ns.map D.int))),some (.v (.int (bA (ns.take i)))),u2],⟨_,rfl⟩,?_,?_⟩
 ·rintro i d ρ hd ⟨u2,rfl⟩
  obtain⟨k,rfl,hk⟩:=fv hd
  refine⟨_,_,rfl,some (.v (.int k)),?_⟩
  rw[i5 hk,pF]
  rfl
 ·rintro ρ ⟨u2,rfl⟩
  rw[List.length_map,List.take_length]
  exact q
def bE (ts:List Int)(b:Int):Int:=Int.gcd (bA ts) b
def j9:aR:=fun ds R=>∃ (ts:List Int) (b:Int),ds=[.tup (ts.map D.int),.int b]∧0<b∧b<2 ^ 9000∧ts.length≤1000∧R (.tup [.tup ((ts.map (· / bE ts b)).map D.int),.int (b / bE ts b)])
theorem vp {n:Nat}{f:Addr}{fd:FuncData}(F:Fun K "lowest" "lowest" jJ f fd)(oE:Cl P w K mg base n "common_of_two" ["one","other"] og)(oM:Cl P w K mg base n "common" ["numbers"] lP)(aG:mg "tuple"=none):FnOk P w K mg base aS (n+1) f fd ["tops","bottom"] (aZ K j9):=by
 refine F.okD sc_lowest (fun ds R h=>?_) (fun cdv A outer s H E ds R hr h=>?_)
 ·obtain⟨ts,b,rfl,_⟩:=h;rfl
 obtain⟨ts,b,rfl,b0,b1,hl,q⟩:=h
 refine⟨_,(bz (bj (bg dA (ae 1) (PD.q af) (aO _)) (az BZ) bt)
   (ax (aB (i:=2) sc_lowest.nd rfl (Or.inr rfl) (aC oE hr rfl (aa (aC oM hr rfl (aa (dv 0) ag ab) ab ak) (aa (dv 1) ag ab) aE) aE (ai ab ak)))
   (az (aH (aU (aa (bF bG rfl aG PyProof.Rows.boot_tuple (aI (PD.q (PF.d (bH (k:=1) (N':=["top","divisor"]) (cap:=[none,some 2]) rfl (.ok (show bu ["tops","bottom","divisor"] (ay jJ) _ ["top","divisor"] [none,some 2]=true by decide +kernel)) (by decide +kernel) (bf (by decide)) (bO (dv 0)) (fun _ _ _ _ _=>(aD (i:=0) (show List.Nodup (["top","divisor"]:List Str) by decide +kernel) rfl (Or.inl rfl))) (fun _ _ _ _ _=>(ah eQ (ae 0) (ae 1)))))) aM aV) aV ak) (aa (ah eQ (ae 1) (ae 2)) ag aP) aE)))))),?_⟩
 have hd0:0<bE ts b:=by
  unfold bE
  have:=Int.gcd_pos_of_ne_zero_right (bA ts) (show b≠0 by omega)
  omega
 have hd1:bE ts b<2 ^ 9000:=by
  have:bE ts b≤b:=by
   unfold bE
   exact Int.le_of_dvd b0 (Int.gcd_dvd_right ..)
  omega
 refine⟨fun ρ=>ρ=[some (.v (.tup (ts.map D.int))),some (.v (.int b)),none],⟨fun h=>?_,fun _=>rfl⟩,?_⟩
 ·have:=dP h
  omega
 rintro ρ rfl
 refine⟨ts,rfl,bA ts,b,rfl,?_⟩
 refine du (f:=D.int) (fun x=>x / bE ts b) (bc hl) (fun x _=>⟨CDivB.of hd0 hd1,rfl⟩) ?_
 exact⟨CDivB.of hd0 hd1,q⟩
def ny (c:Nat→Bool)(h:Nat→D)(i:Nat):Option D→Prop
 | some y=>y=h i∧c i=true
 | none=>c i=false
theorem pM {c:Nat→Bool}{h:Nat→D}{n:Nat}{ys:List (Option D)}(hyl:ys.length=n)(hy:∀ i y,ys[i]?=some y→ny c h i y):ys.filterMap id=((List.range n).filter c).map h:=by
 have e:ys=(List.range n).map fun i=>if c i then some (h i) else none:=by
  refine List.ext_getElem? fun i=>?_
  rw[List.getElem?_map]
  by_cases hi:i<n
  ·rw[List.getElem?_range hi,aX (show i<ys.length by omega)]
   have q:=hy i _ (aX (show i<ys.length by omega))
   cases e:ys[i]'(by omega) with
   | none =>
    rw[e] at q
    have q':c i=false:=q
    show some none=some (if c i=true then _ else _)
    rw[q']
    rfl
   | some y =>
    rw[e] at q
    have q':y=h i∧c i=true:=q
    show some (some y)=some (if c i=true then _ else _)
    rw[q'.2,q'.1]
    rfl
  ·rw[List.getElem?_eq_none (by omega),List.getElem?_eq_none (by rw[List.length_range];omega)]
   rfl
 have key:∀ l:List Nat,(l.map fun i=>if c i then some (h i) else none).filterMap id=(l.filter c).map h:=by
  intro l
  induction l with
  | nil=>rfl
  | cons x l ih =>
   rw[List.map_cons]
   cases e:c x with
   | true=>rw[if_pos rfl,List.filterMap_cons_some (f:=id) (a:=some (h x)) (b:=h x) rfl,List.filter_cons_of_pos e,List.map_cons,ih]
   | false=>rw[if_neg (by decide),List.filterMap_cons_none (f:=id) (a:=none) rfl,List.filter_cons_of_neg (by rw[e];decide),ih]
 rw[e,key]
def de (sd:Std)(gs:List Int):List (Int × Int):=((List.range gs.length).filter fun i=>decide (gs.getD i 0<0)).map fun i=>(sd.held.getD i 0,- gs.getD i 0)
def nO:aR:=fun ds R=>∃ (sd:Std) (gs:List Int),ds=[bY sd,.tup (gs.map D.int)]∧gs.length≤1000∧sd.held.length=gs.length∧R (.lst ((de sd gs).map aN))
theorem CM {n:Nat}{f:Addr}{fd:FuncData}(F:Fun K "fallen" "fallen" jv f fd){C_Stand:Addr}(T_Stand:TxtStand K mg C_Stand)(bx:mg "range"=none)(bq:mg "len"=none):FnOk P w K mg base aS (n+1) f fd ["stand","grown"] (aZ K nO):=by
 refine F.okD xf (fun ds R h=>?_) (fun cdv A outer s H E ds R hr h=>?_)
 ·obtain⟨sd,gs,rfl,_⟩:=h;rfl
 obtain⟨sd,gs,rfl,hl,hh,q⟩:=h
 refine⟨_,(az (aH (PF.d (Ap (k:=1) (N':=["place","stand","grown"]) (cap:=[none,some 0,some 1]) rfl (.ok (show bu ["stand","grown"] (ay jv) _ ["place","stand","grown"] [none,some 0,some 1]=true by decide +kernel)) (by decide +kernel) (bf (by decide)) (dm rfl bx (aa (bB cc rfl bq PySem.boot_len (aI (ae 1) aM ab) ab ak) ag aE)) (fun _ _ _ _ _=>(aD (i:=0) (show List.Nodup (["place","stand","grown"]:List Str) by decide +kernel) rfl (Or.inl rfl))) (fun _ _ _ _ _=>(tF (bg dA (PD.q (ar (ae 2) (ae 0) (fun _ _=>rfl))) (PD.q af) (aO _)))) (fun _ _ _ _ _=>(aU (aa (ar (PD.q (c8 T_Stand.cl T_Stand.n_held T_Stand.ns (ae 1))) (ae 0) (fun _ _=>rfl)) (aa (dS (PD.q (ar (ae 2) (ae 0) (fun _ _=>rfl)))) ag iC) aw))))))),?_⟩
 have gat:∀ (o:Nat) (k:Int),o<gs.length→k=(o:Int)→bJ (gs.map D.int) k=some (.int (gs.getD o 0)):=fun o k ho e=>bD (i:=o) (cS ho) e
 have hat:∀ (o:Nat) (k:Int),o<gs.length→k=(o:Int)→bJ (sd.held.map D.int) k=some (.int (sd.held.getD o 0)):=fun o k ho e=>bD (i:=o) (cS (by rw[hh];exact ho)) e
 have hgl:(((gs.map D.int).length:Nat):Int)=(gs.length:Int):=by rw[List.length_map]
 refine⟨⟨by omega,by omega⟩,?_⟩
 refine⟨by rw[cw];exact bc (by omega),ny (fun i=>decide (gs.getD i 0<0)) (fun i=>aN (sd.held.getD i 0,- gs.getD i 0)),fun i d hd=>?_,fun ys hyl hy=>?_⟩
 ·obtain⟨hi,rfl⟩:=dZ hd
  have hi':i<gs.length:=by omega
  refine⟨_,gat i _ hi' (by omega),fun h=>?_,fun h=>h⟩
  exact⟨rfl,_,ju sd,_,hat i _ hi' (by omega),_,gat i _ hi' (by omega),rfl,h⟩
 ·rw[cw] at hyl
  have e0:(((gs.map D.int).length:Int)).toNat=gs.length:=by omega
  rw[pM hyl hy,e0]
  have e1:(de sd gs).map aN=((List.range gs.length).filter fun i=>decide (gs.getD i 0<0)).map fun i=>aN (sd.held.getD i 0,- gs.getD i 0):=by
   unfold de
   rw[List.map_map]
   rfl
  rw[e1] at q
  exact q
def oa:aR:=fun ds R=>∃ (ps:List (Int × Int)) (b:Int),ds=[.lst (ps.map aN),.int b]∧0<b∧b<2 ^ 9000∧ps.length≤1000∧R (.tup [.lst ((ps.map fun p=>(p.1,p.2 / bE (ps.map (·.2)) b)).map aN),.int (b / bE (ps.map (·.2)) b)])
theorem Ds {n:Nat}{f:Addr}{fd:FuncData}(F:Fun K "in_lowest" "in_lowest" iq f fd)(jQ:Cl P w K mg base n "lowest" ["tops","bottom"] j9)(aG:mg "tuple"=none)(cy:mg "zip"=none):FnOk P w K mg base aS (n+1) f fd ["pairs","bottom"] (aZ K oa):=by
 refine F.okD sc_in_lowest (fun ds R h=>?_) (fun cdv A outer s H E ds R hr h=>?_)
 ·obtain⟨ps,b,rfl,_⟩:=h;rfl
 obtain⟨ps,b,rfl,b0,b1,hl,q⟩:=h
 refine⟨_,(ax (aB (i:=2) sc_in_lowest.nd rfl (Or.inl rfl) (aC jQ hr rfl (aa (bF bG rfl aG PyProof.Rows.boot_tuple (aI (PD.q (PF.d (bH (k:=1) (N':=["pair"]) (cap:=[none]) rfl (.ok (show bu ["pairs","bottom","reduced"] (ay iq) _ ["pair"] [none]=true by decide +kernel)) (by decide +kernel) (bf (by decide)) (bO (dv 0)) (fun _ _ _ _ _=>(aD (i:=0) (show List.Nodup (["pair"]:List Str) by decide +kernel) rfl (Or.inl rfl))) (fun _ _ _ _ _=>(ar (ae 0) (PD.q af) (fun _ _=>rfl)))))) aM aV) aV ak) (aa (dv 1) ag ab) aE) aE (ai ab ak)))
   (az (aH (aU (aa (PF.d (bH (k:=2) (N':=["pair","weight"]) (cap:=[none,none]) rfl (.ok (show bu ["pairs","bottom","reduced"] (ay iq) _ ["pair","weight"] [none,none]=true by decide +kernel)) (by decide +kernel) (fo (n:=2) (cY (bf (by decide)) (cY (bf (by decide)) fi))) (fN rfl cy (aa (dv 0) (aa (ar (ae 2) (PD.q af) (fun _ _=>rfl)) ag aw) ab)) (fun _ _ _ _ _=>(cg (n:=2) rfl (bh (aD (i:=0) (show List.Nodup (["pair","weight"]:List Str) by decide +kernel) rfl (Or.inl rfl)) (bh (aD (i:=1) (show List.Nodup (["pair","weight"]:List Str) by decide +kernel) rfl (Or.inl rfl)) bZ)))) (fun _ _ _ _ _=>(aU (aa (ar (ae 0) (PD.q af) (fun _ _=>rfl)) (aa (dv 1) ag ab) aw))))) (aa (ar (ae 2) (PD.q af) (fun _ _=>rfl)) ag aw) aV))))),?_⟩
 refine du (f:=aN) (fun p=>p.2) (bc hl) (fun p _=>⟨_,rfl,rfl⟩) ?_
 refine⟨ps.map (fun p=>p.2),b,rfl,b0,b1,by rw[List.length_map];exact hl,?_⟩
 refine⟨_,rfl,_,_,rfl,rfl,?_⟩
 refine fD (f:=aN) (h:=D.int) (fun p w=>aN (p.1,w)) (bc hl) (fun p _ w _=>⟨rfl,_,rfl,rfl⟩) ?_
 have e:List.zipWith (fun (p:Int × Int) (w:Int)=>aN (p.1,w)) ps ((ps.map (fun p=>p.2)).map (· / bE (ps.map (fun p=>p.2)) b))=(ps.map fun p=>(p.1,p.2 / bE (ps.map (·.2)) b)).map aN:=by
  generalize bE (ps.map (fun p=>p.2)) b=d
  have key:∀ l:List (Int × Int),List.zipWith (fun (p:Int × Int) (w:Int)=>aN (p.1,w)) l ((l.map (fun p=>p.2)).map (· / d))=(l.map fun p=>(p.1,p.2 / d)).map aN:=by
   intro l
   induction l with
   | nil=>rfl
   | cons p t ih =>
    rw[List.map_cons,List.map_cons,List.zipWith_cons_cons,List.map_cons,List.map_cons,ih]
  exact key ps
 rw[e]
 exact⟨_,rfl,q⟩
def dn (n k:Nat):List Int:=(List.range n).map fun o=>if o=k then 1 else 0
def pA:aR:=fun ds R=>∃ n k:Nat,ds=[.int (n:Int),.int (k:Int)]∧n≤1000∧R (wD (dn n k))
theorem uC {n:Nat}{f:Addr}{fd:FuncData}(F:Fun K "unit" "unit" jd f fd)(aG:mg "tuple"=none)(bx:mg "range"=none):FnOk P w K mg base aS (n+1) f fd ["n","place"] (aZ K pA):=by
 refine F.okD xi (fun ds R h=>?_) (fun cdv A outer s H E ds R hr h=>?_)
 ·obtain⟨m,k,rfl,_⟩:=h;rfl
 obtain⟨m,k,rfl,hm,q⟩:=h
 refine⟨_,(az (aH (bF bG rfl aG PyProof.Rows.boot_tuple (aI (PD.q (PF.d (bH (k:=1) (N':=["other","place"]) (cap:=[none,some 1]) rfl (.ok (show bu ["n","place"] (ay jd) _ ["other","place"] [none,some 1]=true by decide +kernel)) (by decide +kernel) (bf (by decide)) (dm rfl bx (aa (dv 0) ag ab)) (fun _ _ _ _ _=>(aD (i:=0) (show List.Nodup (["other","place"]:List Str) by decide +kernel) rfl (Or.inl rfl))) (fun _ _ _ _ _=>(sR (bg (bI hr.units) (ae 0) (ae 1) (aO _)) af af))))) aM aV) aV ak))),?_⟩
 refine⟨⟨by omega,by omega⟩,?_⟩
 refine iS (fun o=>D.int (if o=k then 1 else 0)) (bc (by omega)) (fun i hi=>?_) ?_
 ·by_cases c:i=k
  ·subst c
   refine⟨fun _=>by rw[if_pos rfl];rfl,fun h=>?_⟩
   have:((0+(i:Int)) == (i:Int))=false:=h
   rw[Int.zero_add] at this
   simp at this
  ·refine⟨fun h=>?_,fun _=>by rw[if_neg c];rfl⟩
   have:((0+(i:Int)) == (k:Int))=true:=h
   have:=eq_of_beq this
   omega
 have e:(List.range ((m:Int)).toNat).map (fun o=>D.int (if o=k then 1 else 0))=(dn m k).map D.int:=by
  unfold dn
  rw[List.map_map,Int.toNat_natCast]
  rfl
 rw[e]
 exact q
def gU (rs:List ao)(n:Nat):Std where
 held:=(List.range n).map fun (i:Nat)=>(i:Int)
 ways:=(List.range n).map fun k=>dn n k
 tops:=(List.range n).map fun (k:Nat)=>(au rs (k:Int)).2
 bot:=1
def qz:aR:=fun ds R=>∃ (rs:List ao) (n:Nat),ds=[.tup (rs.map av),.int (n:Int)]∧n≤1000∧n≤rs.length∧R (bY (gU rs n))
theorem xn {n:Nat}{f:Addr}{fd:FuncData}(F:Fun K "beginning" "beginning" iF f fd){C_Stand:Addr}(T_Stand:TxtStand K mg C_Stand)(D3:Cl P w K mg base (n+1) "unit" ["n","place"] pA){jP:Addr}{jN:FuncData}(oH:FnOk P w K mg base aS n jP jN ["self","held","ways","tops","bottom"] (oi K C_Stand))(oI:Binds K jN ["self","held","ways","tops","bottom"] [])(oK:Mk K C_Stand jP)(aG:mg "tuple"=none)(bx:mg "range"=none):FnOk P w K mg base aS (n+2) f fd ["rows","n"] (aZ K qz):=by
 refine F.okD sc_beginning (fun ds R h=>?_) (fun cdv A outer s H E ds R hr h=>?_)
 ·obtain⟨rs,m,rfl,_⟩:=h;rfl
 obtain⟨rs,m,rfl,hm,hl,q⟩:=h
 refine⟨_,(ax (aB (i:=2) sc_beginning.nd rfl (Or.inl rfl) (bF bG rfl aG PyProof.Rows.boot_tuple (aI (PD.q (PF.d (bH (k:=1) (N':=["place","n"]) (cap:=[none,some 1]) rfl (.ok (show bu ["rows","n","ways","tops"] (ay iF) _ ["place","n"] [none,some 1]=true by decide +kernel)) (by decide +kernel) (bf (by decide)) (dm rfl bx (aa (dv 1) ag ab)) (fun _ _ _ _ _=>(aD (i:=0) (show List.Nodup (["place","n"]:List Str) by decide +kernel) rfl (Or.inl rfl))) (fun _ _ _ _ _=>(aC D3 hr rfl (aa (dv 1) (aa (dv 0) ag ab) ab) ab (ai ab ak)))))) aM aV) aV ak))
   (ax (aB (i:=3) sc_beginning.nd rfl (Or.inl rfl) (bF bG rfl aG PyProof.Rows.boot_tuple (aI (PD.q (PF.d (bH (k:=1) (N':=["place","rows"]) (cap:=[none,some 0]) rfl (.ok (show bu ["rows","n","ways","tops"] (ay iF) _ ["place","rows"] [none,some 0]=true by decide +kernel)) (by decide +kernel) (bf (by decide)) (dm rfl bx (aa (dv 1) ag ab)) (fun _ _ _ _ _=>(aD (i:=0) (show List.Nodup (["place","rows"]:List Str) by decide +kernel) rfl (Or.inl rfl))) (fun _ _ _ _ _=>(ar (PD.q (ar (ae 1) (ae 0) (fun _ _=>rfl))) (PD.q af) (fun _ _=>rfl)))))) aM aV) aV ak))
   (az (aH (qw T_Stand.ns oK oH hr rfl T_Stand.mgC oI mO (aa (sN rfl rfl aG rfl bx (aa (dv 1) ag ab)) (aa (dv 2) (aa (dv 3) (aa af ag aA) ab) ab) aE) aE (ai ab (ai ab (ai aA ak)))))))),?_⟩
 refine⟨⟨by omega,by omega⟩,?_⟩
 refine iS (fun k=>wD (dn m k)) (bc (by omega)) (fun i hi=>⟨m,i,by rw[Int.zero_add],hm,rfl⟩) ?_
 refine⟨⟨by omega,by omega⟩,?_⟩
 refine iS (fun (k:Nat)=>D.int (au rs (k:Int)).2) (bc (by omega)) (fun i hi=>⟨_,fW (by omega) (by omega),_,rfl,by rw[Int.zero_add]⟩) ?_
 refine⟨⟨by omega,by omega⟩,rfl,?_⟩
 have e0:((m:Int)).toNat=m:=Int.toNat_natCast m
 have e1:(List.range m).map (fun k=>wD (dn m k))=(gU rs m).ways.map wD:=by
  show _=((List.range _).map _).map _
  rw[List.map_map]
  rfl
 have e2:(List.range m).map (fun (k:Nat)=>D.int (au rs (k:Int)).2)=(gU rs m).tops.map D.int:=by
  show _=((List.range _).map _).map _
  rw[List.map_map]
  rfl
 have e3:dM 0 m=(gU rs m).held.map D.int:=by
  show _=((List.range _).map _).map _
  unfold dM
  rw[List.map_map]
  exact List.map_congr_left fun i _=>by show D.int (0+(i:Int))=D.int (i:Int);rw[Int.zero_add]
 show R (.obj "Stand" [("held",.tup _),("ways",.tup _),("tops",.tup _),("bottom",.int 1)])
 rw[e0,e1,e2,e3]
 exact q
def cu (ts:List Int)(b:Int):ao:=(ts.map (· / bE ts b),b / bE ts b)
def qD:aR:=fun ds R=>∃ (sd:Std) (way:List Int),ds=[bY sd,.tup (way.map D.int)]∧sd.tops.length≤1000∧0<sd.bot∧sd.bot<2 ^ 9000∧way.length≤1000∧0<bA way∧bA way<2 ^ 9000∧R (.tup [.str "endless",av (cu sd.tops sd.bot),.tup ((way.map (· / bA way)).map D.int)])
theorem yM {n:Nat}{f:Addr}{fd:FuncData}(F:Fun K "endless_ending" "endless_ending" jF f fd){C_Stand:Addr}(T_Stand:TxtStand K mg C_Stand)(oM:Cl P w K mg base n "common" ["numbers"] lP)(jQ:Cl P w K mg base n "lowest" ["tops","bottom"] j9)(aG:mg "tuple"=none):FnOk P w K mg base aS (n+1) f fd ["stand","way"] (aZ K qD):=by
 refine F.okD sc_endless_ending (fun ds R h=>?_) (fun cdv A outer s H E ds R hr h=>?_)
 ·obtain⟨sd,way,rfl,_⟩:=h;rfl
 obtain⟨sd,way,rfl,tl,b0,b1,wl,g0,g1,q⟩:=h
 refine⟨_,(ax (aB (i:=2) sc_endless_ending.nd rfl (Or.inr rfl) (aC oM hr rfl (aa (dv 1) ag ab) ab ak))
   (az (aH (aU (aa eY (aa (aC jQ hr rfl (aa (c8 T_Stand.cl T_Stand.n_tops T_Stand.ns (ae 0)) (aa (c8 T_Stand.cl T_Stand.n_bottom T_Stand.ns (ae 0)) ag da) da) da (ai da ak)) (aa (bF bG rfl aG PyProof.Rows.boot_tuple (aI (PD.q (PF.d (bH (k:=1) (N':=["step","divisor"]) (cap:=[none,some 2]) rfl (.ok (show bu ["stand","way","divisor"] (ay jF) _ ["step","divisor"] [none,some 2]=true by decide +kernel)) (by decide +kernel) (bf (by decide)) (bO (dv 1)) (fun _ _ _ _ _=>(aD (i:=0) (show List.Nodup (["step","divisor"]:List Str) by decide +kernel) rfl (Or.inl rfl))) (fun _ _ _ _ _=>(ah eQ (ae 0) (ae 1)))))) aM aV) aV ak) ag aE) aE) aA))))),?_⟩
 refine⟨way,rfl,rfl,_,km sd,rfl,_,gM sd,sd.tops,sd.bot,rfl,b0,b1,tl,?_⟩
 refine du (f:=D.int) (fun x=>x / bA way) (bc wl) (fun x _=>⟨CDivB.of g0 g1,rfl⟩) ?_
 exact q
def Cq:Option Nat→D
 | none=>.non
 | some k=>.int (k:Int)
def Lg (sd:Std)(gs:List Int):Option Nat→Prop
 | none=>∀ i,i<gs.length→gs.getD i 0≤0
 | some p=>p<gs.length∧0<gs.getD p 0∧∀ j,j<gs.length→0<gs.getD j 0→sd.held.getD p 0≤sd.held.getD j 0
def r6:aR:=fun ds R=>∃ (sd:Std) (gs:List Int),ds=[bY sd,.tup (gs.map D.int)]∧gs.length≤1000∧sd.held.length=gs.length∧∀ o,Lg sd gs o→R (Cq o)
theorem vF {n:Nat}{f:Addr}{fd:FuncData}(F:Fun K "least_grown" "least_grown" dR f fd){C_Stand:Addr}(T_Stand:TxtStand K mg C_Stand)(iV:mg "min"=none)(bx:mg "range"=none)(bq:mg "len"=none){cL PL:Addr}(L_least_grown:LamT K "least_grown" fd cL PL ⟨96,27,96,58⟩):FnOk P w K mg base aS (n+2) f fd ["stand","grown"] (aZ K r6):=by
 refine F.okDL sc_least_grown (fun ds R h=>?_) (fun cdv A outer s H E ds R hcd hr h=>?_)
 ·obtain⟨sd,gs,rfl,_⟩:=h;rfl
 obtain⟨sd,gs,rfl,hl,hh,q⟩:=h
 refine⟨_,(ax (vQ (i:=2) (k:=1) (N':=["place","grown"]) (cap:=[none,some 1]) rfl sc_least_grown.nd rfl (Or.inl rfl) (.ok (show bu ["stand","grown","places"] (ay dR) _ ["place","grown"] [none,some 1]=true by decide +kernel)) (by decide +kernel) (bf (by decide)) (dm rfl bx (aa (bB cc rfl bq PySem.boot_len (aI (ae 1) aM ab) ab ak) ag aE)) (fun _ _ _ _ _=>(aD (i:=0) (show List.Nodup (["place","grown"]:List Str) by decide +kernel) rfl (Or.inl rfl))) (fun _ _ _ _ _=>(tF (bg gq (PD.q (ar (ae 1) (ae 0) (fun _ _=>rfl))) (PD.q af) (aO _)))) (fun _ _ _ _ _=>(dv 0)))
   (az (aH (zD (p:="place") (r:=["stand"]) (cap:=[some 0]) (hr.mono (by omega)) rfl iV (ae 2) (.ok (show bu ["stand","grown","places"] (ay dR) _ ["place","stand"] [none,some 0]=true by decide +kernel)) (by decide +kernel) rfl rfl rfl rfl (fun _ _ _ _ _ _=>rfl) (hcd.symm.trans L_least_grown.code) L_least_grown.hd L_least_grown.tab (fun _ _ _ _ _ _=>(ar (PD.q (c8 T_Stand.cl T_Stand.n_held T_Stand.ns (ae 1))) (ae 0) (fun _ _=>rfl))) ab)))),?_⟩
 have gat:∀ (o:Nat) (k:Int),o<gs.length→k=(o:Int)→bJ (gs.map D.int) k=some (.int (gs.getD o 0)):=fun o k ho e=>bD (i:=o) (cS ho) e
 have hat:∀ (o:Nat) (k:Int),o<gs.length→k=(o:Int)→bJ (sd.held.map D.int) k=some (.int (sd.held.getD o 0)):=fun o k ho e=>bD (i:=o) (cS (by rw[hh];exact ho)) e
 have hgl:(((gs.map D.int).length:Nat):Int)=(gs.length:Int):=by rw[List.length_map]
 refine⟨⟨by omega,by omega⟩,?_⟩
 refine⟨by rw[cw];exact bc (by omega),ny (fun i=>decide (0<gs.getD i 0)) (fun i=>D.int (i:Int)),fun i d hd=>?_,fun ys hyl hy=>?_⟩
 ·obtain⟨hi,rfl⟩:=dZ hd
  have hi':i<gs.length:=by omega
  refine⟨_,gat i _ hi' (by omega),fun h=>?_,fun h=>h⟩
  exact⟨by rw[Int.zero_add],h⟩
 ·rw[cw] at hyl
  have e0:(((gs.map D.int).length:Int)).toNat=gs.length:=by omega
  rw[pM hyl hy,e0]
  have hin:∀ (i:Nat) (e:D),(((List.range gs.length).filter fun i=>decide (0<gs.getD i 0)).map fun (i:Nat)=>D.int (i:Int))[i]?=some e→∃ k:Nat,e=.int (k:Int)∧((List.range gs.length).filter fun i=>decide (0<gs.getD i 0))[i]?=some k∧k<gs.length∧0<gs.getD k 0:=fun i e he=>by
   obtain⟨k,rfl,hk⟩:=fv he
   have:=List.mem_filter.mp (List.mem_of_getElem? hk)
   exact⟨k,rfl,hk,List.mem_range.mp this.1,of_decide_eq_true this.2⟩
  refine⟨fun i=>sd.held.getD (((List.range gs.length).filter fun i=>decide (0<gs.getD i 0)).getD i 0) 0,fun i e he=>?_,fun hn=>?_,fun i e he hb=>?_⟩
  ·obtain⟨k,rfl,hk,hkl,hkg⟩:=hin i e he
   have e1:((List.range gs.length).filter fun i=>decide (0<gs.getD i 0)).getD i 0=k:=by rw[List.getD_eq_getElem?_getD,hk];rfl
   exact⟨rfl,_,ju sd,_,hat k _ hkl rfl,by show D.int _=D.int (sd.held.getD (List.getD _ i 0) 0);rw[e1]⟩
  ·refine q none fun i hi=>?_
   have hz:=List.map_eq_nil_iff.mp hn
   rcases Int.lt_or_le 0 (gs.getD i 0) with c | c
   ·have:i∈(List.range gs.length).filter fun i=>decide (0<gs.getD i 0):=List.mem_filter.mpr ⟨List.mem_range.mpr hi,decide_eq_true c⟩
    rw[hz] at this
    cases this
   ·exact c
  ·obtain⟨k,rfl,hk,hkl,hkg⟩:=hin i e he
   have e1:((List.range gs.length).filter fun i=>decide (0<gs.getD i 0)).getD i 0=k:=by rw[List.getD_eq_getElem?_getD,hk];rfl
   refine q (some k) ⟨hkl,hkg,fun j hj hjg=>?_⟩
   have hm:j∈(List.range gs.length).filter fun i=>decide (0<gs.getD i 0):=List.mem_filter.mpr ⟨List.mem_range.mpr hj,decide_eq_true hjg⟩
   obtain⟨i',hi'⟩:=List.getElem?_of_mem hm
   have h3:=(hb i' (by rw[List.length_map];exact c9 hi')).1
   have e2:((List.range gs.length).filter fun i=>decide (0<gs.getD i 0)).getD i' 0=j:=by rw[List.getD_eq_getElem?_getD,hi'];rfl
   have h4:sd.held.getD (((List.range gs.length).filter fun i=>decide (0<gs.getD i 0)).getD i 0) 0≤sd.held.getD (((List.range gs.length).filter fun i=>decide (0<gs.getD i 0)).getD i' 0) 0:=h3
   rw[e1,e2] at h4
   exact h4
theorem r8 {ps:List (Int × Int)}(h:(ps.map (·.1)).Nodup):∀ (i j:Nat) (p q:Int × Int),ps[i]?=some p→ps[j]?=some q→p.1=q.1→i=j:=fun i j p q hp hq e=>by
 have e1:(ps.map (·.1))[i]?=some p.1:=by rw[List.getElem?_map,hp];rfl
 have e2:(ps.map (·.1))[j]?=some q.1:=by rw[List.getElem?_map,hq];rfl
 obtain⟨h1,q1⟩:=List.getElem?_eq_some_iff.mp e1
 obtain⟨h2,q2⟩:=List.getElem?_eq_some_iff.mp e2
 exact (List.getElem_inj h).mp (q1.trans (e.trans q2.symm))
def cB (sd:Std)(gs:List Int):Int:=bE ((de sd gs).map (·.2)) sd.bot
def bK (sd:Std)(gs:List Int):List (Int × Int):=(de sd gs).map fun p=>(p.1,p.2 / cB sd gs)
def cU (sd:Std)(gs:List Int):Int:=sd.bot / cB sd gs
theorem tY (sd:Std)(gs:List Int):(bK sd gs).map (·.1)=((List.range gs.length).filter fun i=>decide (gs.getD i 0<0)).map fun i=>sd.held.getD i 0:=by
 unfold bK de
 rw[List.map_map,List.map_map]
 rfl
theorem rL {sd:Std}{gs:List Int}(hh:sd.held.length=gs.length)(hn:sd.held.Nodup):((bK sd gs).map (·.1)).Nodup:=by
 rw[tY]
 have nd:((List.range gs.length).filter fun i=>decide (gs.getD i 0<0)).Nodup:=List.nodup_range.filter _
 refine List.pairwise_map.mpr (List.Pairwise.imp_of_mem (fun {a b} ha hb hab e=>hab ?_) nd)
 have la:=List.mem_range.mp (List.mem_filter.mp ha).1
 have lb:=List.mem_range.mp (List.mem_filter.mp hb).1
 have e1:=cS (xs:=sd.held) (d:=0) (i:=a) (by omega)
 have e2:=cS (xs:=sd.held) (d:=0) (i:=b) (by omega)
 obtain⟨h1,q1⟩:=List.getElem?_eq_some_iff.mp e1
 obtain⟨h2,q2⟩:=List.getElem?_eq_some_iff.mp e2
 exact (List.getElem_inj hn).mp (q1.trans (e.trans q2.symm))
theorem iP (sd:Std)(gs:List Int):(bK sd gs).length≤gs.length:=by
 unfold bK de
 rw[List.length_map,List.length_map]
 have:=List.length_filter_le (fun i=>decide (gs.getD i 0<0)) (List.range gs.length)
 rw[List.length_range] at this
 exact this
theorem uy (sd:Std)(gs:List Int):(de sd gs).length≤gs.length:=by
 have:=iP sd gs
 unfold bK at this
 rw[List.length_map] at this
 exact this
def sC:aR:=fun ds R=>∃ (sd:Std) (q:Int) (gs:List Int),ds=[bY sd,.int q,.tup (gs.map D.int)]∧gs.length≤60∧sd.held.length=gs.length∧0<sd.bot∧sd.bot<2 ^ 9000∧sd.held.Nodup∧q∉sd.held ∧
 ∀ qs:List (Int × Int),qs.Perm (bK sd gs++[(q,cU sd gs)])→qs.Pairwise (fun a b=>a.1<b.1)→R (.tup [.str "none",.tup (qs.map aN)])
theorem Bq {n:Nat}{f:Addr}{fd:FuncData}(F:Fun K "none_ending" "none_ending" lH f fd){C_Stand:Addr}(T_Stand:TxtStand K mg C_Stand)(oN:Cl P w K mg base n "in_lowest" ["pairs","bottom"] oa)(oC:Cl P w K mg base n "fallen" ["stand","grown"] nO)(aG:mg "tuple"=none)(iW:mg "sorted"=none):FnOk P w K mg base aS (n+1) f fd ["stand","number","grown"] (aZ K sC):=by
 refine F.okD sc_none_ending (fun ds R h=>?_) (fun cdv A outer s H E ds R hr h=>?_)
 ·obtain⟨sd,qn,gs,rfl,_⟩:=h;rfl
 obtain⟨sd,qn,gs,rfl,hl,hh,b0,b1,hn,hq,q⟩:=h
 refine⟨_,(ax (aB (i:=3) sc_none_ending.nd rfl (Or.inl rfl) (aC oN hr rfl (aa (aC oC hr rfl (aa (dv 0) (aa (dv 2) ag ab) ab) ab (ai ab ak)) (aa (c8 T_Stand.cl T_Stand.n_bottom T_Stand.ns (ae 0)) ag da) aE) aE (ai da ak)))
   (az (aH (aU (aa eY (aa (bF bG rfl aG PyProof.Rows.boot_tuple (aI (PD.q (bB pP rfl iW PyProof.Rows.boot_sorted (aI (PD.q (ah aF (PD.q (ar (ae 3) (PD.q af) (fun _ _=>rfl))) (PD.q (PF.d (bC (aa (aU (aa (dv 1) (aa (ar (ae 3) (PD.q af) (fun _ _=>rfl)) ag aw) ab)) ag bL)))))) aM aP) aP ak)) aM aE) aE ak) ag aE) aA))))),?_⟩
 have l1:=uy sd gs
 refine⟨sd,gs,rfl,by omega,hh,rfl,_,gM sd,de sd gs,sd.bot,rfl,b0,b1,by omega,?_⟩
 refine⟨_,rfl,_,rfl,?_,_,rfl,?_⟩
 ·rw[List.length_map]
  show (bK sd gs).length+1≤sizeLine
  have:=iP sd gs
  exact Nat.le_of_lt (bc (by omega))
 refine⟨bK sd gs++[(qn,cU sd gs)],by rw[List.map_append];rfl,?_,r8 ?_,fun qs hp hs=>q qs hp hs⟩
 ·rw[List.length_append]
  have:=iP sd gs
  show (bK sd gs).length+1<64
  omega
 ·rw[List.map_append]
  refine List.nodup_append.mpr ⟨rL hh hn,by simp,fun a ha b hb e=>?_⟩
  have hb':b=qn:=by simpa using hb
  rw[e,hb'] at ha
  rw[tY] at ha
  obtain⟨i,hi,e2⟩:=List.mem_map.mp ha
  have li:=List.mem_range.mp (List.mem_filter.mp hi).1
  exact hq (by rw[← e2];exact cA (by omega))
def qE:aR:=fun ds R=>∃ (sd:Std) (gs:List Int),ds=[bY sd,.tup (gs.map D.int)]∧gs.length≤60∧sd.held.length=gs.length∧0<sd.bot∧sd.bot<2 ^ 9000∧sd.held.Nodup∧sd.tops.length≤1000 ∧
 ∀ qs:List (Int × Int),qs.Perm (bK sd gs)→qs.Pairwise (fun a b=>a.1<b.1)→R (.tup [.str "best",av (cu sd.tops sd.bot),.tup (qs.map aN),.int (cU sd gs)])
theorem zZ {n:Nat}{f:Addr}{fd:FuncData}(F:Fun K "best_ending" "best_ending" kE f fd){C_Stand:Addr}(T_Stand:TxtStand K mg C_Stand)(oN:Cl P w K mg base n "in_lowest" ["pairs","bottom"] oa)(oC:Cl P w K mg base n "fallen" ["stand","grown"] nO)(jQ:Cl P w K mg base n "lowest" ["tops","bottom"] j9)(aG:mg "tuple"=none)(iW:mg "sorted"=none):FnOk P w K mg base aS (n+1) f fd ["stand","grown"] (aZ K qE):=by
 refine F.okD sc_best_ending (fun ds R h=>?_) (fun cdv A outer s H E ds R hr h=>?_)
 ·obtain⟨sd,gs,rfl,_⟩:=h;rfl
 obtain⟨sd,gs,rfl,hl,hh,b0,b1,hn,tl,q⟩:=h
 refine⟨_,(ax (aB (i:=2) sc_best_ending.nd rfl (Or.inl rfl) (aC oN hr rfl (aa (aC oC hr rfl (aa (dv 0) (aa (dv 1) ag ab) ab) ab (ai ab ak)) (aa (c8 T_Stand.cl T_Stand.n_bottom T_Stand.ns (ae 0)) ag da) aE) aE (ai da ak)))
   (az (aH (aU (aa eY (aa (aC jQ hr rfl (aa (c8 T_Stand.cl T_Stand.n_tops T_Stand.ns (ae 0)) (aa (c8 T_Stand.cl T_Stand.n_bottom T_Stand.ns (ae 0)) ag da) da) da (ai da ak)) (aa (bF bG rfl aG PyProof.Rows.boot_tuple (aI (PD.q (bB pP rfl iW PyProof.Rows.boot_sorted (aI (PD.q (ar (ae 2) (PD.q af) (fun _ _=>rfl))) aM aw) aw ak)) aM aE) aE ak) (aa (ar (ae 2) (PD.q af) (fun _ _=>rfl)) ag aw) aE) aE) aA))))),?_⟩
 have l1:=uy sd gs
 have l2:=iP sd gs
 refine⟨sd,gs,rfl,by omega,hh,rfl,_,gM sd,de sd gs,sd.bot,rfl,b0,b1,by omega,?_⟩
 refine⟨rfl,_,km sd,rfl,_,gM sd,sd.tops,sd.bot,rfl,b0,b1,tl,?_⟩
 refine⟨_,rfl,bK sd gs,rfl,by omega,r8 (rL hh hn),fun qs hp hs=>⟨_,rfl,q qs hp hs⟩⟩
def aL (rs:List ao):Wk.Mx:=fun r j=>((au rs (r:Int)).1).getD j 0
def BL (rs:List ao):Nat→Int:=fun r=>(au rs (r:Int)).2
def cL (goal:List Int):Nat→Int:=fun j=>goal.getD j 0
def aY (sd:Std):Wk.Sd:=⟨fun k=>(sd.held.getD k 0).toNat,fun k i=>(sd.ways.getD k []).getD i 0,fun i=>sd.tops.getD i 0,sd.bot⟩
structure Wf (rs:List ao)(n:Nat)(sd:Std):Prop where
 hl:sd.held.length=n
 h0:∀ k∈sd.held,0≤k
 wl:sd.ways.length=n
 ww:∀ w∈sd.ways,w.length=n
 tl:sd.tops.length=n
 ok:Wk.Ok n (aL rs) (BL rs) rs.length (aY sd)
structure RsW (rs:List ao)(n:Nat):Prop where
 len:∀ r∈rs,r.1.length=n
 eb:∀ r∈rs,∀ x∈r.1,x.natAbs≤2 ^ 900
 bb:∀ r∈rs,r.2.natAbs≤2 ^ 900
 n8:n≤8
 nM:n≤rs.length
 M1:rs.length≤1000
theorem qU (f:Nat→Int):∀ n:Nat,Wk.sm (n+1) f=f 0+Wk.sm n (fun i=>f (i+1))
 | 0=>by show 0+f 0=f 0+0;omega
 | n+1=>by
  have:=qU f n
  show Wk.sm (n+1) f+f (n+1)=f 0+(Wk.sm n (fun i=>f (i+1))+f (n+1))
  omega
theorem eX:∀ {n:Nat} {xs ys:List Int},xs.length=n→ys.length=n→aj xs ys=Wk.dt n (fun i=>xs.getD i 0) (fun i=>ys.getD i 0)
 | 0,[],[],_,_=>rfl
 | n+1,x::xs,y::ys,h1,h2=>by
  have ih:=eX (n:=n) (xs:=xs) (ys:=ys) (by simpa using h1) (by simpa using h2)
  have e:aj (x::xs) (y::ys)=x*y+aj xs ys:=by unfold aj;rw[List.zipWith_cons_cons,List.sum_cons]
  rw[e,ih]
  unfold Wk.dt
  rw[qU]
  rfl
theorem lV {rs:List ao}{q:Int}(h:0≤q):au rs ((q.toNat:Nat):Int)=au rs q:=by
 have:((q.toNat:Nat):Int)=q:=by omega
 rw[this]
theorem jR {rs:List ao}{n:Nat}{sd:Std}(hf:Wf rs n sd)(hr:RsW rs n){q:Int}(h0:0≤q)(h1:q<rs.length){k:Nat}(hk:k<n):aj (au rs q).1 (sd.ways.getD k [])=Wk.gr n (aL rs) (aY sd) q.toNat k:=by
 have e:=eX (hr.len _ (dW h0 h1)) (hf.ww _ (cA (d:=[]) (show k<sd.ways.length by rw[hf.wl];exact hk)))
 rw[e]
 unfold Wk.gr aL aY
 rw[lV h0]
theorem g6 {rs:List ao}{n:Nat}{sd:Std}(hf:Wf rs n sd)(hr:RsW rs n){q:Int}(h0:0≤q)(h1:q<rs.length):bQ (au rs q) sd=Wk.ov n (aL rs) (BL rs) (aY sd) q.toNat:=by
 unfold bQ Wk.ov BL
 rw[eX (hr.len _ (dW h0 h1)) hf.tl,lV h0]
 unfold aL aY
 rw[lV h0]
theorem mP {rs:List ao}{n:Nat}{sd:Std}(hf:Wf rs n sd){goal:List Int}(hg:goal.length=n){k:Nat}(hk:k<n):aj goal (sd.ways.getD k [])=Wk.dt n (cL goal) ((aY sd).W k):=eX hg (hf.ww _ (cA (d:=[]) (show k<sd.ways.length by rw[hf.wl];exact hk)))
theorem yQ {f:Int→Int→Int}{xs ys:List Int}{i:Nat}(h1:i<xs.length)(h2:i<ys.length):(List.zipWith f xs ys).getD i 0=f (xs.getD i 0) (ys.getD i 0):=by
 rw[List.getD_eq_getElem?_getD,List.getElem?_zipWith,cS (d:=0) h1,cS (d:=0) h2]
 rfl
theorem eL {α:Type}{xs:List α}{i:Nat}{d:α}(h:xs.length≤i):xs.getD i d=d:=by rw[List.getD_eq_getElem?_getD,List.getElem?_eq_none h];rfl
theorem zY (n:Nat)(x:Nat→Int):Wk.dt n x (fun _=>0)=0:=by
 unfold Wk.dt
 have e:(fun i=>x i*(0:Int))=fun _=>0:=by funext i;exact Int.mul_zero _
 rw[e]
 exact Wk.sm_zero n
theorem iN {sd:Std}{r:ao}{p:Nat}:(bW sd r p).length=(sd.ways.getD p []).length:=by
 unfold bW
 split
 ·rw[List.length_map]
 ·rfl
theorem ue {rs:List ao}{n:Nat}{sd:Std}(hf:Wf rs n sd)(hr:RsW rs n){p:Nat}{q:Int}(hp:p<n)(h0:0≤q)(h1:q<rs.length):aY (cq (au rs q) sd p q)=Wk.pv n (aL rs) (BL rs) (aY sd) p q.toNat:=by
 have hpw:p<sd.ways.length:=by rw[hf.wl];exact hp
 have hlp:(sd.ways.getD p []).length=n:=hf.ww _ (cA hpw)
 have hgr:∀ k,k<n→aj (au rs q).1 (sd.ways.getD k [])=Wk.gr n (aL rs) (aY sd) q.toNat k:=fun k hk=>jR hf hr h0 h1 hk
 have hov:=g6 hf hr h0 h1
 have hsz:ee sd (au rs q) p=((Wk.gr n (aL rs) (aY sd) q.toNat p).natAbs:Int):=by rw[pU,hgr p hp]
 have hwy:∀ i,(bW sd (au rs q) p).getD i 0=Wk.wy n (aL rs) (aY sd) p q.toNat i:=fun i=>by
  unfold bW Wk.wy
  rw[hgr p hp]
  by_cases c:Wk.gr n (aL rs) (aY sd) q.toNat p<0
  ·rw[if_pos c,if_pos c]
   show _ = - (sd.ways.getD p []).getD i 0
   by_cases hi:i<(sd.ways.getD p []).length
   ·rw[List.getD_eq_getElem?_getD,List.getElem?_map,cS (d:=0) hi]
    rfl
   ·rw[eL (by rw[List.length_map];omega),eL (by omega)]
    rfl
  ·rw[if_neg c,if_neg c]
   rfl
 have wyo:∀ i,n≤i→Wk.wy n (aL rs) (aY sd) p q.toNat i=0:=fun i hi=>by
  rw[← hwy,eL]
  rw[iN,hlp];exact hi
 have hmv:∀ (sh:Int) (xs:List Int) (i:Nat),xs.length=n→(dY (ee sd (au rs q) p) sh sd.bot xs (bW sd (au rs q) p)).getD i 0=(((Wk.gr n (aL rs) (aY sd) q.toNat p).natAbs:Int)*xs.getD i 0 - sh*Wk.wy n (aL rs) (aY sd) p q.toNat i) / sd.bot:=fun sh xs i hx=>by
  unfold dY
  by_cases hi:i<n
  ·rw[yQ (by omega) (by rw[iN,hlp];exact hi),hwy,hsz]
  ·rw[eL (by rw[List.length_zipWith,iN,hlp,hx];omega),wyo i (by omega),eL (by omega),Int.mul_zero,Int.mul_zero]
   simp
 have nz:∀ k,n≤k→∀ i,(aY sd).W k i=0:=fun k hk i=>by
  show (sd.ways.getD k []).getD i 0=0
  rw[eL (d:=[]) (by rw[hf.wl];exact hk)]
  rfl
 have eh:(aY (cq (au rs q) sd p q)).h=(Wk.pv n (aL rs) (BL rs) (aY sd) p q.toNat).h:=by
  funext k
  show (((List.range sd.ways.length).map fun o=>if o=p then q else sd.held.getD o 0).getD k 0).toNat=if k=p then q.toNat else (sd.held.getD k 0).toNat
  by_cases hk:k<n
  ·rw[List.getD_eq_getElem?_getD,List.getElem?_map,List.getElem?_range (by rw[hf.wl];exact hk)]
   show (if k=p then q else sd.held.getD k 0).toNat=_
   split <;> rfl
  ·rw[eL (by rw[List.length_map,List.length_range,hf.wl];omega),if_neg (by omega),eL (by rw[hf.hl];omega)]
 have eW:(aY (cq (au rs q) sd p q)).W=(Wk.pv n (aL rs) (BL rs) (aY sd) p q.toNat).W:=by
  funext k i
  show (((List.range sd.ways.length).map fun o=>if o=p then bW sd (au rs q) p else dY (ee sd (au rs q) p) (aj (au rs q).1 (sd.ways.getD o [])) sd.bot (sd.ways.getD o []) (bW sd (au rs q) p)).getD k []).getD i 0 =
   if k=p then Wk.wy n (aL rs) (aY sd) p q.toNat i else (((Wk.gr n (aL rs) (aY sd) q.toNat p).natAbs:Int)*(aY sd).W k i - Wk.gr n (aL rs) (aY sd) q.toNat k*Wk.wy n (aL rs) (aY sd) p q.toNat i) / sd.bot
  by_cases hk:k<n
  ·have e:((List.range sd.ways.length).map fun o=>if o=p then bW sd (au rs q) p else dY (ee sd (au rs q) p) (aj (au rs q).1 (sd.ways.getD o [])) sd.bot (sd.ways.getD o []) (bW sd (au rs q) p)).getD k []=if k=p then bW sd (au rs q) p else dY (ee sd (au rs q) p) (aj (au rs q).1 (sd.ways.getD k [])) sd.bot (sd.ways.getD k []) (bW sd (au rs q) p):=by
    rw[List.getD_eq_getElem?_getD,List.getElem?_map,List.getElem?_range (by rw[hf.wl];exact hk)]
    rfl
   rw[e]
   by_cases c:k=p
   ·rw[if_pos c,if_pos c,hwy]
   ·rw[if_neg c,if_neg c,hmv _ _ i (hf.ww _ (cA (by rw[hf.wl];exact hk))),hgr k hk]
    rfl
  ·rw[eL (d:=[]) (by rw[List.length_map,List.length_range,hf.wl];omega),if_neg (by omega),nz k (by omega)]
   have e:Wk.gr n (aL rs) (aY sd) q.toNat k=0:=by
    unfold Wk.gr
    have:(aY sd).W k=fun _=>0:=by funext i;exact nz k (by omega) i
    rw[this]
    exact zY n _
   rw[e,Int.mul_zero,Int.zero_mul]
   simp
 have ex:(aY (cq (au rs q) sd p q)).x=(Wk.pv n (aL rs) (BL rs) (aY sd) p q.toNat).x:=by
  funext i
  show (dY (ee sd (au rs q) p) (bQ (au rs q) sd) sd.bot sd.tops (bW sd (au rs q) p)).getD i 0=_
  rw[hmv _ _ i hf.tl,hov]
  rfl
 have eb:(aY (cq (au rs q) sd p q)).b=(Wk.pv n (aL rs) (BL rs) (aY sd) p q.toNat).b:=hsz
 generalize aY (cq (au rs q) sd p q)=S at *
 generalize Wk.pv n (aL rs) (BL rs) (aY sd) p q.toNat=T at *
 cases S
 cases T
 simp only at eh eW ex eb
 rw[eh,eW,ex,eb]
theorem Wf.ex {rs:List ao}{n:Nat}{sd:Std}(hf:Wf rs n sd)(hr:RsW rs n){p:Nat}{q:Int}(hp:p<n)(h0:0≤q)(h1:q<rs.length)(hg:Wk.gr n (aL rs) (aY sd) q.toNat p≠0):Wf rs n (cq (au rs q) sd p q):=by
 have hlp:(sd.ways.getD p []).length=n:=hf.ww _ (cA (by rw[hf.wl];exact hp))
 refine⟨?_,fun k hk=>?_,?_,fun w hw=>?_,?_,?_⟩
 ·show ((List.range _).map _).length=n
  rw[List.length_map,List.length_range,hf.wl]
 ·obtain⟨o,ho,rfl⟩:=List.mem_map.mp (show k∈(List.range _).map _ from hk)
  have lo:=List.mem_range.mp ho
  split
  ·exact h0
  ·exact hf.h0 _ (cA (by rw[hf.hl,← hf.wl];exact lo))
 ·show ((List.range _).map _).length=n
  rw[List.length_map,List.length_range,hf.wl]
 ·obtain⟨o,ho,rfl⟩:=List.mem_map.mp (show w∈(List.range _).map _ from hw)
  have lo:=List.mem_range.mp ho
  split
  ·rw[iN,hlp]
  ·unfold dY
   rw[List.length_zipWith,iN,hlp,hf.ww _ (cA lo)]
   omega
 ·show (dY _ _ _ _ _).length=n
  unfold dY
  rw[List.length_zipWith,iN,hlp,hf.tl]
  omega
 ·rw[ue hf hr hp h0 h1]
  exact (hf.ok.pv_all hp (by omega) hg).1
theorem nj {a b:Nat}(h:a≤b):2 ^ a≤2 ^ b:=Nat.pow_le_pow_right (by decide) h
theorem dG {x:Int}{m:Nat}(h:x.natAbs≤2 ^ m)(hm:m<60000):aW x:=Nat.lt_of_le_of_lt h (Nat.pow_lt_pow_right (by decide) hm)
theorem sL {n:Nat}(h:n≤8):(8*2 ^ 900) ^ n≤2 ^ 7224:=by
 have e:8*2 ^ 900=2 ^ 903:=by rw[show (8:Nat)=2 ^ 3 by decide,← Nat.pow_add]
 rw[e,← Nat.pow_mul]
 exact nj (by omega)
theorem oT {n a b:Nat}{x y:Nat→Int}(hn:n≤8)(hx:∀ i,i<n→(x i).natAbs≤2 ^ a)(hy:∀ i,i<n→(y i).natAbs≤2 ^ b):(Wk.dt n x y).natAbs≤2 ^ (a+b+3):=by
 have h:=Wk.sm_abs (E:=2 ^ (a+b)) (n:=n) (f:=fun i=>x i*y i) fun i hi=>by
  show (x i*y i).natAbs≤_
  rw[Int.natAbs_mul,Nat.pow_add]
  exact Nat.mul_le_mul (hx i hi) (hy i hi)
 refine Nat.le_trans h (Nat.le_trans (Nat.mul_le_mul_right _ hn) ?_)
 rw[show (8:Nat)=2 ^ 3 by decide,← Nat.pow_add]
 exact nj (by omega)
theorem tJ {rs:List ao}{n:Nat}(hr:RsW rs n){r:Nat}(h:r<rs.length)(j:Nat):(aL rs r j).natAbs≤2 ^ 900:=by
 unfold aL
 by_cases c:j<(au rs (r:Int)).1.length
 ·exact hr.eb _ (dW (by omega) (by omega)) _ (cA c)
 ·rw[eL (by omega)]
  exact Nat.zero_le _
structure Sz (rs:List ao)(n:Nat)(sd:Std):Prop where
 b0:0<sd.bot
 b:sd.bot.natAbs≤2 ^ 7224
 w:∀ w∈sd.ways,∀ x∈w,x.natAbs≤2 ^ 7224
 t:∀ x∈sd.tops,x.natAbs≤2 ^ 8127
theorem Wf.sz {rs:List ao}{n:Nat}{sd:Std}(hf:Wf rs n sd)(hr:RsW rs n):Sz rs n sd:=by
 obtain⟨e,he,hb,hw⟩:=hf.ok.eps
 have ea:∀ z:Int,(e*z).natAbs=z.natAbs:=fun z=>by rcases he with h | h <;> rw[h] <;> omega
 have hW:∀ k i,k<n→i<n→((aY sd).W k i).natAbs≤2 ^ 7224:=fun k i hk hi=>by
  rw[hw k i hk hi,ea]
  refine Nat.le_trans (Wk.det_abs (E:=2 ^ 900) (N:=8) hr.n8 fun l j hl hj=>?_) (sL hr.n8)
  unfold Wk.up
  split
  ·unfold Wk.un
   split
   ·exact Nat.one_le_two_pow
   ·exact Nat.zero_le _
  ·exact tJ hr (hf.ok.lt l hl) j
 have mem:∀ {α:Type} {l:List α} {x:α} (d:α),x∈l→∃ i,i<l.length∧l.getD i d=x:=fun {α l x} d hx=>by
  obtain⟨i,hi⟩:=List.getElem?_of_mem hx
  exact⟨i,c9 hi,by rw[List.getD_eq_getElem?_getD,hi];rfl⟩
 refine⟨hf.ok.pos,?_,fun w hw' x hx=>?_,fun x hx=>?_⟩
 ·show (aY sd).b.natAbs≤_
  rw[hb,ea]
  exact Nat.le_trans (Wk.det_abs (E:=2 ^ 900) (N:=8) hr.n8 fun l j hl hj=>tJ hr (hf.ok.lt l hl) j) (sL hr.n8)
 ·obtain⟨k,hk,rfl⟩:=mem [] hw'
  obtain⟨i,hi,rfl⟩:=mem 0 hx
  rw[hf.wl] at hk
  rw[hf.ww _ (cA (by rw[hf.wl];exact hk))] at hi
  exact hW k i hk hi
 ·obtain⟨i,hi,rfl⟩:=mem 0 hx
  rw[hf.tl] at hi
  have h1:=hf.ok.cor i hi
  show ((aY sd).x i).natAbs≤_
  rw[h1]
  have:=oT (n:=n) (a:=900) (b:=7224) (x:=fun k=>BL rs ((aY sd).h k)) (y:=fun k=>(aY sd).W k i) hr.n8 (fun k hk=>hr.bb _ (dW (by omega) (by have:=hf.ok.lt k hk;omega))) fun k hk=>hW k i hk hi
  exact this
theorem oP {xs:List Int}{m:Nat}(h:∀ x∈xs,x.natAbs≤2 ^ m)(i:Nat):(xs.getD i 0).natAbs≤2 ^ m:=by
 by_cases c:i<xs.length
 ·exact h _ (cA c)
 ·rw[eL (by omega)];exact Nat.zero_le _
theorem dot_le {n a b:Nat}{xs ys:List Int}(hn:n≤8)(h1:xs.length=n)(h2:ys.length=n)(hx:∀ x∈xs,x.natAbs≤2 ^ a)(hy:∀ y∈ys,y.natAbs≤2 ^ b):(aj xs ys).natAbs≤2 ^ (a+b+3):=by
 rw[eX h1 h2]
 exact oT hn (fun i _=>oP hx i) fun i _=>oP hy i
theorem pC {rs:List ao}{n:Nat}{sd:Std}(hf:Wf rs n sd)(hr:RsW rs n){r:ao}(hm:r∈rs):(bQ r sd).natAbs≤2 ^ 9031:=by
 have z:=hf.sz hr
 have h1:=dot_le hr.n8 (hr.len r hm) hf.tl (hr.eb r hm) z.t
 have h2:(r.2*sd.bot).natAbs≤2 ^ (900+7224):=by
  rw[Int.natAbs_mul,Nat.pow_add]
  exact Nat.mul_le_mul (hr.bb r hm) z.b
 unfold bQ
 have h3:=nj (a:=900+7224) (b:=9030) (by decide)
 have e:2 ^ 9031=2 ^ 9030+2 ^ 9030:=by rw[show (9031:Nat)=9030+1 by rfl,Nat.pow_succ,Nat.mul_two]
 have h4:(aj r.1 sd.tops).natAbs≤2 ^ 9030:=h1
 have h5:=Nat.le_trans h2 h3
 rw[e]
 generalize 2 ^ 9030=z at *
 omega
theorem Wf.nd {rs:List ao}{n:Nat}{sd:Std}(hf:Wf rs n sd):sd.held.Nodup:=by
 rw[List.nodup_iff_pairwise_ne,List.pairwise_iff_getElem]
 intro i j hi hj hij e
 have e1:sd.held.getD i 0=sd.held.getD j 0:=by
  rw[List.getD_eq_getElem?_getD,List.getD_eq_getElem?_getD,aX hi,aX hj]
  exact e
 have:=hf.ok.inj (k:=i) (l:=j) (by rw[← hf.hl];exact hi) (by rw[← hf.hl];exact hj) (by show (sd.held.getD i 0).toNat=(sd.held.getD j 0).toNat;rw[e1])
 omega
theorem Wf.heldNat {rs:List ao}{n:Nat}{sd:Std}(hf:Wf rs n sd){k:Nat}(hk:k<n):((aY sd).h k:Int)=sd.held.getD k 0:=by
 have:=hf.h0 _ (cA (d:=0) (show k<sd.held.length by rw[hf.hl];exact hk))
 show (((sd.held.getD k 0).toNat:Nat):Int)=_
 omega
theorem Wf.notheld {rs:List ao}{n:Nat}{sd:Std}(hf:Wf rs n sd){q:Int}(h0:0≤q)(h:¬ Wk.In n (aY sd) q.toNat):q∉sd.held:=fun hm=>by
 obtain⟨i,hi⟩:=List.getElem?_of_mem hm
 have il:i<n:=by rw[← hf.hl];exact c9 hi
 refine h ⟨i,il,?_⟩
 show (sd.held.getD i 0).toNat=q.toNat
 rw[List.getD_eq_getElem?_getD,hi]
 rfl
theorem Wf.big {rs:List ao}{n:Nat}{sd:Std}(hf:Wf rs n sd)(hr:RsW rs n):StB sd:=by
 have z:=hf.sz hr
 have:=hr.n8
 exact⟨by rw[hf.hl];omega,by rw[hf.wl];omega,fun w hw x hx=>dG (z.w w hw x hx) (by decide),fun x hx=>dG (z.t x hx) (by decide),dG z.b (by decide)⟩
theorem RsW.big {rs:List ao}{n:Nat}(hr:RsW rs n):mC rs:=fun r h=>by
 have:=hr.n8
 exact⟨by rw[hr.len r h];omega,fun x hx=>dG (hr.eb r h x hx) (by decide),dG (hr.bb r h) (by decide)⟩
theorem Sz.b9 {rs:List ao}{n:Nat}{sd:Std}(z:Sz rs n sd):sd.bot<2 ^ 9000:=by
 have h1:=z.b
 have h2:(2:Nat) ^ 7224<2 ^ 9000:=Nat.pow_lt_pow_right (by decide) (by decide)
 have h3:sd.bot.natAbs<2 ^ 9000:=Nat.lt_of_le_of_lt h1 h2
 have h4:=z.b0
 have h5:((sd.bot.natAbs:Nat):Int)<((2 ^ 9000:Nat):Int):=by exact_mod_cast h3
 have h6:((2 ^ 9000:Nat):Int)=2 ^ 9000:=by rw[Int.natCast_pow];rfl
 rw[h6] at h5
 omega
def aK (sd:Std)(es:List Int):List Int:=sd.ways.map fun w=>aj es w
def cf (M:Nat):List Int:=(List.range M).map fun (i:Nat)=>(i:Int)
theorem mH {M i:Nat}{k:Int}(h:(cf M)[i]?=some k):k=(i:Int)∧i<M:=by
 unfold cf at h
 rw[List.getElem?_map] at h
 by_cases c:i<M
 ·rw[List.getElem?_range c] at h
  cases h
  exact⟨rfl,c⟩
 ·rw[List.getElem?_eq_none (by rw[List.length_range];omega)] at h
  cases h
theorem kn {M i:Nat}(h:i<M):(cf M)[i]?=some (i:Int):=by
 unfold cf
 rw[List.getElem?_map,List.getElem?_range h]
 rfl
theorem vo {M:Nat}{k:Int}(h:k∈cf M):0≤k∧k<M:=by
 obtain⟨i,hi⟩:=List.getElem?_of_mem h
 obtain⟨e,l⟩:=mH hi
 omega
theorem BO (M:Nat):(cf M).length=M:=by unfold cf;rw[List.length_map,List.length_range]
def iv (rs:List ao)(sd:Std)(q:Int):Prop:=(0≤q∧q<rs.length)∧bQ (au rs q) sd<0∧∀ r:Int,0≤r→r<q→0≤bQ (au rs r) sd
def fg (rs:List ao)(sd:Std):Prop:=∀ r:Int,0≤r→r<rs.length→0≤bQ (au rs r) sd
def o4 (p:Nat)(q:Int):D:=.tup [.str "step",.int (p:Int),.int q]
def mU (qs:List (Int × Int)):D:=.tup [.str "none",.tup (qs.map aN)]
def nC (pt:ao)(qs:List (Int × Int))(d:Int):D:=.tup [.str "best",av pt,.tup (qs.map aN),.int d]
def l6 (pt:ao)(ray:List Int):D:=.tup [.str "endless",av pt,.tup (ray.map D.int)]
inductive Nxt (rs:List ao) (goal:List Int) (sd:Std):D→Prop
 | stepA (q:Int) (p:Nat):iv rs sd q→Lg sd (aK sd (au rs q).1) (some p)→Nxt rs goal sd (o4 p q)
 | non (q:Int) (qs:List (Int × Int)):iv rs sd q→Lg sd (aK sd (au rs q).1) none→qs.Perm (bK sd (aK sd (au rs q).1)++[(q,cU sd (aK sd (au rs q).1))])→qs.Pairwise (fun a b=>a.1<b.1)→Nxt rs goal sd (mU qs)
 | best (qs:List (Int × Int)):fg rs sd→Lg sd (aK sd goal) none→qs.Perm (bK sd (aK sd goal))→qs.Pairwise (fun a b=>a.1<b.1)→Nxt rs goal sd (nC (cu sd.tops sd.bot) qs (cU sd (aK sd goal)))
 | endl (p:Nat):fg rs sd→Lg sd (aK sd goal) (some p)→Stop rs (cf rs.length) sd (sd.ways.getD p []) rs.length none→Nxt rs goal sd (l6 (cu sd.tops sd.bot) ((sd.ways.getD p []).map (· / bA (sd.ways.getD p []))))
 | stepB (q:Int) (p:Nat):fg rs sd→Lg sd (aK sd goal) (some p)→Stop rs (cf rs.length) sd (sd.ways.getD p []) rs.length (some q)→Nxt rs goal sd (o4 p q)
theorem gG {sd:Std}{es:List Int}{k:Nat}(h:k<sd.ways.length):(aK sd es).getD k 0=aj es (sd.ways.getD k []):=by
 unfold aK
 rw[List.getD_eq_getElem?_getD,List.getElem?_map,cS (d:=[]) h]
 rfl
theorem dF (sd:Std)(es:List Int):(aK sd es).length=sd.ways.length:=by unfold aK;rw[List.length_map]
theorem rM {xs ys:List Int}(h:∀ y∈ys,y=0):aj xs ys=0:=by
 unfold aj
 induction xs generalizing ys with
 | nil=>rfl
 | cons x xs ih =>
  cases ys with
  | nil=>rfl
  | cons y ys =>
   rw[List.zipWith_cons_cons,List.sum_cons,ih fun z hz=>h z (List.mem_cons_of_mem _ hz),h y List.mem_cons_self]
   omega
abbrev gY (goal:List Int)(m:Nat):Prop:=goal.length=m∧∀ x∈goal,x.natAbs≤2 ^ 900
def p8:aR:=fun ds R=>∃ (rs:List ao) (goal:List Int) (m:Nat) (sd:Std),ds=[.tup (rs.map av),.tup ((cf rs.length).map D.int),.tup (goal.map D.int),bY sd]∧RsW rs m∧Wf rs m sd∧gY goal m∧∀ d,Nxt rs goal sd d→R d
theorem Aj {n:Nat}{f:Addr}{fd:FuncData}(F:Fun K "next_step" "next_step" jY f fd){C_Stand:Addr}(T_Stand:TxtStand K mg C_Stand)(DK:Cl P w K mg base n "missed_row" ["rows","numbers","stand"] rk)(lN:Cl P w K mg base n "growths" ["stand","entries"] ma)(uB:Cl P w K mg base n "least_grown" ["stand","grown"] r6)(DN:Cl P w K mg base n "stopping_row" ["rows","numbers","stand","way"] oV)(DB:Cl P w K mg base n "best_ending" ["stand","grown"] qE)(DY:Cl P w K mg base n "endless_ending" ["stand","way"] qD)(D5:Cl P w K mg base n "none_ending" ["stand","number","grown"] sC):FnOk P w K mg base aS (n+1) f fd ["rows","numbers","goal","stand"] (aZ K p8):=by
 refine F.okD sc_next_step (fun ds R h=>?_) (fun cdv A outer s H E ds R hr h=>?_)
 ·obtain⟨rs,goal,m,sd,rfl,_⟩:=h;rfl
 obtain⟨rs,goal,m,sd,rfl,hrw,hf,⟨hgl,hgb⟩,q⟩:=h
 refine⟨_,(ax (aB (i:=4) sc_next_step.nd rfl (Or.inl rfl) (aC DK hr rfl (aa (dv 0) (aa (dv 1) (aa (dv 3) ag ab) ab) ab) ab (ai ab (ai ab ak))))
   (bz (bj (bg qO (ae 4) (PD.q e9) (aO _)) (ax (aB (i:=5) sc_next_step.nd rfl (Or.inl rfl) (aC lN hr rfl (aa (dv 3) (aa (ar (PD.q (ar (ae 0) (ae 4) (fun _ _=>rfl))) (PD.q af) (fun _ _=>rfl)) ag aw) ab) ab (ai aw ak)))
   (ax (aB (i:=6) sc_next_step.nd rfl (Or.inl rfl) (aC uB hr rfl (aa (dv 3) (aa (dv 5) ag ab) ab) ab (ai ab ak)))
   (bz (bj (bg gD (ae 6) (PD.q e9) (aO _)) (az (aH (aC D5 hr rfl (aa (dv 3) (aa (dv 4) (aa (dv 5) ag ab) ab) ab) ab (ai ab (ai ab ak))))) bt)
   (az (aH (aU (aa eY (aa (dv 6) (aa (dv 4) ag ab) ab) aA))))))) bt)
   (ax (aB (i:=7) sc_next_step.nd rfl (Or.inl rfl) (aC lN hr rfl (aa (dv 3) (aa (dv 2) ag ab) ab) ab (ai ab ak)))
   (ax (aB (i:=6) sc_next_step.nd rfl (Or.inl rfl) (aC uB hr rfl (aa (dv 3) (aa (dv 7) ag ab) ab) ab (ai ab ak)))
   (bz (bj (bg gD (ae 6) (PD.q e9) (aO _)) (az (aH (aC DB hr rfl (aa (dv 3) (aa (dv 7) ag ab) ab) ab (ai ab ak)))) bt)
   (ax (aB (i:=4) sc_next_step.nd rfl (Or.inl rfl) (aC DN hr rfl (aa (dv 0) (aa (dv 1) (aa (dv 3) (aa (ar (PD.q (c8 T_Stand.cl T_Stand.n_ways T_Stand.ns (ae 3))) (ae 6) (fun _ _=>rfl)) ag aw) ab) ab) ab) ab (ai ab (ai ab (ai aw ak)))))
   (bz (bj (bg gD (ae 4) (PD.q e9) (aO _)) (az (aH (aC DY hr rfl (aa (dv 3) (aa (ar (PD.q (c8 T_Stand.cl T_Stand.n_ways T_Stand.ns (ae 3))) (ae 6) (fun _ _=>rfl)) ag aw) ab) ab (ai aw ak)))) bt)
   (az (aH (aU (aa eY (aa (dv 6) (aa (dv 4) ag ab) ab) aA))))))))))),?_⟩
 have z:=hf.sz hrw
 have n8:=hrw.n8
 have hbig:=hf.big hrw
 have hrb:=hrw.big
 have hns:∀ k∈cf rs.length,0≤k∧k<(rs.length:Int):=fun k hk=>vo hk
 have gb:∀ x∈goal,aW x:=fun x hx=>dG (hgb x hx) (by decide)
 have hw1:sd.ways.length=m:=hf.wl
 have hh1:=hf.hl
 refine⟨rs,cf rs.length,sd,rfl,hbig,hrb,hns,fun i k hk hov hpre=>?_,fun hall=>?_⟩
 ·obtain⟨rfl,hi⟩:=mH hk
  have hms:iv rs sd (i:Int):=⟨⟨by omega,by omega⟩,hov,fun r r0 r1=>by
   have:=hpre r.toNat r (by omega) (by rw[kn (by omega)];congr 1;omega)
   exact this⟩
  have hrow:=hrb _ (dW (rs:=rs) (k:=(i:Int)) (by omega) (by omega))
  refine⟨fun _=>False,⟨fun _=>?_,fun h=>(by cases h)⟩,fun _ h=>h.elim⟩
  refine⟨_,fW (by omega) (by omega),_,rfl,sd,(au rs (i:Int)).1,rfl,hbig,hrow.1,hrow.2.1,?_⟩
  refine⟨sd,aK sd (au rs (i:Int)).1,rfl,by rw[dF];omega,by rw[dF];omega,fun o ho=>?_⟩
  cases o with
  | none =>
   refine⟨fun _=>False,⟨fun _=>?_,fun h=>(by cases h)⟩,fun _ h=>h.elim⟩
   have hnh:(i:Int)∉sd.held:=hf.notheld (by omega) fun hin=>by
    have e:=hf.ok.ov0 hin
    rw[← g6 hf hrw (by omega) (by omega)] at e
    omega
   exact⟨sd,(i:Int),aK sd (au rs (i:Int)).1,rfl,by rw[dF];omega,by rw[dF];omega,z.b0,z.b9,hf.nd,hnh,fun qs hp hs=>q _ (.non _ qs hms ho hp hs)⟩
  | some p =>
   refine⟨fun ρ=>ρ=[some (.v (.tup (rs.map av))),some (.v (.tup ((cf rs.length).map D.int))),some (.v (.tup (goal.map D.int))),some (.v (bY sd)),some (.v (.int (i:Int))),some (.v (.tup ((aK sd (au rs (i:Int)).1).map D.int))),some (.v (.int (p:Int))),none],⟨fun h=>(by cases h),fun _=>rfl⟩,?_⟩
   rintro ρ rfl
   exact q _ (.stepA _ p hms ho)
 ·have hmet:fg rs sd:=fun r r0 r1=>hall r (List.mem_of_getElem? (i:=r.toNat) (by rw[kn (by omega)];congr 1;omega))
  refine⟨fun ρ=>ρ=[some (.v (.tup (rs.map av))),some (.v (.tup ((cf rs.length).map D.int))),some (.v (.tup (goal.map D.int))),some (.v (bY sd)),some (.v .non),none,none,none],⟨fun h=>(by cases h),fun _=>rfl⟩,?_⟩
  rintro ρ rfl
  refine⟨sd,goal,rfl,hbig,by omega,gb,?_⟩
  refine⟨sd,aK sd goal,rfl,by rw[dF];omega,by rw[dF];omega,fun o ho=>?_⟩
  cases o with
  | none =>
   refine⟨fun _=>False,⟨fun _=>?_,fun h=>(by cases h)⟩,fun _ h=>h.elim⟩
   exact⟨sd,aK sd goal,rfl,by rw[dF];omega,by rw[dF];omega,z.b0,z.b9,hf.nd,by rw[hf.tl];omega,fun qs hp hs=>q _ (.best qs hmet ho hp hs)⟩
  | some p =>
   refine⟨fun ρ=>ρ=[some (.v (.tup (rs.map av))),some (.v (.tup ((cf rs.length).map D.int))),some (.v (.tup (goal.map D.int))),some (.v (bY sd)),some (.v .non),none,some (.v (.int (p:Int))),some (.v (.tup ((aK sd goal).map D.int)))],⟨fun h=>(by cases h),fun _=>rfl⟩,?_⟩
   rintro ρ rfl
   obtain⟨hp1,hp2,hp3⟩:=id ho
   have hpl:p<sd.ways.length:=by rw[dF] at hp1;exact hp1
   have hwp:=cA (d:=[]) hpl
   have wat:bJ (sd.ways.map wD) (p:Int)=some (wD (sd.ways.getD p [])):=bD (i:=p) (cS hpl) rfl
   have hwl:=hf.ww _ hwp
   refine⟨rfl,_,i8 sd,_,wat,rs,cf rs.length,sd,sd.ways.getD p [],rfl,hbig,hrb,hns,hbig.wb _ hwp,fun k hk=>?_,fun o2 ho2=>?_⟩
   ·obtain⟨k0,k1⟩:=hns k hk
    have hm:=dW k0 k1
    refine⟨dG (pC hf hrw hm) (by decide),?_⟩
    show (- aj (au rs k).1 (sd.ways.getD p [])).natAbs<_
    rw[Int.natAbs_neg]
    exact dG (dot_le n8 (hrw.len _ hm) hwl (hrw.eb _ hm) (z.w _ hwp)) (by decide)
   ·rw[BO] at ho2
    cases o2 with
    | none =>
     refine⟨fun _=>False,⟨fun _=>?_,fun h=>(by cases h)⟩,fun _ h=>h.elim⟩
     have g0:0<bA (sd.ways.getD p []):=by
      have h1:=iJ (sd.ways.getD p [])
      by_cases c:bA (sd.ways.getD p [])=0
      ·have:=pX c
       rw[gG hpl,rM this] at hp2
       omega
      ·omega
     have g1:bA (sd.ways.getD p [])<2 ^ 9000:=by
      have h1:=AN (ns:=sd.ways.getD p []) (m:=2 ^ 9000) (fun x hx=>Nat.lt_of_le_of_lt (z.w _ hwp x hx) (Nat.pow_lt_pow_right (by decide) (by decide))) (Nat.pow_pos (by decide))
      have h6:((2 ^ 9000:Nat):Int)=2 ^ 9000:=by rw[Int.natCast_pow];rfl
      rw[h6] at h1
      exact h1
     exact⟨rfl,_,i8 sd,_,wat,sd,sd.ways.getD p [],rfl,by rw[hf.tl];omega,z.b0,z.b9,by omega,g0,g1,q _ (.endl p hmet ho ho2)⟩
    | some k =>
     refine⟨fun ρ=>ρ=[some (.v (.tup (rs.map av))),some (.v (.tup ((cf rs.length).map D.int))),some (.v (.tup (goal.map D.int))),some (.v (bY sd)),some (.v (.int k)),none,some (.v (.int (p:Int))),some (.v (.tup ((aK sd goal).map D.int)))],⟨fun h=>(by cases h),fun _=>rfl⟩,?_⟩
     rintro ρ rfl
     exact q _ (.stepB k p hmet ho ho2)
def nY (rs:List ao)(m:Nat):Prop:=2 ^ rs.length≤8388608∨rs.length ^ m≤8388608
def StepOk (rs:List ao)(goal:List Int)(sd:Std)(p:Nat)(q:Int):Prop:=(iv rs sd q∧Lg sd (aK sd (au rs q).1) (some p))∨(fg rs sd∧Lg sd (aK sd goal) (some p)∧Stop rs (cf rs.length) sd (sd.ways.getD p []) rs.length (some q))
inductive Run (rs:List ao) (goal:List Int) (a:Std):Nat→Std→Prop
 | nil:Run rs goal a 0 a
 | snoc {j:Nat} {b:Std} {p:Nat} {q:Int}:Run rs goal a j b→b.held.Nodup→b.held.length=b.ways.length→StepOk rs goal b p q→Run rs goal a (j+1) (cq (au rs q) b p q)
structure Hist (rs:List ao)(goal:List Int)(m:Nat)(sd0 sd:Std)(st:List (Int × Int))(j:Nat):Prop where
 run:Run rs goal sd0 j sd
 ex:∃ S P Q,Wk.Chain m rs.length (aL rs) (BL rs) (cL goal) j S P Q∧S 0=aY sd0∧S j=aY sd∧st.length=j∧∀ i,i<j→st[i]?=some (((S i).h (P i):Int),(Q i:Int))
inductive End (rs:List ao) (goal:List Int) (sd:Std):D→Prop
 | non (q:Int) (qs:List (Int × Int)):iv rs sd q→Lg sd (aK sd (au rs q).1) none→qs.Perm (bK sd (aK sd (au rs q).1)++[(q,cU sd (aK sd (au rs q).1))])→qs.Pairwise (fun a b=>a.1<b.1)→End rs goal sd (mU qs)
 | best (qs:List (Int × Int)):fg rs sd→Lg sd (aK sd goal) none→qs.Perm (bK sd (aK sd goal))→qs.Pairwise (fun a b=>a.1<b.1)→End rs goal sd (nC (cu sd.tops sd.bot) qs (cU sd (aK sd goal)))
 | endl (p:Nat):fg rs sd→Lg sd (aK sd goal) (some p)→Stop rs (cf rs.length) sd (sd.ways.getD p []) rs.length none→End rs goal sd (l6 (cu sd.tops sd.bot) ((sd.ways.getD p []).map (· / bA (sd.ways.getD p []))))
theorem Hist.start (rs:List ao)(goal:List Int)(m:Nat)(sd:Std):Hist rs goal m sd sd [] 0:=⟨.nil,fun _=>aY sd,fun _=>0,fun _=>0,Wk.chain0 _,rfl,rfl,rfl,fun i h=>absurd h (by omega)⟩
theorem Hist.less {rs:List ao}{goal:List Int}{m:Nat}{sd0 sd:Std}{st:List (Int × Int)}{j:Nat}(h:Hist rs goal m sd0 sd st j)(o:Wf rs m sd0)(hf:nY rs m):j<8388608∧st.length=j:=by
 obtain⟨S,P,Q,C,e0,e1,e2,_⟩:=h.ex
 refine⟨?_,e2⟩
 rcases hf with f | f
 ·have:=C.short
  omega
 ·have:=C.fewer (by rw[e0];exact o.ok)
  omega
theorem StepOk.all {rs:List ao}{goal:List Int}{m:Nat}{sd:Std}{p:Nat}{q:Int}(h:StepOk rs goal sd p q)(hrw:RsW rs m)(hf:Wf rs m sd)(hg:gY goal m) :
  p<m∧(0≤q∧q<rs.length)∧Wk.gr m (aL rs) (aY sd) q.toNat p≠0∧(Wk.StA m rs.length (aL rs) (BL rs) (aY sd) p q.toNat∨Wk.StB m rs.length (aL rs) (BL rs) (cL goal) (aY sd) p q.toNat):=by
 have hw:=hf.wl
 have ix:∀ r:Nat,((r:Int)).toNat=r:=fun r=>by omega
 have hlt:∀ k,k<m→(aY sd).h k<(aY sd).h p→p<m→sd.held.getD k 0<sd.held.getD p 0:=fun k hk h hp=>by
  have e1:=hf.heldNat hk
  have e2:=hf.heldNat hp
  omega
 rcases h with⟨⟨⟨q0,q1⟩,hm,hl⟩,hp,hpg,hpl⟩ | ⟨hmet,⟨hp,hpg,hpl⟩,i,hi,hiq,hfq,hall⟩
 ·rw[dF,hw] at hp
  rw[gG (by omega),jR hf hrw q0 q1 hp] at hpg
  refine⟨hp,⟨q0,q1⟩,by omega,.inl ⟨hp,by omega,?_,fun r hr=>?_,hpg,fun k hk hkp=>?_⟩⟩
  ·rw[← g6 hf hrw q0 q1];exact hm
  ·have:=hl (r:Int) (by omega) (by omega)
   rw[g6 hf hrw (by omega) (by omega),ix] at this
   exact this
  ·rcases Int.lt_or_le 0 (Wk.gr m (aL rs) (aY sd) q.toNat k) with c | c
   ·have:=hpl k (by rw[dF,hw];exact hk) (by rw[gG (by omega),jR hf hrw q0 q1 hk];exact c)
    have:=hlt k hk hkp hp
    omega
   ·exact c
 ·rw[dF,hw] at hp
  rw[gG (by omega),mP hf hg.1 hp] at hpg
  obtain⟨rfl,hi'⟩:=mH hiq
  have fl:∀ r:Int,0≤r→r<rs.length→cm rs (sd.ways.getD p []) r = - Wk.gr m (aL rs) (aY sd) r.toNat p:=fun r r0 r1=>by
   unfold cm
   rw[jR hf hrw r0 r1 hp]
  have q0:(0:Int)≤(i:Int):=by omega
  have q1:(i:Int)<rs.length:=by omega
  rw[fl _ q0 q1] at hfq
  refine⟨hp,⟨q0,q1⟩,by omega,.inr ⟨hp,by omega,fun r hr=>?_,hpg,fun k hk hkp=>?_,by omega,fun r hr hrg=>?_⟩⟩
  ·have:=hmet (r:Int) (by omega) (by omega)
   rw[g6 hf hrw (by omega) (by omega),ix] at this
   exact this
  ·rcases Int.lt_or_le 0 (Wk.dt m (cL goal) ((aY sd).W k)) with c | c
   ·have:=hpl k (by rw[dF,hw];exact hk) (by rw[gG (by omega),mP hf hg.1 hk];exact c)
    have:=hlt k hk hkp hp
    omega
   ·exact c
  ·have h1:=hall r (r:Int) (by omega) (kn hr) (by rw[fl _ (by omega) (by omega),ix];omega)
   rw[fl (r:Int) (by omega) (by omega),fl _ q0 q1,g6 hf hrw q0 q1,g6 hf hrw (q:=(r:Int)) (by omega) (by omega),ix,ix] at h1
   rw[ix]
   exact⟨h1.1,fun hrq=>h1.2 (by omega)⟩
theorem Hist.step {rs:List ao}{goal:List Int}{m:Nat}{sd0 sd:Std}{st:List (Int × Int)}{j p:Nat}{q:Int}(h:Hist rs goal m sd0 sd st j)(s:StepOk rs goal sd p q)(hrw:RsW rs m)(hf:Wf rs m sd)(hg:gY goal m) :
  Wf rs m (cq (au rs q) sd p q)∧Hist rs goal m sd0 (cq (au rs q) sd p q) (st++[(sd.held.getD p 0,q)]) (j+1):=by
 obtain⟨hp,⟨q0,q1⟩,hgr,hst⟩:=s.all hrw hf hg
 have hf2:=hf.ex hrw hp q0 q1 hgr
 refine⟨hf2,?_⟩
 obtain⟨S,P,Q,C,e0,e1,e2,e3⟩:=h.ex
 have x:Wk.Nx m rs.length (aL rs) (BL rs) (S j) (aY (cq (au rs q) sd p q)) p q.toNat:=by
  rw[e1]
  exact⟨hf.ok,hf2.ok,hp,by omega,hgr,fun k hk=>by rw[ue hf hrw hp q0 q1];rfl⟩
 have C2:=C.more x (by rw[e1];exact hst)
 refine⟨.snoc h.run hf.nd (by rw[hf.hl,hf.wl]) s,_,_,_,C2,?_,?_,by rw[List.length_append,e2];rfl,fun i hi=>?_⟩
 ·show (if 0≤j then S 0 else _)=_
  rw[if_pos (by omega)];exact e0
 ·show (if j+1≤j then _ else _)=_
  rw[if_neg (by omega)]
 ·show _=some ((((if i≤j then S i else _).h (if i<j then P i else p):Nat):Int),(((if i<j then Q i else q.toNat):Nat):Int))
  by_cases c:i<j
  ·rw[if_pos (by omega),if_pos c,if_pos c,List.getElem?_append_left (by omega)]
   exact e3 i c
  ·have e:i=j:=by omega
   subst e
   rw[if_pos (by omega),if_neg c,if_neg c,List.getElem?_append_right (by omega),e2,Nat.sub_self,e1,hf.heldNat hp]
   show some (sd.held.getD p 0,q)=_
   congr 2
   omega
theorem Hist.exB {rs:List ao}{m:Nat}{sd:Std}{p:Nat}{q:Int}(hrw:RsW rs m)(hf:Wf rs m sd)(hp:p<m)(h0:0≤q)(h1:q<rs.length):ExB (au rs q) sd p:=by
 have z:=hf.sz hrw
 have n8:=hrw.n8
 have hm:=dW h0 h1
 have hrb:=hrw.big _ hm
 exact⟨hf.big hrw,hrb.1,hrb.2,by rw[hf.wl];exact hp,by rw[hf.hl,hf.wl],fun w hw=>by rw[hf.ww w hw];omega,by rw[hf.tl];omega,fun w hw=>dG (dot_le n8 (hrw.len _ hm) (hf.ww w hw) (hrw.eb _ hm) (z.w w hw)) (by decide),dG (pC hf hrw hm) (by decide),z.b0,z.b9⟩
def p5:aR:=fun ds R=>∃ (rs:List ao) (goal:List Int) (m:Nat) (sd0:Std),ds=[.tup (rs.map av),.tup ((cf rs.length).map D.int),.tup (goal.map D.int),bY sd0]∧RsW rs m∧Wf rs m sd0∧gY goal m∧nY rs m ∧
 ∀ sd st j d,Hist rs goal m sd0 sd st j→Wf rs m sd→End rs goal sd d→R (.tup [.tup (st.map aN),bY sd,d])
theorem xw {n:Nat}{f:Addr}{fd:FuncData}(F:Fun K "walk_on" "walk_on" kF f fd){C_Stand:Addr}(T_Stand:TxtStand K mg C_Stand)(uz:Cl P w K mg base n "next_step" ["rows","numbers","goal","stand"] p8)(DQ:Cl P w K mg base n "exchanged" ["rows","stand","place","number"] rT)(aG:mg "tuple"=none):FnOk P w K mg base aS (n+1) f fd ["rows","numbers","goal","stand"] (aZ K p5):=by
 refine F.okD sc_walk_on (fun ds R h=>?_) (fun cdv A outer s H E ds R hr h=>?_)
 ·obtain⟨rs,goal,m,sd0,rfl,_⟩:=h;rfl
 obtain⟨rs,goal,m,sd0,rfl,hrw,hf0,hg,hfew,q⟩:=h
 refine⟨_,(ax (gA (i:=4) sc_walk_on.nd rfl (Or.inl rfl) (bC ag))
   (ax (aB (i:=5) sc_walk_on.nd rfl (Or.inl rfl) (aC uz hr rfl (aa (dv 0) (aa (dv 1) (aa (dv 2) (aa (dv 3) ag ab) ab) ab) ab) ab (ai ab (ai ab (ai ab ak)))))
   (ax (tH PassesOwn.never (bg (bI hr.units) (PD.q (ar (ae 5) (PD.q af) (fun _ _=>rfl))) (PD.q eY) (aO _)) (ax (fc 4 (aU (aa (ar (PD.q (c8 T_Stand.cl T_Stand.n_held T_Stand.ns (ae 3))) (PD.q (ar (ae 5) (PD.q af) (fun _ _=>rfl))) (fun _ _=>rfl)) (aa (ar (ae 5) (PD.q af) (fun _ _=>rfl)) ag aw) aw)) (fb bL) bL)
   (ax (aB (i:=3) sc_walk_on.nd rfl (Or.inl rfl) (aC DQ hr rfl (aa (dv 0) (aa (dv 3) (aa (ar (ae 5) (PD.q af) (fun _ _=>rfl)) (aa (ar (ae 5) (PD.q af) (fun _ _=>rfl)) ag aw) aw) ab) ab) ab (ai ab (ai aw (ai aw ak)))))
   (az (aB (i:=5) sc_walk_on.nd rfl (Or.inl rfl) (aC uz hr rfl (aa (dv 0) (aa (dv 1) (aa (dv 2) (aa (dv 3) ag ab) ab) ab) ab) ab (ai ab (ai ab (ai ab ak)))))))))
   (az (aH (aU (aa (bF bG rfl aG PyProof.Rows.boot_tuple (aI (ae 4) aM ab) ab ak) (aa (dv 3) (aa (dv 5) ag ab) ab) aE))))))),?_⟩
 refine⟨rs,goal,m,sd0,rfl,hrw,hf0,hg,fun d0 hN0=>?_⟩
 refine⟨fun k ρ=>∃ sd st j d,ρ=[some (.v (.tup (rs.map av))),some (.v (.tup ((cf rs.length).map D.int))),some (.v (.tup (goal.map D.int))),some (.v (bY sd)),some (.own (st.map aN)),some (.v d)]∧Hist rs goal m sd0 sd st j∧Wf rs m sd∧Nxt rs goal sd d∧k=8388608 - j,⟨_,sd0,[],0,d0,rfl,.start rs goal m sd0,hf0,hN0,rfl⟩,?_⟩
 rintro k ρ ⟨sd,st,j,d,rfl,hH,hf,hN,rfl⟩
 obtain⟨hj,hsl⟩:=hH.less hf0 hfew
 have hat:∀ p,p<m→bJ (sd.held.map D.int) (p:Int)=some (.int (sd.held.getD p 0)):=fun p hp=>bD (i:=p) (cS (by rw[hf.hl];exact hp)) rfl
 have more:∀ p qn,StepOk rs goal sd p qn→∀ d',Nxt rs goal (cq (au rs qn) sd p qn) d'→∃ k',k'<8388608 - j∧∃ sd' st' j' d'',[some (Sl.v (.tup (rs.map av))),some (.v (.tup ((cf rs.length).map D.int))),some (.v (.tup (goal.map D.int))),some (.v (bY (cq (au rs qn) sd p qn))),some (.own ((st++[(sd.held.getD p 0,qn)]).map aN)),some (.v d')]=[some (.v (.tup (rs.map av))),some (.v (.tup ((cf rs.length).map D.int))),some (.v (.tup (goal.map D.int))),some (.v (bY sd')),some (.own (st'.map aN)),some (.v d'')]∧Hist rs goal m sd0 sd' st' j'∧Wf rs m sd'∧Nxt rs goal sd' d''∧k'=8388608 - j':=fun p qn hs d' hN'=>by
  obtain⟨hf2,hH2⟩:=hH.step hs hrw hf hg
  exact⟨8388608 - (j+1),by omega,_,_,_,_,rfl,hH2,hf2,hN',rfl⟩
 have hsz:(st.map aN).length<sizeLine:=by rw[List.length_map,hsl];exact Nat.lt_of_lt_of_le hj (by decide)
 cases hN with
 | stepA qn p h1 h2 =>
  have hs:StepOk rs goal sd p qn:=.inl ⟨h1,h2⟩
  obtain⟨hp,⟨q0,q1⟩,_,_⟩:=hs.all hrw hf hg
  obtain⟨hf2,hH2⟩:=hH.step hs hrw hf hg
  refine⟨_,rfl,fun _=>?_,fun h=>(by cases h)⟩
  refine⟨rfl,_,ju sd,_,rfl,_,hat p hp,_,rfl,hsz,_,cN aN st (sd.held.getD p 0,qn),?_⟩
  refine⟨_,rfl,_,rfl,rs,sd,p,qn,rfl,⟨q0,q1⟩,Hist.exB hrw hf hp q0 q1,?_⟩
  exact⟨rs,goal,m,_,rfl,hrw,hf2,hg,fun d' hN'=>more p qn hs d' hN'⟩
 | stepB qn p h1 h2 h3 =>
  have hs:StepOk rs goal sd p qn:=.inr ⟨h1,h2,h3⟩
  obtain⟨hp,⟨q0,q1⟩,_,_⟩:=hs.all hrw hf hg
  obtain⟨hf2,hH2⟩:=hH.step hs hrw hf hg
  refine⟨_,rfl,fun _=>?_,fun h=>(by cases h)⟩
  refine⟨rfl,_,ju sd,_,rfl,_,hat p hp,_,rfl,hsz,_,cN aN st (sd.held.getD p 0,qn),?_⟩
  refine⟨_,rfl,_,rfl,rs,sd,p,qn,rfl,⟨q0,q1⟩,Hist.exB hrw hf hp q0 q1,?_⟩
  exact⟨rs,goal,m,_,rfl,hrw,hf2,hg,fun d' hN'=>more p qn hs d' hN'⟩
 | non qn qs h1 h2 h3 h4 =>
  refine⟨_,rfl,fun h=>(by cases h),fun _=>?_⟩
  exact q sd st j _ hH hf (.non qn qs h1 h2 h3 h4)
 | best qs h1 h2 h3 h4 =>
  refine⟨_,rfl,fun h=>(by cases h),fun _=>?_⟩
  exact q sd st j _ hH hf (.best qs h1 h2 h3 h4)
 | endl p h1 h2 h3 =>
  refine⟨_,rfl,fun h=>(by cases h),fun _=>?_⟩
  exact q sd st j _ hH hf (.endl p h1 h2 h3)
theorem vE {n M:Nat}{a:Wk.Mx}{B:Nat→Int}{S T:Wk.Sd}(o:Wk.Ok n a B M S)(hh:∀ k,k<n→T.h k=S.h k)(hW:∀ k i,k<n→i<n→T.W k i=S.W k i)(hx:∀ i,i<n→T.x i=S.x i)(hb:T.b=S.b):Wk.Ok n a B M T:=by
 obtain⟨e,he,h1,h2⟩:=o.eps
 have ed:Wk.det n (fun k=>a (T.h k))=Wk.det n (fun k=>a (S.h k)):=Wk.det_congr fun i j hi _=>by show a (T.h i) j=a (S.h i) j;rw[hh i hi]
 have ec:∀ k j,Wk.co n (fun k=>a (T.h k)) k j=Wk.co n (fun k=>a (S.h k)) k j:=fun k j=>Wk.det_congr fun i l hi _=>by
  unfold Wk.up
  split
  ·rfl
  ·show a (T.h i) l=a (S.h i) l;rw[hh i hi]
 refine⟨by rw[hb];exact o.pos,fun k hk=>by rw[hh k hk];exact o.lt k hk,⟨e,he,by rw[hb,ed];exact h1,fun k j hk hj=>by rw[hW k j hk hj,ec];exact h2 k j hk hj⟩,fun i j hi hj=>?_,fun i hi=>?_⟩
 ·rw[hb,← o.lf i j hi hj]
  exact Wk.sm_congr fun k hk=>by rw[hW k i hk hi,hh k hk]
 ·rw[hx i hi,o.cor i hi]
  exact Wk.sm_congr fun k hk=>by rw[hW k i hk hi,hh k hk]
def uk (rs:List ao)(m:Nat):Prop:=∀ k:Nat,k<m→(au rs (k:Int)).1=dn m k
theorem kz {α β:Type}(f:α→β)(g:Nat→α){n k:Nat}{d:β}(h:k<n):((List.range n).map fun i=>f (g i)).getD k d=f (g k):=by
 rw[List.getD_eq_getElem?_getD,List.getElem?_map,List.getElem?_range h]
 rfl
theorem rR {m k j:Nat}(hj:j<m):(dn m k).getD j 0=Wk.un k j:=by
 unfold dn Wk.un
 exact kz (fun x:Int=>x) (fun o=>if o=k then (1:Int) else 0) hj
theorem ux (m k:Nat):(dn m k).length=m:=by unfold dn;rw[List.length_map,List.length_range]
theorem Ci {rs:List ao}{m:Nat}(hr:RsW rs m)(hu:uk rs m):Wf rs m (gU rs m):=by
 refine⟨by show ((List.range m).map _).length=m;rw[List.length_map,List.length_range],fun k hk=>?_,by show ((List.range m).map _).length=m;rw[List.length_map,List.length_range],fun w hw=>?_,by show ((List.range m).map _).length=m;rw[List.length_map,List.length_range],?_⟩
 ·obtain⟨i,_,rfl⟩:=List.mem_map.mp (show k∈(List.range m).map _ from hk)
  omega
 ·obtain⟨i,_,rfl⟩:=List.mem_map.mp (show w∈(List.range m).map _ from hw)
  exact ux m i
 ·refine vE (Wk.ok_start (n:=m) (M:=rs.length) (a:=aL rs) (B:=BL rs) hr.nM fun k j hk hj=>?_) (fun k hk=>?_) (fun k i hk hi=>?_) (fun i hi=>?_) rfl
  ·unfold aL
   rw[hu k hk]
   exact rR hj
  ·show (((List.range m).map fun (i:Nat)=>(i:Int)).getD k 0).toNat=k
   rw[kz (fun x:Int=>x) (fun i=>(i:Int)) hk]
   omega
  ·show (((List.range m).map fun k=>dn m k).getD k []).getD i 0=Wk.un k i
   rw[kz (fun x:List Int=>x) (fun i=>dn m i) hk]
   exact rR hi
  ·show ((List.range m).map fun (k:Nat)=>(au rs (k:Int)).2).getD i 0=BL rs i
   exact kz (fun x:Int=>x) (fun i=>(au rs (i:Int)).2) hi
structure FirstOk (rs:List ao)(goal:List Int)(m:Nat):Prop where
 rw_:RsW rs m
 gw:gY goal m
 few:nY rs m
 un:uk rs m
def ro:aR:=fun ds R=>∃ (rs:List ao) (goal:List Int) (m:Nat),ds=[.tup (rs.map av),.tup (goal.map D.int)]∧FirstOk rs goal m∧∀ sd st j d,Hist rs goal m (gU rs m) sd st j→Wf rs m sd→End rs goal sd d→R (.tup [.tup (st.map aN),bY sd,d])
theorem ye {n:Nat}{f:Addr}{fd:FuncData}(F:Fun K "walk" "walk" jX f fd)(DW:Cl P w K mg base n "walk_on" ["rows","numbers","goal","stand"] p5)(DI:Cl P w K mg base n "beginning" ["rows","n"] qz)(aG:mg "tuple"=none)(bx:mg "range"=none)(bq:mg "len"=none):FnOk P w K mg base aS (n+1) f fd ["rows","goal"] (aZ K ro):=by
 refine F.okD Br (fun ds R h=>?_) (fun cdv A outer s H E ds R hr h=>?_)
 ·obtain⟨rs,goal,m,rfl,_⟩:=h;rfl
 obtain⟨rs,goal,m,rfl,ho,q⟩:=h
 refine⟨_,(az (aH (aC DW hr rfl (aa (dv 0) (aa (sN rfl rfl aG rfl bx (aa (bB cc rfl bq PySem.boot_len (aI (ae 0) aM ab) ab ak) ag aE)) (aa (dv 1) (aa (aC DI hr rfl (aa (dv 0) (aa (bB cc rfl bq PySem.boot_len (aI (ae 1) aM ab) ab ak) ag aE) ab) ab (ai aE ak)) ag aE) ab) aE) ab) ab (ai aE (ai ab (ai aE ak)))))),?_⟩
 have hM:=ho.rw_.M1
 have n8:=ho.rw_.n8
 have hgl:=ho.gw.1
 have hnl:(((rs.map av).length:Nat):Int)=(rs.length:Int):=by rw[List.length_map]
 have hgl2:(((goal.map D.int).length:Nat):Int)=(m:Int):=by rw[List.length_map,hgl]
 refine⟨⟨by omega,by omega⟩,?_⟩
 have e3:dM 0 (((rs.map av).length:Int)).toNat=(cf rs.length).map D.int:=by
  rw[hnl]
  unfold dM cf
  rw[List.map_map,Int.toNat_natCast]
  exact List.map_congr_left fun i _=>by show D.int (0+(i:Int))=D.int (i:Int);rw[Int.zero_add]
 refine⟨rs,m,by rw[← hgl2],by omega,ho.rw_.nM,?_⟩
 rw[e3]
 exact⟨rs,goal,m,gU rs m,rfl,ho.rw_,Ci ho.rw_ ho.un,ho.gw,ho.few,q⟩
def sM:aR:=fun ds R=>∃ (rs:List ao) (goal:List Int) (m:Nat),ds=[.tup (rs.map av),.tup (goal.map D.int)]∧FirstOk rs goal m∧∀ sd d,Wf rs m sd→End rs goal sd d→R d
theorem wo {n:Nat}{f:Addr}{fd:FuncData}(F:Fun K "first" "first" kW f fd)(DE:Cl P w K mg base n "walk" ["rows","goal"] ro):FnOk P w K mg base aS (n+1) f fd ["rows","goal"] (aZ K sM):=by
 refine F.okD yx (fun ds R h=>?_) (fun cdv A outer s H E ds R hr h=>?_)
 ·obtain⟨rs,goal,m,rfl,_⟩:=h;rfl
 obtain⟨rs,goal,m,rfl,ho,q⟩:=h
 refine⟨_,(az (aH (ar (PD.q (aC DE hr rfl (aa (dv 0) (aa (dv 1) ag ab) ab) ab (ai ab ak))) (PD.q af) (fun _ _=>rfl)))),?_⟩
 exact⟨rs,goal,m,rfl,ho,fun sd st j d _ hf he=>⟨_,rfl,q sd d hf he⟩⟩
def cQ (rs:List ao)(qs:List (Int × Int))(k:Nat):Int:=(qs.map fun s=>s.2*(au rs s.1).1.getD k 0).sum
def cH (rs:List ao)(qs:List (Int × Int)):Int:=(qs.map fun s=>s.2*(au rs s.1).2).sum
theorem kI {f:(Int × Int)→Int}{qs ps:List (Int × Int)}(h:qs.Perm ps):(qs.map f).sum=(ps.map f).sum:=by
 induction h with
 | nil=>rfl
 | cons x _ ih=>rw[List.map_cons,List.map_cons,List.sum_cons,List.sum_cons,ih]
 | swap x y l=>rw[List.map_cons,List.map_cons,List.map_cons,List.map_cons,List.sum_cons,List.sum_cons,List.sum_cons,List.sum_cons];omega
 | trans _ _ h1 h2=>exact h1.trans h2
theorem uj (c:Nat→Bool)(g:Nat→Int)(hz:∀ i,c i=false→g i=0):∀ n:Nat,(((List.range n).filter c).map g).sum=Wk.sm n g
 | 0=>rfl
 | n+1=>by
  rw[List.range_succ,List.filter_append,List.map_append,List.sum_append,uj c g hz n]
  show _=Wk.sm n g+g n
  congr 1
  cases e:c n with
  | true=>simp [e]
  | false=>simp [e,hz n e]
theorem mV {m:Int}:∀ {ns:List Int},(∀ x∈ns,m∣x)→m∣bA ns:=by
 have key:∀ (ns:List Int) (d:Int),m∣d→(∀ x∈ns,m∣x)→m∣ns.foldl (fun d x=>(Int.gcd x d:Int)) d:=by
  intro ns
  induction ns with
  | nil=>intro d hd _;exact hd
  | cons x r ih =>
   intro d hd hx
   exact ih _ (Int.dvd_coe_gcd (hx x List.mem_cons_self) hd) fun y hy=>hx y (List.mem_cons_of_mem _ hy)
 intro ns h
 exact key ns 0 (Int.dvd_zero m) h
theorem rK {l1 l2:List Int}(h:∀ x,x∈l1↔x∈l2):bA l1=bA l2:=by
 have a:bA l1∣bA l2:=mV fun x hx=>fR l1 x ((h x).mpr hx)
 have b:bA l2∣bA l1:=mV fun x hx=>fR l2 x ((h x).mp hx)
 exact Int.dvd_antisymm (iJ _) (iJ _) a b
theorem qF {l:List Int}(h:0<bA l):bA (l.map (· / bA l))=1:=by
 generalize hd:bA l=d at h
 have h1:d*bA (l.map (· / d))∣d:=by
  conv=>rhs;rw[← hd]
  refine mV fun x hx=>?_
  have hx1:d∣x:=by rw[← hd];exact fR l x hx
  have hx2:=fR (l.map (· / d)) (x / d) (List.mem_map.mpr ⟨x,hx,rfl⟩)
  have:=Int.mul_dvd_mul_left d hx2
  rw[Int.mul_ediv_cancel' hx1] at this
  exact this
 have nn:=iJ (l.map (· / d))
 generalize bA (l.map (· / d))=e at *
 obtain⟨k,hk⟩:=h1
 have h2:d*(e*k)=d*1:=by rw[← Int.mul_assoc,← hk,Int.mul_one]
 have h3:e*k=1:=Int.eq_of_mul_eq_mul_left (by omega) h2
 exact Int.eq_one_of_dvd_one nn ⟨k,h3.symm⟩
theorem nr (ts:List Int)(b:Int):bE ts b=bA (ts++[b]):=by
 unfold bE
 rw[pF,Int.gcd_comm]
theorem j5 {ts:List Int}{b:Int}(h:0<b):0<bE ts b:=by
 have:=Int.gcd_pos_of_ne_zero_right (bA ts) (show b≠0 by omega)
 unfold bE
 omega
theorem rh {ts:List Int}{b:Int}(h:0<b):bA (ts.map (· / bE ts b)++[b / bE ts b])=1:=by
 have h0:=j5 (ts:=ts) h
 have e:ts.map (· / bE ts b)++[b / bE ts b]=(ts++[b]).map (· / bA (ts++[b])):=by rw[← nr,List.map_append];rfl
 rw[e]
 exact qF (by rw[← nr];exact h0)
theorem mh {ts:List Int}{b:Int}:(∀ x∈ts,bE ts b∣x)∧bE ts b∣b:=by
 rw[nr]
 exact⟨fun x hx=>fR _ x (List.mem_append_left _ hx),fR _ b (List.mem_append_right _ (by simp))⟩
theorem jE {g:Int}:∀ {xs ys:List Int},(∀ y∈ys,g∣y)→aj xs (ys.map (· / g))*g=aj xs ys
 | [],_,_=>by show 0*g=0;omega
 | _::_,[],_=>by show 0*g=0;omega
 | x::xs,y::ys,h=>by
  have ih:=jE (xs:=xs) (ys:=ys) fun z hz=>h z (List.mem_cons_of_mem _ hz)
  have e1:aj (x::xs) ((y::ys).map (· / g))=x*(y / g)+aj xs (ys.map (· / g)):=by unfold aj;rw[List.map_cons,List.zipWith_cons_cons,List.sum_cons]
  have e2:aj (x::xs) (y::ys)=x*y+aj xs ys:=by unfold aj;rw[List.zipWith_cons_cons,List.sum_cons]
  rw[e1,e2,Int.add_mul,ih,Int.mul_assoc,Int.ediv_mul_cancel (h y List.mem_cons_self)]
theorem iX {x g:Int}(h:0<g)(hd:g∣x):(x / g).natAbs≤x.natAbs:=by
 obtain⟨k,rfl⟩:=hd
 rw[Int.mul_ediv_cancel_left k (by omega),Int.natAbs_mul]
 have:1≤g.natAbs:=by omega
 exact Nat.le_mul_of_pos_left _ this
theorem nD {x g:Int}(h:0<g)(hd:g∣x)(hx:0<x):1≤x / g:=by
 obtain⟨k,rfl⟩:=hd
 rw[Int.mul_ediv_cancel_left k (by omega)]
 rcases Int.lt_or_le 0 k with c | c
 ·omega
 ·have:=Wk.np (Int.le_of_lt h) c
  omega
theorem w8 {rs:List ao}{m:Nat}{sd:Std}(hrw:RsW rs m)(hf:Wf rs m sd)(hmet:fg rs sd) :
  (cu sd.tops sd.bot).1.length=m∧1≤(cu sd.tops sd.bot).2∧bA ((cu sd.tops sd.bot).1++[(cu sd.tops sd.bot).2])=1∧cD (cu sd.tops sd.bot)∧∀ r∈rs,r.1.length≤1000∧cD r∧r.2*(cu sd.tops sd.bot).2≤aj r.1 (cu sd.tops sd.bot).1:=by
 have z:=hf.sz hrw
 have g0:=j5 (ts:=sd.tops) z.b0
 obtain⟨gd,gb⟩:=mh (ts:=sd.tops) (b:=sd.bot)
 refine⟨by show (sd.tops.map _).length=m;rw[List.length_map];exact hf.tl,nD g0 gb z.b0,rh z.b0,⟨fun x hx=>?_,?_⟩,fun r hr=>?_⟩
 ·obtain⟨y,hy,rfl⟩:=List.mem_map.mp (show x∈sd.tops.map _ from hx)
  exact dG (Nat.le_trans (iX g0 (gd y hy)) (z.t y hy)) (by decide)
 ·exact dG (Nat.le_trans (iX g0 gb) z.b) (by decide)
 ·obtain⟨rl,rb⟩:=hrw.big r hr
  refine⟨rl,rb,?_⟩
  obtain⟨k,hk⟩:=List.getElem?_of_mem hr
  have hkl:=c9 hk
  have er:au rs (k:Int)=r:=by
   unfold au
   rw[List.getD_eq_getElem?_getD,Int.toNat_natCast,hk]
   rfl
  have h1:=hmet (k:Int) (by omega) (by omega)
  rw[er] at h1
  unfold bQ at h1
  have h2:=jE (xs:=r.1) gd
  have h3:r.2*(sd.bot / bE sd.tops sd.bot)*bE sd.tops sd.bot=r.2*sd.bot:=by rw[Int.mul_assoc,Int.ediv_mul_cancel gb]
  show r.2*(sd.bot / bE sd.tops sd.bot)≤aj r.1 (sd.tops.map (· / bE sd.tops sd.bot))
  refine Int.le_of_mul_le_mul_right ?_ g0
  rw[h2,h3]
  omega
theorem rA {α:Type}(f:α→Int)(g:Int):∀ l:List α,(l.map f).sum*g=(l.map fun x=>f x*g).sum
 | []=>by show 0*g=0;omega
 | x::l=>by rw[List.map_cons,List.map_cons,List.sum_cons,List.sum_cons,Int.add_mul,rA f g l]
theorem Dj {sd:Std}{gs:List Int}:∀ s∈de sd gs,∃ i,i<gs.length∧gs.getD i 0<0∧s=(sd.held.getD i 0,- gs.getD i 0):=fun s hs=>by
 obtain⟨i,hi,rfl⟩:=List.mem_map.mp (show s∈List.map _ _ from hs)
 obtain⟨h1,h2⟩:=List.mem_filter.mp hi
 exact⟨i,List.mem_range.mp h1,of_decide_eq_true h2,rfl⟩
theorem uK {sd:Std}{gs:List Int}(h:0<sd.bot):0<cB sd gs:=j5 h
theorem tK {sd:Std}{gs:List Int}:(∀ s∈de sd gs,cB sd gs∣s.2)∧cB sd gs∣sd.bot:=by
 obtain⟨a,b⟩:=mh (ts:=(de sd gs).map (·.2)) (b:=sd.bot)
 exact⟨fun s hs=>a s.2 (List.mem_map.mpr ⟨s,hs,rfl⟩),b⟩
theorem rC {sd:Std}{gs:List Int}(hg:∀ i,i<gs.length→gs.getD i 0≤0)(φ:Int→Int):((bK sd gs).map fun s=>s.2*φ s.1).sum*cB sd gs = - Wk.sm gs.length (fun i=>gs.getD i 0*φ (sd.held.getD i 0)):=by
 rw[rA]
 unfold bK
 rw[List.map_map]
 have e1:(de sd gs).map ((fun s:Int × Int=>s.2*φ s.1*cB sd gs) ∘ fun p=>(p.1,p.2 / cB sd gs))=(de sd gs).map fun p=>p.2*φ p.1:=by
  refine List.map_congr_left fun p hp=>?_
  show p.2 / cB sd gs*φ p.1*cB sd gs=p.2*φ p.1
  rw[Int.mul_assoc,Int.mul_comm (φ p.1),← Int.mul_assoc,Int.ediv_mul_cancel (tK.1 p hp)]
 rw[e1]
 unfold de
 rw[List.map_map]
 have e2:((fun p:Int × Int=>p.2*φ p.1) ∘ fun i=>(sd.held.getD i 0,- gs.getD i 0))=fun i=>- gs.getD i 0*φ (sd.held.getD i 0):=rfl
 rw[e2,uj]
 ·have:=Wk.sm_mul (-1) (fun i=>gs.getD i 0*φ (sd.held.getD i 0)) gs.length
  rw[show - Wk.sm gs.length (fun i=>gs.getD i 0*φ (sd.held.getD i 0)) = -1*Wk.sm gs.length (fun i=>gs.getD i 0*φ (sd.held.getD i 0)) by omega,← this]
  refine Wk.sm_congr fun i _=>?_
  show - gs.getD i 0*φ _ = -1*(gs.getD i 0*φ _)
  rw[Int.neg_mul]
  omega
 ·intro i hi
  have h1:=of_decide_eq_false hi
  have h2:gs.getD i 0=0:=by
   by_cases c:i<gs.length
   ·have:=hg i c
    omega
   ·exact eL (by omega)
  show - gs.getD i 0*_=0
  rw[h2]
  simp
structure ShOk (rs:List ao)(sd:Std)(es:List Int)(m:Nat):Prop where
 g0:0<cB sd (aK sd es)
 d1:1≤cU sd (aK sd es)
 dg:cU sd (aK sd es)*cB sd (aK sd es)=sd.bot
 row:∀ k,k<m→cQ rs (bK sd (aK sd es)) k*cB sd (aK sd es) = - (sd.bot*es.getD k 0)
 bnd:cH rs (bK sd (aK sd es))*cB sd (aK sd es) = - aj es sd.tops
 ok:∀ s∈bK sd (aK sd es),(0≤s.1∧s.1<rs.length)∧1≤s.2∧aW s.2
 one:bA ((bK sd (aK sd es)).map (·.2)++[cU sd (aK sd es)])=1
 dB:aW (cU sd (aK sd es))
theorem rV {rs:List ao}{m:Nat}{sd:Std}{es:List Int}(hrw:RsW rs m)(hf:Wf rs m sd)(hel:es.length=m)(heb:∀ x∈es,x.natAbs≤2 ^ 900)(hlg:Lg sd (aK sd es) none):ShOk rs sd es m:=by
 have z:=hf.sz hrw
 have g0:=uK (gs:=aK sd es) z.b0
 obtain⟨gw,gb⟩:=tK (sd:=sd) (gs:=aK sd es)
 have gl:(aK sd es).length=m:=by rw[dF,hf.wl]
 have hW:∀ i,i<m→(aK sd es).getD i 0=Wk.dt m (fun j=>es.getD j 0) ((aY sd).W i):=fun i hi=>by rw[gG (by rw[hf.wl];exact hi)];exact mP hf hel hi
 have hh:∀ i,i<m→au rs (sd.held.getD i 0)=au rs (((aY sd).h i:Nat):Int):=fun i hi=>by rw[hf.heldNat hi]
 have bp:=z.b0
 refine⟨g0,nD g0 gb z.b0,Int.ediv_mul_cancel gb,fun k hk=>?_,?_,fun s hs=>?_,?_,dG (Nat.le_trans (iX g0 gb) z.b) (by decide)⟩
 ·have h1:=rC (sd:=sd) hlg fun r=>(au rs r).1.getD k 0
  rw[gl] at h1
  show ((bK sd (aK sd es)).map fun s=>s.2*(au rs s.1).1.getD k 0).sum*_=_
  rw[h1]
  congr 1
  have h2:=hf.ok.row (fun j=>es.getD j 0) hk
  have e:(aY sd).b=sd.bot:=rfl
  rw[e] at h2
  rw[← h2]
  refine Wk.sm_congr fun i hi=>?_
  rw[hW i hi,hh i hi]
  rfl
 ·have h1:=rC (sd:=sd) hlg fun r=>(au rs r).2
  rw[gl] at h1
  show ((bK sd (aK sd es)).map fun s=>s.2*(au rs s.1).2).sum*_=_
  rw[h1]
  congr 1
  have h2:=hf.ok.comb (fun j=>es.getD j 0) (aY sd).x
  have h3:Wk.sm m (fun k=>Wk.dt m (fun j=>es.getD j 0) ((aY sd).W k)*Wk.dt m (aL rs ((aY sd).h k)) (aY sd).x)=sd.bot*Wk.sm m (fun i=>(aK sd es).getD i 0*(au rs (sd.held.getD i 0)).2):=by
   rw[← Wk.sm_mul]
   refine Wk.sm_congr fun i hi=>?_
   rw[hf.ok.corner hi,hW i hi,hh i hi]
   show _*(BL rs _*sd.bot)=sd.bot*(_*BL rs _)
   generalize Wk.dt m (fun j=>es.getD j 0) ((aY sd).W i)=x
   generalize BL rs ((aY sd).h i)=y
   rw[Int.mul_comm sd.bot,Int.mul_assoc]
  rw[h3] at h2
  have e:(aY sd).b=sd.bot:=rfl
  rw[e] at h2
  have h4:=Int.eq_of_mul_eq_mul_left (by omega) h2
  rw[← h4,eX hel hf.tl]
  rfl
 ·obtain⟨p,hp,rfl⟩:=List.mem_map.mp (show s∈List.map _ _ from hs)
  have hd:=gw p hp
  obtain⟨i,hi,hneg,rfl⟩:=Dj p hp
  rw[gl] at hi
  have e1:=hf.heldNat hi
  have e2:=hf.ok.lt i hi
  refine⟨⟨by show 0≤sd.held.getD i 0;omega,by show sd.held.getD i 0<_;omega⟩,nD g0 hd (by show 0 < - (aK sd es).getD i 0;omega),?_⟩
  refine dG (m:=900+7224+3) (Nat.le_trans (iX g0 hd) ?_) (by decide)
  show (- (aK sd es).getD i 0).natAbs≤_
  have hiw:i<sd.ways.length:=by rw[hf.wl];exact hi
  rw[Int.natAbs_neg,gG hiw]
  exact dot_le hrw.n8 hel (hf.ww _ (cA hiw)) heb (z.w _ (cA hiw))
 ·have:=rh (ts:=(de sd (aK sd es)).map (·.2)) z.b0
  have e:(bK sd (aK sd es)).map (·.2)=((de sd (aK sd es)).map (·.2)).map (· / bE ((de sd (aK sd es)).map (·.2)) sd.bot):=by
   unfold bK cB
   rw[List.map_map,List.map_map]
   rfl
  rw[e]
  exact this
structure NonOk (rs:List ao)(m:Nat)(qs:List (Int × Int)):Prop where
 pw:qs.Pairwise (fun a b=>a.1<b.1)
 ok:∀ s∈qs,(0≤s.1∧s.1<rs.length)∧1≤s.2∧aW s.2
 len:qs.length≤900
 row:∀ k,k<m→cQ rs qs k=0
 bnd:0<cH rs qs
 one:bA (qs.map (·.2))=1
structure PtOk (rs:List ao)(m:Nat)(p:ao):Prop where
 len:p.1.length=m
 one:1≤p.2
 low:bA (p.1++[p.2])=1
 big:cD p
 met:∀ r∈rs,r.1.length≤1000∧cD r∧r.2*p.2≤aj r.1 p.1
structure EndlOk (rs:List ao)(goal:List Int)(m:Nat)(p:ao)(ray:List Int):Prop where
 pt:PtOk rs m p
 len:ray.length=m
 big:∀ x∈ray,aW x
 one:bA ray=1
 grow:0<aj goal ray
 up:∀ r∈rs,0≤aj r.1 ray
structure BestOk (rs:List ao)(goal:List Int)(m:Nat)(p:ao)(qs:List (Int × Int))(d:Int):Prop where
 pt:PtOk rs m p
 pw:qs.Pairwise (fun a b=>a.1<b.1)
 ok:∀ s∈qs,(0≤s.1∧s.1<rs.length)∧1≤s.2∧aW s.2
 len:qs.length≤900
 d1:1≤d
 dB:aW d
 one:bA (qs.map (·.2)++[d])=1
 row:∀ k,k<m→cQ rs qs k = -d*goal.getD k 0
 bnd:cH rs qs*p.2 = -d*aj goal p.1
 tB:aW (cH rs qs)
 gB:aW (aj goal p.1)
theorem vA {x g:Int}(hg:0<g)(h:x*g=0):x=0:=by
 rcases Int.mul_eq_zero.mp h with h | h
 ·exact h
 ·omega
theorem sx {x g:Int}(hg:0<g):x.natAbs≤(x*g).natAbs:=by
 rw[Int.natAbs_mul]
 exact Nat.le_mul_of_pos_right _ (by omega)
theorem mj (rs:List ao)(qs:List (Int × Int))(s:Int × Int):(∀ k,cQ rs (qs++[s]) k=cQ rs qs k+s.2*(au rs s.1).1.getD k 0)∧cH rs (qs++[s])=cH rs qs+s.2*(au rs s.1).2:=by
 unfold cQ cH
 exact⟨fun k=>by rw[List.map_append,List.sum_append];simp,by rw[List.map_append,List.sum_append];simp⟩
theorem xU {rs:List ao}{m:Nat}{sd:Std}{q:Int}{qs:List (Int × Int)}(hrw:RsW rs m)(hf:Wf rs m sd)(hms:iv rs sd q)(hlg:Lg sd (aK sd (au rs q).1) none)(hp:qs.Perm (bK sd (aK sd (au rs q).1)++[(q,cU sd (aK sd (au rs q).1))]))(hw:qs.Pairwise (fun a b=>a.1<b.1)):NonOk rs m qs:=by
 obtain⟨⟨q0,q1⟩,hov,_⟩:=hms
 have hm:=dW q0 q1
 have S:=rV hrw hf (hrw.len _ hm) (hrw.eb _ hm) hlg
 have n8:=hrw.n8
 have tl:∀ k,cQ rs qs k=cQ rs (bK sd (aK sd (au rs q).1)) k+cU sd (aK sd (au rs q).1)*(au rs q).1.getD k 0:=fun k=>by
  rw[← (mj rs _ (q,_)).1]
  exact kI hp
 have tb:cH rs qs=cH rs (bK sd (aK sd (au rs q).1))+cU sd (aK sd (au rs q).1)*(au rs q).2:=by
  rw[← (mj rs _ (q,_)).2]
  exact kI hp
 have mem:∀ s∈qs,s∈bK sd (aK sd (au rs q).1)∨s=(q,cU sd (aK sd (au rs q).1)):=fun s hs=>(List.mem_append.mp (hp.mem_iff.mp hs)).imp id fun z=>by simpa using z
 refine⟨hw,fun s hs=>?_,?_,fun k hk=>?_,?_,?_⟩
 ·rcases mem s hs with h | rfl
  ·exact S.ok s h
  ·exact⟨⟨q0,q1⟩,S.d1,S.dB⟩
 ·rw[hp.length_eq,List.length_append]
  have:=iP sd (aK sd (au rs q).1)
  rw[dF,hf.wl] at this
  show _+1≤900
  omega
 ·refine vA S.g0 ?_
  rw[tl,Int.add_mul,S.row k hk,Int.mul_assoc,Int.mul_comm ((au rs q).1.getD k 0),← Int.mul_assoc,S.dg]
  omega
 ·have h1:cH rs qs*cB sd (aK sd (au rs q).1) = - bQ (au rs q) sd:=by
   rw[tb,Int.add_mul,S.bnd,Int.mul_assoc,Int.mul_comm (au rs q).2,← Int.mul_assoc,S.dg]
   unfold bQ
   rw[Int.mul_comm (au rs q).2]
   omega
  rcases Int.lt_or_le 0 (cH rs qs) with c | c
  ·exact c
  ·have:=Wk.pn c (Int.le_of_lt S.g0)
   omega
 ·rw[← S.one]
  refine rK fun x=>?_
  constructor
  ·intro hx
   obtain⟨s,hs,rfl⟩:=List.mem_map.mp hx
   rcases mem s hs with h | rfl
   ·exact List.mem_append_left _ (List.mem_map.mpr ⟨s,h,rfl⟩)
   ·exact List.mem_append_right _ (List.mem_singleton.mpr rfl)
  ·intro hx
   rcases List.mem_append.mp hx with h | h
   ·obtain⟨s,hs,rfl⟩:=List.mem_map.mp h
    exact List.mem_map.mpr ⟨s,hp.mem_iff.mpr (List.mem_append_left _ hs),rfl⟩
   ·have:x=cU sd (aK sd (au rs q).1):=by simpa using h
    exact List.mem_map.mpr ⟨(q,cU sd (aK sd (au rs q).1)),hp.mem_iff.mpr (List.mem_append_right _ (List.mem_singleton.mpr rfl)),this.symm⟩
theorem tI {rs:List ao}{m:Nat}{sd:Std}(hrw:RsW rs m)(hf:Wf rs m sd)(hmet:fg rs sd):PtOk rs m (cu sd.tops sd.bot):=by
 obtain⟨a,b,c,d,e⟩:=w8 hrw hf hmet
 exact⟨a,b,c,d,e⟩
theorem B7 {rs:List ao}{goal:List Int}{m:Nat}{sd:Std}{qs:List (Int × Int)}(hrw:RsW rs m)(hf:Wf rs m sd)(hg:gY goal m)(hmet:fg rs sd)(hlg:Lg sd (aK sd goal) none)(hp:qs.Perm (bK sd (aK sd goal)))(hw:qs.Pairwise (fun a b=>a.1<b.1)):BestOk rs goal m (cu sd.tops sd.bot) qs (cU sd (aK sd goal)):=by
 have S:=rV hrw hf hg.1 hg.2 hlg
 have n8:=hrw.n8
 have z:=hf.sz hrw
 have g0:=j5 (ts:=sd.tops) z.b0
 obtain⟨gd,gb⟩:=mh (ts:=sd.tops) (b:=sd.bot)
 have hdd:aj goal (cu sd.tops sd.bot).1*bE sd.tops sd.bot=aj goal sd.tops:=jE gd
 have hbb:(cu sd.tops sd.bot).2*bE sd.tops sd.bot=sd.bot:=Int.ediv_mul_cancel gb
 have tl:∀ k,cQ rs qs k=cQ rs (bK sd (aK sd goal)) k:=fun k=>kI hp
 have tb:cH rs qs=cH rs (bK sd (aK sd goal)):=kI hp
 have hdt:aW (aj goal sd.tops):=dG (dot_le n8 hg.1 hf.tl hg.2 z.t) (by decide)
 refine⟨tI hrw hf hmet,hw,fun s hs=>S.ok s (hp.mem_iff.mp hs),?_,S.d1,S.dB,?_,fun k hk=>?_,?_,?_,?_⟩
 ·rw[hp.length_eq]
  have:=iP sd (aK sd goal)
  rw[dF,hf.wl] at this
  omega
 ·rw[← S.one]
  refine rK fun x=>?_
  have e:∀ y,y∈qs.map (·.2)↔y∈(bK sd (aK sd goal)).map (·.2):=fun y=>(hp.map (·.2)).mem_iff
  rw[List.mem_append,List.mem_append,e x]
 ·refine Int.eq_of_mul_eq_mul_right (a:=cB sd (aK sd goal)) (by have:=S.g0;omega) ?_
  rw[tl,S.row k hk,Int.mul_assoc,Int.mul_comm (goal.getD k 0),← Int.mul_assoc,Int.neg_mul,S.dg,Int.neg_mul]
 ·refine Int.eq_of_mul_eq_mul_right (a:=cB sd (aK sd goal)*bE sd.tops sd.bot) (by have:=Int.mul_pos S.g0 g0;omega) ?_
  have h1:=S.bnd
  rw[← tb] at h1
  have e1:cH rs qs*(cu sd.tops sd.bot).2*(cB sd (aK sd goal)*bE sd.tops sd.bot)=(cH rs qs*cB sd (aK sd goal))*((cu sd.tops sd.bot).2*bE sd.tops sd.bot):=by
   generalize cH rs qs=x;generalize (cu sd.tops sd.bot).2=y;generalize cB sd (aK sd goal)=u;generalize bE sd.tops sd.bot=v
   grind
  have e2:-cU sd (aK sd goal)*aj goal (cu sd.tops sd.bot).1*(cB sd (aK sd goal)*bE sd.tops sd.bot) = -(cU sd (aK sd goal)*cB sd (aK sd goal))*(aj goal (cu sd.tops sd.bot).1*bE sd.tops sd.bot):=by
   generalize cU sd (aK sd goal)=x;generalize aj goal (cu sd.tops sd.bot).1=y;generalize cB sd (aK sd goal)=u;generalize bE sd.tops sd.bot=v
   grind
  rw[e1,e2,h1,hbb,S.dg,hdd]
  rw[Int.neg_mul,Int.neg_mul,Int.mul_comm]
 ·have h1:=S.bnd
  rw[← tb] at h1
  have h2:=sx (x:=cH rs qs) S.g0
  rw[h1,Int.natAbs_neg] at h2
  exact Nat.lt_of_le_of_lt h2 hdt
 ·have h2:=sx (x:=aj goal (cu sd.tops sd.bot).1) g0
  rw[hdd] at h2
  exact Nat.lt_of_le_of_lt h2 hdt
theorem A9 {rs:List ao}{goal:List Int}{m:Nat}{sd:Std}{p:Nat}(hrw:RsW rs m)(hf:Wf rs m sd)(hg:gY goal m)(hmet:fg rs sd)(hlg:Lg sd (aK sd goal) (some p))(hst:Stop rs (cf rs.length) sd (sd.ways.getD p []) rs.length none):EndlOk rs goal m (cu sd.tops sd.bot) ((sd.ways.getD p []).map (· / bA (sd.ways.getD p []))):=by
 have z:=hf.sz hrw
 obtain⟨hp1,hp2,_⟩:=hlg
 have hpl:p<sd.ways.length:=by rw[dF] at hp1;exact hp1
 rw[gG hpl] at hp2
 have hwp:=cA (d:=[]) hpl
 have g0:0<bA (sd.ways.getD p []):=by
  have h1:=iJ (sd.ways.getD p [])
  by_cases c:bA (sd.ways.getD p [])=0
  ·have:=pX c
   rw[rM this] at hp2
   omega
  ·omega
 have gd:=fR (sd.ways.getD p [])
 have pos:∀ {x:Int},0<x*bA (sd.ways.getD p [])→0<x:=fun {x} h=>by
  rcases Int.lt_or_le 0 x with c | c
  ·exact c
  ·have:=Wk.pn c (Int.le_of_lt g0)
   omega
 have nn:∀ {x:Int},0≤x*bA (sd.ways.getD p [])→0≤x:=fun {x} h=>by
  rcases Int.lt_or_le x 0 with c | c
  ·have:=Int.mul_neg_of_neg_of_pos c g0
   omega
  ·exact c
 refine⟨tI hrw hf hmet,by rw[List.length_map];exact hf.ww _ hwp,fun x hx=>?_,qF g0,?_,fun r hr=>?_⟩
 ·obtain⟨y,hy,rfl⟩:=List.mem_map.mp hx
  exact dG (Nat.le_trans (iX g0 (gd y hy)) (z.w _ hwp y hy)) (by decide)
 ·refine pos ?_
  rw[jE gd]
  exact hp2
 ·refine nn ?_
  rw[jE gd]
  obtain⟨k,hk⟩:=List.getElem?_of_mem hr
  have hkl:=c9 hk
  have h1:=hst k (k:Int) hkl (kn hkl)
  unfold cm at h1
  have er:au rs (k:Int)=r:=by
   unfold au
   rw[List.getD_eq_getElem?_getD,Int.toNat_natCast,hk]
   rfl
  rw[er] at h1
  omega
def jM (rs:List ao)(x:List Int)(y:Int):Prop:=∀ r∈rs,r.2*y≤aj r.1 x
inductive Told (rs:List ao) (goal:List Int) (m:Nat):D→Prop
 | non (qs:List (Int × Int)):NonOk rs m qs→Told rs goal m (mU qs)
 | best (p:ao) (qs:List (Int × Int)) (d:Int):BestOk rs goal m p qs d→Told rs goal m (nC p qs d)
 | endl (p:ao) (ray:List Int):EndlOk rs goal m p ray→Told rs goal m (l6 p ray)
theorem Dw {rs:List ao}{goal:List Int}{m:Nat}{sd:Std}{d:D}(ho:FirstOk rs goal m)(hf:Wf rs m sd)(he:End rs goal sd d):Told rs goal m d:=by
 cases he with
 | non qn qs a1 a2 a3 a4=>exact .non qs (xU ho.rw_ hf a1 a2 a3 a4)
 | best qs a1 a2 a3 a4=>exact .best _ qs _ (B7 ho.rw_ hf ho.gw a1 a2 a3 a4)
 | endl p a1 a2 a3=>exact .endl _ _ (A9 ho.rw_ hf ho.gw a1 a2 a3)
def px:aR:=fun ds R=>∃ (r p:ao),ds=[av r,av p]∧r.1.length≤1000∧cD r∧cD p∧R (.bl (decide (aj r.1 p.1≥r.2*p.2)))
theorem zN {n:Nat}{f:Addr}{fd:FuncData}(F:Fun K "passes" "passes" kv f fd)(eT:Cl P w K mg base n "left" ["entries","spot"] g9):FnOk P w K mg base aS (n+1) f fd ["row","point"] (aZ K px):=by
 refine F.okD va (fun ds R h=>?_) (fun cdv A outer s H E ds R hr h=>?_)
 ·obtain⟨r,p,rfl,_⟩:=h;rfl
 obtain⟨r,p,rfl,hl,hw,hp,q⟩:=h
 refine⟨_,(az (aH (cZ kZ (PD.q (aC eT hr rfl (aa (ar (ae 0) (PD.q af) (fun _ _=>rfl)) (aa (ar (ae 1) (PD.q af) (fun _ _=>rfl)) ag aw) aw) aw (ai aw ak))) (PD.q (ah aQ (PD.q (ar (ae 0) (PD.q af) (fun _ _=>rfl))) (PD.q (ar (ae 1) (PD.q af) (fun _ _=>rfl))))) (aO _)))),?_⟩
 exact⟨_,rfl,_,rfl,r.1,p.1,rfl,hl,hw.1,hp.1,_,rfl,_,rfl,cF hw.2 hp.2,q⟩
def qb:aR:=fun ds R=>∃ (rs:List ao) (k:Int),ds=[.tup (rs.map av),.int k]∧R (.bl (decide (0≤k∧k<rs.length)))
theorem AJ {n:Nat}{f:Addr}{fd:FuncData}(F:Fun K "is_row_number" "is_row_number" ko f fd)(bq:mg "len"=none):FnOk P w K mg base aS (n+1) f fd ["rows","number"] (aZ K qb):=by
 refine F.okD Ab (fun ds R h=>?_) (fun cdv A outer s H E ds R hr h=>?_)
 ·obtain⟨rs,k,rfl,_⟩:=h;rfl
 obtain⟨rs,k,rfl,q⟩:=h
 refine⟨_,(az (aH (kP (cZ kZ (ae 1) (PD.q af) (aO _)) (iz (cZ dA (ae 1) (PD.q (bB cc rfl bq PySem.boot_len (aI (ae 0) aM ab) ab ak)) (aO _)))))),?_⟩
 refine⟨fun h=>?_,fun h=>?_⟩
 ·have h':=dP h
  refine dq q ?_
  rw[List.length_map]
  by_cases c:k<(rs.length:Int)
  ·rw[decide_eq_true c,decide_eq_true ⟨h',c⟩]
  ·rw[decide_eq_false c,decide_eq_false fun z=>c z.2]
 ·have h':=of_decide_eq_false h
  exact dq q (decide_eq_false fun z=>h' z.1).symm
def l9:aR:=fun ds R=>∃ (rs:List ao) (shs:List (Int × Int)) (n:Nat),ds=[.tup (rs.map av),.tup (shs.map aN),.int (n:Int)]∧n≤500∧(∀ r∈rs,cD r)∧(∀ s∈shs,aW s.2)∧(∀ r∈rs,r.1.length=n) ∧
 (bS rs shs n=none→R .non)∧∀ a,bS rs shs n=some a→a.1.length=n→R (av a)
theorem CN {n:Nat}{f:Addr}{fd:FuncData}(F:Fun K "shares_sum" "shares_sum" jL f fd)(D6:Cl P w K mg base n "is_row_number" ["rows","number"] qb)(aG:mg "tuple"=none)(cy:mg "zip"=none):FnOk P w K mg base aS (n+1) f fd ["rows","shares","n"] (aZ K l9):=by
 refine F.okD sc_shares_sum (fun ds R h=>?_) (fun cdv A outer s H E ds R hr h=>?_)
 ·obtain⟨rs,shs,n,rfl,_⟩:=h;rfl
 obtain⟨rs,shs,n,rfl,hn,hfr,hfs,hlen,q0,q1⟩:=h
 refine⟨_,(ax (aB (i:=3) sc_shares_sum.nd rfl (Or.inl rfl) (ah aQ (PD.q (PF.d (bC (aa af ag aA)))) (ae 2)))
   (ax (aB (i:=4) sc_shares_sum.nd rfl (Or.inl rfl) af)
   (ax (eK PassesOwn.never rfl (bO (dv 1)) (cg (n:=2) rfl (bh (aD (i:=5) sc_shares_sum.nd rfl (Or.inl rfl)) (bh (aD (i:=6) sc_shares_sum.nd rfl (Or.inr rfl)) bZ))) (bz (bj (PWD.td (iB (jy (dO (PD.q (aC D6 hr rfl (aa (dv 0) (aa (dv 5) ag ab) ab) ab (ai ab ak))) (fun _=>rfl))) (jm (bg dA (ae 6) (PD.q af) (aO _))))) (az (aH e9)) bt)
   (ax (aB (i:=7) sc_shares_sum.nd rfl (Or.inl rfl) (ar (ae 0) (ae 5) (fun _ _=>rfl)))
   (ax (gy (i:=3) (k:=2) (N':=["total","entry","weight"]) (cap:=[none,none,some 6]) rfl sc_shares_sum.nd rfl (Or.inl rfl) (.ok (show bu ["rows","shares","n","entries","bound","number","weight","row"] (ay jL) _ ["total","entry","weight"] [none,none,some 6]=true by decide +kernel)) (by decide +kernel) (fo (n:=2) (cY (bf (by decide)) (cY (bf (by decide)) fi))) (fN rfl cy (aa (dv 3) (aa (ar (ae 7) (PD.q af) (fun _ _=>rfl)) ag aw) ab)) (fun _ _ _ _ _=>(cg (n:=2) rfl (bh (aD (i:=0) (show List.Nodup (["total","entry","weight"]:List Str) by decide +kernel) rfl (Or.inl rfl)) (bh (aD (i:=1) (show List.Nodup (["total","entry","weight"]:List Str) by decide +kernel) rfl (Or.inl rfl)) bZ)))) (fun _ _ _ _ _=>(ah aF (ae 0) (PD.q (ah aQ (ae 2) (ae 1))))))
   (az (aB (i:=4) sc_shares_sum.nd rfl (Or.inl rfl) (ah aF (ae 4) (PD.q (ah aQ (ae 6) (PD.q (ar (ae 7) (PD.q af) (fun _ _=>rfl))))))))))))
   (az (aH (aU (aa (bF bG rfl aG PyProof.Rows.boot_tuple (aI (ae 3) aM ab) ab ak) (aa (dv 4) ag ab) aE))))))),?_⟩
 refine⟨⟨by omega,by omega,?_⟩,(List.replicate n (0:Int)).map D.int,?_,fun i ρ=>∃ (a:ao) (u5 u6 u7:Option Sl),ρ=[some (.v (.tup (rs.map av))),some (.v (.tup (shs.map aN))),some (.v (.int n)),some (.v (.lst (a.1.map D.int))),some (.v (.int a.2)),u5,u6,u7]∧a.1.length=n∧bS rs (shs.take i) n=some a,⟨(List.replicate n 0,0),_,_,_,rfl,List.length_replicate,rfl⟩,?_,?_⟩
 ·rw[show [D.int 0].length=1 from rfl];exact small (by omega)
 ·rw[dz,Int.toNat_natCast]
 ·rintro i d ρ hd ⟨a,u5,u6,u7,rfl,hal,hsum⟩
  obtain⟨⟨k,w⟩,rfl,hs⟩:=fv hd
  have hw:=hfs _ (List.mem_of_getElem? hs)
  refine⟨rfl,fun ρ=>dk rs (k,w)∧ρ=[some (.v (.tup (rs.map av))),some (.v (.tup (shs.map aN))),some (.v (.int n)),some (.v (.lst (a.1.map D.int))),some (.v (.int a.2)),some (.v (.int k)),some (.v (.int w)),u7],?_,?_⟩
  ·refine⟨rs,k,rfl,?_⟩
   by_cases c:0≤k∧k<(rs.length:Int)
   ·rw[decide_eq_true c]
    refine⟨fun h=>ff h,fun _=>⟨fun h=>q0 (ip hs fun ok=>?_),fun h=>⟨⟨c,?_⟩,rfl⟩⟩⟩
    ·have h1:=ok.2
     have h2:=dP h
     simp only at h1
     omega
    ·have h2:=of_decide_eq_false h
     show 0≤w
     omega
   ·rw[decide_eq_false c]
    exact⟨fun _=>⟨fun _=>q0 (ip hs fun ok=>c ok.1),fun h=>tf h⟩,fun h=>tf h⟩
  rintro ρ ⟨ok,rfl⟩
  have k0:0≤k:=ok.1.1
  have k1:k<rs.length:=ok.1.2
  have hmem:=dW k0 k1
  have hrow:=hfr _ hmem
  have hrl:=hlen _ hmem
  refine⟨_,fW k0 k1,_,rfl,_,_,rfl,rfl,?_⟩
  refine fD (fun t e=>D.int (t+w*e)) (bc (by omega)) (fun t ht e he=>⟨rfl,cF hw (hrow.1 e he),rfl⟩) ?_
  have e4:List.zipWith (fun t e=>D.int (t+w*e)) a.1 (au rs k).1=(dh rs a (k,w)).1.map D.int:=by
   unfold dh
   rw[List.map_zipWith]
  rw[e4]
  refine⟨_,rfl,cF hw hrow.2,dh rs a (k,w),_,_,_,rfl,?_,mI hs hsum ok⟩
  unfold dh
  rw[List.length_zipWith,hal,hrl]
  exact Nat.min_self n
 ·rintro ρ ⟨a,u5,u6,u7,rfl,hal,hsum⟩
  rw[List.length_map,List.take_length] at hsum
  exact q1 a hsum hal
def hU (xs:List Int):Bool:=xs.all fun x=>decide (x=0)
theorem yO (x:Int):(x == 0)=decide (x=0):=by
 by_cases c:x=0
 ·rw[c];rfl
 ·rw[decide_eq_false c,beq_eq_false_iff_ne.mpr c]
def fu (rs:List ao)(n:Nat)(shs:List (Int × Int)):Bool:=match bS rs shs n with | none=>false | some a=>hU a.1 && decide (a.2>0)
def eN (rs:List ao)(goal ray:List Int):Bool:=if ray.length=goal.length then (rs.all fun r=>decide (aj r.1 ray≥0)) && decide (aj goal ray>0) else false
def cT (rs:List ao)(goal:List Int)(p:ao):Bool:=if p.2<1∨p.1.length≠goal.length then false else rs.all fun r=>decide (aj r.1 p.1≥r.2*p.2)
def eG (rs:List ao)(goal:List Int)(p:ao)(shs:List (Int × Int))(d:Int):Bool:=if d<1 then false else if cT rs goal p=true then (match bS rs shs goal.length with | none=>false | some a=>if a.1=goal.map (fun x=>-d*x) then decide (a.2*p.2 = -d*aj goal p.1) else false) else false
structure EndOk (rs:List ao)(goal:List Int):Prop where
 big:∀ r∈rs,cD r
 len:∀ r∈rs,r.1.length=goal.length
 size:goal.length≤500
 rows:rs.length≤900
 gbig:∀ x∈goal,aW x
theorem sV {xs ys:List Int}(h:(!((((xs.map D.int).length:Nat):Int) == (((ys.map D.int).length:Nat):Int)))=true):¬ xs.length=ys.length:=fun e=>by
 rw[List.length_map,List.length_map,e] at h
 simp at h
theorem pL {xs ys:List Int}(h:(!((((xs.map D.int).length:Nat):Int) == (((ys.map D.int).length:Nat):Int)))=false):xs.length=ys.length:=by
 rw[List.length_map,List.length_map] at h
 simp at h
 omega
def su:aR:=fun ds R=>∃ (rs:List ao) (goal:List Int) (shs:List (Int × Int)),ds=[.tup (rs.map av),.tup (goal.map D.int),.tup (shs.map aN)]∧EndOk rs goal∧(∀ s∈shs,aW s.2)∧R (.bl (fu rs goal.length shs))
theorem A7 {n:Nat}{f:Addr}{fd:FuncData}(F:Fun K "none_holds" "none_holds" jD f fd)(oG:Cl P w K mg base n "shares_sum" ["rows","shares","n"] l9)(bq:mg "len"=none)(eU:mg "all"=none):FnOk P w K mg base aS (n+1) f fd ["rows","goal","shares"] (aZ K su):=by
 refine F.okD sc_none_holds (fun ds R h=>?_) (fun cdv A outer s H E ds R hr h=>?_)
 ·obtain⟨rs,goal,shs,rfl,_⟩:=h;rfl
 obtain⟨rs,goal,shs,rfl,ok,hs,q⟩:=h
 refine⟨_,(ax (aB (i:=3) sc_none_holds.nd rfl (Or.inl rfl) (aC oG hr rfl (aa (dv 0) (aa (dv 2) (aa (bB cc rfl bq PySem.boot_len (aI (ae 1) aM ab) ab ak) ag aE) ab) ab) ab (ai ab (ai aE ak))))
   (bz (bj (bg gD (ae 3) (PD.q e9) (aO _)) (az (aH eu)) bt)
   (az (aH (kP (bB (kK rfl) rfl eU PyProof.Rows.boot_all (aI (PD.q (PF.d (bH (k:=1) (N':=["entry"]) (cap:=[none]) rfl (.ok (show bu ["rows","goal","shares","summed"] (ay jD) _ ["entry"] [none]=true by decide +kernel)) (by decide +kernel) (bf (by decide)) (bO (ar (ae 3) (PD.q af) (fun _ _=>rfl))) (fun _ _ _ _ _=>(aD (i:=0) (show List.Nodup (["entry"]:List Str) by decide +kernel) rfl (Or.inl rfl))) (fun _ _ _ _ _=>(cZ (bI hr.units) (ae 0) (PD.q af) (aO _)))))) aM aV) aV ak) (iz (cZ gq (PD.q (ar (ae 3) (PD.q af) (fun _ _=>rfl))) (PD.q af) (aO _)))))))),?_⟩
 refine⟨rs,shs,goal.length,by rw[List.length_map],ok.size,ok.big,hs,ok.len,fun e=>?_,fun a e hal=>?_⟩
 ·refine⟨fun _=>False,⟨fun _=>?_,fun h=>tf h⟩,fun _ h=>h.elim⟩
  exact dq q (by unfold fu;rw[e])
 ·refine⟨fun ρ=>ρ=[some (.v (.tup (rs.map av))),some (.v (.tup (goal.map D.int))),some (.v (.tup (shs.map aN))),some (.v (av a))],⟨fun h=>ff h,fun _=>rfl⟩,?_⟩
  rintro ρ rfl
  refine⟨_,rfl,?_⟩
  refine eM (fun x=>D.bl (decide (x=0))) (bc (by have:=ok.size;omega)) (fun x hx=>congrArg D.bl (yO x)) ?_
  refine⟨a.1.map fun x=>decide (x=0),by rw[List.map_map];rfl,?_⟩
  have e1:fu rs goal.length shs=(hU a.1 && decide (a.2>0)):=by unfold fu;rw[e]
  refine⟨fun h=>⟨_,rfl,dq q ?_⟩,fun h=>dq q ?_⟩
  ·have h':hU a.1=true:=jl h
   rw[e1,h',Bool.true_and]
  ·have h':hU a.1=false:=jl h
   rw[e1,h',Bool.false_and]
def qY:aR:=fun ds R=>∃ (rs:List ao) (goal ray:List Int),ds=[.tup (rs.map av),.tup (goal.map D.int),.tup (ray.map D.int)]∧EndOk rs goal∧(∀ x∈ray,aW x)∧R (.bl (eN rs goal ray))
theorem Cv {n:Nat}{f:Addr}{fd:FuncData}(F:Fun K "is_ray" "is_ray" jK f fd)(eT:Cl P w K mg base n "left" ["entries","spot"] g9)(bq:mg "len"=none)(eU:mg "all"=none):FnOk P w K mg base aS (n+1) f fd ["rows","goal","ray"] (aZ K qY):=by
 refine F.okD C9 (fun ds R h=>?_) (fun cdv A outer s H E ds R hr h=>?_)
 ·obtain⟨rs,goal,ray,rfl,_⟩:=h;rfl
 obtain⟨rs,goal,ray,rfl,ok,hy,q⟩:=h
 refine⟨_,(bz (bj (bg (jb hr.units) (PD.q (bB cc rfl bq PySem.boot_len (aI (ae 2) aM ab) ab ak)) (PD.q (bB cc rfl bq PySem.boot_len (aI (ae 1) aM ab) ab ak)) (aO _)) (az (aH eu)) bt)
   (az (aH (kP (bB (kK rfl) rfl eU PyProof.Rows.boot_all (aI (PD.q (PF.d (bH (k:=1) (N':=["row","ray"]) (cap:=[none,some 2]) rfl (.ok (show bu ["rows","goal","ray"] (ay jK) _ ["row","ray"] [none,some 2]=true by decide +kernel)) (by decide +kernel) (bf (by decide)) (bO (dv 0)) (fun _ _ _ _ _=>(aD (i:=0) (show List.Nodup (["row","ray"]:List Str) by decide +kernel) rfl (Or.inl rfl))) (fun _ _ _ _ _=>(cZ kZ (PD.q (aC eT hr rfl (aa (ar (ae 0) (PD.q af) (fun _ _=>rfl)) (aa (dv 1) ag ab) aw) aw (ai ab ak))) (PD.q af) (aO _)))))) aM aV) aV ak) (iz (cZ gq (PD.q (aC eT hr rfl (aa (dv 1) (aa (dv 2) ag ab) ab) ab (ai ab ak))) (PD.q af) (aO _))))))),?_⟩
 refine⟨fun ρ=>ray.length=goal.length∧ρ=[some (.v (.tup (rs.map av))),some (.v (.tup (goal.map D.int))),some (.v (.tup (ray.map D.int)))],⟨fun h=>dq q ?_,fun h=>⟨?_,rfl⟩⟩,?_⟩
 ·have h':=sV h
  unfold eN
  rw[if_neg h']
 ·exact pL h
 rintro ρ ⟨hl,rfl⟩
 have e1:eN rs goal ray=((rs.all fun r=>decide (aj r.1 ray≥0)) && decide (aj goal ray>0)):=by unfold eN;rw[if_pos hl]
 refine eM (fun r=>D.bl (decide (aj r.1 ray≥0))) (bc (by have:=ok.rows;omega)) (fun r hr'=>⟨_,rfl,r.1,ray,rfl,by have:=ok.len r hr';have:=ok.size;omega,(ok.big r hr').1,hy,rfl⟩) ?_
 refine⟨rs.map fun r=>decide (aj r.1 ray≥0),by rw[List.map_map];rfl,fun h=>⟨goal,ray,rfl,by have:=ok.size;omega,ok.gbig,hy,dq q ?_⟩,fun h=>dq q ?_⟩
 ·rw[e1,jl h,Bool.true_and]
 ·rw[e1,jl h,Bool.false_and]
def nc:aR:=fun ds R=>∃ (rs:List ao) (goal:List Int) (p:ao),ds=[.tup (rs.map av),.tup (goal.map D.int),av p]∧EndOk rs goal∧cD p∧R (.bl (cT rs goal p))
theorem wV {n:Nat}{f:Addr}{fd:FuncData}(F:Fun K "is_point" "is_point" jq f fd)(DP:Cl P w K mg base n "passes" ["row","point"] px)(eU:mg "all"=none)(bq:mg "len"=none):FnOk P w K mg base aS (n+1) f fd ["rows","goal","point"] (aZ K nc):=by
 refine F.okD yG (fun ds R h=>?_) (fun cdv A outer s H E ds R hr h=>?_)
 ·obtain⟨rs,goal,p,rfl,_⟩:=h;rfl
 obtain⟨rs,goal,p,rfl,ok,hp,q⟩:=h
 refine⟨_,(bz (bj (PWD.td (iB (bg dA (PD.q (ar (ae 2) (PD.q af) (fun _ _=>rfl))) (PD.q af) (aO _)) (jm (bg (jb hr.units) (PD.q (bB cc rfl bq PySem.boot_len (aI (PD.q (ar (ae 2) (PD.q af) (fun _ _=>rfl))) aM aw) aw ak)) (PD.q (bB cc rfl bq PySem.boot_len (aI (ae 1) aM ab) ab ak)) (aO _))))) (az (aH eu)) bt)
   (az (aH (bB (kK rfl) rfl eU PyProof.Rows.boot_all (aI (PD.q (PF.d (bH (k:=1) (N':=["row","point"]) (cap:=[none,some 2]) rfl (.ok (show bu ["rows","goal","point"] (ay jq) _ ["row","point"] [none,some 2]=true by decide +kernel)) (by decide +kernel) (bf (by decide)) (bO (dv 0)) (fun _ _ _ _ _=>(aD (i:=0) (show List.Nodup (["row","point"]:List Str) by decide +kernel) rfl (Or.inl rfl))) (fun _ _ _ _ _=>(aC DP hr rfl (aa (dv 0) (aa (dv 1) ag ab) ab) ab (ai ab ak)))))) aM aV) aV ak)))),?_⟩
 refine⟨fun ρ=>(¬ (p.2<1∨p.1.length≠goal.length))∧ρ=[some (.v (.tup (rs.map av))),some (.v (.tup (goal.map D.int))),some (.v (av p))],⟨_,rfl,fun h=>⟨fun _=>dq q ?_,fun h=>tf h⟩,fun h=>⟨_,rfl,fun h2=>dq q ?_,fun h2=>⟨?_,rfl⟩⟩⟩,?_⟩
 ·unfold cT
  rw[if_pos (.inl (dP h))]
 ·unfold cT
  rw[if_pos (.inr (sV h2))]
 ·intro c
  rcases c with c | c
  ·exact of_decide_eq_false h c
  ·exact c (pL h2)
 rintro ρ ⟨hc,rfl⟩
 have e1:cT rs goal p=rs.all fun r=>decide (aj r.1 p.1≥r.2*p.2):=by unfold cT;rw[if_neg hc]
 refine eM (fun r=>D.bl (decide (aj r.1 p.1≥r.2*p.2))) (bc (by have:=ok.rows;omega)) (fun r hr'=>⟨r,p,rfl,by have:=ok.len r hr';have:=ok.size;omega,ok.big r hr',hp,rfl⟩) ?_
 refine⟨rs.map fun r=>decide (aj r.1 p.1≥r.2*p.2),by rw[List.map_map];rfl,dq q ?_⟩
 rw[e1]
 exact (jl rfl).symm
theorem pT (k:Nat):∀ (xs ys:List Int),eJ (dU (k+1)) (xs.map D.int) (ys.map D.int)=some (decide (xs=ys))
 | [],[]=>rfl
 | [],_::_=>rfl
 | _::_,[]=>rfl
 | x::xs,y::ys=>by
  show ((dU (k+1) (.int x) (.int y)).bind fun b=>(eJ (dU (k+1)) (xs.map D.int) (ys.map D.int)).map (b && ·))=_
  rw[pT k xs ys]
  show some ((x == y) && decide (xs=ys))=_
  congr 1
  by_cases c:x=y
  ·subst c;simp
  ·simp [c]
theorem Cm (xs ys:List Int):dU 40 (.tup (xs.map D.int)) (.tup (ys.map D.int))=some (decide (xs=ys)):=pT 38 xs ys
theorem AX {xs ys:List Int}{X Y:Prop}(k1:xs≠ys→X)(k2:xs=ys→Y):kO (.tup (xs.map D.int)) (.tup (ys.map D.int)) fun d=>match d with | .bl b=>(b=true→X)∧(b=false→Y) | _=>False:=by
 unfold kO
 rw[Cm]
 by_cases c:xs=ys
 ·rw[decide_eq_true c]
  exact⟨fun h=>ff h,fun _=>k2 c⟩
 ·rw[decide_eq_false c]
  exact⟨fun _=>k1 c,fun h=>tf h⟩
def pY:aR:=fun ds R=>∃ (rs:List ao) (goal:List Int) (p:ao) (shs:List (Int × Int)) (d:Int),ds=[.tup (rs.map av),.tup (goal.map D.int),av p,.tup (shs.map aN),.int d]∧EndOk rs goal∧cD p∧(∀ s∈shs,aW s.2)∧(∀ a,bS rs shs goal.length=some a→aW a.2)∧(aW d∧aW (aj goal p.1))∧R (.bl (eG rs goal p shs d))
theorem yk {n:Nat}{f:Addr}{fd:FuncData}(F:Fun K "best_holds" "best_holds" jo f fd)(oG:Cl P w K mg base n "shares_sum" ["rows","shares","n"] l9)(oJ:Cl P w K mg base n "is_point" ["rows","goal","point"] nc)(eT:Cl P w K mg base n "left" ["entries","spot"] g9)(bq:mg "len"=none)(aG:mg "tuple"=none):FnOk P w K mg base aS (n+1) f fd ["rows","goal","point","shares","divisor"] (aZ K pY):=by
 refine F.okD sc_best_holds (fun ds R h=>?_) (fun cdv A outer s H E ds R hr h=>?_)
 ·obtain⟨rs,goal,p,shs,d,rfl,_⟩:=h;rfl
 obtain⟨rs,goal,p,shs,d,rfl,ok,hp,hs,hsb,hd,q⟩:=h
 refine⟨_,(bz (bj (PWD.td (iB (bg dA (ae 4) (PD.q af) (aO _)) (jm (jy (dO (PD.q (aC oJ hr rfl (aa (dv 0) (aa (dv 1) (aa (dv 2) ag ab) ab) ab) ab (ai ab (ai ab ak)))) (fun _=>rfl)))))) (az (aH eu)) bt)
   (ax (aB (i:=5) sc_best_holds.nd rfl (Or.inl rfl) (aC oG hr rfl (aa (dv 0) (aa (dv 3) (aa (bB cc rfl bq PySem.boot_len (aI (ae 1) aM ab) ab ak) ag aE) ab) ab) ab (ai ab (ai aE ak))))
   (bz (bj (bg gD (ae 5) (PD.q e9) (aO _)) (az (aH eu)) bt)
   (bz (bj (bg (jb hr.units) (PD.q (ar (ae 5) (PD.q af) (fun _ _=>rfl))) (PD.q (bF bG rfl aG PyProof.Rows.boot_tuple (aI (PD.q (PF.d (bH (k:=1) (N':=["number","divisor"]) (cap:=[none,some 4]) rfl (.ok (show bu ["rows","goal","point","shares","divisor","summed"] (ay jo) _ ["number","divisor"] [none,some 4]=true by decide +kernel)) (by decide +kernel) (bf (by decide)) (bO (dv 1)) (fun _ _ _ _ _=>(aD (i:=0) (show List.Nodup (["number","divisor"]:List Str) by decide +kernel) rfl (Or.inl rfl))) (fun _ _ _ _ _=>(ah aQ (PD.q (dS (ae 1))) (ae 0)))))) aM aV) aV ak)) (aO _)) (az (aH eu)) bt)
   (az (aH (cZ (bI hr.units) (PD.q (ah aQ (PD.q (ar (ae 5) (PD.q af) (fun _ _=>rfl))) (PD.q (ar (ae 2) (PD.q af) (fun _ _=>rfl))))) (PD.q (ah aQ (PD.q (dS (ae 4))) (PD.q (aC eT hr rfl (aa (dv 1) (aa (ar (ae 2) (PD.q af) (fun _ _=>rfl)) ag aw) ab) ab (ai aw ak))))) (aO _)))))))),?_⟩
 have hnd:aW (-d):=by show (-d).natAbs<_;rw[Int.natAbs_neg];exact hd.1
 refine⟨fun ρ=>(¬ d<1∧cT rs goal p=true)∧ρ=[some (.v (.tup (rs.map av))),some (.v (.tup (goal.map D.int))),some (.v (av p)),some (.v (.tup (shs.map aN))),some (.v (.int d)),none],⟨fun h=>⟨fun _=>dq q ?_,fun h=>tf h⟩,fun h=>⟨rs,goal,p,rfl,ok,hp,?_⟩⟩,?_⟩
 ·unfold eG
  rw[if_pos (dP h)]
 ·have h':=of_decide_eq_false h
  cases c:cT rs goal p with
  | true=>exact⟨fun h=>ff h,fun _=>⟨⟨h',rfl⟩,rfl⟩⟩
  | false =>
   refine⟨fun _=>dq q ?_,fun h=>tf h⟩
   unfold eG
   rw[if_neg h',c,if_neg (by decide)]
 rintro ρ ⟨⟨hd1,hpt⟩,rfl⟩
 have e0:eG rs goal p shs d=(match bS rs shs goal.length with | none=>false | some a=>if a.1=goal.map (fun x=>-d*x) then decide (a.2*p.2 = -d*aj goal p.1) else false):=by
  unfold eG
  rw[if_neg hd1,if_pos hpt]
 refine⟨rs,shs,goal.length,by rw[List.length_map],ok.size,ok.big,hs,ok.len,fun e=>?_,fun a e hal=>?_⟩
 ·refine⟨fun _=>False,⟨fun _=>?_,fun h=>tf h⟩,fun _ h=>h.elim⟩
  exact dq q (by rw[e0,e])
 rw[e] at e0
 have e1:eG rs goal p shs d=(if a.1=goal.map (fun x=>-d*x) then decide (a.2*p.2 = -d*aj goal p.1) else false):=e0
 refine⟨fun ρ=>ρ=[some (.v (.tup (rs.map av))),some (.v (.tup (goal.map D.int))),some (.v (av p)),some (.v (.tup (shs.map aN))),some (.v (.int d)),some (.v (av a))],⟨fun h=>ff h,fun _=>rfl⟩,?_⟩
 rintro ρ rfl
 refine⟨fun ρ=>a.1=goal.map (fun x=>-d*x)∧ρ=[some (.v (.tup (rs.map av))),some (.v (.tup (goal.map D.int))),some (.v (av p)),some (.v (.tup (shs.map aN))),some (.v (.int d)),some (.v (av a))],⟨_,rfl,?_⟩,?_⟩
 ·refine du (fun x=>-d*x) (bc (by have:=ok.size;omega)) (fun x hx=>⟨cF hnd (ok.gbig x hx),rfl⟩) ?_
  exact AX (xs:=a.1) (ys:=goal.map fun x=>-d*x) (fun c=>dq q (by rw[e1,if_neg c])) fun c=>⟨c,rfl⟩
 rintro ρ ⟨hc,rfl⟩
 refine⟨_,rfl,_,rfl,cF (hsb a e) hp.2,_,rfl,goal,p.1,rfl,by have:=ok.size;omega,ok.gbig,hp.1,cF hnd hd.2,dq q ?_⟩
 rw[e1,if_pos hc]
 by_cases c:a.2*p.2 = -d*aj goal p.1
 ·rw[c];simp
 ·rw[decide_eq_false c,beq_eq_false_iff_ne.mpr c]
theorem y01:((("none":Str)) == (("none":Str)))=true:=by decide +kernel
theorem Af:((("endless":Str)) == (("none":Str)))=false:=by decide +kernel
theorem BH:((("best":Str)) == (("none":Str)))=false:=by decide +kernel
theorem y04:((("endless":Str)) == (("endless":Str)))=true:=by decide +kernel
theorem yL:((("best":Str)) == (("endless":Str)))=false:=by decide +kernel
inductive En where
 | no (shs:List (Int × Int))
 | endless (p:ao) (ray:List Int)
 | best (p:ao) (shs:List (Int × Int)) (d:Int)
def iQ:En→D
 | .no shs=>.tup [.str "none",.tup (shs.map aN)]
 | .endless p ray=>.tup [.str "endless",av p,.tup (ray.map D.int)]
 | .best p shs d=>.tup [.str "best",av p,.tup (shs.map aN),.int d]
def mR (rs:List ao)(goal:List Int):En→Prop
 | .no shs=>∀ s∈shs,aW s.2
 | .endless p ray=>cD p∧∀ x∈ray,aW x
 | .best p shs d=>cD p∧(∀ s∈shs,aW s.2)∧(∀ a,bS rs shs goal.length=some a→aW a.2)∧(aW d∧aW (aj goal p.1))
def oj (rs:List ao)(goal:List Int):En→Bool
 | .no shs=>fu rs goal.length shs
 | .endless p ray=>cT rs goal p && eN rs goal ray
 | .best p shs d=>eG rs goal p shs d
def nX:aR:=fun ds R=>∃ (rs:List ao) (goal:List Int) (e:En),ds=[.tup (rs.map av),.tup (goal.map D.int),iQ e]∧EndOk rs goal∧mR rs goal e∧R (.bl (oj rs goal e))
theorem uO {n:Nat}{f:Addr}{fd:FuncData}(F:Fun K "shares_hold" "shares_hold" kj f fd)(DF:Cl P w K mg base n "best_holds" ["rows","goal","point","shares","divisor"] pY)(DD:Cl P w K mg base n "none_holds" ["rows","goal","shares"] su)(oJ:Cl P w K mg base n "is_point" ["rows","goal","point"] nc)(DG:Cl P w K mg base n "is_ray" ["rows","goal","ray"] qY):FnOk P w K mg base aS (n+1) f fd ["rows","goal","told"] (aZ K nX):=by
 refine F.okD uI (fun ds R h=>?_) (fun cdv A outer s H E ds R hr h=>?_)
 ·obtain⟨rs,goal,e,rfl,_⟩:=h;rfl
 obtain⟨rs,goal,e,rfl,ok,he,q⟩:=h
 refine⟨_,(bz (bj (bg (bI hr.units) (PD.q (ar (ae 2) (PD.q af) (fun _ _=>rfl))) (PD.q eY) (aO _)) (az (aH (aC DD hr rfl (aa (dv 0) (aa (dv 1) (aa (ar (ae 2) (PD.q af) (fun _ _=>rfl)) ag aw) ab) ab) ab (ai ab (ai aw ak))))) bt)
   (bz (bj (bg (bI hr.units) (PD.q (ar (ae 2) (PD.q af) (fun _ _=>rfl))) (PD.q eY) (aO _)) (az (aH (kP (aC oJ hr rfl (aa (dv 0) (aa (dv 1) (aa (ar (ae 2) (PD.q af) (fun _ _=>rfl)) ag aw) ab) ab) ab (ai ab (ai aw ak))) (iz (aC DG hr rfl (aa (dv 0) (aa (dv 1) (aa (ar (ae 2) (PD.q af) (fun _ _=>rfl)) ag aw) ab) ab) ab (ai ab (ai aw ak))))))) bt)
   (az (aH (aC DF hr rfl (aa (dv 0) (aa (dv 1) (aa (ar (ae 2) (PD.q af) (fun _ _=>rfl)) (aa (ar (ae 2) (PD.q af) (fun _ _=>rfl)) (aa (ar (ae 2) (PD.q af) (fun _ _=>rfl)) ag aw) aw) aw) ab) ab) ab (ai ab (ai aw (ai aw (ai aw ak))))))))),?_⟩
 cases e with
 | no shs =>
  refine⟨fun _=>False,⟨_,rfl,fun _=>⟨_,rfl,rs,goal,shs,rfl,ok,he,q⟩,fun h=>tf (y01.symm.trans h)⟩,fun _ h=>h.elim⟩
 | endless p ray =>
  refine⟨fun ρ=>ρ=[some (.v (.tup (rs.map av))),some (.v (.tup (goal.map D.int))),some (.v (iQ (.endless p ray)))],⟨_,rfl,fun h=>tf (h.symm.trans Af),fun _=>rfl⟩,?_⟩
  rintro ρ rfl
  refine⟨fun _=>False,⟨_,rfl,fun _=>⟨_,rfl,rs,goal,p,rfl,ok,he.1,?_⟩,fun h=>tf (y04.symm.trans h)⟩,fun _ h=>h.elim⟩
  refine⟨fun h=>⟨_,rfl,rs,goal,ray,rfl,ok,he.2,dq q ?_⟩,fun h=>dq q ?_⟩
  ·show _=(cT rs goal p && eN rs goal ray)
   rw[h,Bool.true_and]
  ·show _=(cT rs goal p && eN rs goal ray)
   rw[h,Bool.false_and]
 | best p shs d =>
  refine⟨fun ρ=>ρ=[some (.v (.tup (rs.map av))),some (.v (.tup (goal.map D.int))),some (.v (iQ (.best p shs d)))],⟨_,rfl,fun h=>tf (h.symm.trans BH),fun _=>rfl⟩,?_⟩
  rintro ρ rfl
  refine⟨fun ρ=>ρ=[some (.v (.tup (rs.map av))),some (.v (.tup (goal.map D.int))),some (.v (iQ (.best p shs d)))],⟨_,rfl,fun h=>tf (h.symm.trans yL),fun _=>rfl⟩,?_⟩
  rintro ρ rfl
  exact⟨_,rfl,_,rfl,_,rfl,rs,goal,p,shs,d,rfl,ok,he.1,he.2.1,he.2.2.1,he.2.2.2,q⟩
abbrev AV (rs:List ao)(shs:List (Int × Int)):Prop:=(∀ r∈rs,(∀ x∈r.1,x.natAbs<2 ^ 60000)∧r.2.natAbs<2 ^ 60000)∧∀ s∈shs,s.2.natAbs<2 ^ 60000
def mr:aR:=fun ds R=>∃ (rs:List ao) (shs:List (Int × Int)) (n:Nat),ds=[.lst (rs.map av),.lst (shs.map aN),.int (n:Int)]∧n≤500∧AV rs shs∧(∀ r∈rs,r.1.length=n) ∧
 (bS rs shs n=none→R .non)∧∀ r,bS rs shs n=some r→r.1.length=n→R (.lst ((r.1++[r.2]).map D.int))
theorem yK (n:Nat):List.replicate (n+1) (0:Int)=List.replicate n 0++[0]:=by rw[List.replicate_succ']
theorem yz {n:Nat}{f:Addr}{fd:FuncData}(F:Fun K "_law_total" "_law_total" jj f fd)(oz:mg "list"=none)(bq:mg "len"=none)(cy:mg "zip"=none):FnOk P w K mg base aS (n+1) f fd ["_law_rows_here","_law_shares","_law_n"] (aZ K mr):=by
 refine F.okD sc__law_total (fun ds R h=>?_) (fun cdv A outer s H E ds R hr h=>?_)
 ·obtain⟨rs,shs,n,rfl,_⟩:=h;rfl
 obtain⟨rs,shs,n,rfl,hn,⟨hfr,hfs⟩,hlen,q0,q1⟩:=h
 refine⟨_,(ax (aB (i:=3) sc__law_total.nd rfl (Or.inl rfl) (ah aQ (PD.q (PF.d (bC (aa af ag aA)))) (PD.q (ah aF (ae 2) (PD.q af)))))
   (ax (eK PassesOwn.never rfl (bO (dv 1)) (cg (n:=2) rfl (bh (aD (i:=4) sc__law_total.nd rfl (Or.inl rfl)) (bh (aD (i:=5) sc__law_total.nd rfl (Or.inr rfl)) bZ))) (bz (bj (PWD.td (iB (bg dA (ae 4) (PD.q af) (aO _)) (iB (bg kZ (ae 4) (PD.q (bB cc rfl bq PySem.boot_len (aI (ae 0) aM ab) ab ak)) (aO _)) (jm (bg dA (ae 5) (PD.q af) (aO _)))))) (az (aH e9)) bt)
   (ax (aB (i:=6) sc__law_total.nd rfl (Or.inl rfl) (ah aF (PD.q (PF.d (v7 rfl oz (PD.q (ar (PD.q (ar (ae 0) (ae 4) (fun _ _=>rfl))) (PD.q af) (fun _ _=>rfl))) aw))) (PD.q (PF.d (bC (aa (ar (PD.q (ar (ae 0) (ae 4) (fun _ _=>rfl))) (PD.q af) (fun _ _=>rfl)) ag aw))))))
   (az (gy (i:=3) (k:=2) (N':=["_law_one","_law_more","_law_weight"]) (cap:=[none,none,some 5]) rfl sc__law_total.nd rfl (Or.inl rfl) (.ok (show bu ["_law_rows_here","_law_shares","_law_n","_law_total_here","_law_number","_law_weight","_law_row"] (ay jj) _ ["_law_one","_law_more","_law_weight"] [none,none,some 5]=true by decide +kernel)) (by decide +kernel) (fo (n:=2) (cY (bf (by decide)) (cY (bf (by decide)) fi))) (fN rfl cy (aa (dv 3) (aa (dv 6) ag ab) ab)) (fun _ _ _ _ _=>(cg (n:=2) rfl (bh (aD (i:=0) (show List.Nodup (["_law_one","_law_more","_law_weight"]:List Str) by decide +kernel) rfl (Or.inl rfl)) (bh (aD (i:=1) (show List.Nodup (["_law_one","_law_more","_law_weight"]:List Str) by decide +kernel) rfl (Or.inl rfl)) bZ)))) (fun _ _ _ _ _=>(ah aF (ae 0) (PD.q (ah aQ (ae 2) (ae 1))))))))))
   (az (aH (dv 3))))),?_⟩
 refine⟨⟨by omega,by omega,?_⟩,((List.replicate n (0:Int),(0:Int)).1++[(List.replicate n (0:Int),(0:Int)).2]).map D.int,?_,fun i ρ=>∃ (a:ao) (u4 u5 u6:Option Sl),ρ=[some (.v (.lst (rs.map av))),some (.v (.lst (shs.map aN))),some (.v (.int n)),some (.v (.lst ((a.1++[a.2]).map D.int))),u4,u5,u6]∧a.1.length=n∧bS rs (shs.take i) n=some a,⟨(List.replicate n 0,0),_,_,_,rfl,List.length_replicate,rfl⟩,?_,?_⟩
 ·rw[show [D.int 0].length=1 from rfl];exact small (by omega)
 ·rw[dz,show Int.toNat ((n:Int)+1)=n+1 by omega,yK]
 ·rintro i d ρ hd ⟨a,u4,u5,u6,rfl,hal,hsum⟩
  obtain⟨⟨k,w⟩,rfl,hs⟩:=fv hd
  have hw:=hfs _ (List.mem_of_getElem? hs)
  refine⟨rfl,fun ρ=>dk rs (k,w)∧ρ=[some (.v (.lst (rs.map av))),some (.v (.lst (shs.map aN))),some (.v (.int n)),some (.v (.lst ((a.1++[a.2]).map D.int))),some (.v (.int k)),some (.v (.int w)),u6],?_,?_⟩
  ·refine⟨fun h=>⟨fun _=>q0 (ip hs fun ok=>?_),fun h=>tf h⟩,fun h=>⟨fun h2=>⟨fun _=>q0 (ip hs fun ok=>?_),fun h=>tf h⟩,fun h2=>⟨fun h3=>q0 (ip hs fun ok=>?_),fun h3=>⟨?_,rfl⟩⟩⟩⟩
   ·have h1:=ok.1.1
    have h2:=dP h
    simp only at *
    omega
   ·have h1:=ok.1.2
    have h3:=dP h2
    rw[List.length_map] at h3
    simp only at *
    omega
   ·have h1:=ok.2
    have h4:=dP h3
    simp only at *
    omega
   ·have h1:=of_decide_eq_false h
    have h4:=of_decide_eq_false h2
    have h5:=of_decide_eq_false h3
    rw[List.length_map] at h4
    exact⟨⟨by show 0≤k;omega,by show k<rs.length;omega⟩,by show 0≤w;omega⟩
  rintro ρ ⟨ok,rfl⟩
  have k0:0≤k:=ok.1.1
  have k1:k<rs.length:=ok.1.2
  have hmem:=dW k0 k1
  have hrow:=hfr _ hmem
  have hrl:=hlen _ hmem
  refine⟨_,fW k0 k1,_,rfl,_,rfl,_,fW k0 k1,_,rfl,?_,_,cN _ _ _,_,_,rfl,rfl,?_⟩
  ·show ((au rs k).1.map D.int).length+1≤sizeLine
   rw[List.length_map,hrl];exact small (by omega)
  refine fD (fun t e=>D.int (t+w*e)) ?_ (fun t ht e he=>⟨rfl,qu (m:=60000) (n:=60000) (by decide) (by decide) hw ?_ (by decide),rfl⟩) ?_
  ·rw[List.length_append,hal];exact bc (by simp;omega)
  ·rcases List.mem_append.mp he with h | h
   ·exact hrow.1 e h
   ·rw[List.mem_singleton.mp h];exact hrow.2
  ·have e4:List.zipWith (fun t e=>D.int (t+w*e)) (a.1++[a.2]) ((au rs k).1++[(au rs k).2])=((dh rs a (k,w)).1++[(dh rs a (k,w)).2]).map D.int:=by
    rw[uZ (hal.trans hrl.symm),List.map_append]
    unfold dh
    simp [List.map_zipWith]
   rw[e4]
   refine⟨dh rs a (k,w),_,_,_,rfl,?_,mI hs hsum ok⟩
   unfold dh
   rw[List.length_zipWith,hal,hrl]
   exact Nat.min_self n
 ·rintro ρ ⟨a,u4,u5,u6,rfl,hal,hsum⟩
  rw[List.length_map,List.take_length] at hsum
  exact q1 a hsum hal
def kY:D→D
 | .lst l=>.tup l
 | d=>d
theorem qL {d:D}{l:List D}(h:kY d=.tup l):d=.tup l∨d=.lst l:=by
 cases d with
 | tup m=>exact .inl h
 | lst m=>refine .inr ?_;cases h;rfl
 | _=>cases h
def gv:aR:=fun ds R=>∃ (xs ys:List Int),ds.map kY=[.tup (xs.map D.int),.tup (ys.map D.int)]∧xs.length≤1000∧(∀ x∈xs,aW x)∧(∀ y∈ys,aW y)∧R (.int (aj xs ys))
theorem xN {n:Nat}{f:Addr}{fd:FuncData}(F:Fun K "_law_left" "_law_left" i9 f fd)(iU:mg "sum"=none)(cy:mg "zip"=none):FnOk P w K mg base aS (n+1) f fd ["_law_entries","_law_spot"] (aZ K gv):=by
 refine F.okD wH (fun ds R h=>?_) (fun cdv A outer s H E ds R hr h=>?_)
 ·obtain⟨xs,ys,e,_⟩:=h
  have:=congrArg List.length e
  rw[List.length_map] at this
  exact this
 obtain⟨xs,ys,e,hl,hx,hy,q⟩:=h
 obtain⟨d1,d2,rfl⟩:∃ d1 d2,ds=[d1,d2]:=by
  have:=congrArg List.length e
  rw[List.length_map] at this
  match ds,this with
  | [d1,d2],_=>exact⟨d1,d2,rfl⟩
 have e1:kY d1=.tup (xs.map D.int):=(List.cons.inj e).1
 have e2:kY d2=.tup (ys.map D.int):=(List.cons.inj (List.cons.inj e).2).1
 refine⟨_,(az (aH (bB (pV rfl) rfl iU PyProof.Rows.boot_sum (aI (PD.q (PF.d (bH (k:=2) (N':=["_law_one","_law_other"]) (cap:=[none,none]) rfl (.ok (show bu ["_law_entries","_law_spot"] (ay i9) _ ["_law_one","_law_other"] [none,none]=true by decide +kernel)) (by decide +kernel) (fo (n:=2) (cY (bf (by decide)) (cY (bf (by decide)) fi))) (fN rfl cy (aa (dv 0) (aa (dv 1) ag ab) ab)) (fun _ _ _ _ _=>(cg (n:=2) rfl (bh (aD (i:=0) (show List.Nodup (["_law_one","_law_other"]:List Str) by decide +kernel) rfl (Or.inl rfl)) (bh (aD (i:=1) (show List.Nodup (["_law_one","_law_other"]:List Str) by decide +kernel) rfl (Or.inl rfl)) bZ)))) (fun _ _ _ _ _=>(ah aQ (ae 0) (ae 1)))))) aM aV) aV ak))),?_⟩
 rcases qL e1 with rfl | rfl <;> rcases qL e2 with rfl | rfl
 all_goals
  refine⟨_,_,rfl,rfl,?_⟩
  refine fD (fun x y=>D.int (x*y)) (bc hl) (fun x hx' y hy'=>⟨rfl,cF (hx x hx') (hy y hy'),rfl⟩) ?_
  exact⟨List.zipWith (fun x y=>x*y) xs ys,by rw[List.map_zipWith];rfl,q⟩
def gX (n:Nat)(k:Int):List Int:=(List.range n).map fun (o:Nat)=>if (o:Int)=k then 1 else 0
def iA:aR:=fun ds R=>∃ (n:Nat) (k:Int),ds=[.int (n:Int),.int k]∧n≤500∧∀ us:List Int,us.length=n→(∀ x∈us,x.natAbs≤1)→us=gX n k→R (.tup (us.map D.int))
theorem zR {n:Nat}{f:Addr}{fd:FuncData}(F:Fun K "_law_unit" "_law_unit" jh f fd)(aG:mg "tuple"=none)(oA:mg "int"=none)(bx:mg "range"=none):FnOk P w K mg base aS (n+1) f fd ["_law_n","_law_at"] (aZ K iA):=by
 refine F.okD yr (fun ds R h=>?_) (fun cdv A outer s H E ds R hr h=>?_)
 ·obtain⟨n,k,rfl,_⟩:=h;rfl
 obtain⟨n,k,rfl,hn,q⟩:=h
 refine⟨_,(az (aH (bF bG rfl aG PyProof.Rows.boot_tuple (aI (PD.q (PF.d (bH (k:=1) (N':=["_law_k","_law_at"]) (cap:=[none,some 1]) rfl (.ok (show bu ["_law_n","_law_at"] (ay jh) _ ["_law_k","_law_at"] [none,some 1]=true by decide +kernel)) (by decide +kernel) (bf (by decide)) (dm rfl bx (aa (dv 0) ag ab)) (fun _ _ _ _ _=>(aD (i:=0) (show List.Nodup (["_law_k","_law_at"]:List Str) by decide +kernel) rfl (Or.inl rfl))) (fun _ _ _ _ _=>(bF Dy rfl oA PyProof.Rows.boot_int (aI (PD.q (cZ (bI hr.units) (ae 0) (ae 1) (aO _))) aM lD) lD ak))))) aM aV) aV ak))),?_⟩
 refine⟨⟨by omega,by omega⟩,?_⟩
 refine iS (fun i=>D.int (if (i:Int)=k then 1 else 0)) (bc (by omega)) (fun i hi=>?_) ?_
 ·by_cases e:(i:Int)=k
  ·rw[if_pos e]
   show D.int (if ((0:Int)+(i:Int) == k)=true then 1 else 0)=_
   rw[Int.zero_add,e,beq_self_eq_true,if_pos rfl]
  ·rw[if_neg e]
   show D.int (if ((0:Int)+(i:Int) == k)=true then 1 else 0)=_
   rw[if_neg (by rw[Int.zero_add];intro h;exact e (eq_of_beq h))]
 ·have e:(List.range (n:Int).toNat).map (fun (i:Nat)=>D.int (if (i:Int)=k then 1 else 0))=(gX n k).map D.int:=by
   unfold gX
   rw[List.map_map,Int.toNat_natCast]
   rfl
  rw[e]
  refine q (gX n k) (by unfold gX;rw[List.length_map,List.length_range]) (fun x hx=>?_) rfl
  obtain⟨o,_,rfl⟩:=List.mem_map.mp hx
  split <;> decide
def fM (kind:Int)(p:ao)(ray:List Int)(shs:List (Int × Int))(d:Int):En:=if kind=0 then .no shs else if kind=1 then .endless p ray else .best p shs d
def dJ (p:ao)(ray:List Int)(shs:List (Int × Int))(d:Int):D:=.tup [av p,.tup (ray.map D.int),.lst (shs.map aN),.int d]
def rO:aR:=fun ds R=>∃ (kind:Int) (p:ao) (ray:List Int) (shs:List (Int × Int)) (d:Int),ds=[.int kind,dJ p ray shs d]∧R (iQ (fM kind p ray shs d))
theorem yq {n:Nat}{f:Addr}{fd:FuncData}(F:Fun K "_law_told" "_law_told" ki f fd)(aG:mg "tuple"=none):FnOk P w K mg base aS (n+1) f fd ["_law_kind","_law_parts"] (aZ K rO):=by
 refine F.okD sc__law_told (fun ds R h=>?_) (fun cdv A outer s H E ds R hr h=>?_)
 ·obtain⟨kind,p,ray,shs,d,rfl,_⟩:=h;rfl
 obtain⟨kind,p,ray,shs,d,rfl,q⟩:=h
 refine⟨_,(ax (fU (dv 1) (cg (n:=4) rfl (bh (aD (i:=2) sc__law_told.nd rfl (Or.inl rfl)) (bh (aD (i:=3) sc__law_told.nd rfl (Or.inl rfl)) (bh (aD (i:=4) sc__law_told.nd rfl (Or.inl rfl)) (bh (aD (i:=5) sc__law_told.nd rfl (Or.inl rfl)) bZ))))))
   (bz (bj (bg (bI hr.units) (ae 0) (PD.q af) (aO _)) (az (aH (aU (aa eY (aa (bF bG rfl aG PyProof.Rows.boot_tuple (aI (ae 4) aM ab) ab ak) ag aE) aA)))) bt)
   (bz (bj (bg (bI hr.units) (ae 0) (PD.q af) (aO _)) (az (aH (aU (aa eY (aa (dv 2) (aa (dv 3) ag ab) ab) aA)))) bt)
   (az (aH (aU (aa eY (aa (dv 2) (aa (bF bG rfl aG PyProof.Rows.boot_tuple (aI (ae 4) aM ab) ab ak) (aa (dv 5) ag ab) aE) ab) aA))))))),?_⟩
 refine⟨rfl,fun ρ=>kind≠0∧ρ=[some (.v (.int kind)),some (.v (dJ p ray shs d)),some (.v (av p)),some (.v (.tup (ray.map D.int))),some (.v (.lst (shs.map aN))),some (.v (.int d))],⟨fun h=>?_,fun h=>⟨fun c=>?_,rfl⟩⟩,?_⟩
 ·have h':kind=0:=eq_of_beq h
  rw[fM,if_pos h'] at q
  exact q
 ·rw[c] at h
  exact tf h
 rintro ρ ⟨hk,rfl⟩
 refine⟨fun ρ=>kind≠1∧ρ=[some (.v (.int kind)),some (.v (dJ p ray shs d)),some (.v (av p)),some (.v (.tup (ray.map D.int))),some (.v (.lst (shs.map aN))),some (.v (.int d))],⟨fun h=>?_,fun h=>⟨fun c=>?_,rfl⟩⟩,?_⟩
 ·have h':kind=1:=eq_of_beq h
  rw[fM,if_neg hk,if_pos h'] at q
  exact q
 ·rw[c] at h
  exact tf h
 rintro ρ ⟨hk1,rfl⟩
 rw[fM,if_neg hk,if_neg hk1] at q
 exact q
def ou:aR:=fun ds R=>∃ (ns:List Int) (k:Int),ds=[.fzl (ns.map D.int),.int k]∧ns.length≤63∧0≤k∧∀ i:Int,R (.int i)
theorem CF {n:Nat}{f:Addr}{fd:FuncData}(F:Fun K "_law_cell" "_law_cell" lB f fd)(bq:mg "len"=none):FnOk P w K mg base aS (n+1) f fd ["_law_script","_law_k"] (aZ K ou):=by
 refine F.okD Cb (fun ds R h=>?_) (fun cdv A outer s H E ds R hr h=>?_)
 ·obtain⟨ns,k,rfl,_⟩:=h;rfl
 obtain⟨ns,k,rfl,hz,h0,q⟩:=h
 refine⟨_,(bz (bj (jy (dO (ae 0) (fun _=>rfl))) (az (aH (ah aF (PD.q (ah aQ (PD.q af) (ae 1))) (PD.q af)))) bt)
   (az (aH (ah aF (PD.q (ar (ae 0) (PD.q (ah dD (ae 1) (PD.q (bB cc rfl bq PySem.boot_len (aI (ae 0) aM ab) ab ak)))) (fun _ _=>rfl))) (PD.q (ah aQ (PD.q af) (PD.q (ah eQ (ae 1) (PD.q (bB cc rfl bq PySem.boot_len (aI (ae 0) aM ab) ab ak)))))))))),?_⟩
 refine⟨fun ρ=>ns≠[]∧ρ=[some (.v (.fzl (ns.map D.int))),some (.v (.int k))],⟨fun h=>⟨bM (by decide) (by decide),q _⟩,fun h=>⟨fun e=>?_,rfl⟩⟩,?_⟩
 ·subst e;cases h
 rintro ρ ⟨hne,rfl⟩
 have hp:(0:Int)<((ns.map D.int).length:Int):=by
  have:=List.length_pos_iff.mpr hne
  rw[List.length_map];omega
 have hl:(ns.map D.int).length≤63:=by rw[List.length_map];exact hz
 obtain⟨v,hv⟩:=Du (ns:=ns) (k:=k % ((ns.map D.int).length:Int)) (Int.emod_nonneg _ (by omega)) (by have:=Int.emod_lt_of_pos k hp;rw[List.length_map] at this ⊢;exact this)
 exact ⟨hp, _, hv, CDivB.of hp (by have h9 : (1000 : Int) < 2 ^ 9000 := by decide +kernel
                                   omega), bM (by decide) (by decide), q _⟩
abbrev Dr (d z:Int):Prop:=0≤d∧d<z
abbrev Drawn (ds zs:List Int):Prop:=Paired Dr ds zs
theorem Drawn.take {zs:List Int}{i:Nat}{z:Int}{ds:List Int}(h:Drawn ds (zs.take i))(hz:zs[i]?=some z){d:Int}(h0:0≤d)(h1:d<z):Drawn (ds++[d]) (zs.take (i+1)):=by
 rw[i5 hz]
 exact Paired.snoc h ⟨h0,h1⟩
theorem Drawn.len {ds zs:List Int}(h:Drawn ds zs):ds.length=zs.length:=Paired.length h
def fB:aR:=fun ds R=>∃ (c s:Int) (zs:List Int),ds=[.int c,.int s,.lst (zs.map D.int)]∧zs.length≤1000∧0≤s∧s<2 ^ 20∧(∀ z∈zs,0<z∧z<2 ^ 9000)∧∀ es:List Int,Drawn es zs→R (.lst (es.map D.int))
theorem uY {n:Nat}{f:Addr}{fd:FuncData}(F:Fun K "_law_draws" "_law_draws" jW f fd)(eV:mg "max"=none)(fY:mg "enumerate"=none)(eA:mg "abs"=none):FnOk P w K mg base aS (n+1) f fd ["_law_cell_here","_law_salt","_law_sizes"] (aZ K fB):=by
 refine F.okD sc__law_draws (fun ds R h=>?_) (fun cdv A outer s H E ds R hr h=>?_)
 ·obtain⟨c,s0,zs,rfl,_⟩:=h;rfl
 obtain⟨c,s0,zs,rfl,hz,hs0,hs1,hzs,q⟩:=h
 refine⟨_,(ax (gA (i:=3) sc__law_draws.nd rfl (Or.inl rfl) (bC ag))
   (ax (aB (i:=4) sc__law_draws.nd rfl (Or.inl rfl) (bB (kC rfl) rfl eV PyProof.Rows.boot_max (aI (PD.q af) (aI (PD.q (ah cG (PD.q (bB ij rfl eA PyProof.Rows.boot_abs (aI (ae 0) aM ab) ab ak)) (PD.q (ah mQ (PD.q af) (PD.q af))))) aM aP) aA) aA (ai aP ak)))
   (ax (eK PassesOwn.never rfl (mB rfl fY (aa (dv 2) ag ab)) (cg (n:=2) rfl (bh (aD (i:=5) sc__law_draws.nd rfl (Or.inl rfl)) (bh (aD (i:=6) sc__law_draws.nd rfl (Or.inl rfl)) bZ))) (az (bj (bg gq (ae 4) (PD.q af) (aO _)) (ax (fc 3 (ah dD (PD.q (ah cG (ae 4) (PD.q af))) (ae 6)) (fb aP) aP)
   (az (aB (i:=4) sc__law_draws.nd rfl (Or.inl rfl) (ah eQ (PD.q (ah cG (ae 4) (PD.q af))) (ae 6))))) (ax (aB (i:=7) sc__law_draws.nd rfl (Or.inl rfl) (ah aF (PD.q (ah aF (PD.q (ah aQ (PD.q (ah dD (ae 0) (PD.q af))) (PD.q af))) (PD.q (ah aQ (ae 1) (PD.q af))))) (PD.q af)))
   (ax (aB (i:=7) sc__law_draws.nd rfl (Or.inl rfl) (ah aF (ae 7) (PD.q (ah aQ (ae 5) (PD.q (ah aF (PD.q (ah aQ (ae 5) (PD.q af))) (PD.q af)))))))
   (ax (aB (i:=7) sc__law_draws.nd rfl (Or.inl rfl) (ah aF (PD.q (ah dD (PD.q (ah aQ (ae 7) (PD.q af))) (PD.q af))) (PD.q (ah aQ (ae 5) (ae 1)))))
   (ax (aB (i:=7) sc__law_draws.nd rfl (Or.inl rfl) (ah dD (PD.q (ah aQ (ae 7) (PD.q af))) (PD.q af)))
   (bz (bj (bg gq (ae 6) (PD.q af) (aO _)) (az (aB (i:=7) sc__law_draws.nd rfl (Or.inl rfl) (ah aQ (PD.q (ah aQ (PD.q (ah aQ (ae 7) (ae 7))) (ae 7))) (ae 7)))) bt)
   (az (fc 3 (ah dD (ae 7) (ae 6)) (fb aP) aP))))))))))
   (gj 3 (az (aH (dv 3))))))),?_⟩
 refine⟨⟨by decide,by decide,by decide⟩,fun i ρ=>∃ (r:Int) (es:List Int) (u5 u6 u7:Option Sl),ρ=[some (.v (.int c)),some (.v (.int s0)),some (.v (.lst (zs.map D.int))),some (.own (es.map D.int)),some (.v (.int r)),u5,u6,u7]∧Drawn es (zs.take i),⟨_,[],_,_,_,rfl,.nil⟩,?_,?_⟩
 ·rintro i d ρ hd ⟨r,es,u5,u6,u7,rfl,hD⟩
  obtain⟨e,he,rfl⟩:=lg hd
  obtain⟨z,rfl,hzi⟩:=B3 he
  have hzm:=hzs z (List.mem_of_getElem? hzi)
  have hi:i<zs.length:=c9 hzi
  have ll:(es.map D.int).length<sizeLine:=by
   have:=hD.len
   rw[List.length_take] at this
   rw[List.length_map]
   exact bc (by omega)
  refine⟨rfl,⟨fun h=>?_,fun h=>?_⟩⟩
  ·exact⟨hzm.1,ll,_,cN _ _ _,CDivB.of hzm.1 hzm.2,_,es++[(r - 1) % z],_,_,_,rfl,hD.take hzi (Int.emod_nonneg _ (by omega)) (Int.emod_lt_of_pos _ hzm.1)⟩
  ·refine⟨(by decide:(0:Int)<1000003),fE (by decide) (by decide),fE (by decide) (by decide),fE (by decide) (by decide),bM (by omega) (by omega),fE (by decide) (by decide),(by decide:(0:Int)<2147483647),bM (by omega) (by omega),fE (by decide) (by decide),(by decide:(0:Int)<1000000007),?_⟩
   refine⟨fun ρ=>∃ m:Int,ρ=[some (.v (.int c)),some (.v (.int s0)),some (.v (.lst (zs.map D.int))),some (.own (es.map D.int)),some (.v (.int r)),some (.v (.int i)),some (.v (.int z)),some (.v (.int m))],⟨fun h2=>?_,fun h2=>⟨_,rfl⟩⟩,?_⟩
   ·have m0:=Int.emod_nonneg ((((c % 1000003*7919+s0*15485863+5+(i:Int)*((i:Int)*104729+611953))*48271 % 2147483647+(i:Int)*s0))*69621) (b:=1000000007) (by decide)
    have m1:=Int.emod_lt_of_pos ((((c % 1000003*7919+s0*15485863+5+(i:Int)*((i:Int)*104729+611953))*48271 % 2147483647+(i:Int)*s0))*69621) (b:=1000000007) (by decide)
    exact⟨fE (by omega) (by omega),fE (by omega) (by omega),fE (by omega) (by omega),_,rfl⟩
   ·rintro ρ ⟨m,rfl⟩
    exact⟨hzm.1,ll,_,cN _ _ _,_,es++[m % z],_,_,_,rfl,hD.take hzi (Int.emod_nonneg _ (by omega)) (Int.emod_lt_of_pos _ hzm.1)⟩
 ·rintro ρ ⟨r,es,u5,u6,u7,rfl,hD⟩
  rw[ja,List.length_map,List.take_length] at hD
  exact q es hD
theorem zU {ds:List Int}{z1 z2 z3 z4 z5 z6:Int}(h:Drawn ds [z1,z2,z3,z4,z5,z6]):∃ x1 x2 x3 x4 x5 x6:Int,ds=[x1,x2,x3,x4,x5,x6]∧Dr x1 z1∧Dr x2 z2∧Dr x3 z3∧Dr x4 z4∧Dr x5 z5∧Dr x6 z6:=by
 cases h with | cons h1 t1 =>
 cases t1 with | cons h2 t2 =>
 cases t2 with | cons h3 t3 =>
 cases t3 with | cons h4 t4 =>
 cases t4 with | cons h5 t5 =>
 cases t5 with | cons h6 t6 =>
 cases t6
 exact⟨_,_,_,_,_,_,rfl,h1,h2,h3,h4,h5,h6⟩
theorem Drawn.at {ds zs:List Int}(h:Drawn ds zs):∀ {i:Nat} {z:Int},zs[i]?=some z→∃ d,ds[i]?=some d∧0≤d∧d<z:=by
 induction h with
 | nil=>intro i z hz;simp at hz
 | cons h1 t ih =>
  intro i z hz
  cases i with
  | zero=>cases hz;exact⟨_,rfl,h1⟩
  | succ i=>exact ih hz
theorem Drawn.mem {ds zs:List Int}(h:Drawn ds zs):∀ d∈ds,∃ z∈zs,0≤d∧d<z:=by
 induction h with
 | nil=>intro d hd;exact absurd hd List.not_mem_nil
 | cons h1 t ih =>
  intro d hd
  rcases List.mem_cons.mp hd with rfl | hd
  ·exact⟨_,List.mem_cons_self,h1⟩
  ·obtain⟨z,hz,q⟩:=ih d hd
   exact⟨z,List.mem_cons_of_mem _ hz,q⟩
def RowB (b:Nat)(r:ao):Prop:=(∀ x∈r.1,x.natAbs≤2 ^ b)∧r.2.natAbs≤2 ^ b
theorem RowB.mono {b c:Nat}{r:ao}(h:RowB b r)(hc:b≤c):RowB c r:=⟨fun x hx=>Nat.le_trans (h.1 x hx) (Nat.pow_le_pow_right (by decide) hc),Nat.le_trans h.2 (Nat.pow_le_pow_right (by decide) hc)⟩
def RowN (n b:Nat)(r:ao):Prop:=r.1.length=n∧RowB b r
theorem qI {α:Type}{xs:List α}{lo hi:Int}{a b:Nat}(ea:lo=(a:Int))(eb:hi=(b:Int))(hb:b≤xs.length)(ha:a≤b):(bR xs (some lo) (some hi)).length=b - a∧∀ x∈bR xs (some lo) (some hi),x∈xs:=by
 subst ea eb
 refine⟨?_,fun x hx=>B2 hx⟩
 rw[yj xs a b hb ha,List.length_take,List.length_drop]
 omega
theorem fx {ds zs:List Int}(h:Drawn ds zs){b:Int}(hz:∀ z∈zs,z≤b):∀ d∈ds,0≤d∧d<b:=fun d hd=>by
 obtain⟨z,hz',q⟩:=h.mem d hd
 have:=hz z hz'
 omega
def iy:aR:=fun ds R=>∃ (c s big:Int) (n many:Nat),ds=[.int c,.int s,.int (n:Int),.int (many:Int),.int big]∧0≤s∧s<2 ^ 20∧n≤8∧many≤12∧0<big∧big≤2 ^ 39 ∧
 ∀ rs:List ao,rs.length=many→(∀ r∈rs,RowN n 40 r)→R (.lst (rs.map av))
theorem wU {n:Nat}{f:Addr}{fd:FuncData}(F:Fun K "_law_rows" "_law_rows" jr f fd)(cW:Cl P w K mg base n "_law_draws" ["_law_cell_here","_law_salt","_law_sizes"] fB)(bx:mg "range"=none)(aG:mg "tuple"=none):FnOk P w K mg base aS (n+1) f fd ["_law_cell_here","_law_salt","_law_n","_law_many","_law_big"] (aZ K iy):=by
 refine F.okD sc__law_rows (fun ds R h=>?_) (fun cdv A outer s H E ds R hr h=>?_)
 ·obtain⟨c,s0,big,n,many,rfl,_⟩:=h;rfl
 obtain⟨c,s0,big,n,many,rfl,hs0,hs1,hn,hm,hb0,hb1,q⟩:=h
 refine⟨_,(ax (aB (i:=5) sc__law_rows.nd rfl (Or.inl rfl) (aC cW hr rfl (aa (dv 0) (aa (dv 1) (aa (ah aQ (PD.q (PF.d (bC (aa (ah aF (PD.q (ah aQ (PD.q af) (ae 4))) (PD.q af)) ag aP)))) (PD.q (ah aQ (PD.q (ah aF (ae 2) (PD.q af))) (ae 3)))) ag aP) ab) ab) ab (ai ab (ai aP ak))))
   (ax (gA (i:=6) sc__law_rows.nd rfl (Or.inl rfl) (bC ag))
   (ax (eK PassesOwn.never rfl (dm rfl bx (aa (dv 3) ag ab)) (aD (i:=7) sc__law_rows.nd rfl (Or.inl rfl)) (ax (aB (i:=8) sc__law_rows.nd rfl (Or.inl rfl) (cb (ae 5) (bU (PD.q (ah aQ (ae 7) (PD.q (ah aF (ae 2) (PD.q af)))))) (bU (PD.q (ah aQ (PD.q (ah aF (ae 7) (PD.q af))) (PD.q (ah aF (ae 2) (PD.q af))))))))
   (az (fc 6 (aU (aa (bF bG rfl aG PyProof.Rows.boot_tuple (aI (PD.q (PF.d (bH (k:=1) (N':=["_law_one","_law_big"]) (cap:=[none,some 4]) rfl (.ok (show bu ["_law_cell_here","_law_salt","_law_n","_law_many","_law_big","_law_numbers","_law_rows_here","_law_k","_law_part"] (ay jr) _ ["_law_one","_law_big"] [none,some 4]=true by decide +kernel)) (by decide +kernel) (bf (by decide)) (bO (cb (ae 8) cC (bU (ae 2)))) (fun _ _ _ _ _=>(aD (i:=0) (show List.Nodup (["_law_one","_law_big"]:List Str) by decide +kernel) rfl (Or.inl rfl))) (fun _ _ _ _ _=>(ah cG (ae 0) (ae 1)))))) aM aV) aV ak) (aa (ah cG (PD.q (ar (ae 8) (ae 2) (fun _ _=>rfl))) (ae 4)) ag aP) aE)) (fb bL) bL))))
   (gj 6 (az (aH (dv 6))))))),?_⟩
 have hnm:(n+1)*many≤108:=Nat.le_trans (Nat.mul_le_mul (show n+1≤9 by omega) hm) (by decide)
 have hnmI:((n:Int)+1)*(many:Int)=(((n+1)*many:Nat):Int):=by push_cast;rfl
 refine⟨bM (by decide) (by decide),bM (by omega) (by omega),⟨by omega,by omega,?_⟩,(List.replicate ((n+1)*many) (2*big+1)).map D.int,?_,c,s0,List.replicate ((n+1)*many) (2*big+1),rfl,by rw[List.length_replicate];omega,hs0,hs1,fun z hz=>?_,fun es hD=>?_⟩
 ·rw[show [D.int (2*big+1)].length=1 from rfl];exact small (by omega)
 ·rw[dz,hnmI,Int.toNat_natCast]
 ·rw[(List.mem_replicate.mp hz).2]
  have:(2:Int)*2 ^ 39+1<2 ^ 9000:=by decide +kernel
  omega
 have hdl:es.length=(n+1)*many:=by rw[hD.len,List.length_replicate]
 have hdb:=fx hD (b:=2*big+1) fun z hz=>by rw[(List.mem_replicate.mp hz).2];exact Int.le_refl _
 refine⟨⟨by omega,by omega⟩,fun i ρ=>∃ (rs:List ao) (u7 u8:Option Sl),ρ=[some (.v (.int c)),some (.v (.int s0)),some (.v (.int n)),some (.v (.int many)),some (.v (.int big)),some (.v (.lst (es.map D.int))),some (.own (rs.map av)),u7,u8]∧rs.length=i∧∀ r∈rs,RowN n 40 r,⟨[],_,_,rfl,rfl,fun r hr=>absurd hr List.not_mem_nil⟩,?_,?_⟩
 ·rintro i d ρ hd ⟨rs,u7,u8,rfl,hrl,hr⟩
  obtain⟨hi,rfl⟩:=dZ hd
  have hi':i<many:=by omega
  have hle:(i+1)*(n+1)≤es.length:=by rw[hdl,Nat.mul_comm (n+1)];exact Nat.mul_le_mul_right _ hi'
  have hsb:i*(n+1)≤(i+1)*(n+1):=Nat.mul_le_mul_right _ (Nat.le_succ i)
  have e1:(0+(i:Int))*((n:Int)+1)=((i*(n+1):Nat):Int):=by rw[Int.zero_add];push_cast;rfl
  have e2:(0+(i:Int)+1)*((n:Int)+1)=(((i+1)*(n+1):Nat):Int):=by rw[Int.zero_add];push_cast;rfl
  obtain⟨pl,pm⟩:=qI (xs:=es) e1 e2 hle hsb
  have ecut:=hJ D.int es (some ((0+(i:Int))*((n:Int)+1))) (some ((0+(i:Int)+1)*((n:Int)+1)))
  generalize bR es (some ((0+(i:Int))*((n:Int)+1))) (some ((0+(i:Int)+1)*((n:Int)+1)))=ps at pl pm ecut
  have hpl:ps.length=n+1:=by rw[pl,← Nat.sub_mul];simp
  refine⟨bM (by omega) (by omega),bM (by omega) (by omega),_,ecut,_,(hJ D.int ps none (some (n:Int))).trans (by rw[kM]),?_⟩
  refine eM (fun x=>D.int (x - big)) (bc (by rw[List.length_take];omega)) (fun x hx=>rfl) ?_
  have hpn:n<ps.length:=by omega
  have eR:D.tup [.tup ((ps.take n).map fun x=>D.int (x - big)),.int (ps[n] - big)]=av ((ps.take n).map fun x=>x - big,ps[n] - big):=by unfold av;rw[List.map_map];rfl
  refine⟨_,bD (aX hpn) rfl,?_,_,(congrArg (fun z=>rs.map av++[z]) eR).trans (cN _ _ _),rs++[((ps.take n).map fun x=>x - big,ps[n] - big)],_,_,rfl,by rw[List.length_append,hrl];rfl,fun r hr'=>?_⟩
  ·rw[List.length_map,hrl];exact bc (by omega)
  ·rcases List.mem_append.mp hr' with h | h
   ·exact hr r h
   ·rw[List.mem_singleton.mp h]
    refine⟨by rw[List.length_map,List.length_take];omega,fun y hy=>?_,?_⟩
    ·obtain⟨u,hu,rfl⟩:=List.mem_map.mp hy
     have:=hdb u (pm u (List.mem_of_mem_take hu))
     omega
    ·have:=hdb _ (pm _ (List.getElem_mem hpn))
     show (ps[n] - big).natAbs≤_
     omega
 ·rintro ρ ⟨rs,u7,u8,rfl,hrl,hr⟩
  rw[cw] at hrl
  exact q rs (by omega) hr
abbrev B40 (x:Int):Prop:=x.natAbs≤2 ^ 40
theorem B40.big {x:Int}(h:B40 x):aW x:=Nat.lt_of_le_of_lt h (Nat.pow_lt_pow_right (by decide) (by decide))
theorem cJ {x:Int}{b:Nat}(hb:b<60000)(h:x.natAbs≤2 ^ b):aW x:=Nat.lt_of_le_of_lt h (Nat.pow_lt_pow_right (by decide) hb)
def lR:aR:=fun ds R=>∃ (es ray:List Int),ds=[.tup (es.map D.int),.tup (ray.map D.int)]∧es.length≤500∧(∀ x∈es,B40 x)∧(∀ x∈ray,B40 x)∧∀ es':List Int,es'.length=es.length→(∀ x∈es',B40 x)→R (.tup (es'.map D.int))
theorem xo {n:Nat}{f:Addr}{fd:FuncData}(F:Fun K "_law_along" "_law_along" jB f fd)(di:Cl P w K mg base n "_law_left" ["_law_entries","_law_spot"] gv)(aG:mg "tuple"=none):FnOk P w K mg base aS (n+1) f fd ["_law_entries","_law_ray"] (aZ K lR):=by
 refine F.okD y9 (fun ds R h=>?_) (fun cdv A outer s H E ds R hr h=>?_)
 ·obtain⟨es,ray,rfl,_⟩:=h;rfl
 obtain⟨es,ray,rfl,hl,he,hy,q⟩:=h
 refine⟨_,(bz (bj (bg dA (PD.q (aC di hr rfl (aa (dv 0) (aa (dv 1) ag ab) ab) ab (ai ab ak))) (PD.q af) (aO _)) (az (aH (bF bG rfl aG PyProof.Rows.boot_tuple (aI (PD.q (PF.d (bH (k:=1) (N':=["_law_one"]) (cap:=[none]) rfl (.ok (show bu ["_law_entries","_law_ray"] (ay jB) _ ["_law_one"] [none]=true by decide +kernel)) (by decide +kernel) (bf (by decide)) (bO (dv 0)) (fun _ _ _ _ _=>(aD (i:=0) (show List.Nodup (["_law_one"]:List Str) by decide +kernel) rfl (Or.inl rfl))) (fun _ _ _ _ _=>(dS (ae 0)))))) aM aV) aV ak))) bt)
   (az (aH (dv 0)))),?_⟩
 refine⟨fun ρ=>ρ=[some (.v (.tup (es.map D.int))),some (.v (.tup (ray.map D.int)))],⟨es,ray,rfl,by omega,fun x hx=>(he x hx).big,fun x hx=>(hy x hx).big,fun h=>?_,fun h=>rfl⟩,?_⟩
 ·refine du (fun x=>-x) (bc (by omega)) (fun x hx=>rfl) ?_
  refine q (es.map fun x=>-x) (by rw[List.length_map]) fun x hx=>?_
  obtain⟨u,hu,rfl⟩:=List.mem_map.mp hx
  have:=he u hu
  show (-u).natAbs≤_
  rw[Int.natAbs_neg]
  exact this
 ·rintro ρ rfl
  exact q es rfl he
def n5:aR:=fun ds R=>∃ (top bottom slack:Int),ds=[.int top,.int bottom,.int slack]∧1≤bottom∧bottom<1000∧0≤slack∧slack<10∧∀ x:Int,x.natAbs≤top.natAbs+10→R (.int x)
theorem zP {n:Nat}{f:Addr}{fd:FuncData}(F:Fun K "_law_under" "_law_under" lJ f fd)(eV:mg "max"=none):FnOk P w K mg base aS (n+1) f fd ["_law_top","_law_bottom","_law_slack"] (aZ K n5):=by
 refine F.okD uS (fun ds R h=>?_) (fun cdv A outer s H E ds R hr h=>?_)
 ·obtain⟨top,bottom,slack,rfl,_⟩:=h;rfl
 obtain⟨top,bottom,slack,rfl,hb,hb1,hs0,hs1,q⟩:=h
 refine⟨_,(az (aH (ah cG (PD.q (ah eQ (ae 0) (ae 1))) (PD.q (bB (kC rfl) rfl eV PyProof.Rows.boot_max (aI (PD.q af) (aI (PD.q (ah cG (ae 2) (PD.q af))) aM aP) aA) aA (ai aP ak)))))),?_⟩
 have h9:(1000:Int)<2 ^ 9000:=by decide +kernel
 refine⟨CDivB.of (by omega) (by omega),q _ ?_⟩
 have h1:=Int.natAbs_ediv_le_natAbs top bottom
 have h2:∀ m:Int,0≤m→m<10→(top / bottom - m).natAbs≤top.natAbs+10:=fun m m0 m1=>by omega
 apply h2
 ·split <;> omega
 ·split <;> omega
def sv:aR:=fun ds R=>∃ (es:List Int) (bd:Int) (l:Bool) (p:ao),ds=[.tup (es.map D.int),.int bd,.bl l,av p]∧es.length≤500∧(∀ x∈es,aW x)∧aW bd∧cD p∧1≤p.2∧∀ b:Bool,R (.bl b)
theorem uE {n:Nat}{f:Addr}{fd:FuncData}(F:Fun K "_law_fits" "_law_fits" jg f fd)(di:Cl P w K mg base n "_law_left" ["_law_entries","_law_spot"] gv)(eU:mg "all"=none):FnOk P w K mg base aS (n+1) f fd ["_law_entries","_law_bound","_law_least","_law_point"] (aZ K sv):=by
 refine F.okD B9 (fun ds R h=>?_) (fun cdv A outer s H E ds R hr h=>?_)
 ·obtain⟨es,bd,l,p,rfl,_⟩:=h;rfl
 obtain⟨es,bd,l,p,rfl,hl,he,hb,hp,hp1,q⟩:=h
 refine⟨_,(bz (bj (bg (jb hr.units) (PD.q (aC di hr rfl (aa (dv 0) (aa (ar (ae 3) (PD.q af) (fun _ _=>rfl)) ag aw) ab) ab (ai aw ak))) (PD.q (ah aQ (ae 1) (PD.q (ar (ae 3) (PD.q af) (fun _ _=>rfl))))) (aO _)) (az (aH eu)) bt)
   (az (aH (nE (dv 2) (iz (bB (kK rfl) rfl eU PyProof.Rows.boot_all (aI (PD.q (PF.d (bH (k:=1) (N':=["_law_one","_law_point"]) (cap:=[none,some 3]) rfl (.ok (show bu ["_law_entries","_law_bound","_law_least","_law_point"] (ay jg) _ ["_law_one","_law_point"] [none,some 3]=true by decide +kernel)) (by decide +kernel) (bf (by decide)) (bO (dv 0)) (fun _ _ _ _ _=>(aD (i:=0) (show List.Nodup (["_law_one","_law_point"]:List Str) by decide +kernel) rfl (Or.inl rfl))) (fun _ _ _ _ _=>(cZ (bI hr.units) (PD.q (ah dD (ae 0) (PD.q (ar (ae 1) (PD.q af) (fun _ _=>rfl))))) (PD.q af) (aO _)))))) aM aV) aV ak)))))),?_⟩
 refine⟨fun ρ=>ρ=[some (.v (.tup (es.map D.int))),some (.v (.int bd)),some (.v (.bl l)),some (.v (av p))],⟨_,rfl,es,p.1,rfl,by omega,he,hp.1,_,rfl,cF hb hp.2,fun h=>q _,fun h=>rfl⟩,?_⟩
 rintro ρ rfl
 refine⟨fun h=>q _,fun h=>?_⟩
 refine eM (fun x=>D.bl (x % p.2 == 0)) (bc (by omega)) (fun x hx=>⟨_,rfl,by omega,rfl⟩) ?_
 exact⟨es.map fun x=>x % p.2 == 0,by rw[List.map_map];rfl,q _⟩
abbrev gP (x:Int):Prop:=x.natAbs≤2 ^ 200
structure Mk (g:Bool)(n:Nat)(rs:List ao)(goal:List Int)(p:ao)(ray:List Int)(shs:List (Int × Int))(d:Int):Prop where
 rl:rs.length≤12
 rr:∀ r∈rs,RowN n 200 r
 gl:goal.length=n
 gb:∀ x∈goal,gP x
 pb:RowB 200 p
 pl:p.1.length≤12
 yb:∀ x∈ray,gP x
 yl:ray.length≤12
 sl:shs.length≤20
 sb:∀ s∈shs,s.2.natAbs≤2 ^ 40
 db:d.natAbs≤2 ^ 40
 gd:g=true→1≤p.2∧p.1.length=n∧ray.length=n
def we (rs:List ao)(goal:List Int)(p:ao)(ray:List Int)(shs:List (Int × Int))(d:Int):D:=.tup [.lst (rs.map av),.tup (goal.map D.int),dJ p ray shs d]
def i7 (g:Bool)(n:Nat)(R:D→Prop):Prop:=∀ rs goal p ray shs d,Mk g n rs goal p ray shs d→R (we rs goal p ray shs d)
theorem RowN.up {n b c:Nat}{r:ao}(h:RowN n b r)(hb:b≤c):RowN n c r:=⟨h.1,h.2.mono hb⟩
theorem mw {α:Type}{f:α→D}{xs:List α}{a:Int}(h:0≤a):bR (xs.map f) none (some a)=(xs.take a.toNat).map f:=by
 have e:a=((a.toNat:Nat):Int):=by omega
 rw[hJ]
 conv=>lhs;rw[e]
 rw[kM]
theorem i6 {α:Type}{f:α→D}{xs:List α}{a:Int}(h:0≤a):bR (xs.map f) (some a) none=(xs.drop a.toNat).map f:=by
 have e:a=((a.toNat:Nat):Int):=by omega
 rw[hJ]
 conv=>lhs;rw[e]
 rw[uV]
theorem sW {rs:List ao}{n:Nat}{shs:List (Int × Int)}(h:∀ s∈shs,dk rs s):∃ a,bS rs shs n=some a:=by
 have key:∀ (shs:List (Int × Int)) (a:ao),(∀ s∈shs,dk rs s)→∃ r,shs.foldl (eC rs) (some a)=some r:=by
  intro shs
  induction shs with
  | nil=>intro a _;exact⟨a,rfl⟩
  | cons s t ih =>
   intro a h
   have e:eC rs (some a) s=some (dh rs a s):=by
    unfold eC
    rw[Option.bind_some,if_pos (h s List.mem_cons_self)]
   rw[List.foldl_cons,e]
   exact ih _ fun s' hs'=>h s' (List.mem_cons_of_mem _ hs')
 exact key shs _ h
theorem pR {rs:List ao}{n:Nat}{shs:List (Int × Int)}{a:ao}(h:bS rs shs n=some a){b c:Nat}(hr:∀ r∈rs,RowB b r)(hw:∀ s∈shs,s.2.natAbs≤2 ^ 40)(hl:shs.length≤32)(hc:b+45≤c):RowB c a:=by
 obtain⟨h1,h2⟩:=sX (E:=2 ^ b) (W:=2 ^ 40) h hr hw
 have h3:shs.length*(2 ^ 40*2 ^ b)≤2 ^ c:=by
  refine Nat.le_trans (Nat.mul_le_mul_right _ hl) ?_
  rw[show 32=2 ^ 5 from rfl,← Nat.pow_add,← Nat.pow_add]
  exact Nat.pow_le_pow_right (by decide) (by omega)
 exact⟨fun x hx=>Nat.le_trans (h1 x hx) h3,Nat.le_trans h2 h3⟩
theorem fJ:2 ^ 200=1606938044258990275541962092341162602522202993782792835301376:=by decide
theorem fQ:2 ^ 40=1099511627776:=by decide
theorem bV {ds:List Int}{z:Int}{zs:List Int}(h:Drawn ds (z::zs)):∃ x t,ds=x::t∧(0≤x∧x<z)∧Drawn t zs:=by
 cases h with | cons h1 t1=>exact⟨_,_,rfl,h1,t1⟩
theorem pj {ds:List Int}(h:Drawn ds []):ds=[]:=by cases h;rfl
theorem kA {n:Nat}{v:Int}(h0:0<v)(h1:v<2 ^ 64):∀ z∈List.replicate n v,0<z∧z<2 ^ 9000:=fun z hz=>by
 rw[(List.mem_replicate.mp hz).2]
 have:(2:Int) ^ 64<2 ^ 9000:=by decide +kernel
 omega
def rS:aR:=fun ds R=>∃ (c0 c1 c2:Int) (n many:Nat) (big:Int),ds=[.lst ([c0,c1,c2].map D.int),.int (n:Int),.int (many:Int),.int big]∧n≤3∧many≤4∧0<big∧big≤2 ^ 31∧i7 false n R
theorem vk {n:Nat}{f:Addr}{fd:FuncData}(F:Fun K "_law_wild" "_law_wild" hX f fd)(cW:Cl P w K mg base n "_law_draws" ["_law_cell_here","_law_salt","_law_sizes"] fB)(gf:Cl P w K mg base n "_law_rows" ["_law_cell_here","_law_salt","_law_n","_law_many","_law_big"] iy)(fZ:Cl P w K mg base n "_law_unit" ["_law_n","_law_at"] iA)(aG:mg "tuple"=none)(bx:mg "range"=none):FnOk P w K mg base aS (n+1) f fd ["_law_cells","_law_n","_law_many","_law_big"] (aZ K rS):=by
 refine F.okD sc__law_wild (fun ds R h=>?_) (fun cdv A outer s H E ds R hr h=>?_)
 ·obtain⟨c0,c1,c2,n,many,big,rfl,_⟩:=h;rfl
 obtain⟨c0,c1,c2,n,many,big,rfl,hn,hm,hb0,hb1,q⟩:=h
 refine⟨_,(ax (aB (i:=4) sc__law_wild.nd rfl (Or.inr rfl) (aC cW hr rfl (aa (ar (ae 0) (PD.q af) (fun _ _=>rfl)) (aa af (aa (ah aQ (PD.q (PF.d (bC (aa (ah aF (PD.q (ah aQ (PD.q af) (ae 3))) (PD.q af)) ag aP)))) (ae 1)) ag aP) aA) aw) aw (ai aA (ai aP ak))))
   (ax (gy (i:=5) (k:=1) (N':=["_law_k","_law_n","_law_big","_law_leasts"]) (cap:=[none,some 1,some 3,some 4]) rfl sc__law_wild.nd rfl (Or.inl rfl) (.ok (show bu ["_law_cells","_law_n","_law_many","_law_big","_law_leasts","_law_rows_here","_law_drawn","_law_numbers","_law_shares","_law_point","_law_ray"] (ay hX) _ ["_law_k","_law_n","_law_big","_law_leasts"] [none,some 1,some 3,some 4]=true by decide +kernel)) (by decide +kernel) (bf (by decide)) (dm rfl bx (aa (dv 1) ag ab)) (fun _ _ _ _ _=>(aD (i:=0) (show List.Nodup (["_law_k","_law_n","_law_big","_law_leasts"]:List Str) by decide +kernel) rfl (Or.inl rfl))) (fun _ _ _ _ _=>(aU (aa (aC fZ hr rfl (aa (dv 1) (aa (dv 0) ag ab) ab) ab (ai ab ak)) (aa (ah cG (PD.q (ar (ae 3) (ae 0) (fun _ _=>rfl))) (ae 2)) ag aP) aE))))
   (ax (aB (i:=6) sc__law_wild.nd rfl (Or.inl rfl) (aC gf hr rfl (aa (ar (ae 0) (PD.q af) (fun _ _=>rfl)) (aa af (aa (dv 1) (aa (ah aF (ae 2) (PD.q af)) (aa (dv 3) ag ab) aP) ab) aA) aw) aw (ai aA (ai ab (ai aP (ai ab ak))))))
   (ax (aB (i:=7) sc__law_wild.nd rfl (Or.inr rfl) (aC cW hr rfl (aa (ar (ae 0) (PD.q af) (fun _ _=>rfl)) (aa af (aa (ah aF (PD.q (ah aF (PD.q (ah aQ (PD.q (PF.d (bC (aa (ah aF (PD.q (ah aF (ae 1) (ae 2))) (PD.q af)) (aa af ag aA) aP)))) (PD.q af))) (PD.q (PF.d (bC (aa af (aa af (aa af ag aA) aA) aA)))))) (PD.q (ah aQ (PD.q (PF.d (bC (aa af ag aA)))) (ae 1)))) ag aP) aA) aw) aw (ai aA (ai aP ak))))
   (ax (gy (i:=8) (k:=1) (N':=["_law_k","_law_numbers"]) (cap:=[none,some 7]) rfl sc__law_wild.nd rfl (Or.inl rfl) (.ok (show bu ["_law_cells","_law_n","_law_many","_law_big","_law_leasts","_law_rows_here","_law_drawn","_law_numbers","_law_shares","_law_point","_law_ray"] (ay hX) _ ["_law_k","_law_numbers"] [none,some 7]=true by decide +kernel)) (by decide +kernel) (bf (by decide)) (dm rfl bx (aa (ar (ae 7) (PD.q af) (fun _ _=>rfl)) ag aw)) (fun _ _ _ _ _=>(aD (i:=0) (show List.Nodup (["_law_k","_law_numbers"]:List Str) by decide +kernel) rfl (Or.inl rfl))) (fun _ _ _ _ _=>(aU (aa (ah cG (PD.q (ar (ae 1) (PD.q (ah aQ (PD.q af) (ae 0))) (fun _ _=>rfl))) (PD.q af)) (aa (ah cG (PD.q (ar (ae 1) (PD.q (ah aF (PD.q (ah aQ (PD.q af) (ae 0))) (PD.q af))) (fun _ _=>rfl))) (PD.q af)) ag aP) aP))))
   (ax (aB (i:=9) sc__law_wild.nd rfl (Or.inl rfl) (aU (aa (ar (PD.q (ar (ae 6) (ae 2) (fun _ _=>rfl))) (PD.q af) (fun _ _=>rfl)) (aa (ar (ae 7) (PD.q af) (fun _ _=>rfl)) ag aw) aw)))
   (ax (aB (i:=10) sc__law_wild.nd rfl (Or.inl rfl) (bF bG rfl aG PyProof.Rows.boot_tuple (aI (PD.q (PF.d (bH (k:=1) (N':=["_law_one"]) (cap:=[none]) rfl (.ok (show bu ["_law_cells","_law_n","_law_many","_law_big","_law_leasts","_law_rows_here","_law_drawn","_law_numbers","_law_shares","_law_point","_law_ray"] (ay hX) _ ["_law_one"] [none]=true by decide +kernel)) (by decide +kernel) (bf (by decide)) (bO (cb (ae 7) (bU (PD.q af)) cC)) (fun _ _ _ _ _=>(aD (i:=0) (show List.Nodup (["_law_one"]:List Str) by decide +kernel) rfl (Or.inl rfl))) (fun _ _ _ _ _=>(ah cG (ae 0) (PD.q af)))))) aM aV) aV ak))
   (az (aH (aU (aa (ah aF (ae 5) (PD.q (cb (ae 6) cC (bU (ae 2))))) (aa (ar (PD.q (ar (ae 6) (PD.q (ah aF (ae 2) (PD.q af))) (fun _ _=>rfl))) (PD.q af) (fun _ _=>rfl)) (aa (aU (aa (dv 9) (aa (dv 10) (aa (dv 8) (aa (ar (ae 7) (PD.q af) (fun _ _=>rfl)) ag aw) ab) ab) ab)) ag bL) aw) aP))))))))))),?_⟩
 refine⟨_,rfl,bM (by decide) (by decide),⟨by omega,by omega,?_⟩,(List.replicate n (2*big+1)).map D.int,?_,c0,21,List.replicate n (2*big+1),rfl,by rw[List.length_replicate];omega,by decide,by decide,kA (by omega) (by omega),fun les hL=>?_⟩
 ·rw[show [D.int (2*big+1)].length=1 from rfl];exact small (by omega)
 ·rw[dz,Int.toNat_natCast]
 have hll:les.length=n:=by rw[hL.len,List.length_replicate]
 have hlb:=fx hL (b:=2*big+1) fun z hz=>by rw[(List.mem_replicate.mp hz).2];exact Int.le_refl _
 refine⟨⟨by omega,by omega⟩,by rw[cw];exact bc (by omega),fun i y=>∃ r:ao,RowN n 40 r∧y=av r,fun i d hd=>?_,fun ys hyl hy=>?_⟩
 ·obtain⟨hi,rfl⟩:=dZ hd
  refine⟨n,0+(i:Int),rfl,by omega,fun us hul hub _=>?_⟩
  have hi':i<les.length:=by omega
  refine⟨_,bD (aX hi') (by omega),(us,les[i] - big),⟨hul,fun x hx=>Nat.le_trans (hub x hx) (by decide),?_⟩,rfl⟩
  have:=hlb _ (List.getElem_mem hi')
  show (les[i] - big).natAbs≤_
  rw[fQ]
  omega
 obtain⟨r0,rfl,hr0⟩:=gJ hy
 rw[List.length_map,cw] at hyl
 refine⟨_,rfl,c1,22,big,n,many+2,by push_cast;rfl,by decide,by decide,by omega,by omega,hb0,by omega,fun r1 hl1 hr1=>?_⟩
 refine⟨_,rfl,⟨by decide,by decide,small (by show 2*3≤1000;decide)⟩,_,qQ 3 [(n:Int)+(many:Int)+3,6],small (by simp),_,df D.int _ [4,4,4],⟨by omega,by omega,?_⟩,(List.replicate n (6:Int)).map D.int,?_,?_,_,df D.int _ _,c2,23,_,rfl,?_,by decide,by decide,fun z hz=>?_,fun es hD=>?_⟩
 ·rw[show [D.int 6].length=1 from rfl];exact small (by omega)
 ·rw[dz,Int.toNat_natCast]
 ·exact small (by simp;omega)
 ·simp;omega
 ·have h9:(1000:Int)<2 ^ 9000:=by decide +kernel
  rcases List.mem_append.mp hz with h | h
  ·simp at h;omega
  ·rw[(List.mem_replicate.mp h).2];omega
 have hD':Drawn es (((n:Int)+(many:Int)+3)::6::((n:Int)+(many:Int)+3)::6::((n:Int)+(many:Int)+3)::6::4::4::4::List.replicate n 6):=hD
 obtain⟨x0,t,rfl,d0,hD⟩:=bV hD'
 obtain⟨x1,t,rfl,d1,hD⟩:=bV hD
 obtain⟨x2,t,rfl,d2,hD⟩:=bV hD
 obtain⟨x3,t,rfl,d3,hD⟩:=bV hD
 obtain⟨x4,t,rfl,d4,hD⟩:=bV hD
 obtain⟨x5,t,rfl,d5,hD⟩:=bV hD
 obtain⟨x6,t,rfl,d6,hD⟩:=bV hD
 obtain⟨x7,t,rfl,d7,hD⟩:=bV hD
 obtain⟨x8,t,rfl,d8,hD⟩:=bV hD
 have htl:t.length=n:=by rw[hD.len,List.length_replicate]
 have htb:=fx hD (b:=6) fun z hz=>by rw[(List.mem_replicate.mp hz).2];exact Int.le_refl _
 have hat:∀ {i:Nat} {v:Int} {k:Int},(x0::x1::x2::x3::x4::x5::x6::x7::x8::t)[i]?=some v→k=(i:Int)→bJ ((x0::x1::x2::x3::x4::x5::x6::x7::x8::t).map D.int) k=some (.int v):=fun h e=>bD h e
 refine⟨_,hat (i:=6) rfl rfl,⟨by omega,by omega⟩,by rw[cw];exact bc (by omega),fun i y=>∃ s:Int × Int,s.2.natAbs≤6∧y=aN s,fun i d hd=>?_,fun ys hyl hy=>?_⟩
 ·obtain⟨hi,rfl⟩:=dZ hd
  have hi3:i=0∨i=1∨i=2:=by omega
  rcases hi3 with rfl | rfl | rfl
  ·exact⟨bM (by decide) (by decide),_,hat (i:=0) rfl rfl,bM (by decide) (by decide),_,hat (i:=1) rfl rfl,(x0 - 1,x1 - 1),by show (x1 - 1).natAbs≤6;omega,rfl⟩
  ·exact⟨bM (by decide) (by decide),_,hat (i:=2) rfl rfl,bM (by decide) (by decide),_,hat (i:=3) rfl rfl,(x2 - 1,x3 - 1),by show (x3 - 1).natAbs≤6;omega,rfl⟩
  ·exact⟨bM (by decide) (by decide),_,hat (i:=4) rfl rfl,bM (by decide) (by decide),_,hat (i:=5) rfl rfl,(x4 - 1,x5 - 1),by show (x5 - 1).natAbs≤6;omega,rfl⟩
 obtain⟨shs,rfl,hss⟩:=gJ hy
 rw[List.length_map,cw] at hyl
 have hdr:bR ((x0::x1::x2::x3::x4::x5::x6::x7::x8::t).map D.int) (some 9) none=t.map D.int:=i6 (f:=D.int) (by decide)
 have hm1:many<r1.length:=by omega
 have hm2:many+1<r1.length:=by omega
 refine⟨_,bD (f:=av) (aX hm1) rfl,_,rfl,_,hat (i:=7) rfl rfl,_,hdr,?_⟩
 refine du (fun x=>x - 1) (bc (by omega)) (fun x hx=>rfl) ?_
 refine⟨_,mw (f:=av) (by omega),?_,_,df av _ _,_,bD (f:=av) (aX hm2) (by push_cast;rfl),_,rfl,_,hat (i:=8) rfl rfl,?_⟩
 ·rw[List.length_map,List.length_map,List.length_take];exact small (by omega)
 rw[Int.toNat_natCast]
 refine q (r0++r1.take many) r1[many+1].1 (r1[many].1,x7) (t.map fun x=>x - 1) shs x8 ⟨?_,fun r h=>?_,?_,fun x hx=>?_,⟨fun x hx=>?_,?_⟩,?_,fun x hx=>?_,?_,by omega,fun s hs=>?_,?_,fun h=>(by cases h)⟩
 ·rw[List.length_append,List.length_take];omega
 ·rcases List.mem_append.mp h with h | h
  ·exact (hr0 r h).up (by decide)
  ·exact (hr1 r (List.mem_of_mem_take h)).up (by decide)
 ·exact (hr1 _ (List.getElem_mem hm2)).1
 ·exact Nat.le_trans ((hr1 _ (List.getElem_mem hm2)).2.1 x hx) (Nat.pow_le_pow_right (by decide) (by decide))
 ·exact Nat.le_trans ((hr1 _ (List.getElem_mem hm1)).2.1 x hx) (Nat.pow_le_pow_right (by decide) (by decide))
 ·show x7.natAbs≤_
  rw[fJ];omega
 ·show (r1[many].1).length≤12
  rw[(hr1 _ (List.getElem_mem hm1)).1];omega
 ·obtain⟨u,hu,rfl⟩:=List.mem_map.mp hx
  have:=htb u hu
  show (u - 1).natAbs≤_
  rw[fJ];omega
 ·rw[List.length_map];omega
 ·exact Nat.le_trans (hss s hs) (by decide)
 ·rw[fQ];omega
theorem n0:2 ^ 201=3213876088517980551083924184682325205044405987565585670602752:=by decide
theorem eZ {x:Int}(h:gP x):x.natAbs≤2 ^ 201:=Nat.le_trans h (Nat.pow_le_pow_right (by decide) (by decide))
def gZ (xs:List Int)(k:Nat)(h:k<xs.length)(v:Int):List Int:=xs.take k++[xs[k]+v]++xs.drop (k+1)
theorem mi {xs:List Int}{k:Nat}{h:k<xs.length}{v:Int}:(gZ xs k h v).length=xs.length:=by
 unfold gZ
 rw[List.length_append,List.length_append,List.length_take,List.length_drop]
 simp
 omega
theorem nV {xs:List Int}{k:Nat}{h:k<xs.length}{v:Int}(hx:∀ x∈xs,gP x)(hv:v.natAbs≤3):∀ x∈gZ xs k h v,x.natAbs≤2 ^ 201:=fun x hm=>by
 rcases List.mem_append.mp hm with h1 | h1
 ·rcases List.mem_append.mp h1 with h2 | h2
  ·exact eZ (hx x (List.mem_of_mem_take h2))
  ·rw[List.mem_singleton.mp h2]
   have:xs[k].natAbs≤2 ^ 200:=hx _ (List.getElem_mem h)
   rw[fJ] at this
   rw[n0]
   omega
 ·exact eZ (hx x (List.mem_of_mem_drop h1))
theorem jn {a:Int}{n:Nat}(hn:0<n):0≤a % (n:Int)∧(a % (n:Int)).toNat<n∧a % (n:Int)=(((a % (n:Int)).toNat:Nat):Int):=by
 have h1:=Int.emod_nonneg a (b:=(n:Int)) (by omega)
 have h2:=Int.emod_lt_of_pos a (b:=(n:Int)) (by omega)
 omega
theorem hV {α:Type}{f:α→D}{xs:List α}{a:Int}{k:Nat}(e:a=(k:Int)):bR (xs.map f) none (some a)=(xs.take k).map f:=by
 rw[mw (by omega),e,Int.toNat_natCast]
theorem gE {α:Type}{f:α→D}{xs:List α}{a:Int}{k:Nat}(e:a=(k:Int)):bR (xs.map f) (some a) none=(xs.drop k).map f:=by
 rw[i6 (by omega),e,Int.toNat_natCast]
def pG:aR:=fun ds R=>∃ (p:ao) (way at_ step:Int),ds=[av p,.int way,.int at_,.int step]∧RowB 200 p∧p.1.length≤12∧step.natAbs≤3∧∀ p':ao,RowB 201 p'→p'.1.length≤13→R (av p')
theorem CI {n:Nat}{f:Addr}{fd:FuncData}(F:Fun K "_law_bent_point" "_law_bent_point" iZ f fd)(bq:mg "len"=none)(aG:mg "tuple"=none):FnOk P w K mg base aS (n+1) f fd ["_law_point","_law_way","_law_at","_law_step"] (aZ K pG):=by
 refine F.okD sc__law_bent_point (fun ds R h=>?_) (fun cdv A outer s H E ds R hr h=>?_)
 ·obtain⟨p,way,at_,step,rfl,_⟩:=h;rfl
 obtain⟨p,way,at_,step,rfl,hp,hl,hst,q⟩:=h
 refine⟨_,(ax (fU (dv 0) (cg (n:=2) rfl (bh (aD (i:=4) sc__law_bent_point.nd rfl (Or.inl rfl)) (bh (aD (i:=5) sc__law_bent_point.nd rfl (Or.inl rfl)) bZ))))
   (bz (bj (PWD.td (hZ (bg (bI hr.units) (ae 1) (PD.q af) (aO _)) (iM (dO (ae 4) (fun _=>rfl))))) (ax (aB (i:=2) sc__law_bent_point.nd rfl (Or.inl rfl) (ah dD (ae 2) (PD.q (bB cc rfl bq PySem.boot_len (aI (ae 4) aM ab) ab ak))))
   (az (aH (aU (aa (ah aF (PD.q (ah aF (PD.q (cb (ae 4) cC (bU (ae 2)))) (PD.q (aU (aa (ah aF (PD.q (ar (ae 4) (ae 2) (fun _ _=>rfl))) (ae 3)) ag aP))))) (PD.q (cb (ae 4) (bU (PD.q (ah aF (ae 2) (PD.q af)))) cC))) (aa (dv 5) ag ab) aP))))) bt)
   (bz (bj (bg (bI hr.units) (ae 1) (PD.q af) (aO _)) (az (aH (aU (aa (ah aF (ae 4) (PD.q (aU (aa af ag aA)))) (aa (dv 5) ag ab) aP)))) bt)
   (bz (bj (bg (bI hr.units) (ae 1) (PD.q af) (aO _)) (az (aH (aU (aa (bF bG rfl aG PyProof.Rows.boot_tuple (aI (PD.q (PF.d (bH (k:=1) (N':=["_law_one"]) (cap:=[none]) rfl (.ok (show bu ["_law_point","_law_way","_law_at","_law_step","_law_tops","_law_bottom"] (ay iZ) _ ["_law_one"] [none]=true by decide +kernel)) (by decide +kernel) (bf (by decide)) (bO (dv 4)) (fun _ _ _ _ _=>(aD (i:=0) (show List.Nodup (["_law_one"]:List Str) by decide +kernel) rfl (Or.inl rfl))) (fun _ _ _ _ _=>(dS (ae 0)))))) aM aV) aV ak) (aa (dS (ae 5)) ag iC) aE)))) bt)
   (az (aH (aU (aa (dv 4) (aa (ah aF (ae 5) (ae 3)) ag aP) ab)))))))),?_⟩
 have hlI:(((p.1.map D.int).length:Nat):Int)=(p.1.length:Int):=by rw[List.length_map]
 have hp2:p.2.natAbs≤2 ^ 201:=eZ hp.2
 refine⟨rfl,fun ρ=>ρ=[some (.v (av p)),some (.v (.int way)),some (.v (.int at_)),some (.v (.int step)),some (.v (.tup (p.1.map D.int))),some (.v (.int p.2))],⟨fun h=>⟨fun hne=>?_,fun _=>rfl⟩,fun h=>⟨fun h=>ff h,fun _=>rfl⟩⟩,?_⟩
 ·have hpos:0<p.1.length:=by
   cases e:p.1 with
   | nil=>rw[e] at hne;cases hne
   | cons=>simp
  obtain⟨m0,m1,m2⟩:=jn (a:=at_) hpos
  generalize hk:(at_ % (p.1.length:Int)).toNat=k at m1 m2
  refine⟨by rw[hlI];omega,_,hV (k:=k) (by rw[hlI];exact m2),_,bD (f:=D.int) (aX m1) (by rw[hlI];exact m2),?_,_,cN D.int _ _,_,gE (k:=k+1) (by rw[hlI];omega),?_,_,df D.int _ _,?_⟩
  ·rw[List.length_map,List.length_take];exact small (by simp;omega)
  ·simp only [List.length_map,List.length_append,List.length_take,List.length_drop];exact small (by simp;omega)
  ·exact q (gZ p.1 k m1 step,p.2) ⟨nV hp.1 hst,hp2⟩ (by show (gZ p.1 k m1 step).length≤13;rw[mi];omega)
 rintro ρ rfl
 refine⟨fun ρ=>ρ=[some (.v (av p)),some (.v (.int way)),some (.v (.int at_)),some (.v (.int step)),some (.v (.tup (p.1.map D.int))),some (.v (.int p.2))],⟨fun h=>⟨?_,_,cN D.int _ 0,?_⟩,fun h=>rfl⟩,?_⟩
 ·rw[List.length_map];exact small (by simp;omega)
 ·refine q (p.1++[0],p.2) ⟨fun x hx=>?_,hp2⟩ (by show (p.1++[0]).length≤13;rw[List.length_append];simp;omega)
  rcases List.mem_append.mp hx with h | h
  ·exact eZ (hp.1 x h)
  ·rw[List.mem_singleton.mp h];exact Nat.zero_le _
 rintro ρ rfl
 refine⟨fun ρ=>ρ=[some (.v (av p)),some (.v (.int way)),some (.v (.int at_)),some (.v (.int step)),some (.v (.tup (p.1.map D.int))),some (.v (.int p.2))],⟨fun h=>?_,fun h=>rfl⟩,?_⟩
 ·refine du (fun x=>-x) (bc (by omega)) (fun x hx=>rfl) ?_
  refine q (p.1.map fun x=>-x,-p.2) ⟨fun x hx=>?_,by show (-p.2).natAbs≤_;rw[Int.natAbs_neg];exact hp2⟩ (by show (p.1.map fun x=>-x).length≤13;rw[List.length_map];omega)
  obtain⟨u,hu,rfl⟩:=List.mem_map.mp hx
  rw[Int.natAbs_neg]
  exact eZ (hp.1 u hu)
 rintro ρ rfl
 refine q (p.1,p.2+step) ⟨fun x hx=>eZ (hp.1 x hx),?_⟩ (by show p.1.length≤13;omega)
 have:=hp.2
 show (p.2+step).natAbs≤_
 rw[fJ] at this
 rw[n0]
 omega
def ub:aR:=fun ds R=>∃ (shs:List (Int × Int)) (way at_ step:Int),ds=[.lst (shs.map aN),.int way,.int at_,.int step]∧shs≠[]∧shs.length≤20∧(∀ s∈shs,s.2.natAbs≤2 ^ 40)∧step.natAbs≤3∧∀ shs':List (Int × Int),shs'.length≤22→(∀ s∈shs',s.2.natAbs≤2 ^ 41)→R (.lst (shs'.map aN))
theorem iG:2 ^ 41=2199023255552:=by decide
theorem wK {n:Nat}{f:Addr}{fd:FuncData}(F:Fun K "_law_bent_shares" "_law_bent_shares" kU f fd)(bq:mg "len"=none):FnOk P w K mg base aS (n+1) f fd ["_law_shares","_law_way","_law_at","_law_step"] (aZ K ub):=by
 refine F.okD sc__law_bent_shares (fun ds R h=>?_) (fun cdv A outer s H E ds R hr h=>?_)
 ·obtain⟨shs,way,at_,step,rfl,_⟩:=h;rfl
 obtain⟨shs,way,at_,step,rfl,hne,hl,hb,hst,q⟩:=h
 refine⟨_,(ax (fU (ar (ae 0) (PD.q (ah dD (ae 2) (PD.q (bB cc rfl bq PySem.boot_len (aI (ae 0) aM ab) ab ak)))) (fun _ _=>rfl)) (cg (n:=2) rfl (bh (aD (i:=4) sc__law_bent_shares.nd rfl (Or.inl rfl)) (bh (aD (i:=5) sc__law_bent_shares.nd rfl (Or.inl rfl)) bZ))))
   (ax (aB (i:=6) sc__law_bent_shares.nd rfl (Or.inl rfl) (ah aF (PD.q (cb (ae 0) cC (bU (PD.q (ah dD (ae 2) (PD.q (bB cc rfl bq PySem.boot_len (aI (ae 0) aM ab) ab ak))))))) (PD.q (cb (ae 0) (bU (PD.q (ah aF (PD.q (ah dD (ae 2) (PD.q (bB cc rfl bq PySem.boot_len (aI (ae 0) aM ab) ab ak)))) (PD.q af)))) cC))))
   (bz (bj (bg (bI hr.units) (ae 1) (PD.q af) (aO _)) (az (aH (ah aF (ae 6) (PD.q (PF.d (bC (aa (aU (aa (ah aF (ae 4) (ae 3)) (aa (dv 5) ag ab) aP)) ag bL))))))) bt)
   (bz (bj (bg (bI hr.units) (ae 1) (PD.q af) (aO _)) (az (aH (ah aF (ae 6) (PD.q (PF.d (bC (aa (aU (aa (dv 4) (aa (ah aF (ae 5) (ae 3)) ag aP) ab)) ag bL))))))) bt)
   (bz (bj (bg (bI hr.units) (ae 1) (PD.q af) (aO _)) (az (aH (dv 6))) bt)
   (az (aH (ah aF (ae 0) (PD.q (PF.d (bC (aa (aU (aa (dv 4) (aa af ag aA) ab)) (aa (aU (aa (dv 4) (aa (dS (PD.q af)) ag iC) ab)) ag bL) bL)))))))))))),?_⟩
 have hlI:(((shs.map aN).length:Nat):Int)=(shs.length:Int):=by rw[List.length_map]
 have hpos:0<shs.length:=List.length_pos_iff.mpr hne
 obtain⟨m0,m1,m2⟩:=jn (a:=at_) hpos
 have hb':∀ s∈shs,s.2.natAbs≤2 ^ 41:=fun s hs=>Nat.le_trans (hb s hs) (by decide)
 generalize hk:(at_ % (shs.length:Int)).toNat=k at m1 m2
 have hs1:=hb _ (List.getElem_mem m1)
 rw[fQ] at hs1
 refine⟨by rw[hlI];omega,_,bD (f:=aN) (aX m1) (by rw[hlI];exact m2),rfl,by rw[hlI];omega,_,hV (k:=k) (by rw[hlI];exact m2),by rw[hlI];omega,_,gE (k:=k+1) (by rw[hlI];omega),?_,_,df aN _ _,?_⟩
 ·simp only [List.length_map,List.length_append,List.length_take,List.length_drop];exact small (by omega)
 have hrb:∀ s∈shs.take k++shs.drop (k+1),s.2.natAbs≤2 ^ 41:=fun s hs=>by
  rcases List.mem_append.mp hs with h | h
  ·exact hb' s (List.mem_of_mem_take h)
  ·exact hb' s (List.mem_of_mem_drop h)
 have hrl:(shs.take k++shs.drop (k+1)).length≤20:=by
  simp only [List.length_append,List.length_take,List.length_drop];omega
 have hsz:∀ xs:List (Int × Int),xs.length≤20→∀ ys:List D,ys.length≤2→(xs.map aN).length+ys.length≤sizeLine:=fun xs h ys h2=>by rw[List.length_map];exact small (by omega)
 have fin:∀ (xs ys:List (Int × Int)),xs.length≤20→ys.length≤2→(∀ s∈xs,s.2.natAbs≤2 ^ 41)→(∀ s∈ys,s.2.natAbs≤2 ^ 41)→R (.lst ((xs++ys).map aN)):=fun xs ys h1 h2 h3 h4=>q (xs++ys) (by rw[List.length_append];omega) fun s hs=>(List.mem_append.mp hs).elim (h3 s) (h4 s)
 refine⟨fun ρ=>ρ=[some (.v (.lst (shs.map aN))),some (.v (.int way)),some (.v (.int at_)),some (.v (.int step)),some (.v (.int shs[k].1)),some (.v (.int shs[k].2)),some (.v (.lst ((shs.take k++shs.drop (k+1)).map aN)))],⟨fun h=>⟨hsz _ hrl _ (by simp),_,cN aN _ (shs[k].1+step,shs[k].2),fin _ [_] hrl (by simp) hrb fun s hs=>?_⟩,fun h=>rfl⟩,?_⟩
 ·rw[List.mem_singleton.mp hs,iG]
  show shs[k].2.natAbs≤_
  omega
 rintro ρ rfl
 refine⟨fun ρ=>ρ=[some (.v (.lst (shs.map aN))),some (.v (.int way)),some (.v (.int at_)),some (.v (.int step)),some (.v (.int shs[k].1)),some (.v (.int shs[k].2)),some (.v (.lst ((shs.take k++shs.drop (k+1)).map aN)))],⟨fun h=>⟨hsz _ hrl _ (by simp),_,cN aN _ (shs[k].1,shs[k].2+step),fin _ [_] hrl (by simp) hrb fun s hs=>?_⟩,fun h=>rfl⟩,?_⟩
 ·rw[List.mem_singleton.mp hs,iG]
  show (shs[k].2+step).natAbs≤_
  omega
 rintro ρ rfl
 refine⟨fun ρ=>ρ=[some (.v (.lst (shs.map aN))),some (.v (.int way)),some (.v (.int at_)),some (.v (.int step)),some (.v (.int shs[k].1)),some (.v (.int shs[k].2)),some (.v (.lst ((shs.take k++shs.drop (k+1)).map aN)))],⟨fun h=>?_,fun h=>rfl⟩,?_⟩
 ·have:=fin _ [] hrl (by simp) hrb fun s hs=>absurd hs List.not_mem_nil
  rw[List.append_nil] at this
  exact this
 rintro ρ rfl
 refine⟨hsz _ hl _ (by simp),_,df aN _ [(shs[k].1,1),(shs[k].1,-1)],fin shs _ hl (by simp) hb' fun s hs=>?_⟩
 simp only [List.mem_cons,List.not_mem_nil,or_false] at hs
 rcases hs with rfl | rfl <;> simp only <;> decide
def vI (n:Nat)(R:D→Prop):Prop:=∀ (p:ao) (ray:List Int) (shs:List (Int × Int)) (d:Int),RowB 201 p→p.1.length≤13→(∀ x∈ray,x.natAbs≤2 ^ 201)→ray.length≤13→shs.length≤22→(∀ s∈shs,s.2.natAbs≤2 ^ 41)→d.natAbs≤2 ^ 41→R (dJ p ray shs d)
def qX:aR:=fun ds R=>∃ (p:ao) (ray:List Int) (shs:List (Int × Int)) (d spoil way at_ step:Int),ds=[dJ p ray shs d,.int spoil,.int way,.int at_,.int step]∧RowB 200 p∧p.1.length≤12∧(∀ x∈ray,gP x)∧ray.length≤12∧shs.length≤20∧(∀ s∈shs,s.2.natAbs≤2 ^ 40)∧d.natAbs≤2 ^ 40∧step.natAbs≤3∧0≤way∧way<4∧vI 0 R
def lh (ps:D)(spoil way at_ step:Int)(p:ao)(ray:List Int)(shs:List (Int × Int))(d:Int):bP:=[some (.v ps),some (.v (.int spoil)),some (.v (.int way)),some (.v (.int at_)),some (.v (.int step)),some (.v (av p)),some (.v (.tup (ray.map D.int))),some (.v (.lst (shs.map aN))),some (.v (.int d))]
theorem wq {n:Nat}{f:Addr}{fd:FuncData}(F:Fun K "_law_bent" "_law_bent" jV f fd)(DV:Cl P w K mg base n "_law_bent_point" ["_law_point","_law_way","_law_at","_law_step"] pG)(DR:Cl P w K mg base n "_law_bent_shares" ["_law_shares","_law_way","_law_at","_law_step"] ub)(bq:mg "len"=none):FnOk P w K mg base aS (n+1) f fd ["_law_parts","_law_spoil","_law_way","_law_at","_law_step"] (aZ K qX):=by
 refine F.okD sc__law_bent (fun ds R h=>?_) (fun cdv A outer s H E ds R hr h=>?_)
 ·obtain⟨p0,ray0,shs0,d0,spoil,way,at_,step,rfl,_⟩:=h;rfl
 obtain⟨p0,ray0,shs0,d0,spoil,way,at_,step,rfl,hp,hpl,hy,hyl,hsl,hs0,hd,hst,hw0,hw4,q⟩:=h
 refine⟨_,(ax (fU (dv 0) (cg (n:=4) rfl (bh (aD (i:=5) sc__law_bent.nd rfl (Or.inl rfl)) (bh (aD (i:=6) sc__law_bent.nd rfl (Or.inl rfl)) (bh (aD (i:=7) sc__law_bent.nd rfl (Or.inl rfl)) (bh (aD (i:=8) sc__law_bent.nd rfl (Or.inl rfl)) bZ))))))
   (bz (bj (bg (bI hr.units) (ae 1) (PD.q af) (aO _)) (az (aB (i:=5) sc__law_bent.nd rfl (Or.inl rfl) (aC DV hr rfl (aa (dv 5) (aa (dv 2) (aa (dv 3) (aa (dv 4) ag ab) ab) ab) ab) ab (ai ab (ai ab (ai ab ak)))))) bt)
   (bz (bj (PWD.td (hZ (bg (bI hr.units) (ae 1) (PD.q af) (aO _)) (iM (dO (ae 7) (fun _=>rfl))))) (az (aB (i:=7) sc__law_bent.nd rfl (Or.inl rfl) (aC DR hr rfl (aa (dv 7) (aa (dv 2) (aa (dv 3) (aa (dv 4) ag ab) ab) ab) ab) ab (ai ab (ai ab (ai ab ak)))))) bt)
   (bz (bj (bg (bI hr.units) (ae 1) (PD.q af) (aO _)) (az (aB (i:=8) sc__law_bent.nd rfl (Or.inl rfl) (ar (PD.q (PF.d (bC (aa af (aa (ah aF (ae 8) (ae 4)) (aa (dS (ae 8)) (aa (ah aF (ae 8) (PD.q af)) ag aP) iC) aP) aA)))) (ae 2) (fun _ _=>rfl)))) bt)
   (bz (bj (PWD.td (hZ (bg (bI hr.units) (ae 1) (PD.q af) (aO _)) (iM (bg gq (ae 2) (PD.q af) (aO _))))) (az (aB (i:=6) sc__law_bent.nd rfl (Or.inl rfl) (ar (PD.q (PF.d (bC (aa (ah aF (ae 6) (PD.q (aU (aa af ag aA)))) (aa (cb (ae 6) (bU (PD.q af)) cC) ag aw) aP)))) (PD.q (ah dD (ae 2) (PD.q af))) (fun _ _=>rfl)))) bt)
   (bz (bj (PWD.td (hZ (bg (bI hr.units) (ae 1) (PD.q af) (aO _)) (hZ (bg dA (ae 2) (PD.q af) (aO _)) (iM (dO (ae 6) (fun _=>rfl)))))) (ax (aB (i:=3) sc__law_bent.nd rfl (Or.inl rfl) (ah dD (ae 3) (PD.q (bB cc rfl bq PySem.boot_len (aI (ae 6) aM ab) ab ak))))
   (az (aB (i:=6) sc__law_bent.nd rfl (Or.inl rfl) (ah aF (PD.q (ah aF (PD.q (cb (ae 6) cC (bU (ae 3)))) (PD.q (aU (aa (ah aF (PD.q (ar (ae 6) (ae 3) (fun _ _=>rfl))) (ae 4)) ag aP))))) (PD.q (cb (ae 6) (bU (PD.q (ah aF (ae 3) (PD.q af)))) cC)))))) bt)
   (az (aH (aU (aa (dv 5) (aa (dv 6) (aa (dv 7) (aa (dv 8) ag ab) ab) ab) ab)))))))))),?_⟩
 have e40':=fQ
 have hd':d0.natAbs≤1099511627776:=by rw[← fQ];exact hd
 have hp1:RowB 201 p0:=⟨fun x hx=>eZ (hp.1 x hx),eZ hp.2⟩
 have hs1:∀ s∈shs0,s.2.natAbs≤2 ^ 41:=fun s hs=>Nat.le_trans (hs0 s hs) (by decide)
 refine⟨rfl,fun ρ=>∃ p:ao,(RowB 201 p∧p.1.length≤13)∧ρ=lh (dJ p0 ray0 shs0 d0) spoil way at_ step p ray0 shs0 d0,⟨fun h=>⟨p0,way,at_,step,rfl,hp,hpl,hst,fun p' h1 h2=>⟨p',⟨h1,h2⟩,rfl⟩⟩,fun h=>⟨p0,⟨hp1,by omega⟩,rfl⟩⟩,?_⟩
 rintro ρ ⟨p,hpp,rfl⟩
 refine⟨fun ρ=>∃ shs:List (Int × Int),(shs.length≤22∧∀ s∈shs,s.2.natAbs≤2 ^ 41)∧ρ=lh (dJ p0 ray0 shs0 d0) spoil way at_ step p ray0 shs d0,⟨fun h=>⟨fun hne=>⟨shs0,way,at_,step,rfl,fun e=>?_,hsl,hs0,hst,fun shs' h1 h2=>⟨shs',⟨h1,h2⟩,rfl⟩⟩,fun _=>⟨shs0,⟨by omega,hs1⟩,rfl⟩⟩,fun h=>⟨fun h=>ff h,fun _=>⟨shs0,⟨by omega,hs1⟩,rfl⟩⟩⟩,?_⟩
 ·subst e;cases hne
 rintro ρ ⟨shs,hss,rfl⟩
 refine⟨fun ρ=>∃ d:Int,d.natAbs≤2 ^ 41∧ρ=lh (dJ p0 ray0 shs0 d0) spoil way at_ step p ray0 shs d,⟨fun h=>?_,fun h=>⟨d0,by rw[iG];omega,rfl⟩⟩,?_⟩
 ·have hk:way=0∨way=1∨way=2∨way=3:=by omega
  rcases hk with rfl | rfl | rfl | rfl
  ·exact⟨_,rfl,_,by decide,rfl⟩
  ·exact⟨_,rfl,_,by rw[iG];omega,rfl⟩
  ·exact⟨_,rfl,_,by rw[iG];omega,rfl⟩
  ·exact⟨_,rfl,_,by rw[iG];omega,rfl⟩
 rintro ρ ⟨d,hdd,rfl⟩
 have hy1:∀ x∈ray0,x.natAbs≤2 ^ 201:=fun x hx=>eZ (hy x hx)
 refine⟨fun ρ=>∃ ray:List Int,((way<2→ray=ray0)∧ray.length≤13∧∀ x∈ray,x.natAbs≤2 ^ 201)∧ρ=lh (dJ p0 ray0 shs0 d0) spoil way at_ step p ray shs d,⟨fun h=>⟨fun h2=>?_,fun _=>⟨ray0,⟨fun _=>rfl,by omega,hy1⟩,rfl⟩⟩,fun h=>⟨fun h=>ff h,fun _=>⟨ray0,⟨fun _=>rfl,by omega,hy1⟩,rfl⟩⟩⟩,?_⟩
 ·have h3:way>1:=dP h2
  refine⟨?_,_,cN D.int ray0 0,_,gE (k:=1) rfl,(by decide:(0:Int)<2),?_⟩
  ·rw[List.length_map];exact small (by simp;omega)
  ·have hk:way=2∨way=3:=by omega
   rcases hk with rfl | rfl
   ·refine⟨_,rfl,ray0++[0],⟨fun h=>absurd h (by decide),by rw[List.length_append];simp;omega,fun x hx=>?_⟩,rfl⟩
    rcases List.mem_append.mp hx with h | h
    ·exact hy1 x h
    ·rw[List.mem_singleton.mp h];exact Nat.zero_le _
   ·exact⟨_,rfl,ray0.drop 1,⟨fun h=>absurd h (by decide),by rw[List.length_drop];omega,fun x hx=>hy1 x (List.mem_of_mem_drop hx)⟩,rfl⟩
 rintro ρ ⟨ray,⟨hr1,hr2,hr3⟩,rfl⟩
 refine⟨fun ρ=>∃ (ray':List Int) (u3:Option Sl),(ray'.length≤13∧∀ x∈ray',x.natAbs≤2 ^ 201)∧ρ=[some (.v (dJ p0 ray0 shs0 d0)),some (.v (.int spoil)),some (.v (.int way)),u3,some (.v (.int step)),some (.v (av p)),some (.v (.tup (ray'.map D.int))),some (.v (.lst (shs.map aN))),some (.v (.int d))],⟨fun h=>⟨fun h2=>⟨fun hne=>?_,fun _=>⟨ray,_,⟨hr2,hr3⟩,rfl⟩⟩,fun _=>⟨fun h=>ff h,fun _=>⟨ray,_,⟨hr2,hr3⟩,rfl⟩⟩⟩,fun h=>⟨fun h=>ff h,fun _=>⟨ray,_,⟨hr2,hr3⟩,rfl⟩⟩⟩,?_⟩
 ·obtain rfl:=hr1 (dP h2)
  have hlI:(((ray.map D.int).length:Nat):Int)=(ray.length:Int):=by rw[List.length_map]
  have hpos:0<ray.length:=by
   cases ray with
   | nil=>cases hne
   | cons=>simp
  obtain⟨m0,m1,m2⟩:=jn (a:=at_) hpos
  generalize hk:(at_ % (ray.length:Int)).toNat=k at m1 m2
  refine⟨by rw[hlI];omega,_,hV (k:=k) (by rw[hlI];exact m2),_,bD (f:=D.int) (aX m1) (by rw[hlI];exact m2),?_,_,cN D.int _ _,_,gE (k:=k+1) (by rw[hlI];omega),?_,_,df D.int _ _,gZ ray k m1 step,_,⟨by rw[mi];omega,nV hy hst⟩,rfl⟩
  ·rw[List.length_map,List.length_take];exact small (by simp;omega)
  ·simp only [List.length_map,List.length_append,List.length_take,List.length_drop];exact small (by simp;omega)
 rintro ρ ⟨ray',u3,hrr,rfl⟩
 exact q p ray' shs d hpp.1 hpp.2 hrr.2 hrr.1 hss.1 hss.2 hdd
def sF:aR:=fun ds R=>∃ (rs:List ao) (goal:List Int) (spoil at_ step:Int) (n:Nat),ds=[.lst (rs.map av),.tup (goal.map D.int),.int spoil,.int at_,.int step]∧rs.length≤12∧goal.length=n∧n≤12∧(∀ r∈rs,RowN n 200 r)∧(∀ x∈goal,gP x)∧step.natAbs≤3 ∧
 ∀ (rs':List ao) (goal':List Int),rs'.length≤12→goal'.length=n→(∀ r∈rs',RowN n 201 r)→(∀ x∈goal',x.natAbs≤2 ^ 201)→R (.tup [.lst (rs'.map av),.tup (goal'.map D.int)])
theorem CD {n:Nat}{f:Addr}{fd:FuncData}(F:Fun K "_law_bent_rows" "_law_bent_rows" k6 f fd)(bq:mg "len"=none):FnOk P w K mg base aS (n+1) f fd ["_law_rows_here","_law_goal","_law_spoil","_law_at","_law_step"] (aZ K sF):=by
 refine F.okD sc__law_bent_rows (fun ds R h=>?_) (fun cdv A outer s H E ds R hr h=>?_)
 ·obtain⟨rs,goal,spoil,at_,step,n,rfl,_⟩:=h;rfl
 obtain⟨rs,goal,spoil,at_,step,n,rfl,hrl,hgl,hn,hrr,hg,hst,q⟩:=h
 refine⟨_,(bz (bj (PWD.td (hZ (bg (bI hr.units) (ae 2) (PD.q af) (aO _)) (iM (dO (ae 0) (fun _=>rfl))))) (ax (aB (i:=3) sc__law_bent_rows.nd rfl (Or.inl rfl) (ah dD (ae 3) (PD.q (bB cc rfl bq PySem.boot_len (aI (ae 0) aM ab) ab ak))))
   (az (aB (i:=0) sc__law_bent_rows.nd rfl (Or.inl rfl) (ah aF (PD.q (ah aF (PD.q (cb (ae 0) cC (bU (ae 3)))) (PD.q (PF.d (bC (aa (aU (aa (ar (PD.q (ar (ae 0) (ae 3) (fun _ _=>rfl))) (PD.q af) (fun _ _=>rfl)) (aa (ah aF (PD.q (ar (PD.q (ar (ae 0) (ae 3) (fun _ _=>rfl))) (PD.q af) (fun _ _=>rfl))) (ae 4)) ag aP) aw)) ag bL)))))) (PD.q (cb (ae 0) (bU (PD.q (ah aF (ae 3) (PD.q af)))) cC)))))) bt)
   (bz (bj (PWD.td (hZ (bg (bI hr.units) (ae 2) (PD.q af) (aO _)) (iM (dO (ae 1) (fun _=>rfl))))) (ax (aB (i:=3) sc__law_bent_rows.nd rfl (Or.inl rfl) (ah dD (ae 3) (PD.q (bB cc rfl bq PySem.boot_len (aI (ae 1) aM ab) ab ak))))
   (az (aB (i:=1) sc__law_bent_rows.nd rfl (Or.inl rfl) (ah aF (PD.q (ah aF (PD.q (cb (ae 1) cC (bU (ae 3)))) (PD.q (aU (aa (ah aF (PD.q (ar (ae 1) (ae 3) (fun _ _=>rfl))) (ae 4)) ag aP))))) (PD.q (cb (ae 1) (bU (PD.q (ah aF (ae 3) (PD.q af)))) cC)))))) bt)
   (az (aH (aU (aa (dv 0) (aa (dv 1) ag ab) ab)))))),?_⟩
 have hr1:∀ r∈rs,RowN n 201 r:=fun r h=>(hrr r h).up (by decide)
 have hg1:∀ x∈goal,x.natAbs≤2 ^ 201:=fun x hx=>eZ (hg x hx)
 refine⟨fun ρ=>∃ (rs':List ao) (a':Int),(rs'.length≤12∧∀ r∈rs',RowN n 201 r)∧ρ=[some (.v (.lst (rs'.map av))),some (.v (.tup (goal.map D.int))),some (.v (.int spoil)),some (.v (.int a')),some (.v (.int step))],⟨fun h=>⟨fun hne=>?_,fun _=>⟨rs,_,⟨hrl,hr1⟩,rfl⟩⟩,fun h=>⟨fun h=>ff h,fun _=>⟨rs,_,⟨hrl,hr1⟩,rfl⟩⟩⟩,?_⟩
 ·have hlI:(((rs.map av).length:Nat):Int)=(rs.length:Int):=by rw[List.length_map]
  have hpos:0<rs.length:=by
   cases rs with
   | nil=>cases hne
   | cons=>simp
  obtain⟨m0,m1,m2⟩:=jn (a:=at_) hpos
  generalize hk:(at_ % (rs.length:Int)).toNat=k at m1 m2
  have e1:bJ (rs.map av) (at_ % (((rs.map av).length:Nat):Int))=some (av rs[k]):=bD (f:=av) (aX m1) (by rw[hlI];exact m2)
  refine⟨by rw[hlI];omega,_,hV (k:=k) (by rw[hlI];exact m2),_,e1,_,rfl,_,e1,_,rfl,?_,_,cN av _ (rs[k].1,rs[k].2+step),_,gE (k:=k+1) (by rw[hlI];omega),?_,_,df av _ _,rs.take k++[(rs[k].1,rs[k].2+step)]++rs.drop (k+1),_,⟨?_,fun r h=>?_⟩,rfl⟩
  ·rw[List.length_map,List.length_take];exact small (by simp;omega)
  ·simp only [List.length_map,List.length_append,List.length_take,List.length_drop];exact small (by simp;omega)
  ·simp only [List.length_append,List.length_take,List.length_drop];simp;omega
  ·rcases List.mem_append.mp h with h | h
   ·rcases List.mem_append.mp h with h | h
    ·exact hr1 r (List.mem_of_mem_take h)
    ·rw[List.mem_singleton.mp h]
     have h5:=hrr _ (List.getElem_mem m1)
     refine⟨h5.1,fun x hx=>eZ (h5.2.1 x hx),?_⟩
     have h6:rs[k].2.natAbs≤2 ^ 200:=h5.2.2
     show (rs[k].2+step).natAbs≤2 ^ 201
     rw[fJ] at h6
     rw[n0]
     omega
   ·exact hr1 r (List.mem_of_mem_drop h)
 rintro ρ ⟨rs',a',⟨hl',hr'⟩,rfl⟩
 refine⟨fun ρ=>∃ (goal':List Int) (u3:Option Sl),(goal'.length=n∧∀ x∈goal',x.natAbs≤2 ^ 201)∧ρ=[some (.v (.lst (rs'.map av))),some (.v (.tup (goal'.map D.int))),some (.v (.int spoil)),u3,some (.v (.int step))],⟨fun h=>⟨fun hne=>?_,fun _=>⟨goal,_,⟨hgl,hg1⟩,rfl⟩⟩,fun h=>⟨fun h=>ff h,fun _=>⟨goal,_,⟨hgl,hg1⟩,rfl⟩⟩⟩,?_⟩
 ·have hlI:(((goal.map D.int).length:Nat):Int)=(goal.length:Int):=by rw[List.length_map]
  have hpos:0<goal.length:=by
   cases goal with
   | nil=>cases hne
   | cons=>simp
  obtain⟨m0,m1,m2⟩:=jn (a:=a') hpos
  generalize hk:(a' % (goal.length:Int)).toNat=k at m1 m2
  refine⟨by rw[hlI];omega,_,hV (k:=k) (by rw[hlI];exact m2),_,bD (f:=D.int) (aX m1) (by rw[hlI];exact m2),?_,_,cN D.int _ _,_,gE (k:=k+1) (by rw[hlI];omega),?_,_,df D.int _ _,gZ goal k m1 step,_,⟨by rw[mi];omega,nV hg hst⟩,rfl⟩
  ·rw[List.length_map,List.length_take];exact small (by simp;omega)
  ·simp only [List.length_map,List.length_append,List.length_take,List.length_drop];exact small (by simp;omega)
 rintro ρ ⟨goal',u3,⟨h1,h2⟩,rfl⟩
 exact q rs' goal' hl' h1 hr' h2
def pd:aR:=fun ds R=>∃ (c0 c1 c2:Int) (n many:Nat) (big:Int),ds=[.lst ([c0,c1,c2].map D.int),.int (n:Int),.int (many:Int),.int big]∧n≤3∧many≤4∧0<big∧big≤2 ^ 31∧i7 true n R
theorem uf {es ts:List Int}{n:Nat}(hn:es.length=n)(h3:n≤3)(he:∀ x∈es,B40 x)(ht:∀ x∈ts,B40 x):(aj es ts).natAbs≤2 ^ 85:=by
 refine Nat.le_trans (L2.dot_le (A:=2 ^ 40) (B:=2 ^ 40) he ht) ?_
 rw[hn]
 exact Nat.le_trans (Nat.mul_le_mul_right _ h3) (by decide)
theorem Bm {n:Nat}{f:Addr}{fd:FuncData}(F:Fun K "_law_endless_built" "_law_endless_built" ie f fd)(cW:Cl P w K mg base n "_law_draws" ["_law_cell_here","_law_salt","_law_sizes"] fB)(gf:Cl P w K mg base n "_law_rows" ["_law_cell_here","_law_salt","_law_n","_law_many","_law_big"] iy)(lL:Cl P w K mg base n "_law_along" ["_law_entries","_law_ray"] lR)(fZ:Cl P w K mg base n "_law_unit" ["_law_n","_law_at"] iA)(lM:Cl P w K mg base n "_law_under" ["_law_top","_law_bottom","_law_slack"] n5)(di:Cl P w K mg base n "_law_left" ["_law_entries","_law_spot"] gv)(aG:mg "tuple"=none)(bx:mg "range"=none):FnOk P w K mg base aS (n+1) f fd ["_law_cells","_law_n","_law_many","_law_big"] (aZ K pd):=by
 refine F.okD sc__law_endless_built (fun ds R h=>?_) (fun cdv A outer s H E ds R hr h=>?_)
 ·obtain⟨c0,c1,c2,n,many,big,rfl,_⟩:=h;rfl
 obtain⟨c0,c1,c2,n,many,big,rfl,hn,hm,hb0,hb1,q⟩:=h
 refine⟨_,(ax (aB (i:=4) sc__law_endless_built.nd rfl (Or.inl rfl) (aC cW hr rfl (aa (ar (ae 0) (PD.q af) (fun _ _=>rfl)) (aa af (aa (ah aF (PD.q (ah aF (PD.q (ah aQ (PD.q (PF.d (bC (aa af ag aA)))) (ae 1))) (PD.q (ah aQ (PD.q (PF.d (bC (aa (ah aF (PD.q (ah aQ (PD.q af) (ae 3))) (PD.q af)) ag aP)))) (ae 1))))) (PD.q (PF.d (bC (aa af ag aA))))) ag aP) aA) aw) aw (ai aA (ai aP ak))))
   (ax (aB (i:=5) sc__law_endless_built.nd rfl (Or.inl rfl) (bF bG rfl aG PyProof.Rows.boot_tuple (aI (PD.q (cb (ae 4) cC (bU (ae 1)))) aM aw) aw ak))
   (ax (aB (i:=6) sc__law_endless_built.nd rfl (Or.inr rfl) (bF bG rfl aG PyProof.Rows.boot_tuple (aI (PD.q (PF.d (bH (k:=1) (N':=["_law_one","_law_big"]) (cap:=[none,some 3]) rfl (.ok (show bu ["_law_cells","_law_n","_law_many","_law_big","_law_numbers","_law_ray","_law_tops","_law_bottom","_law_slacks","_law_rows_here","_law_drawn","_law_k","_law_entries","_law_goal"] (ay ie) _ ["_law_one","_law_big"] [none,some 3]=true by decide +kernel)) (by decide +kernel) (bf (by decide)) (bO (cb (ae 4) (bU (ae 1)) (bU (PD.q (ah aQ (PD.q af) (ae 1)))))) (fun _ _ _ _ _=>(aD (i:=0) (show List.Nodup (["_law_one","_law_big"]:List Str) by decide +kernel) rfl (Or.inl rfl))) (fun _ _ _ _ _=>(ah cG (ae 0) (ae 1)))))) aM aV) aV ak))
   (ax (aB (i:=7) sc__law_endless_built.nd rfl (Or.inr rfl) (ah aF (PD.q af) (PD.q (ar (ae 4) (PD.q (ah aQ (PD.q af) (ae 1))) (fun _ _=>rfl)))))
   (ax (aB (i:=8) sc__law_endless_built.nd rfl (Or.inr rfl) (aC cW hr rfl (aa (ar (ae 0) (PD.q af) (fun _ _=>rfl)) (aa af (aa (ah aQ (PD.q (PF.d (bC (aa af ag aA)))) (PD.q (ah aF (ae 1) (ae 2)))) ag aP) aA) aw) aw (ai aA (ai aP ak))))
   (ax (nv (i:=9) (k:=1) (N':=["_law_k","_law_n","_law_bottom","_law_tops","_law_slacks"]) (cap:=[none,some 1,some 7,some 6,some 8]) rfl sc__law_endless_built.nd rfl (Or.inl rfl) (.ok (show bu ["_law_cells","_law_n","_law_many","_law_big","_law_numbers","_law_ray","_law_tops","_law_bottom","_law_slacks","_law_rows_here","_law_drawn","_law_k","_law_entries","_law_goal"] (ay ie) _ ["_law_k","_law_n","_law_bottom","_law_tops","_law_slacks"] [none,some 1,some 7,some 6,some 8]=true by decide +kernel)) (by decide +kernel) (bf (by decide)) (dm rfl bx (aa (dv 1) ag ab)) (fun _ _ _ _ _=>(aD (i:=0) (show List.Nodup (["_law_k","_law_n","_law_bottom","_law_tops","_law_slacks"]:List Str) by decide +kernel) rfl (Or.inl rfl))) (fun _ _ _ _ _=>(aU (aa (aC fZ hr rfl (aa (dv 1) (aa (dv 0) ag ab) ab) ab (ai ab ak)) (aa (aC lM hr rfl (aa (ar (ae 3) (ae 0) (fun _ _=>rfl)) (aa (dv 2) (aa (ar (ae 4) (ae 0) (fun _ _=>rfl)) ag aw) ab) aw) aw (ai ab (ai aw ak))) ag aE) aE))))
   (ax (aB (i:=10) sc__law_endless_built.nd rfl (Or.inl rfl) (aC gf hr rfl (aa (ar (ae 0) (PD.q af) (fun _ _=>rfl)) (aa af (aa (dv 1) (aa (ah aF (ae 2) (PD.q af)) (aa (dv 3) ag ab) aP) ab) aA) aw) aw (ai aA (ai ab (ai aP (ai ab ak))))))
   (ax (eK PassesOwn.never rfl (dm rfl bx (aa (dv 2) ag ab)) (aD (i:=11) sc__law_endless_built.nd rfl (Or.inl rfl)) (ax (aB (i:=12) sc__law_endless_built.nd rfl (Or.inl rfl) (aC lL hr rfl (aa (ar (PD.q (ar (ae 10) (ae 11) (fun _ _=>rfl))) (PD.q af) (fun _ _=>rfl)) (aa (dv 5) ag ab) aw) aw (ai ab ak)))
   (az (fc 9 (aU (aa (dv 12) (aa (aC lM hr rfl (aa (aC di hr rfl (aa (dv 12) (aa (dv 6) ag ab) ab) ab (ai ab ak)) (aa (dv 7) (aa (ar (ae 8) (PD.q (ah aF (ae 1) (ae 11))) (fun _ _=>rfl)) ag aw) ab) aE) aE (ai ab (ai aw ak))) ag aE) ab)) (fb bL) bL))))
   (ax (aB (i:=13) sc__law_endless_built.nd rfl (Or.inl rfl) (aC lL hr rfl (aa (ar (PD.q (ar (ae 10) (ae 2) (fun _ _=>rfl))) (PD.q af) (fun _ _=>rfl)) (aa (dv 5) ag ab) aw) aw (ai ab ak)))
   (gj 9 (az (aH (aU (aa (dv 9) (aa (dv 13) (aa (aU (aa (aU (aa (dv 6) (aa (dv 7) ag ab) ab)) (aa (dv 5) (aa (PF.d (bC (aa (aU (aa af (aa af ag aA) aA)) ag bL))) (aa af ag aA) js) ab) bL)) ag bL) ab) ab)))))))))))))),?_⟩
 have e40':=fQ
 have h64:(2:Int) ^ 64<2 ^ 9000:=by decide +kernel
 refine⟨_,rfl,⟨by omega,by omega,?_⟩,(List.replicate n (5:Int)).map D.int,?_,bM (by decide) (by decide),⟨by omega,by omega,?_⟩,(List.replicate n (2*big+1)).map D.int,?_,?_,_,df D.int _ _,?_,_,cN D.int _ 3,c0,15,_,rfl,?_,by decide,by decide,fun z hz=>?_,fun es hD=>?_⟩
 ·rw[show [D.int 5].length=1 from rfl];exact small (by omega)
 ·rw[dz,Int.toNat_natCast]
 ·rw[show [D.int (2*big+1)].length=1 from rfl];exact small (by omega)
 ·rw[dz,Int.toNat_natCast]
 ·simp only [List.length_map,List.length_replicate];exact small (by omega)
 ·simp only [List.length_map,List.length_append,List.length_replicate];exact small (by simp;omega)
 ·simp;omega
 ·rcases List.mem_append.mp hz with h | h
  ·rcases List.mem_append.mp h with h | h
   ·rw[(List.mem_replicate.mp h).2];omega
   ·rw[(List.mem_replicate.mp h).2];omega
  ·rw[List.mem_singleton.mp h];omega
 have hel:es.length=2*n+1:=by rw[hD.len];simp;omega
 have heb:=fx hD (b:=2*big+6) fun z hz=>by
  rcases List.mem_append.mp hz with h | h
  ·rcases List.mem_append.mp h with h | h
   ·rw[(List.mem_replicate.mp h).2];omega
   ·rw[(List.mem_replicate.mp h).2];omega
  ·rw[List.mem_singleton.mp h];omega
 obtain⟨bo,hbo,hbb⟩:=hD.at (i:=2*n) (z:=3) (by
  rw[List.getElem?_append_right (by simp;omega)]
  have e0:2*n - (List.replicate n (5:Int)++List.replicate n (2*big+1)).length=0:=by simp;omega
  rw[e0]
  rfl)
 obtain⟨pl,pm⟩:=qI (xs:=es) (lo:=(n:Int)) (hi:=2*(n:Int)) (a:=n) (b:=2*n) rfl (by push_cast;rfl) (by omega) (by omega)
 have ecut:=hJ D.int es (some (n:Int)) (some (2*(n:Int)))
 generalize bR es (some (n:Int)) (some (2*(n:Int)))=ps at pl pm ecut
 refine⟨_,hV (k:=n) rfl,bM (by decide) (by decide),_,ecut,?_⟩
 refine du (fun x=>x - big) (bc (by omega)) (fun x hx=>rfl) ?_
 have hyb:∀ x∈es.take n,B40 x:=fun x hx=>by
  have:=heb x (List.mem_of_mem_take hx)
  show x.natAbs≤2 ^ 40
  omega
 have hyl':(es.take n).length≤12:=by rw[List.length_take];omega
 have hyn:(es.take n).length=n:=by rw[List.length_take];omega
 have htl:(ps.map fun x=>x - big).length=n:=by rw[List.length_map];omega
 have htb:∀ x∈(ps.map fun x=>x - big),B40 x:=fun x hx=>by
  obtain⟨u,hu,rfl⟩:=List.mem_map.mp hx
  have:=heb u (pm u hu)
  show (u - big).natAbs≤2 ^ 40
  omega
 generalize (ps.map fun x=>x - big)=tops at htl htb ⊢
 generalize es.take n=ray at hyb hyl' hyn ⊢
 refine⟨bM (by decide) (by decide),_,bD (f:=D.int) hbo (by push_cast;rfl),?_⟩
 have hsI:(n:Int)+(many:Int)=((n+many:Nat):Int):=by push_cast;rfl
 refine⟨_,rfl,⟨by omega,by omega,?_⟩,(List.replicate (n+many) (5:Int)).map D.int,?_,c2,16,List.replicate (n+many) 5,rfl,by rw[List.length_replicate];omega,by decide,by decide,kA (by decide) (by decide),fun sl hS=>?_⟩
 ·rw[show [D.int 5].length=1 from rfl];exact small (by omega)
 ·rw[dz,hsI,Int.toNat_natCast]
 have hsll:sl.length=n+many:=by rw[hS.len,List.length_replicate]
 have hslb:=fx hS (b:=5) fun z hz=>by rw[(List.mem_replicate.mp hz).2];exact Int.le_refl _
 refine⟨⟨by omega,by omega⟩,by rw[cw];exact bc (by omega),fun i y=>∃ r:ao,RowN n 200 r∧y=av r,fun i d hd=>?_,fun ys hyl hy=>?_⟩
 ·obtain⟨hi,rfl⟩:=dZ hd
  have hi1:i<tops.length:=by omega
  have hi2:i<sl.length:=by omega
  have hs5:=hslb _ (List.getElem_mem hi2)
  refine⟨n,0+(i:Int),rfl,by omega,fun us hul hub _=>⟨_,bD (f:=D.int) (aX hi1) (by omega),_,bD (f:=D.int) (aX hi2) (by omega),tops[i],1+bo,sl[i],rfl,by omega,by omega,by omega,by omega,fun x hx=>⟨(us,x),⟨hul,fun y hy=>Nat.le_trans (hub y hy) (by decide),?_⟩,rfl⟩⟩⟩
  have:tops[i].natAbs≤2 ^ 40:=htb _ (List.getElem_mem hi1)
  show x.natAbs≤2 ^ 200
  rw[fJ]
  omega
 obtain⟨r0,rfl,hr0⟩:=gJ hy
 rw[List.length_map,cw] at hyl
 refine⟨_,rfl,c1,17,big,n,many+1,by push_cast;rfl,by decide,by decide,by omega,by omega,hb0,by omega,fun dr hdl hdr=>?_⟩
 refine⟨⟨by omega,by omega⟩,fun i ρ=>∃ (rs:List ao) (u11 u12:Option Sl),ρ=[some (.v (.lst ([c0,c1,c2].map D.int))),some (.v (.int n)),some (.v (.int many)),some (.v (.int big)),some (.v (.lst (es.map D.int))),some (.v (.tup (ray.map D.int))),some (.v (.tup (tops.map D.int))),some (.v (.int (1+bo))),some (.v (.lst (sl.map D.int))),some (.own (rs.map av)),some (.v (.lst (dr.map av))),u11,u12,none]∧rs.length=n+i∧∀ r∈rs,RowN n 200 r,⟨r0,_,_,rfl,by omega,hr0⟩,?_,?_⟩
 ·rintro i d ρ hd ⟨rs,u11,u12,rfl,hrl,hrs⟩
  obtain⟨hi,rfl⟩:=dZ hd
  have hi1:i<dr.length:=by omega
  have hi2:n+i<sl.length:=by omega
  have hs5:=hslb _ (List.getElem_mem hi2)
  have hdi:=hdr _ (List.getElem_mem hi1)
  refine⟨_,bD (f:=av) (aX hi1) (by omega),_,rfl,dr[i].1,ray,rfl,by rw[hdi.1];omega,hdi.2.1,hyb,fun en hel hen=>?_⟩
  have hel':en.length=n:=hel.trans hdi.1
  refine⟨en,tops,rfl,by omega,fun x hx=>B40.big (hen x hx),fun x hx=>B40.big (htb x hx),_,bD (f:=D.int) (aX hi2) (by push_cast;omega),aj en tops,1+bo,sl[n+i],rfl,by omega,by omega,by omega,by omega,fun x hx=>?_⟩
  refine⟨by rw[List.length_map];exact bc (by omega),_,cN av _ (en,x),rs++[(en,x)],_,_,rfl,by rw[List.length_append];simp;omega,fun r h=>?_⟩
  rcases List.mem_append.mp h with h | h
  ·exact hrs r h
  ·rw[List.mem_singleton.mp h]
   refine⟨hel',fun y hy=>Nat.le_trans (hen y hy) (Nat.pow_le_pow_right (by decide) (by decide)),?_⟩
   have h85:=uf hel' (by omega) hen htb
   have e85:2 ^ 85=38685626227668133590597632:=by decide
   show x.natAbs≤2 ^ 200
   rw[e85] at h85
   rw[fJ]
   omega
 rintro ρ ⟨rs,u11,u12,rfl,hrl,hrs⟩
 rw[cw] at hrl
 have hm1:many<dr.length:=by omega
 have hdm:=hdr _ (List.getElem_mem hm1)
 refine⟨_,bD (f:=av) (aX hm1) rfl,_,rfl,dr[many].1,ray,rfl,by rw[hdm.1];omega,hdm.2.1,hyb,fun gl hgl hgb=>?_⟩
 exact q rs gl (tops,1+bo) ray [(0,1)] 1 ⟨by omega,hrs,hgl.trans hdm.1,fun x hx=>Nat.le_trans (hgb x hx) (Nat.pow_le_pow_right (by decide) (by decide)),⟨fun x hx=>Nat.le_trans (htb x hx) (Nat.pow_le_pow_right (by decide) (by decide)),by show (1+bo).natAbs≤2 ^ 200;rw[fJ];omega⟩,by show tops.length≤12;omega,fun x hx=>Nat.le_trans (hyb x hx) (Nat.pow_le_pow_right (by decide) (by decide)),hyl',by simp,fun s hs=>(by rw[List.mem_singleton.mp hs];decide),by decide,fun _=>⟨(by show 1≤1+bo;omega),(by show tops.length=n;omega),hyn⟩⟩
def rW:aR:=fun ds R=>∃ (c0 c1 c2:Int) (n many:Nat) (big:Int) (tops:List Int) (bo:Int) (ray:List Int),ds=[.lst ([c0,c1,c2].map D.int),.int (n:Int),.int (many:Int),.int big,av (tops,bo),.tup (ray.map D.int)]∧n≤3∧many≤4∧0<big∧big≤2 ^ 31∧tops.length=n∧(∀ x∈tops,B40 x)∧1≤bo∧bo≤3∧(∀ x∈ray,B40 x)∧∀ rs:List ao,rs.length=n+many→(∀ r∈rs,RowN n 90 r)→R (.lst (rs.map av))
theorem wa {n:Nat}{f:Addr}{fd:FuncData}(F:Fun K "_law_best_rows" "_law_best_rows" iR f fd)(cW:Cl P w K mg base n "_law_draws" ["_law_cell_here","_law_salt","_law_sizes"] fB)(gf:Cl P w K mg base n "_law_rows" ["_law_cell_here","_law_salt","_law_n","_law_many","_law_big"] iy)(lL:Cl P w K mg base n "_law_along" ["_law_entries","_law_ray"] lR)(di:Cl P w K mg base n "_law_left" ["_law_entries","_law_spot"] gv)(fZ:Cl P w K mg base n "_law_unit" ["_law_n","_law_at"] iA)(lM:Cl P w K mg base n "_law_under" ["_law_top","_law_bottom","_law_slack"] n5)(fY:mg "enumerate"=none)(bx:mg "range"=none)(aG:mg "tuple"=none):FnOk P w K mg base aS (n+1) f fd ["_law_cells","_law_n","_law_many","_law_big","_law_point","_law_ray"] (aZ K rW):=by
 refine F.okD sc__law_best_rows (fun ds R h=>?_) (fun cdv A outer s H E ds R hr h=>?_)
 ·obtain⟨c0,c1,c2,n,many,big,tops,bo,ray,rfl,_⟩:=h;rfl
 obtain⟨c0,c1,c2,n,many,big,tops,bo,ray,rfl,hn,hm,hb0,hb1,htl,htb,hbo1,hbo3,hyb,q⟩:=h
 refine⟨_,(ax (fU (dv 4) (cg (n:=2) rfl (bh (aD (i:=6) sc__law_best_rows.nd rfl (Or.inr rfl)) (bh (aD (i:=7) sc__law_best_rows.nd rfl (Or.inr rfl)) bZ))))
   (ax (aB (i:=8) sc__law_best_rows.nd rfl (Or.inr rfl) (aC cW hr rfl (aa (ar (ae 0) (PD.q af) (fun _ _=>rfl)) (aa af (aa (ah aQ (PD.q (PF.d (bC (aa af ag aA)))) (PD.q (ah aF (ae 1) (ae 2)))) ag aP) aA) aw) aw (ai aA (ai aP ak))))
   (ax (nv (i:=9) (k:=1) (N':=["_law_k","_law_n","_law_bottom","_law_tops","_law_slacks"]) (cap:=[none,some 1,some 7,some 6,some 8]) rfl sc__law_best_rows.nd rfl (Or.inl rfl) (.ok (show bu ["_law_cells","_law_n","_law_many","_law_big","_law_point","_law_ray","_law_tops","_law_bottom","_law_slacks","_law_rows_here","_law_k","_law_entries","_law_bound","_law_total_here"] (ay iR) _ ["_law_k","_law_n","_law_bottom","_law_tops","_law_slacks"] [none,some 1,some 7,some 6,some 8]=true by decide +kernel)) (by decide +kernel) (bf (by decide)) (dm rfl bx (aa (dv 1) ag ab)) (fun _ _ _ _ _=>(aD (i:=0) (show List.Nodup (["_law_k","_law_n","_law_bottom","_law_tops","_law_slacks"]:List Str) by decide +kernel) rfl (Or.inl rfl))) (fun _ _ _ _ _=>(aU (aa (aC fZ hr rfl (aa (dv 1) (aa (dv 0) ag ab) ab) ab (ai ab ak)) (aa (aC lM hr rfl (aa (ar (ae 3) (ae 0) (fun _ _=>rfl)) (aa (dv 2) (aa (ar (ae 4) (ae 0) (fun _ _=>rfl)) ag aw) ab) aw) aw (ai ab (ai aw ak))) ag aE) aE))))
   (ax (eK PassesOwn.never rfl (mB rfl fY (aa (aC gf hr rfl (aa (ar (ae 0) (PD.q af) (fun _ _=>rfl)) (aa af (aa (dv 1) (aa (dv 2) (aa (dv 3) ag ab) ab) ab) aA) aw) aw (ai aA (ai ab (ai ab (ai ab ak))))) ag aE)) (cg (n:=2) rfl (bh (aD (i:=10) sc__law_best_rows.nd rfl (Or.inl rfl)) (bh (cg (n:=2) rfl (bh (aD (i:=11) sc__law_best_rows.nd rfl (Or.inl rfl)) (bh (aD (i:=12) sc__law_best_rows.nd rfl (Or.inl rfl)) bZ))) bZ))) (ax (aB (i:=11) sc__law_best_rows.nd rfl (Or.inl rfl) (aC lL hr rfl (aa (dv 11) (aa (dv 5) ag ab) ab) ab (ai ab ak)))
   (ax (aB (i:=13) sc__law_best_rows.nd rfl (Or.inl rfl) (aC di hr rfl (aa (dv 11) (aa (dv 6) ag ab) ab) ab (ai ab ak)))
   (az (bj (bg dA (PD.q (ar (ae 8) (PD.q (ah aF (ae 1) (ae 10))) (fun _ _=>rfl))) (PD.q af) (aO _)) (az (fc 9 (aU (aa (bF bG rfl aG PyProof.Rows.boot_tuple (aI (PD.q (PF.d (bH (k:=1) (N':=["_law_one","_law_bottom"]) (cap:=[none,some 7]) rfl (.ok (show bu ["_law_cells","_law_n","_law_many","_law_big","_law_point","_law_ray","_law_tops","_law_bottom","_law_slacks","_law_rows_here","_law_k","_law_entries","_law_bound","_law_total_here"] (ay iR) _ ["_law_one","_law_bottom"] [none,some 7]=true by decide +kernel)) (by decide +kernel) (bf (by decide)) (bO (dv 11)) (fun _ _ _ _ _=>(aD (i:=0) (show List.Nodup (["_law_one","_law_bottom"]:List Str) by decide +kernel) rfl (Or.inl rfl))) (fun _ _ _ _ _=>(ah aQ (ae 1) (ae 0)))))) aM aV) aV ak) (aa (dv 13) ag ab) aE)) (fb bL) bL)) (az (fc 9 (aU (aa (dv 11) (aa (ah eQ (ae 13) (ae 7)) ag aP) ab)) (fb bL) bL)))))))
   (gj 9 (az (aH (dv 9)))))))),?_⟩
 have e40':=fQ
 have e90:2 ^ 90=1237940039285380274899124224:=by decide
 have h9:(1000:Int)<2 ^ 9000:=by decide +kernel
 have hsI:(n:Int)+(many:Int)=((n+many:Nat):Int):=by push_cast;rfl
 refine⟨rfl,_,rfl,⟨by omega,by omega,?_⟩,(List.replicate (n+many) (4:Int)).map D.int,?_,c2,18,List.replicate (n+many) 4,rfl,by rw[List.length_replicate];omega,by decide,by decide,kA (by decide) (by decide),fun sl hS=>?_⟩
 ·rw[show [D.int 4].length=1 from rfl];exact small (by omega)
 ·rw[dz,hsI,Int.toNat_natCast]
 have hsll:sl.length=n+many:=by rw[hS.len,List.length_replicate]
 have hslb:=fx hS (b:=4) fun z hz=>by rw[(List.mem_replicate.mp hz).2];exact Int.le_refl _
 refine⟨⟨by omega,by omega⟩,by rw[cw];exact bc (by omega),fun i y=>∃ r:ao,RowN n 90 r∧y=av r,fun i d hd=>?_,fun ys hyl hy=>?_⟩
 ·obtain⟨hi,rfl⟩:=dZ hd
  have hi1:i<tops.length:=by omega
  have hi2:i<sl.length:=by omega
  have hs5:=hslb _ (List.getElem_mem hi2)
  refine⟨n,0+(i:Int),rfl,by omega,fun us hul hub _=>⟨_,bD (f:=D.int) (aX hi1) (by omega),_,bD (f:=D.int) (aX hi2) (by omega),tops[i],bo,sl[i],rfl,by omega,by omega,by omega,by omega,fun x hx=>⟨(us,x),⟨hul,fun y hy=>Nat.le_trans (hub y hy) (by decide),?_⟩,rfl⟩⟩⟩
  have:tops[i].natAbs≤2 ^ 40:=htb _ (List.getElem_mem hi1)
  show x.natAbs≤2 ^ 90
  rw[e90]
  omega
 obtain⟨r0,rfl,hr0⟩:=gJ hy
 rw[List.length_map,cw] at hyl
 refine⟨_,rfl,c1,19,big,n,many,rfl,by decide,by decide,by omega,by omega,hb0,by omega,fun dr hdl hdr=>?_⟩
 refine⟨fun i ρ=>∃ (rs:List ao) (u10 u11 u12 u13:Option Sl),ρ=[some (.v (.lst ([c0,c1,c2].map D.int))),some (.v (.int n)),some (.v (.int many)),some (.v (.int big)),some (.v (av (tops,bo))),some (.v (.tup (ray.map D.int))),some (.v (.tup (tops.map D.int))),some (.v (.int bo)),some (.v (.lst (sl.map D.int))),some (.own (rs.map av)),u10,u11,u12,u13]∧rs.length=n+i∧∀ r∈rs,RowN n 90 r,⟨r0,_,_,_,_,rfl,by omega,hr0⟩,?_,?_⟩
 ·rintro i d ρ hd ⟨rs,u10,u11,u12,u13,rfl,hrl,hrs⟩
  obtain⟨e,he,rfl⟩:=lg hd
  obtain⟨r,rfl,hri⟩:=fv he
  have hi1:=c9 hri
  have hdi:=hdr r (List.mem_of_getElem? hri)
  have hi2:n+i<sl.length:=by omega
  refine⟨rfl,rfl,r.1,ray,rfl,by rw[hdi.1];omega,hdi.2.1,hyb,fun en hel hen=>?_⟩
  have hel':en.length=n:=hel.trans hdi.1
  have h85:=uf hel' (by omega) hen htb
  have e85:2 ^ 85=38685626227668133590597632:=by decide
  rw[e85] at h85
  refine⟨en,tops,rfl,by omega,fun x hx=>B40.big (hen x hx),fun x hx=>B40.big (htb x hx),_,bD (f:=D.int) (aX hi2) (by push_cast;rfl),fun h=>?_,fun h=>?_⟩
  ·refine du (fun x=>bo*x) (bc (by omega)) (fun x hx=>⟨bM (by omega) (by omega),rfl⟩) ?_
   refine⟨by rw[List.length_map];exact bc (by omega),_,cN av _ (en.map fun x=>bo*x,aj en tops),rs++[(en.map fun x=>bo*x,aj en tops)],_,_,_,_,rfl,by rw[List.length_append];simp;omega,fun r' h=>?_⟩
   rcases List.mem_append.mp h with h | h
   ·exact hrs r' h
   ·rw[List.mem_singleton.mp h]
    refine⟨by show (en.map fun x=>bo*x).length=n;rw[List.length_map];exact hel',fun y hy=>?_,?_⟩
    ·obtain⟨u,hu,rfl⟩:=List.mem_map.mp hy
     have hu':u.natAbs≤2 ^ 40:=hen u hu
     have:(bo*u).natAbs≤3*2 ^ 40:=by rw[Int.natAbs_mul];exact Nat.mul_le_mul (by omega) hu'
     exact Nat.le_trans this (by decide)
    ·show (aj en tops).natAbs≤2 ^ 90
     rw[e90];omega
  ·refine⟨CDivB.of (by omega) (by omega),by rw[List.length_map];exact bc (by omega),_,cN av _ (en,aj en tops / bo),rs++[(en,aj en tops / bo)],_,_,_,_,rfl,by rw[List.length_append];simp;omega,fun r' h=>?_⟩
   rcases List.mem_append.mp h with h | h
   ·exact hrs r' h
   ·rw[List.mem_singleton.mp h]
    refine⟨hel',fun y hy=>Nat.le_trans (hen y hy) (Nat.pow_le_pow_right (by decide) (by decide)),?_⟩
    have h1:=Int.natAbs_ediv_le_natAbs (aj en tops) bo
    show (aj en tops / bo).natAbs≤2 ^ 90
    rw[e90];omega
 rintro ρ ⟨rs,u10,u11,u12,u13,rfl,hrl,hrs⟩
 rw[ja,List.length_map] at hrl
 exact q rs (by omega) hrs
def rG:aR:=fun ds R=>∃ (c0 c1 c2:Int) (n many:Nat) (big:Int),ds=[.lst ([c0,c1,c2].map D.int),.int (n:Int),.int (many:Int),.int big]∧n≤3∧many≤4∧0<big∧big≤2 ^ 31∧i7 true n R
def fP (n many:Nat)(big:Int):List Int:=List.replicate n (2*big+1)++[3,2,3,3,2]++List.replicate (2*n+many) 4
theorem tm (n many:Nat)(big:Int):(fP n many big).length=3*n+5+many:=by unfold fP;simp;omega
theorem jC {n many:Nat}{big:Int}{j:Nat}{v:Int}(h:[(3:Int),2,3,3,2][j]?=some v):(fP n many big)[n+j]?=some v:=by
 have hj:=c9 h
 unfold fP
 rw[List.append_assoc,List.getElem?_append_right (by simp),List.length_replicate,Nat.add_sub_cancel_left,List.getElem?_append_left hj]
 exact h
theorem yE {n many:Nat}{big:Int}{j:Nat}(h:j<2*n+many):(fP n many big)[n+5+j]?=some 4:=by
 unfold fP
 rw[List.getElem?_append_right (by simp),List.getElem?_replicate,if_pos (by simp;omega)]
theorem AF {n:Nat}{f:Addr}{fd:FuncData}(F:Fun K "_law_best_built" "_law_best_built" fL f fd)(cW:Cl P w K mg base n "_law_draws" ["_law_cell_here","_law_salt","_law_sizes"] fB)(D1:Cl P w K mg base n "_law_best_rows" ["_law_cells","_law_n","_law_many","_law_big","_law_point","_law_ray"] rW)(oB:Cl P w K mg base n "_law_total" ["_law_rows_here","_law_shares","_law_n"] mr)(D0:Cl P w K mg base n "_law_fits" ["_law_entries","_law_bound","_law_least","_law_point"] sv)(aG:mg "tuple"=none)(fY:mg "enumerate"=none)(eV:mg "max"=none):FnOk P w K mg base aS (n+1) f fd ["_law_cells","_law_n","_law_many","_law_big"] (aZ K rG):=by
 refine F.okD sc__law_best_built (fun ds R h=>?_) (fun cdv A outer s H E ds R hr h=>?_)
 ·obtain⟨c0,c1,c2,n,many,big,rfl,_⟩:=h;rfl
 obtain⟨c0,c1,c2,n,many,big,rfl,hn,hm,hb0,hb1,q⟩:=h
 refine⟨_,(ax (aB (i:=4) sc__law_best_built.nd rfl (Or.inl rfl) (aC cW hr rfl (aa (ar (ae 0) (PD.q af) (fun _ _=>rfl)) (aa af (aa (ah aF (PD.q (ah aF (PD.q (ah aQ (PD.q (PF.d (bC (aa (ah aF (PD.q (ah aQ (PD.q af) (ae 3))) (PD.q af)) ag aP)))) (ae 1))) (PD.q (PF.d (bC (aa af (aa af (aa af (aa af (aa af ag aA) aA) aA) aA) aA)))))) (PD.q (ah aQ (PD.q (PF.d (bC (aa af ag aA)))) (PD.q (ah aF (PD.q (ah aQ (PD.q af) (ae 1))) (ae 2)))))) ag aP) aA) aw) aw (ai aA (ai aP ak))))
   (ax (aB (i:=5) sc__law_best_built.nd rfl (Or.inl rfl) (bF bG rfl aG PyProof.Rows.boot_tuple (aI (PD.q (PF.d (bH (k:=1) (N':=["_law_one"]) (cap:=[none]) rfl (.ok (show bu ["_law_cells","_law_n","_law_many","_law_big","_law_numbers","_law_ray","_law_tops","_law_bottom","_law_rows_here","_law_divisor","_law_shares","_law_k","_law_entries","_law_bound","_law_weight","_law_total_here","_law_goal","_law_times","_law_scale","_law_point"] (ay fL) _ ["_law_one"] [none]=true by decide +kernel)) (by decide +kernel) (bf (by decide)) (bO (cb (ae 4) (bU (PD.q (ah aF (PD.q (ah aF (PD.q (ah aQ (PD.q af) (ae 1))) (PD.q af))) (ae 2)))) cC)) (fun _ _ _ _ _=>(aD (i:=0) (show List.Nodup (["_law_one"]:List Str) by decide +kernel) rfl (Or.inl rfl))) (fun _ _ _ _ _=>(bB (kC rfl) rfl eV PyProof.Rows.boot_max (aI (PD.q af) (aI (PD.q (ah cG (ae 0) (PD.q af))) aM aP) aA) aA (ai aP ak)))))) aM aV) aV ak))
   (ax (aB (i:=6) sc__law_best_built.nd rfl (Or.inl rfl) (bF bG rfl aG PyProof.Rows.boot_tuple (aI (PD.q (PF.d (bH (k:=1) (N':=["_law_one","_law_big"]) (cap:=[none,some 3]) rfl (.ok (show bu ["_law_cells","_law_n","_law_many","_law_big","_law_numbers","_law_ray","_law_tops","_law_bottom","_law_rows_here","_law_divisor","_law_shares","_law_k","_law_entries","_law_bound","_law_weight","_law_total_here","_law_goal","_law_times","_law_scale","_law_point"] (ay fL) _ ["_law_one","_law_big"] [none,some 3]=true by decide +kernel)) (by decide +kernel) (bf (by decide)) (bO (cb (ae 4) cC (bU (ae 1)))) (fun _ _ _ _ _=>(aD (i:=0) (show List.Nodup (["_law_one","_law_big"]:List Str) by decide +kernel) rfl (Or.inl rfl))) (fun _ _ _ _ _=>(ah cG (ae 0) (ae 1)))))) aM aV) aV ak))
   (ax (aB (i:=7) sc__law_best_built.nd rfl (Or.inl rfl) (ah aF (PD.q af) (PD.q (ar (ae 4) (ae 1) (fun _ _=>rfl)))))
   (ax (aB (i:=8) sc__law_best_built.nd rfl (Or.inl rfl) (aC D1 hr rfl (aa (dv 0) (aa (dv 1) (aa (dv 2) (aa (dv 3) (aa (aU (aa (dv 6) (aa (dv 7) ag ab) ab)) (aa (dv 5) ag ab) bL) ab) ab) ab) ab) ab (ai ab (ai ab (ai ab (ai bL (ai ab ak)))))))
   (ax (aB (i:=9) sc__law_best_built.nd rfl (Or.inr rfl) af)
   (bz (bj (bg (bI hr.units) (PD.q (ar (ae 4) (PD.q (ah aF (ae 1) (PD.q af))) (fun _ _=>rfl))) (PD.q af) (aO _)) (az (aB (i:=9) sc__law_best_built.nd rfl (Or.inr rfl) (dv 7))) bt)
   (ax (gA (i:=10) sc__law_best_built.nd rfl (Or.inl rfl) (bC ag))
   (ax (eK PassesOwn.never rfl (mB rfl fY (aa (dv 8) ag ab)) (cg (n:=2) rfl (bh (aD (i:=11) sc__law_best_built.nd rfl (Or.inl rfl)) (bh (cg (n:=2) rfl (bh (aD (i:=12) sc__law_best_built.nd rfl (Or.inl rfl)) (bh (aD (i:=13) sc__law_best_built.nd rfl (Or.inl rfl)) bZ))) bZ))) (ax (aB (i:=14) sc__law_best_built.nd rfl (Or.inl rfl) (ar (ae 4) (PD.q (ah aF (PD.q (ah aF (ae 1) (PD.q af))) (ae 11))) (fun _ _=>rfl)))
   (bz (bj (bg dA (ae 11) (ae 1) (aO _)) (az (aB (i:=14) sc__law_best_built.nd rfl (Or.inl rfl) (ah aQ (ae 14) (ae 9)))) bt)
   (az (bj (dO (PD.q (aC D0 hr rfl (aa (dv 12) (aa (dv 13) (aa (cZ dA (ae 11) (ae 1) (aO _)) (aa (aU (aa (dv 6) (aa (dv 7) ag ab) ab)) ag bL) lD) ab) ab) ab (ai ab (ai lD (ai bL ak))))) (fun _=>rfl)) (az (fc 10 (aU (aa (dv 11) (aa (dv 14) ag ab) ab)) (fb bL) bL)) bt)))))
   (gj 10 (ax (aB (i:=15) sc__law_best_built.nd rfl (Or.inl rfl) (aC oB hr rfl (aa (dv 8) (aa (dv 10) (aa (dv 1) ag ab) ab) ab) ab (ai ab (ai ab ak))))
   (ax (aB (i:=16) sc__law_best_built.nd rfl (Or.inl rfl) (bF bG rfl aG PyProof.Rows.boot_tuple (aI (PD.q (PF.d (bH (k:=1) (N':=["_law_one","_law_divisor"]) (cap:=[none,some 9]) rfl (.ok (show bu ["_law_cells","_law_n","_law_many","_law_big","_law_numbers","_law_ray","_law_tops","_law_bottom","_law_rows_here","_law_divisor","_law_shares","_law_k","_law_entries","_law_bound","_law_weight","_law_total_here","_law_goal","_law_times","_law_scale","_law_point"] (ay fL) _ ["_law_one","_law_divisor"] [none,some 9]=true by decide +kernel)) (by decide +kernel) (bf (by decide)) (bO (cb (ae 15) cC (bU (ae 1)))) (fun _ _ _ _ _=>(aD (i:=0) (show List.Nodup (["_law_one","_law_divisor"]:List Str) by decide +kernel) rfl (Or.inl rfl))) (fun _ _ _ _ _=>(ah eQ (PD.q (dS (ae 0))) (ae 1)))))) aM aV) aV ak))
   (ax (aB (i:=17) sc__law_best_built.nd rfl (Or.inr rfl) (ah aF (PD.q af) (PD.q (ar (ae 4) (PD.q (ah aF (ae 1) (PD.q af))) (fun _ _=>rfl)))))
   (gj 10 (ax (nv (i:=10) (k:=2) (N':=["_law_k","_law_weight","_law_times"]) (cap:=[none,none,some 17]) rfl sc__law_best_built.nd rfl (Or.inl rfl) (.ok (show bu ["_law_cells","_law_n","_law_many","_law_big","_law_numbers","_law_ray","_law_tops","_law_bottom","_law_rows_here","_law_divisor","_law_shares","_law_k","_law_entries","_law_bound","_law_weight","_law_total_here","_law_goal","_law_times","_law_scale","_law_point"] (ay fL) _ ["_law_k","_law_weight","_law_times"] [none,none,some 17]=true by decide +kernel)) (by decide +kernel) (fo (n:=2) (cY (bf (by decide)) (cY (bf (by decide)) fi))) (bO (dv 10)) (fun _ _ _ _ _=>(cg (n:=2) rfl (bh (aD (i:=0) (show List.Nodup (["_law_k","_law_weight","_law_times"]:List Str) by decide +kernel) rfl (Or.inl rfl)) (bh (aD (i:=1) (show List.Nodup (["_law_k","_law_weight","_law_times"]:List Str) by decide +kernel) rfl (Or.inl rfl)) bZ)))) (fun _ _ _ _ _=>(aU (aa (dv 0) (aa (ah aQ (ae 1) (ae 2)) ag aP) ab))))
   (bz (bj (dO (ae 10) (fun _=>rfl)) (ax (fU (ar (ae 10) (PD.q af) (fun _ _=>rfl)) (cg (n:=2) rfl (bh (aD (i:=11) sc__law_best_built.nd rfl (Or.inl rfl)) (bh (aD (i:=14) sc__law_best_built.nd rfl (Or.inl rfl)) bZ))))
   (az (gA (i:=10) sc__law_best_built.nd rfl (Or.inl rfl) (pW (PD.q (cb (ae 10) (bU (PD.q af)) cC)) (PD.q (PF.d (bC (aa (aU (aa (dv 11) (aa (ah cG (ae 14) (PD.q (ah eQ (ae 14) (PD.q af)))) ag aP) ab)) (aa (aU (aa (dv 11) (aa (ah eQ (ae 14) (PD.q af)) ag aP) ab)) ag bL) bL)))))))) bt)
   (bz (bj (bg (bI hr.units) (PD.q (ar (ae 4) (PD.q (ah aF (ae 1) (PD.q af))) (fun _ _=>rfl))) (PD.q af) (aO _)) (az (gA (i:=10) sc__law_best_built.nd rfl (Or.inl rfl) (zV (ae 10) (bU (PD.q (dS (PD.q af))))))) bt)
   (ax (aB (i:=18) sc__law_best_built.nd rfl (Or.inr rfl) (ah aF (PD.q af) (PD.q (ar (ae 4) (PD.q (ah aF (ae 1) (PD.q af))) (fun _ _=>rfl)))))
   (ax (aB (i:=19) sc__law_best_built.nd rfl (Or.inl rfl) (aU (aa (bF bG rfl aG PyProof.Rows.boot_tuple (aI (PD.q (PF.d (bH (k:=1) (N':=["_law_one","_law_scale"]) (cap:=[none,some 18]) rfl (.ok (show bu ["_law_cells","_law_n","_law_many","_law_big","_law_numbers","_law_ray","_law_tops","_law_bottom","_law_rows_here","_law_divisor","_law_shares","_law_k","_law_entries","_law_bound","_law_weight","_law_total_here","_law_goal","_law_times","_law_scale","_law_point"] (ay fL) _ ["_law_one","_law_scale"] [none,some 18]=true by decide +kernel)) (by decide +kernel) (bf (by decide)) (bO (dv 6)) (fun _ _ _ _ _=>(aD (i:=0) (show List.Nodup (["_law_one","_law_scale"]:List Str) by decide +kernel) rfl (Or.inl rfl))) (fun _ _ _ _ _=>(ah aQ (ae 1) (ae 0)))))) aM aV) aV ak) (aa (ah aQ (ae 18) (ae 7)) ag aP) aE)))
   (gj 10 (az (aH (aU (aa (dv 8) (aa (dv 16) (aa (aU (aa (dv 19) (aa (dv 5) (aa (dv 10) (aa (ah aQ (ae 9) (ae 17)) ag aP) ab) ab) ab)) ag bL) ab) ab)))))))))))))))))))))))),?_⟩
 have e40':=fQ
 have h64:(2:Int) ^ 64<2 ^ 9000:=by decide +kernel
 have hsI:2*(n:Int)+(many:Int)=((2*n+many:Nat):Int):=by push_cast;rfl
 refine⟨_,rfl,bM (by decide) (by decide),⟨by omega,by omega,?_⟩,(List.replicate n (2*big+1)).map D.int,?_,?_,_,df D.int _ [3,2,3,3,2],bM (by decide) (by decide),⟨by omega,by omega,?_⟩,(List.replicate (2*n+many) (4:Int)).map D.int,?_,?_,_,df D.int _ _,c0,20,fP n many big,rfl,by rw[tm];omega,by decide,by decide,fun z hz=>?_,fun es hD=>?_⟩
 ·rw[show [D.int (2*big+1)].length=1 from rfl];exact small (by omega)
 ·rw[dz,Int.toNat_natCast]
 ·simp only [List.length_map,List.length_replicate];exact small (by simp;omega)
 ·rw[show [D.int 4].length=1 from rfl];exact small (by omega)
 ·rw[dz,hsI,Int.toNat_natCast]
 ·simp only [List.length_map,List.length_append,List.length_replicate];exact small (by simp;omega)
 ·unfold fP at hz
  rcases List.mem_append.mp hz with h | h
  ·rcases List.mem_append.mp h with h | h
   ·rw[(List.mem_replicate.mp h).2];omega
   ·simp at h;omega
  ·rw[(List.mem_replicate.mp h).2];omega
 have hel:es.length=3*n+5+many:=by rw[hD.len,tm]
 have heb:=fx hD (b:=2*big+6) fun z hz=>by
  unfold fP at hz
  rcases List.mem_append.mp hz with h | h
  ·rcases List.mem_append.mp h with h | h
   ·rw[(List.mem_replicate.mp h).2];omega
   ·simp at h;omega
  ·rw[(List.mem_replicate.mp h).2];omega
 obtain⟨b0,hb0',d0⟩:=hD.at (jC (n:=n) (many:=many) (big:=big) (j:=0) rfl)
 obtain⟨b1,hb1',d1⟩:=hD.at (jC (n:=n) (many:=many) (big:=big) (j:=1) rfl)
 obtain⟨b2,hb2',d2⟩:=hD.at (jC (n:=n) (many:=many) (big:=big) (j:=2) rfl)
 obtain⟨b3,hb3',d3⟩:=hD.at (jC (n:=n) (many:=many) (big:=big) (j:=3) rfl)
 obtain⟨b4,hb4',d4⟩:=hD.at (jC (n:=n) (many:=many) (big:=big) (j:=4) rfl)
 refine⟨bM (by decide) (by decide),_,gE (k:=2*n+5+many) (by push_cast;rfl),?_⟩
 refine du (fun x=>if x - 2>0 then x - 2 else 0) (bc (by rw[List.length_drop];omega)) (fun x hx=>rfl) ?_
 have hyl:((es.drop (2*n+5+many)).map fun x=>if x - 2>0 then x - 2 else 0).length=n:=by rw[List.length_map,List.length_drop];omega
 have hyb:∀ x∈((es.drop (2*n+5+many)).map fun x=>if x - 2>0 then x - 2 else 0),B40 x:=fun x hx=>by
  obtain⟨u,hu,rfl⟩:=List.mem_map.mp hx
  have:=heb u (List.mem_of_mem_drop hu)
  show (if u - 2>0 then u - 2 else 0).natAbs≤2 ^ 40
  split <;> omega
 generalize ((es.drop (2*n+5+many)).map fun x=>if x - 2>0 then x - 2 else 0)=ray at hyl hyb ⊢
 refine⟨_,hV (k:=n) rfl,?_⟩
 refine du (fun x=>x - big) (bc (by rw[List.length_take];omega)) (fun x hx=>rfl) ?_
 have htl:((es.take n).map fun x=>x - big).length=n:=by rw[List.length_map,List.length_take];omega
 have htb:∀ x∈((es.take n).map fun x=>x - big),B40 x:=fun x hx=>by
  obtain⟨u,hu,rfl⟩:=List.mem_map.mp hx
  have:=heb u (List.mem_of_mem_take hu)
  show (u - big).natAbs≤2 ^ 40
  omega
 generalize ((es.take n).map fun x=>x - big)=tops at htl htb ⊢
 refine⟨_,bD (f:=D.int) hb0' (by push_cast;omega),c0,c1,c2,n,many,big,tops,1+b0,ray,rfl,hn,hm,hb0,hb1,htl,htb,by omega,by omega,hyb,fun rs hrl hrs=>?_⟩
 refine⟨fun ρ=>∃ dv:Int,(1≤dv∧dv≤3)∧ρ=[some (.v (.lst ([c0,c1,c2].map D.int))),some (.v (.int n)),some (.v (.int many)),some (.v (.int big)),some (.v (.lst (es.map D.int))),some (.v (.tup (ray.map D.int))),some (.v (.tup (tops.map D.int))),some (.v (.int (1+b0))),some (.v (.lst (rs.map av))),some (.v (.int dv)),none,none,none,none,none,none,none,none,none,none],⟨_,bD (f:=D.int) hb1' (by push_cast;rfl),fun h=>⟨1+b0,⟨by omega,by omega⟩,rfl⟩,fun h=>⟨1,⟨by omega,by omega⟩,rfl⟩⟩,?_⟩
 rintro ρ ⟨dv,⟨hdv1,hdv3⟩,rfl⟩
 have hrb:∀ r∈rs,cD r:=fun r h=>⟨fun x hx=>cJ (by decide) ((hrs r h).2.1 x hx),cJ (by decide) (hrs r h).2.2⟩
 have hpb:cD (tops,1+b0):=⟨fun x hx=>B40.big (htb x hx),cJ (b:=40) (by decide) (by show (1+b0).natAbs≤2 ^ 40;omega)⟩
 refine⟨fun i ρ=>∃ (shs:List (Int × Int)) (u11 u12 u13 u14:Option Sl),ρ=[some (.v (.lst ([c0,c1,c2].map D.int))),some (.v (.int n)),some (.v (.int many)),some (.v (.int big)),some (.v (.lst (es.map D.int))),some (.v (.tup (ray.map D.int))),some (.v (.tup (tops.map D.int))),some (.v (.int (1+b0))),some (.v (.lst (rs.map av))),some (.v (.int dv)),some (.own (shs.map aN)),u11,u12,u13,u14,none,none,none,none,none]∧shs.length≤i∧∀ s∈shs,dk rs s∧s.2≤9,⟨[],_,_,_,_,rfl,by simp,fun s hs=>absurd hs List.not_mem_nil⟩,?_,?_⟩
 ·rintro i d ρ hd ⟨shs,u11,u12,u13,u14,rfl,hsl,hss⟩
  obtain⟨e,he,rfl⟩:=lg hd
  obtain⟨r,rfl,hri⟩:=fv he
  have hi1:=c9 hri
  have hR:=hrs r (List.mem_of_getElem? hri)
  obtain⟨wt,hwt,dw⟩:=hD.at (yE (n:=n) (many:=many) (big:=big) (j:=i) (by omega))
  refine⟨rfl,rfl,_,bD (f:=D.int) hwt (by push_cast;rfl),fun ρ=>∃ w':Int,(0≤w'∧w'≤9)∧ρ=[some (.v (.lst ([c0,c1,c2].map D.int))),some (.v (.int n)),some (.v (.int many)),some (.v (.int big)),some (.v (.lst (es.map D.int))),some (.v (.tup (ray.map D.int))),some (.v (.tup (tops.map D.int))),some (.v (.int (1+b0))),some (.v (.lst (rs.map av))),some (.v (.int dv)),some (.own (shs.map aN)),some (.v (.int i)),some (.v (.tup (r.1.map D.int))),some (.v (.int r.2)),some (.v (.int w')),none,none,none,none,none],⟨fun h=>⟨bM (by omega) (by omega),wt*dv,⟨Int.mul_nonneg (by omega) (by omega),?_⟩,rfl⟩,fun h=>⟨wt,⟨by omega,by omega⟩,rfl⟩⟩,?_⟩
  ·have h1:wt*dv≤3*3:=Int.mul_le_mul (by omega) hdv3 (by omega) (by omega)
   omega
  rintro ρ ⟨w',⟨hw0,hw9⟩,rfl⟩
  refine⟨r.1,r.2,_,(tops,1+b0),rfl,by rw[hR.1];omega,(hrb r (List.mem_of_getElem? hri)).1,(hrb r (List.mem_of_getElem? hri)).2,hpb,by show 1≤1+b0;omega,fun b=>?_⟩
  cases b with
  | true =>
   refine⟨fun _=>⟨by rw[List.length_map];exact bc (by omega),_,cN aN _ ((i:Int),w'),shs++[((i:Int),w')],_,_,_,_,rfl,by rw[List.length_append];simp;omega,fun s hs=>?_⟩,fun h=>tf h⟩
   rcases List.mem_append.mp hs with h | h
   ·exact hss s h
   ·rw[List.mem_singleton.mp h]
    exact⟨⟨⟨by show (0:Int)≤i;omega,by show (i:Int)<rs.length;omega⟩,hw0⟩,hw9⟩
  | false=>exact⟨fun h=>ff h,fun _=>⟨shs,_,_,_,_,rfl,by omega,hss⟩⟩
 rintro ρ ⟨shs,u11,u12,u13,u14,rfl,hsl,hss⟩
 rw[ja,List.length_map] at hsl
 have hs40:∀ s∈shs,s.2.natAbs≤2 ^ 40:=fun s hs=>by
  have h1:=(hss s hs).1.2
  have h2:=(hss s hs).2
  omega
 obtain⟨a,ea⟩:=sW (n:=n) fun s hs=>(hss s hs).1
 have hab:RowB 140 a:=pR ea (fun r h=>(hrs r h).2) hs40 (by omega) (by decide)
 refine⟨rs,shs,n,rfl,by omega,⟨hrb,fun s hs=>cJ (b:=40) (by decide) (hs40 s hs)⟩,fun r h=>(hrs r h).1,fun e=>absurd (e.symm.trans ea) (by simp),fun a' e hal=>?_⟩
 cases (e.symm.trans ea)
 have hcut:bR ((a.1++[a.2]).map D.int) none (some (n:Int))=a.1.map D.int:=by rw[hJ,kM,← hal,List.take_left]
 refine⟨_,hcut,?_⟩
 refine du (fun x=>-x / dv) (bc (by omega)) (fun x hx=>⟨CDivB.of (by omega) (by omega),rfl⟩) ?_
 have hgl:(a.1.map fun x=>-x / dv).length=n:=by rw[List.length_map];exact hal
 have hgb:∀ x∈(a.1.map fun x=>-x / dv),gP x:=fun x hx=>by
  obtain⟨u,hu,rfl⟩:=List.mem_map.mp hx
  have h1:u.natAbs≤2 ^ 140:=hab.1 u hu
  have h2:=Int.natAbs_ediv_le_natAbs (-u) dv
  rw[Int.natAbs_neg] at h2
  exact Nat.le_trans h2 (Nat.le_trans h1 (Nat.pow_le_pow_right (by decide) (by decide)))
 generalize (a.1.map fun x=>-x / dv)=goal at hgl hgb ⊢
 refine⟨_,bD (f:=D.int) hb2' (by push_cast;rfl),?_⟩
 refine eM (fun s:Int × Int=>aN (s.1,s.2*(1+b2))) (bc (by omega)) (fun s hs=>⟨rfl,fE (by omega) (by omega),rfl⟩) ?_
 have e1:shs.map (fun s:Int × Int=>aN (s.1,s.2*(1+b2)))=(shs.map fun s=>(s.1,s.2*(1+b2))).map aN:=by rw[List.map_map];rfl
 rw[e1]
 have h1l:(shs.map fun s=>(s.1,s.2*(1+b2))).length≤7:=by rw[List.length_map];omega
 have h1b:∀ s∈(shs.map fun s=>(s.1,s.2*(1+b2))),0≤s.2∧s.2≤27:=fun s hs=>by
  obtain⟨u,hu,rfl⟩:=List.mem_map.mp hs
  have g1:=(hss u hu).1.2
  have g2:=(hss u hu).2
  refine⟨Int.mul_nonneg g1 (by omega),?_⟩
  have g3:u.2*(1+b2)≤9*3:=Int.mul_le_mul g2 (by omega) (by omega) (by omega)
  show u.2*(1+b2)≤27
  omega
 generalize (shs.map fun s=>(s.1,s.2*(1+b2)))=s1 at h1l h1b ⊢
 refine⟨fun ρ=>∃ (s2:List (Int × Int)) (v11 v14:Option Sl),(s2.length≤9∧∀ s∈s2,s.2.natAbs≤2 ^ 40)∧ρ=[some (.v (.lst ([c0,c1,c2].map D.int))),some (.v (.int n)),some (.v (.int many)),some (.v (.int big)),some (.v (.lst (es.map D.int))),some (.v (.tup (ray.map D.int))),some (.v (.tup (tops.map D.int))),some (.v (.int (1+b0))),some (.v (.lst (rs.map av))),some (.v (.int dv)),some (.own (s2.map aN)),v11,u12,u13,v14,some (.v (.lst ((a.1++[a.2]).map D.int))),some (.v (.tup (goal.map D.int))),some (.v (.int (1+b2))),none,none],⟨fun hne=>?_,fun he=>⟨s1,_,_,⟨by omega,fun s hs=>by have:=h1b s hs;omega⟩,rfl⟩⟩,?_⟩
 ·cases s1 with
  | nil=>cases hne
  | cons s0 t =>
   have h0:=h1b s0 List.mem_cons_self
   have hat0:bJ ((s0::t).map aN) 0=some (aN s0):=bD (i:=0) rfl rfl
   refine⟨_,hat0,rfl,_,gE (k:=1) rfl,CDivB.of (by decide) (by omega),CDivB.of (by decide) (by omega),?_,_,df aN _ [(s0.1,s0.2 - s0.2 / 2),(s0.1,s0.2 / 2)],t++[(s0.1,s0.2 - s0.2 / 2),(s0.1,s0.2 / 2)],_,_,⟨?_,fun s hs=>?_⟩,rfl⟩
   ·simp only [List.length_map,List.length_drop];exact small (by simp at h1l ⊢;omega)
   ·rw[List.length_append];simp at h1l ⊢;omega
   ·rcases List.mem_append.mp hs with h | h
    ·have:=h1b s (List.mem_cons_of_mem _ h);omega
    ·simp only [List.mem_cons,List.not_mem_nil,or_false] at h
     rcases h with rfl | rfl
     ·show (s0.2 - s0.2 / 2).natAbs≤_;omega
     ·show (s0.2 / 2).natAbs≤_;omega
 rintro ρ ⟨s2,v11,v14,⟨h2l,h2b⟩,rfl⟩
 refine⟨fun ρ=>∃ (s3:List (Int × Int)),(s3.length≤9∧∀ s∈s3,s.2.natAbs≤2 ^ 40)∧ρ=[some (.v (.lst ([c0,c1,c2].map D.int))),some (.v (.int n)),some (.v (.int many)),some (.v (.int big)),some (.v (.lst (es.map D.int))),some (.v (.tup (ray.map D.int))),some (.v (.tup (tops.map D.int))),some (.v (.int (1+b0))),some (.v (.lst (rs.map av))),some (.v (.int dv)),some (.own (s3.map aN)),v11,u12,u13,v14,some (.v (.lst ((a.1++[a.2]).map D.int))),some (.v (.tup (goal.map D.int))),some (.v (.int (1+b2))),none,none],⟨_,bD (f:=D.int) hb4' (by push_cast;rfl),fun h=>⟨rfl,_,(List.map_reverse (f:=aN) (l:=s2)).symm,s2.reverse,⟨by rw[List.length_reverse];exact h2l,fun s hs=>h2b s (List.mem_reverse.mp hs)⟩,rfl⟩,fun h=>⟨s2,⟨h2l,h2b⟩,rfl⟩⟩,?_⟩
 rintro ρ ⟨s3,⟨h3l,h3b⟩,rfl⟩
 refine⟨_,bD (f:=D.int) hb3' (by push_cast;rfl),?_⟩
 refine du (fun x=>(1+b3)*x) (bc (by omega)) (fun x hx=>⟨bM (by omega) (by omega),rfl⟩) ?_
 refine⟨bM (by omega) (by omega),bM (by omega) (by omega),?_⟩
 have hsc:∀ y:Int,y.natAbs≤2 ^ 40→((1+b3)*y).natAbs≤2 ^ 200:=fun y hy=>by
  have:((1+b3)*y).natAbs≤3*2 ^ 40:=by rw[Int.natAbs_mul];exact Nat.mul_le_mul (by omega) hy
  exact Nat.le_trans this (by decide)
 refine q rs goal (tops.map fun x=>(1+b3)*x,(1+b3)*(1+b0)) ray s3 (dv*(1+b2)) ⟨by omega,fun r h=>(hrs r h).up (by decide),hgl,hgb,⟨fun x hx=>?_,hsc _ (by omega)⟩,?_,fun x hx=>Nat.le_trans (hyb x hx) (Nat.pow_le_pow_right (by decide) (by decide)),by omega,by omega,h3b,?_,fun _=>⟨?_,?_,?_⟩⟩
 ·obtain⟨u,hu,rfl⟩:=List.mem_map.mp hx
  exact hsc u (htb u hu)
 ·show (tops.map fun x=>(1+b3)*x).length≤12
  rw[List.length_map];omega
 ·have:(dv*(1+b2)).natAbs≤3*3:=by rw[Int.natAbs_mul];exact Nat.mul_le_mul (by omega) (by omega)
  omega
 ·show 1≤(1+b3)*(1+b0)
  have:=Int.mul_pos (show 0<1+b3 by omega) (show 0<1+b0 by omega)
  omega
 ·show (tops.map fun x=>(1+b3)*x).length=n
  rw[List.length_map];omega
 ·omega
def tS:aR:=fun ds R=>∃ (c0 c1 c2:Int) (n many:Nat) (big:Int),ds=[.lst ([c0,c1,c2].map D.int),.int (n:Int),.int (many:Int),.int big]∧n≤3∧many≤4∧0<big∧big≤2 ^ 31∧i7 false n R
theorem wG {n:Nat}{f:Addr}{fd:FuncData}(F:Fun K "_law_none_built" "_law_none_built" gW f fd)(cW:Cl P w K mg base n "_law_draws" ["_law_cell_here","_law_salt","_law_sizes"] fB)(oB:Cl P w K mg base n "_law_total" ["_law_rows_here","_law_shares","_law_n"] mr)(gf:Cl P w K mg base n "_law_rows" ["_law_cell_here","_law_salt","_law_n","_law_many","_law_big"] iy)(fZ:Cl P w K mg base n "_law_unit" ["_law_n","_law_at"] iA)(aG:mg "tuple"=none)(bq:mg "len"=none)(bx:mg "range"=none)(eV:mg "max"=none):FnOk P w K mg base aS (n+1) f fd ["_law_cells","_law_n","_law_many","_law_big"] (aZ K tS):=by
 refine F.okD sc__law_none_built (fun ds R h=>?_) (fun cdv A outer s H E ds R hr h=>?_)
 ·obtain⟨c0,c1,c2,n,many,big,rfl,_⟩:=h;rfl
 obtain⟨c0,c1,c2,n,many,big,rfl,hn,hm,hb0,hb1,q⟩:=h
 refine⟨_,(ax (aB (i:=4) sc__law_none_built.nd rfl (Or.inr rfl) (aC cW hr rfl (aa (ar (ae 0) (PD.q af) (fun _ _=>rfl)) (aa af (aa (ah aQ (PD.q (PF.d (bC (aa (ah aF (PD.q (ah aQ (PD.q af) (ae 3))) (PD.q af)) ag aP)))) (ae 1)) ag aP) aA) aw) aw (ai aA (ai aP ak))))
   (ax (gA (i:=5) sc__law_none_built.nd rfl (Or.inl rfl) (pW (PD.q (PF.d (bH (k:=1) (N':=["_law_k","_law_n","_law_big","_law_leasts"]) (cap:=[none,some 1,some 3,some 4]) rfl (.ok (show bu ["_law_cells","_law_n","_law_many","_law_big","_law_leasts","_law_rows_here","_law_numbers","_law_shares","_law_total_here","_law_at"] (ay gW) _ ["_law_k","_law_n","_law_big","_law_leasts"] [none,some 1,some 3,some 4]=true by decide +kernel)) (by decide +kernel) (bf (by decide)) (dm rfl bx (aa (dv 1) ag ab)) (fun _ _ _ _ _=>(aD (i:=0) (show List.Nodup (["_law_k","_law_n","_law_big","_law_leasts"]:List Str) by decide +kernel) rfl (Or.inl rfl))) (fun _ _ _ _ _=>(aU (aa (aC fZ hr rfl (aa (dv 1) (aa (dv 0) ag ab) ab) ab (ai ab ak)) (aa (ah cG (PD.q (ar (ae 3) (ae 0) (fun _ _=>rfl))) (ae 2)) ag aP) aE)))))) (PD.q (aC gf hr rfl (aa (ar (ae 0) (PD.q af) (fun _ _=>rfl)) (aa af (aa (dv 1) (aa (dv 2) (aa (dv 3) ag ab) ab) ab) aA) aw) aw (ai aA (ai ab (ai ab (ai ab ak))))))))
   (ax (aB (i:=6) sc__law_none_built.nd rfl (Or.inr rfl) (aC cW hr rfl (aa (ar (ae 0) (PD.q af) (fun _ _=>rfl)) (aa af (aa (ah aF (PD.q (ah aQ (PD.q (PF.d (bC (aa (bB (kC rfl) rfl eV PyProof.Rows.boot_max (aI (PD.q af) (aI (PD.q (bB cc rfl bq PySem.boot_len (aI (ae 5) aM ab) ab ak)) aM aE) aA) aA (ai aE ak)) (aa af ag aA) aE)))) (PD.q af))) (PD.q (PF.d (bC (aa af (aa af (aa af ag aA) aA) aA))))) ag aP) aA) aw) aw (ai aA (ai aP ak))))
   (ax (aB (i:=7) sc__law_none_built.nd rfl (Or.inl rfl) (PF.d (bC ag)))
   (bz (bj (dO (ae 5) (fun _=>rfl)) (az (gy (i:=7) (k:=1) (N':=["_law_k","_law_numbers"]) (cap:=[none,some 6]) rfl sc__law_none_built.nd rfl (Or.inl rfl) (.ok (show bu ["_law_cells","_law_n","_law_many","_law_big","_law_leasts","_law_rows_here","_law_numbers","_law_shares","_law_total_here","_law_at"] (ay gW) _ ["_law_k","_law_numbers"] [none,some 6]=true by decide +kernel)) (by decide +kernel) (bf (by decide)) (dm rfl bx (aa (ar (ae 6) (PD.q af) (fun _ _=>rfl)) ag aw)) (fun _ _ _ _ _=>(aD (i:=0) (show List.Nodup (["_law_k","_law_numbers"]:List Str) by decide +kernel) rfl (Or.inl rfl))) (fun _ _ _ _ _=>(aU (aa (ar (ae 1) (PD.q (ah aQ (PD.q af) (ae 0))) (fun _ _=>rfl)) (aa (ar (ae 1) (PD.q (ah aF (PD.q (ah aQ (PD.q af) (ae 0))) (PD.q af))) (fun _ _=>rfl)) ag aw) aw))))) bt)
   (ax (Bk (i:=5) (j:=8) sc__law_none_built.nd rfl (Or.inl rfl) (aC oB hr rfl (aa (dv 5) (aa (dv 7) (aa (dv 1) ag ab) ab) ab) ab (ai ab (ai ab ak))))
   (ax (fc 5 (aU (aa (bF bG rfl aG PyProof.Rows.boot_tuple (aI (PD.q (PF.d (bH (k:=1) (N':=["_law_one"]) (cap:=[none]) rfl (.ok (show bu ["_law_cells","_law_n","_law_many","_law_big","_law_leasts","_law_rows_here","_law_numbers","_law_shares","_law_total_here","_law_at"] (ay gW) _ ["_law_one"] [none]=true by decide +kernel)) (by decide +kernel) (bf (by decide)) (bO (cb (ae 8) cC (bU (ae 1)))) (fun _ _ _ _ _=>(aD (i:=0) (show List.Nodup (["_law_one"]:List Str) by decide +kernel) rfl (Or.inl rfl))) (fun _ _ _ _ _=>(dS (ae 0)))))) aM aV) aV ak) (aa (ah cG (PD.q (ar (ae 6) (PD.q af) (fun _ _=>rfl))) (PD.q (ar (ae 8) (ae 1) (fun _ _=>rfl)))) ag aP) aE)) (fb bL) bL)
   (ax (aB (i:=9) sc__law_none_built.nd rfl (Or.inl rfl) (ah dD (PD.q (ar (ae 6) (PD.q af) (fun _ _=>rfl))) (PD.q (ah aF (PD.q (bB cc rfl bq PySem.boot_len (aI (ae 7) aM ab) ab ak)) (PD.q af)))))
   (ax (aB (i:=7) sc__law_none_built.nd rfl (Or.inl rfl) (ah aF (PD.q (ah aF (PD.q (cb (ae 7) cC (bU (ae 9)))) (PD.q (PF.d (bC (aa (aU (aa (ah cG (PD.q (bB cc rfl bq PySem.boot_len (aI (ae 5) aM ab) ab ak)) (PD.q af)) (aa af ag aA) aP)) ag bL)))))) (PD.q (cb (ae 7) (bU (ae 9)) cC))))
   (gj 5 (az (aH (aU (aa (dv 5) (aa (ah aQ (PD.q (aU (aa af ag aA))) (ae 1)) (aa (aU (aa (aU (aa (bF bG rfl aG PyProof.Rows.boot_tuple (aI (PD.q (ah aQ (PD.q (PF.d (bC (aa af ag aA)))) (ae 1))) aM aP) aP ak) (aa af ag aA) aE)) (aa (ah aQ (PD.q (aU (aa af ag aA))) (ae 1)) (aa (dv 7) (aa af ag aA) ab) aP) bL)) ag bL) aP) ab)))))))))))))),?_⟩
 refine⟨_,rfl,bM (by decide) (by decide),⟨by omega,by omega,?_⟩,(List.replicate n (2*big+1)).map D.int,?_,c0,12,List.replicate n (2*big+1),rfl,by rw[List.length_replicate];omega,by decide,by decide,kA (by omega) (by omega),fun les hL=>?_⟩
 ·rw[show [D.int (2*big+1)].length=1 from rfl];exact small (by omega)
 ·rw[dz,Int.toNat_natCast]
 have hll:les.length=n:=by rw[hL.len,List.length_replicate]
 have hlb:=fx hL (b:=2*big+1) fun z hz=>by rw[(List.mem_replicate.mp hz).2];exact Int.le_refl _
 refine⟨⟨by omega,by omega⟩,by rw[cw];exact bc (by omega),fun i y=>∃ r:ao,RowN n 40 r∧y=av r,fun i d hd=>?_,fun ys hyl hy=>?_⟩
 ·obtain⟨hi,rfl⟩:=dZ hd
  refine⟨n,0+(i:Int),rfl,by omega,fun us hul hub _=>?_⟩
  have hi':i<les.length:=by omega
  refine⟨_,bD (aX hi') (by omega),(us,les[i] - big),⟨hul,fun x hx=>Nat.le_trans (hub x hx) (by decide),?_⟩,rfl⟩
  have:=hlb _ (List.getElem_mem hi')
  show (les[i] - big).natAbs≤_
  rw[fQ]
  omega
 obtain⟨r0,rfl,hr0⟩:=gJ hy
 rw[List.length_map,cw] at hyl
 refine⟨_,rfl,c1,13,big,n,many,rfl,by decide,by decide,by omega,by omega,hb0,by omega,fun r1 hl1 hr1=>?_⟩
 refine⟨by rw[List.length_map,List.length_map];exact small (by omega),_,df _ _ _,?_⟩
 have hrs:∀ r∈r0++r1,RowN n 40 r:=fun r h=>(List.mem_append.mp h).elim (hr0 r) (hr1 r)
 have hrl:(r0++r1).length=n+many:=by rw[List.length_append];omega
 generalize r0++r1=rs at hrs hrl ⊢
 have hM0:1≤(if (((rs.map av).length:Nat):Int)>1 then (((rs.map av).length:Nat):Int) else 1):=by split <;> omega
 have hM1:rs≠[]→(if (((rs.map av).length:Nat):Int)>1 then (((rs.map av).length:Nat):Int) else 1)=(rs.length:Int):=fun h=>by
  have:=List.length_pos_iff.mpr h
  rw[List.length_map]
  split <;> omega
 have hM2:(if (((rs.map av).length:Nat):Int)>1 then (((rs.map av).length:Nat):Int) else 1)≤10:=by
  rw[List.length_map]
  split <;> omega
 refine⟨_,rfl,⟨by decide,by decide,small (by show 2*3≤1000;decide)⟩,_,qQ 3 [if (((rs.map av).length:Nat):Int)>1 then (((rs.map av).length:Nat):Int) else 1,5],small (by simp),_,df D.int _ [4,4,4],c2,14,_,rfl,by simp,by decide,by decide,fun z hz=>?_,fun es hD=>?_⟩
 ·have h9:(1000:Int)<2 ^ 9000:=by decide +kernel
  simp at hz
  omega
 generalize (if (((rs.map av).length:Nat):Int)>1 then (((rs.map av).length:Nat):Int) else 1)=M at hM0 hM1 hM2 hD
 have hD':Drawn es [M,5,M,5,M,5,4,4,4]:=hD
 obtain⟨x0,t,rfl,d0,hD⟩:=bV hD'
 obtain⟨x1,t,rfl,d1,hD⟩:=bV hD
 obtain⟨x2,t,rfl,d2,hD⟩:=bV hD
 obtain⟨x3,t,rfl,d3,hD⟩:=bV hD
 obtain⟨x4,t,rfl,d4,hD⟩:=bV hD
 obtain⟨x5,t,rfl,d5,hD⟩:=bV hD
 obtain⟨x6,t,rfl,d6,hD⟩:=bV hD
 obtain⟨x7,t,rfl,d7,hD⟩:=bV hD
 obtain⟨x8,t,rfl,d8,hD⟩:=bV hD
 cases pj hD
 refine⟨fun ρ=>∃ (shs:List (Int × Int)),(shs.length≤3∧∀ s∈shs,dk rs s∧s.2.natAbs≤4)∧ρ=[some (.v (.lst ([c0,c1,c2].map D.int))),some (.v (.int n)),some (.v (.int many)),some (.v (.int big)),some (.v (.lst (les.map D.int))),some (.own (rs.map av)),some (.v (.lst ([x0,x1,x2,x3,x4,x5,x6,x7,x8].map D.int))),some (.v (.lst (shs.map aN))),none,none],⟨fun hne=>?_,fun he=>⟨[],⟨by simp,fun s hs=>absurd hs List.not_mem_nil⟩,rfl⟩⟩,?_⟩
 ·have hne':rs≠[]:=fun e=>by subst e;cases hne
  have hM:=hM1 hne'
  refine⟨_,rfl,⟨by omega,by omega⟩,by rw[cw];exact bc (by omega),fun i y=>∃ s:Int × Int,(dk rs s∧s.2.natAbs≤4)∧y=aN s,fun i d hd=>?_,fun ys hyl hy=>?_⟩
  ·obtain⟨hi,rfl⟩:=dZ hd
   have hi3:i=0∨i=1∨i=2:=by omega
   rcases hi3 with rfl | rfl | rfl
   ·exact⟨bM (by decide) (by decide),_,rfl,bM (by decide) (by decide),_,rfl,(x0,x1),⟨⟨⟨by show 0≤x0;omega,by show x0<_;omega⟩,by show 0≤x1;omega⟩,by show x1.natAbs≤4;omega⟩,rfl⟩
   ·exact⟨bM (by decide) (by decide),_,rfl,bM (by decide) (by decide),_,rfl,(x2,x3),⟨⟨⟨by show 0≤x2;omega,by show x2<_;omega⟩,by show 0≤x3;omega⟩,by show x3.natAbs≤4;omega⟩,rfl⟩
   ·exact⟨bM (by decide) (by decide),_,rfl,bM (by decide) (by decide),_,rfl,(x4,x5),⟨⟨⟨by show 0≤x4;omega,by show x4<_;omega⟩,by show 0≤x5;omega⟩,by show x5.natAbs≤4;omega⟩,rfl⟩
  ·obtain⟨shs,rfl,hss⟩:=gJ hy
   rw[List.length_map,cw] at hyl
   exact⟨shs,⟨by omega,hss⟩,rfl⟩
 rintro ρ ⟨shs,⟨hsl,hss⟩,rfl⟩
 obtain⟨a,ea⟩:=sW (n:=n) fun s hs=>(hss s hs).1
 have hab:RowB 100 a:=pR ea (fun r h=>(hrs r h).2) (fun s hs=>Nat.le_trans (hss s hs).2 (by decide)) (by omega) (by decide)
 refine⟨rs,shs,n,rfl,by omega,⟨fun r h=>⟨fun x hx=>cJ (by decide) ((hrs r h).2.1 x hx),cJ (by decide) (hrs r h).2.2⟩,fun s hs=>cJ (b:=40) (by decide) (Nat.le_trans (hss s hs).2 (by decide))⟩,fun r h=>(hrs r h).1,fun e=>absurd (e.symm.trans ea) (by simp),fun a' e hal=>?_⟩
 cases (e.symm.trans ea)
 refine⟨⟨by simp,fun x hx=>?_,fun d hd i=>?_⟩,?_⟩
 ·obtain⟨y,_,rfl⟩:=List.mem_map.mp hx
  exact⟨y,rfl⟩
 ·obtain⟨y,_,rfl⟩:=List.mem_map.mp hd
  exact fun h=>by cases h
 have hat:bJ ((a.1++[a.2]).map D.int) (n:Int)=some (.int a.2):=bD (i:=n) (by rw[List.getElem?_append_right (by omega),hal,Nat.sub_self];rfl) rfl
 have hcut:bR ((a.1++[a.2]).map D.int) none (some (n:Int))=a.1.map D.int:=by rw[hJ,kM,← hal,List.take_left]
 refine⟨_,hcut,?_⟩
 refine du (fun x=>-x) (bc (by omega)) (fun x hx=>rfl) ?_
 refine⟨_,rfl,_,hat,bc (by rw[List.length_map];omega),_,cN av _ (a.1.map fun x=>-x,x7 - a.2),?_⟩
 have hj0:0≤x8 % (((shs.map aN).length:Int)+1):=Int.emod_nonneg _ (by omega)
 have hj1:=Int.emod_lt_of_pos x8 (show 0<((shs.map aN).length:Int)+1 by omega)
 refine⟨_,rfl,by show 0<_;omega,?_⟩
 have hj2:(x8 % (((shs.map aN).length:Int)+1)).toNat≤shs.length:=by rw[List.length_map] at hj1 ⊢;omega
 refine⟨_,mw (f:=aN) hj0,small ?_,_,cN aN _ ((((rs++[(a.1.map fun x=>-x,x7 - a.2)]).map av).length:Int) - 1,1),_,i6 (f:=aN) hj0,small ?_,_,df aN _ _,?_⟩
 ·rw[List.length_map,List.length_take];show _+1≤_;omega
 ·simp only [List.length_map,List.length_append,List.length_take,List.length_drop,List.length_singleton];omega
 refine⟨⟨by simp,by omega,by omega,by simp;omega⟩,(List.replicate n (0:Int)).map D.int,by rw[dz,Int.toNat_natCast],?_⟩
 refine⟨⟨by omega,by omega,small (by simp;omega)⟩,(List.replicate n (0:Int)).map D.int,by rw[dz,Int.toNat_natCast],?_⟩
 refine⟨⟨by simp,by omega,by omega,by simp;omega⟩,(List.replicate n (0:Int)).map D.int,by rw[dz,Int.toNat_natCast],?_⟩
 have h0:∀ x∈List.replicate n (0:Int),x.natAbs≤2 ^ 200:=fun x hx=>by rw[(List.mem_replicate.mp hx).2];decide
 refine q (rs++[(a.1.map fun x=>-x,x7 - a.2)]) (List.replicate n 0) (List.replicate n 0,1) (List.replicate n 0) _ 1 ⟨?_,fun r h=>?_,List.length_replicate ..,h0,⟨h0,by show (1:Int).natAbs≤_;decide⟩,?_,h0,?_,?_,fun s hs=>?_,by decide,fun h=>(by cases h)⟩
 ·rw[List.length_append];show _+1≤_;omega
 ·rcases List.mem_append.mp h with h | h
  ·exact (hrs r h).up (by decide)
  ·cases List.mem_singleton.mp h
   refine⟨by show (a.1.map _).length=n;rw[List.length_map];exact hal,fun x hx=>?_,?_⟩
   ·obtain⟨y,hy,rfl⟩:=List.mem_map.mp hx
    rw[Int.natAbs_neg]
    exact Nat.le_trans (hab.1 y hy) (by decide)
   ·have h1:=hab.2
    have h2:(2:Nat) ^ 100=1267650600228229401496703205376:=by decide
    show (x7 - a.2).natAbs≤_
    rw[fJ]
    omega
 ·show (List.replicate n (0:Int)).length≤12;rw[List.length_replicate];omega
 ·rw[List.length_replicate];omega
 ·simp only [List.length_append,List.length_take,List.length_drop,List.length_singleton];omega
 ·rcases List.mem_append.mp hs with h | h
  ·rcases List.mem_append.mp h with h | h
   ·exact Nat.le_trans (hss s (List.mem_of_mem_take h)).2 (by decide)
   ·cases List.mem_singleton.mp h
    show (1:Int).natAbs≤_
    decide
  ·exact Nat.le_trans (hss s (List.mem_of_mem_drop h)).2 (by decide)
def qy:aR:=fun ds R=>∃ (kind:Int) (wild:Bool) (c0 c1 c2:Int) (n many:Nat) (big:Int),ds=[.int kind,.bl wild,.lst ([c0,c1,c2].map D.int),.int (n:Int),.int (many:Int),.int big]∧n≤3∧many≤4∧0<big∧big≤2 ^ 31∧i7 (!wild && !(kind == 0)) n R
theorem B6 {n:Nat}{f:Addr}{fd:FuncData}(F:Fun K "_law_made" "_law_made" lx f fd)(DT:Cl P w K mg base n "_law_best_built" ["_law_cells","_law_n","_law_many","_law_big"] rG)(DU:Cl P w K mg base n "_law_wild" ["_law_cells","_law_n","_law_many","_law_big"] rS)(DH:Cl P w K mg base n "_law_none_built" ["_law_cells","_law_n","_law_many","_law_big"] tS)(D4:Cl P w K mg base n "_law_endless_built" ["_law_cells","_law_n","_law_many","_law_big"] pd):FnOk P w K mg base aS (n+1) f fd ["_law_kind","_law_wild_here","_law_cells","_law_n","_law_many","_law_big"] (aZ K qy):=by
 refine F.okD AC (fun ds R h=>?_) (fun cdv A outer s H E ds R hr h=>?_)
 ·obtain⟨kind,wild,c0,c1,c2,n,many,big,rfl,_⟩:=h;rfl
 obtain⟨kind,wild,c0,c1,c2,n,many,big,rfl,hn,hm,hb0,hb1,q⟩:=h
 refine⟨_,(bz (bj (dO (ae 1) (fun _=>rfl)) (az (aH (aC DU hr rfl (aa (dv 2) (aa (dv 3) (aa (dv 4) (aa (dv 5) ag ab) ab) ab) ab) ab (ai ab (ai ab (ai ab ak)))))) bt)
   (bz (bj (bg (bI hr.units) (ae 0) (PD.q af) (aO _)) (az (aH (aC DH hr rfl (aa (dv 2) (aa (dv 3) (aa (dv 4) (aa (dv 5) ag ab) ab) ab) ab) ab (ai ab (ai ab (ai ab ak)))))) bt)
   (bz (bj (bg (bI hr.units) (ae 0) (PD.q af) (aO _)) (az (aH (aC D4 hr rfl (aa (dv 2) (aa (dv 3) (aa (dv 4) (aa (dv 5) ag ab) ab) ab) ab) ab (ai ab (ai ab (ai ab ak)))))) bt)
   (az (aH (aC DT hr rfl (aa (dv 2) (aa (dv 3) (aa (dv 4) (aa (dv 5) ag ab) ab) ab) ab) ab (ai ab (ai ab (ai ab ak))))))))),?_⟩
 refine⟨fun ρ=>wild=false∧ρ=[some (.v (.int kind)),some (.v (.bl wild)),some (.v (.lst ([c0,c1,c2].map D.int))),some (.v (.int n)),some (.v (.int many)),some (.v (.int big))],⟨fun h=>⟨c0,c1,c2,n,many,big,rfl,hn,hm,hb0,hb1,(by rw[show wild=true from h] at q;exact q)⟩,fun h=>⟨h,rfl⟩⟩,?_⟩
 rintro ρ ⟨hw,rfl⟩
 subst hw
 refine⟨fun ρ=>(kind == 0)=false∧ρ=[some (.v (.int kind)),some (.v (.bl false)),some (.v (.lst ([c0,c1,c2].map D.int))),some (.v (.int n)),some (.v (.int many)),some (.v (.int big))],⟨fun h=>⟨c0,c1,c2,n,many,big,rfl,hn,hm,hb0,hb1,(by rw[show (kind == 0)=true from h] at q;exact q)⟩,fun h=>⟨h,rfl⟩⟩,?_⟩
 rintro ρ ⟨hk,rfl⟩
 rw[hk] at q
 refine⟨fun ρ=>ρ=[some (.v (.int kind)),some (.v (.bl false)),some (.v (.lst ([c0,c1,c2].map D.int))),some (.v (.int n)),some (.v (.int many)),some (.v (.int big))],⟨fun h=>⟨c0,c1,c2,n,many,big,rfl,hn,hm,hb0,hb1,q⟩,fun h=>rfl⟩,?_⟩
 rintro ρ rfl
 exact⟨c0,c1,c2,n,many,big,rfl,hn,hm,hb0,hb1,q⟩
theorem qW {rs:List ao}{n:Nat}{qs:List (Int × Int)}(hl:∀ r∈rs,r.1.length=n)(ho:∀ s∈qs,dk rs s):∀ i,i≤qs.length→∃ a,bS rs (qs.take i) n=some a∧a.1.length=n∧(∀ j,j<n→a.1.getD j 0=cQ rs (qs.take i) j)∧a.2=cH rs (qs.take i)
 | 0,_=>⟨(List.replicate n 0,0),rfl,List.length_replicate,fun j hj=>by
   show (List.replicate n (0:Int)).getD j 0=0
   rw[List.getD_eq_getElem?_getD,List.getElem?_replicate,if_pos hj]
   rfl,rfl⟩
 | i+1,hi=>by
  obtain⟨a,e,el,ej,eb⟩:=qW hl ho i (by omega)
  have hs:=aX (show i<qs.length by omega)
  have hok:=ho _ (List.mem_of_getElem? hs)
  have hrl:=hl _ (dW hok.1.1 hok.1.2)
  obtain⟨t1,t2⟩:=mj rs (qs.take i) qs[i]
  refine⟨_,mI hs e hok,?_,fun j hj=>?_,?_⟩
  ·unfold dh
   rw[List.length_zipWith,el,hrl,Nat.min_self]
  ·rw[i5 hs,t1 j,← ej j hj]
   unfold dh
   show (List.zipWith (fun t e=>t+qs[i].2*e) a.1 (au rs qs[i].1).1).getD j 0=_
   rw[List.getD_eq_getElem?_getD,List.getElem?_zipWith,cS (d:=0) (show j<a.1.length by omega),cS (d:=0) (show j<(au rs qs[i].1).1.length by omega)]
   rfl
  ·rw[i5 hs,t2,← eb]
   rfl
theorem kJ {rs:List ao}{n:Nat}{qs:List (Int × Int)}(hl:∀ r∈rs,r.1.length=n)(ho:∀ s∈qs,dk rs s):∃ a,bS rs qs n=some a∧a.1.length=n∧(∀ j,j<n→a.1.getD j 0=cQ rs qs j)∧a.2=cH rs qs:=by
 have:=qW hl ho qs.length (Nat.le_refl _)
 rw[List.take_length] at this
 exact this
theorem kL {rs:List ao}{n:Nat}{qs:List (Int × Int)}{a:ao}(h:bS rs qs n=some a):∀ s∈qs,dk rs s:=fun s hs=>by
 obtain⟨i,hi⟩:=List.getElem?_of_mem hs
 by_cases c:dk rs s
 ·exact c
 ·rw[ip hi c] at h
  cases h
theorem Dh {xs ys:List Int}(hl:xs.length=ys.length)(h:∀ j,j<xs.length→xs.getD j 0=ys.getD j 0):xs=ys:=by
 refine List.ext_getElem hl fun j h1 h2=>?_
 have:=h j h1
 rw[List.getD_eq_getElem?_getD,List.getD_eq_getElem?_getD,List.getElem?_eq_getElem h1,List.getElem?_eq_getElem h2] at this
 exact this
theorem xl {rs:List ao}{goal:List Int}{m:Nat}{d:D}(ho:FirstOk rs goal m)(h:Told rs goal m d):∃ e:En,d=iQ e∧mR rs goal e∧oj rs goal e=true:=by
 have hl:=ho.rw_.len
 have hg:=ho.gw.1
 cases h with
 | non qs hn =>
  obtain⟨a,e,el,ej,eb⟩:=kJ (n:=goal.length) (by rw[hg];exact hl) (fun s hs=>⟨(hn.ok s hs).1,by have:=(hn.ok s hs).2.1;omega⟩)
  refine⟨.no qs,rfl,fun s hs=>(hn.ok s hs).2.2,?_⟩
  show fu rs goal.length qs=true
  unfold fu
  rw[e]
  show (hU a.1 && decide (a.2>0))=true
  rw[eb,decide_eq_true hn.bnd,Bool.and_true]
  unfold hU
  rw[List.all_eq_true]
  intro x hx
  obtain⟨j,hj⟩:=List.getElem?_of_mem hx
  have hj':j<goal.length:=by rw[← el];exact c9 hj
  have:=ej j hj'
  rw[hn.row j (by omega),List.getD_eq_getElem?_getD,hj] at this
  exact decide_eq_true this
 | best p qs c hb =>
  obtain⟨a,e,el,ej,eb⟩:=kJ (n:=goal.length) (by rw[hg];exact hl) (fun s hs=>⟨(hb.ok s hs).1,by have:=(hb.ok s hs).2.1;omega⟩)
  refine⟨.best p qs c,rfl,⟨hb.pt.big,fun s hs=>(hb.ok s hs).2.2,fun a' e'=>?_,hb.dB,hb.gB⟩,?_⟩
  ·rw[e] at e'
   cases e'
   rw[eb]
   exact hb.tB
  ·show eG rs goal p qs c=true
   have hpt:cT rs goal p=true:=by
    unfold cT
    rw[if_neg (by have:=hb.pt.one;have:=hb.pt.len;omega),List.all_eq_true]
    exact fun r hr=>decide_eq_true (hb.pt.met r hr).2.2
   unfold eG
   rw[if_neg (by have:=hb.d1;omega),if_pos hpt,e]
   show (if a.1=goal.map (fun x=>-c*x) then decide (a.2*p.2 = -c*aj goal p.1) else false)=true
   rw[if_pos,eb,decide_eq_true hb.bnd]
   refine Dh (by rw[el,List.length_map]) fun j hj=>?_
   rw[el] at hj
   rw[ej j hj,hb.row j (by omega),List.getD_eq_getElem?_getD,List.getD_eq_getElem?_getD,List.getElem?_map,List.getElem?_eq_getElem hj]
   rfl
 | endl p ray hb =>
  refine⟨.endless p ray,rfl,⟨hb.pt.big,hb.big⟩,?_⟩
  show (cT rs goal p && eN rs goal ray)=true
  have hpt:cT rs goal p=true:=by
   unfold cT
   rw[if_neg (by have:=hb.pt.one;have:=hb.pt.len;omega),List.all_eq_true]
   exact fun r hr=>decide_eq_true (hb.pt.met r hr).2.2
  rw[hpt,Bool.true_and]
  unfold eN
  rw[if_pos (by rw[hb.len,hg]),decide_eq_true hb.grow,Bool.and_true,List.all_eq_true]
  exact fun r hr=>decide_eq_true (hb.up r hr)
abbrev Bt (b:Nat)(x:Int):Prop:=x.natAbs≤2 ^ b
theorem Bt.big {b:Nat}{x:Int}(h:Bt b x)(hb:b<60000):aW x:=Nat.lt_of_le_of_lt h (Nat.pow_lt_pow_right (by decide) hb)
theorem Bt.mul {a b:Nat}{x y:Int}(h:Bt a x)(h':Bt b y):Bt (a+b) (x*y):=by
 show (x*y).natAbs≤_
 rw[Int.natAbs_mul,Nat.pow_add]
 exact Nat.mul_le_mul h h'
theorem Bt.add {a:Nat}{x y:Int}(h:Bt a x)(h':Bt a y):Bt (a+1) (x+y):=by
 show (x+y).natAbs≤_
 have h1:x.natAbs≤2 ^ a:=h
 have h2:y.natAbs≤2 ^ a:=h'
 rw[Nat.pow_succ]
 omega
theorem Bt.up {a b:Nat}{x:Int}(h:Bt a x)(hb:a≤b):Bt b x:=Nat.le_trans h (Nat.pow_le_pow_right (by decide) hb)
theorem Bt.div {a:Nat}{x g:Int}(h:Bt a x)(hg:1≤g):Bt a (x / g):=by
 have:(x / g).natAbs≤x.natAbs:=Int.natAbs_ediv_le_natAbs x g
 exact Nat.le_trans this h
def ua:aR:=fun ds R=>∃ (c:Int) (p:ao) (ray:List Int) (shs:List (Int × Int)) (d:Int) (n:Nat) (far:Bool),ds=[.int c,dJ p ray shs d,.int (n:Int),.bl far]∧n≤8∧RowB 200 p∧(∀ x∈ray,Bt 200 x)∧(far=false→1≤p.2∧p.1.length=n∧ray.length=n) ∧
 ∀ pl:ao,pl.1.length=n→1≤pl.2→RowB 401 pl→R (av pl)
theorem AL {n:Nat}{f:Addr}{fd:FuncData}(F:Fun K "_law_planted" "_law_planted" iD f fd)(cW:Cl P w K mg base n "_law_draws" ["_law_cell_here","_law_salt","_law_sizes"] fB)(aG:mg "tuple"=none)(cy:mg "zip"=none):FnOk P w K mg base aS (n+1) f fd ["_law_cell_here","_law_parts","_law_n","_law_far"] (aZ K ua):=by
 refine F.okD sc__law_planted (fun ds R h=>?_) (fun cdv A outer s H E ds R hr h=>?_)
 ·obtain⟨c,p,ray,shs,d,n,far,rfl,_⟩:=h;rfl
 obtain⟨c,p,ray,shs,d,n,far,rfl,hn,hp,hy,hg,q⟩:=h
 refine⟨_,(ax (fU (dv 1) (cg (n:=4) rfl (bh (aD (i:=4) sc__law_planted.nd rfl (Or.inr rfl)) (bh (aD (i:=5) sc__law_planted.nd rfl (Or.inl rfl)) (bh (aD (i:=6) sc__law_planted.nd rfl (Or.inl rfl)) (bh (aD (i:=7) sc__law_planted.nd rfl (Or.inl rfl)) bZ))))))
   (bz (bj (jy (dO (ae 3) (fun _=>rfl))) (az (aH (aU (aa (bF bG rfl aG PyProof.Rows.boot_tuple (aI (PD.q (PF.d (bH (k:=2) (N':=["_law_one","_law_more","_law_point"]) (cap:=[none,none,some 4]) rfl (.ok (show bu ["_law_cell_here","_law_parts","_law_n","_law_far","_law_point","_law_ray","_law_shares","_law_divisor","_law_numbers"] (ay iD) _ ["_law_one","_law_more","_law_point"] [none,none,some 4]=true by decide +kernel)) (by decide +kernel) (fo (n:=2) (cY (bf (by decide)) (cY (bf (by decide)) fi))) (fN rfl cy (aa (ar (ae 4) (PD.q af) (fun _ _=>rfl)) (aa (dv 5) ag ab) aw)) (fun _ _ _ _ _=>(cg (n:=2) rfl (bh (aD (i:=0) (show List.Nodup (["_law_one","_law_more","_law_point"]:List Str) by decide +kernel) rfl (Or.inl rfl)) (bh (aD (i:=1) (show List.Nodup (["_law_one","_law_more","_law_point"]:List Str) by decide +kernel) rfl (Or.inl rfl)) bZ)))) (fun _ _ _ _ _=>(ah aF (ae 0) (PD.q (ah aQ (PD.q (ar (ae 2) (PD.q af) (fun _ _=>rfl))) (ae 1)))))))) aM aV) aV ak) (aa (ar (ae 4) (PD.q af) (fun _ _=>rfl)) ag aw) aE)))) bt)
   (ax (aB (i:=8) sc__law_planted.nd rfl (Or.inl rfl) (aC cW hr rfl (aa (dv 0) (aa af (aa (ah aF (PD.q (PF.d (bC (aa af ag aA)))) (PD.q (ah aQ (PD.q (PF.d (bC (aa af ag aA)))) (ae 2)))) ag aP) aA) ab) ab (ai aA (ai aP ak))))
   (az (aH (aU (aa (bF bG rfl aG PyProof.Rows.boot_tuple (aI (PD.q (PF.d (bH (k:=1) (N':=["_law_one"]) (cap:=[none]) rfl (.ok (show bu ["_law_cell_here","_law_parts","_law_n","_law_far","_law_point","_law_ray","_law_shares","_law_divisor","_law_numbers"] (ay iD) _ ["_law_one"] [none]=true by decide +kernel)) (by decide +kernel) (bf (by decide)) (bO (cb (ae 8) (bU (PD.q af)) cC)) (fun _ _ _ _ _=>(aD (i:=0) (show List.Nodup (["_law_one"]:List Str) by decide +kernel) rfl (Or.inl rfl))) (fun _ _ _ _ _=>(ah cG (ae 0) (PD.q af)))))) aM aV) aV ak) (aa (ah aF (PD.q af) (PD.q (ar (ae 8) (PD.q af) (fun _ _=>rfl)))) ag aP) aE))))))),?_⟩
 refine⟨rfl,fun ρ=>far=true∧ρ=[some (.v (.int c)),some (.v (dJ p ray shs d)),some (.v (.int n)),some (.v (.bl far)),some (.v (av p)),some (.v (.tup (ray.map D.int))),some (.v (.lst (shs.map aN))),some (.v (.int d)),none],?_,?_⟩
 ·refine⟨fun h=>?_,fun h=>⟨by cases far;cases h;rfl,rfl⟩⟩
  obtain⟨p1,pl,rl⟩:=hg (by cases far;rfl;cases h)
  refine⟨_,rfl,_,_,rfl,rfl,?_⟩
  refine fD (f:=D.int) (h:=D.int) (fun x y=>D.int (x+p.2*y)) (bc (by omega)) (fun x hx y hy'=>⟨rfl,_,rfl,cF (Bt.big (b:=200) hp.2 (by decide)) (Bt.big (hy y hy') (by decide)),rfl⟩) ?_
  have e:List.zipWith (fun x y=>D.int (x+p.2*y)) p.1 ray=(List.zipWith (fun x y=>x+p.2*y) p.1 ray).map D.int:=by rw[List.map_zipWith]
  rw[e]
  refine⟨_,rfl,q (List.zipWith (fun x y=>x+p.2*y) p.1 ray,p.2) (by show (List.zipWith _ _ _).length=n;rw[List.length_zipWith];omega) p1 ⟨fun x hx=>?_,Nat.le_trans hp.2 (Nat.pow_le_pow_right (by decide) (by decide))⟩⟩
  obtain⟨j,hj⟩:=List.getElem?_of_mem (show x∈List.zipWith (fun x y=>x+p.2*y) p.1 ray from hx)
  rw[List.getElem?_zipWith] at hj
  obtain⟨u,v,hu,hv,rfl⟩:∃ u v,p.1[j]?=some u∧ray[j]?=some v∧u+p.2*v=x:=by
   cases hu:p.1[j]? with
   | none=>rw[hu] at hj;cases hj
   | some u =>
    cases hv:ray[j]? with
    | none=>rw[hu,hv] at hj;cases hj
    | some v=>rw[hu,hv] at hj;cases hj;exact⟨u,v,rfl,rfl,rfl⟩
  exact Bt.add (a:=400) (Bt.up (hp.1 u (List.mem_of_getElem? hu)) (by decide)) (Bt.mul (a:=200) (b:=200) hp.2 (hy v (List.mem_of_getElem? hv)))
 rintro ρ ⟨hf,rfl⟩
 refine⟨⟨by omega,by omega,small (by show 1*(n:Int).toNat≤1000;omega)⟩,(List.replicate n (19:Int)).map D.int,by rw[dz,Int.toNat_natCast],?_,_,df D.int [4] (List.replicate n (19:Int)),c,24,_,rfl,?_,by decide,by decide,fun z hz=>?_,fun es hD=>?_⟩
 ·rw[List.length_map,List.length_replicate];exact small (by show 1+n≤1000;omega)
 ·rw[List.length_append,List.length_replicate];show 1+n≤1000;omega
 ·have h9:(19:Int)<2 ^ 9000:=by decide +kernel
  rcases List.mem_append.mp hz with h | h
  ·rw[List.mem_singleton.mp h];omega
  ·rw[(List.mem_replicate.mp h).2];omega
 obtain⟨x0,t,rfl,d0,hD⟩:=bV hD
 have htl:t.length=n:=by rw[hD.len];exact List.length_replicate
 have htb:∀ d∈t,0≤d∧d<19:=fx hD fun z hz=>by rw[(List.mem_replicate.mp hz).2];exact Int.le_refl _
 refine⟨t.map D.int,i6 (xs:=x0::t) (a:=1) (by decide),?_⟩
 refine du (f:=D.int) (fun x=>x - 9) (bc (by omega)) (fun x _=>rfl) ?_
 refine⟨_,bD (f:=D.int) (ns:=x0::t) (i:=0) rfl rfl,q (t.map fun x=>x - 9,1+x0) (by show (t.map _).length=n;rw[List.length_map];exact htl) (by show 1≤1+x0;omega) ⟨fun x hx=>?_,?_⟩⟩
 ·obtain⟨y,hy',rfl⟩:=List.mem_map.mp hx
  have:=htb y hy'
  exact Nat.le_trans (show (y - 9).natAbs≤2 ^ 5 by omega) (Nat.pow_le_pow_right (by decide) (by decide))
 ·exact Nat.le_trans (show (1+x0).natAbs≤2 ^ 5 by omega) (Nat.pow_le_pow_right (by decide) (by decide))
def gp (pl r:ao):ao:=(r.1,if aj r.1 pl.1 / pl.2<r.2 then aj r.1 pl.1 / pl.2 else r.2)
def qj:aR:=fun ds R=>∃ (rs:List ao) (pl:ao),ds=[.lst (rs.map av),av pl]∧rs.length≤100∧(∀ r∈rs,r.1.length≤100∧cD r)∧cD pl∧1≤pl.2∧pl.2<2 ^ 9000∧R (.lst ((rs.map (gp pl)).map av))
theorem ve {n:Nat}{f:Addr}{fd:FuncData}(F:Fun K "_law_loosened" "_law_loosened" iY f fd)(di:Cl P w K mg base n "_law_left" ["_law_entries","_law_spot"] gv)(iV:mg "min"=none):FnOk P w K mg base aS (n+1) f fd ["_law_rows_here","_law_point"] (aZ K qj):=by
 refine F.okD wY (fun ds R h=>?_) (fun cdv A outer s H E ds R hr h=>?_)
 ·obtain⟨rs,pl,rfl,_⟩:=h;rfl
 obtain⟨rs,pl,rfl,hl,hr1,hp,p1,p9,q⟩:=h
 refine⟨_,(az (aH (PF.d (bH (k:=1) (N':=["_law_row","_law_point"]) (cap:=[none,some 1]) rfl (.ok (show bu ["_law_rows_here","_law_point"] (ay iY) _ ["_law_row","_law_point"] [none,some 1]=true by decide +kernel)) (by decide +kernel) (bf (by decide)) (bO (dv 0)) (fun _ _ _ _ _=>(aD (i:=0) (show List.Nodup (["_law_row","_law_point"]:List Str) by decide +kernel) rfl (Or.inl rfl))) (fun _ _ _ _ _=>(aU (aa (ar (ae 0) (PD.q af) (fun _ _=>rfl)) (aa (bB (yn rfl) rfl iV PyProof.Rows.boot_min (aI (PD.q (ar (ae 0) (PD.q af) (fun _ _=>rfl))) (aI (PD.q (ah eQ (PD.q (aC di hr rfl (aa (ar (ae 0) (PD.q af) (fun _ _=>rfl)) (aa (ar (ae 1) (PD.q af) (fun _ _=>rfl)) ag aw) aw) aw (ai aw ak))) (PD.q (ar (ae 1) (PD.q af) (fun _ _=>rfl))))) aM aP) aw) aw (ai aP ak)) ag aE) aw))))))),?_⟩
 refine eM (f:=av) (fun r=>av (gp pl r)) (bc (by omega)) (fun r hr'=>?_) ?_
 ·obtain⟨h1,h2⟩:=hr1 r hr'
  exact⟨_,rfl,_,rfl,_,rfl,_,rfl,r.1,pl.1,rfl,by omega,h2.1,hp.1,_,rfl,CDivB.of (by omega) p9,rfl⟩
 ·rw[List.map_map] at q
  exact q
theorem uc {n:Nat}{r xs ys:List Int}{c:Int}(hr:r.length=n)(hx:xs.length=n)(hy:ys.length=n):aj r (List.zipWith (fun x y=>x+c*y) xs ys)=aj r xs+c*aj r ys:=by
 have hz:(List.zipWith (fun x y=>x+c*y) xs ys).length=n:=by rw[List.length_zipWith,hx,hy,Nat.min_self]
 rw[eX hr hz,eX hr hx,eX hr hy]
 have h:=Wk.dt_lin n (fun i=>r.getD i 0) 1 c (fun i=>xs.getD i 0) (fun i=>ys.getD i 0)
 rw[Int.one_mul] at h
 rw[← h]
 refine Wk.sm_congr fun i hi=>?_
 show r.getD i 0*(List.zipWith (fun x y=>x+c*y) xs ys).getD i 0=r.getD i 0*(1*xs.getD i 0+c*ys.getD i 0)
 rw[List.getD_eq_getElem?_getD (l:=List.zipWith _ _ _),List.getElem?_zipWith,cS (d:=0) (show i<xs.length by omega),cS (d:=0) (show i<ys.length by omega),Int.one_mul]
 rfl
structure EtOk (rs:List ao)(goal:List Int)(n:Nat)(p:ao)(ray:List Int)(pl:ao):Prop where
 n8:n≤8
 rl:rs.length≤100
 rr:∀ r∈rs,RowN n 1000 r
 gl:goal.length=n
 gb:∀ x∈goal,Bt 1000 x
 pl_:p.1.length=n
 pb:RowB 1000 p
 yl:ray.length=n
 yb:∀ x∈ray,Bt 1000 x
 ll:pl.1.length=n
 lb:RowB 1000 pl
 p1:1≤p.2
 l1:1≤pl.2
 met:∀ r∈rs,r.2*p.2≤aj r.1 p.1
 up:∀ r∈rs,0≤aj r.1 ray
 grow:0<aj goal ray
def cR (p:ao)(ray:List Int)(o:Int):List Int:=List.zipWith (fun x y=>x+o*p.2*y) p.1 ray
theorem j3 {rs:List ao}{goal:List Int}{n:Nat}{p:ao}{ray:List Int}{pl:ao}(h:EtOk rs goal n p ray pl){o:Int}(ho:Bt 2010 o):∀ x∈cR p ray o,Bt 4011 x:=fun x hx=>by
 obtain⟨j,hj⟩:=List.getElem?_of_mem hx
 unfold cR at hj
 rw[List.getElem?_zipWith] at hj
 obtain⟨u,v,hu,hv,rfl⟩:∃ u v,p.1[j]?=some u∧ray[j]?=some v∧u+o*p.2*v=x:=by
  cases hu:p.1[j]? with
  | none=>rw[hu] at hj;cases hj
  | some u =>
   cases hv:ray[j]? with
   | none=>rw[hu,hv] at hj;cases hj
   | some v=>rw[hu,hv] at hj;cases hj;exact⟨u,v,rfl,rfl,rfl⟩
 exact Bt.add (a:=4010) (Bt.up (h.pb.1 u (List.mem_of_getElem? hu)) (by decide)) (Bt.mul (a:=3010) (b:=1000) (Bt.mul (a:=2010) (b:=1000) ho h.pb.2) (h.yb v (List.mem_of_getElem? hv)))
theorem BF {rs:List ao}{goal:List Int}{n:Nat}{p:ao}{ray:List Int}{pl:ao}(h:EtOk rs goal n p ray pl){o:Int}(ho:0≤o):∀ r∈rs,r.2*p.2≤aj r.1 (cR p ray o):=fun r hr=>by
 unfold cR
 rw[uc (h.rr r hr).1 h.pl_ h.yl]
 have h1:=h.met r hr
 have h2:=Int.mul_nonneg (Int.mul_nonneg ho (show 0≤p.2 by have:=h.p1;omega)) (h.up r hr)
 omega
theorem y6 {X Y G a b:Int}(hG:0<G)(ha:1≤a)(hb:1≤b)(o:Int)(ho:o=1+(X.natAbs:Int)+(Y.natAbs:Int)):X*a<(Y+o*a*G)*b:=by
 have h1:o*a≤o*a*G:=by
  have:=Int.mul_le_mul_of_nonneg_left (show 1≤G by omega) (show 0≤o*a from Int.mul_nonneg (by omega) (by omega))
  rw[Int.mul_one] at this
  exact this
 have h2:o≤o*a:=by
  have:=Int.mul_le_mul_of_nonneg_left ha (show 0≤o by omega)
  rw[Int.mul_one] at this
  exact this
 have h3:(1+(X.natAbs:Int))*a≤Y+o*a:=by
  have e:o*a=(1+(X.natAbs:Int))*a+(Y.natAbs:Int)*a:=by rw[ho,Int.add_mul]
  have:=Int.mul_le_mul_of_nonneg_left ha (show 0≤(Y.natAbs:Int) by omega)
  rw[Int.mul_one] at this
  omega
 have h4:X*a<(1+(X.natAbs:Int))*a:=Int.mul_lt_mul_of_pos_right (by omega) (by omega)
 have h5:0<Y+o*a*G:=by
  have:0≤(1+(X.natAbs:Int))*a:=Int.mul_nonneg (by omega) (by omega)
  have:0<(1+(X.natAbs:Int))*a:=Int.mul_pos (by omega) (by omega)
  omega
 have h6:=Int.mul_le_mul_of_nonneg_left hb (show 0≤Y+o*a*G by omega)
 rw[Int.mul_one] at h6
 omega
def sQ:aR:=fun ds R=>∃ (rs:List ao) (goal:List Int) (n:Nat) (p:ao) (ray:List Int) (pl:ao),ds=[.lst (rs.map av),.tup (goal.map D.int),av p,.tup (ray.map D.int),av pl]∧EtOk rs goal n p ray pl∧R (.bl true)
theorem v5 {n:Nat}{f:Addr}{fd:FuncData}(F:Fun K "_law_endless_true" "_law_endless_true" gn f fd)(di:Cl P w K mg base n "_law_left" ["_law_entries","_law_spot"] gv)(bx:mg "range"=none)(lK:mg "any"=none)(eA:mg "abs"=none)(cy:mg "zip"=none):FnOk P w K mg base aS (n+1) f fd ["_law_rows_here","_law_goal","_law_point","_law_ray","_law_planted_here"] (aZ K sQ):=by
 refine F.okD sc__law_endless_true (fun ds R h=>?_) (fun cdv A outer s H E ds R hr h=>?_)
 ·obtain⟨rs,goal,n,p,ray,pl,rfl,_⟩:=h;rfl
 obtain⟨rs,goal,n,p,ray,pl,rfl,h,q⟩:=h
 refine⟨_,(ax (eK PassesOwn.never rfl (dm rfl bx (aa af ag aA)) (aD (i:=5) sc__law_endless_true.nd rfl (Or.inr rfl)) (ax (aB (i:=6) sc__law_endless_true.nd rfl (Or.inr rfl) (PF.d (bH (k:=2) (N':=["_law_one","_law_more","_law_often","_law_point"]) (cap:=[none,none,some 5,some 2]) rfl (.ok (show bu ["_law_rows_here","_law_goal","_law_point","_law_ray","_law_planted_here","_law_often","_law_tops"] (ay gn) _ ["_law_one","_law_more","_law_often","_law_point"] [none,none,some 5,some 2]=true by decide +kernel)) (by decide +kernel) (fo (n:=2) (cY (bf (by decide)) (cY (bf (by decide)) fi))) (fN rfl cy (aa (ar (ae 2) (PD.q af) (fun _ _=>rfl)) (aa (dv 3) ag ab) aw)) (fun _ _ _ _ _=>(cg (n:=2) rfl (bh (aD (i:=0) (show List.Nodup (["_law_one","_law_more","_law_often","_law_point"]:List Str) by decide +kernel) rfl (Or.inl rfl)) (bh (aD (i:=1) (show List.Nodup (["_law_one","_law_more","_law_often","_law_point"]:List Str) by decide +kernel) rfl (Or.inl rfl)) bZ)))) (fun _ _ _ _ _=>(ah aF (ae 0) (PD.q (ah aQ (PD.q (ah aQ (ae 2) (PD.q (ar (ae 3) (PD.q af) (fun _ _=>rfl))))) (ae 1))))))))
   (az (bj (dO (PD.q (bB (tV rfl) rfl lK PyProof.Rows.boot_any (aI (PD.q (PF.d (bH (k:=1) (N':=["_law_row","_law_tops","_law_point"]) (cap:=[none,some 6,some 2]) rfl (.ok (show bu ["_law_rows_here","_law_goal","_law_point","_law_ray","_law_planted_here","_law_often","_law_tops"] (ay gn) _ ["_law_row","_law_tops","_law_point"] [none,some 6,some 2]=true by decide +kernel)) (by decide +kernel) (bf (by decide)) (bO (dv 0)) (fun _ _ _ _ _=>(aD (i:=0) (show List.Nodup (["_law_row","_law_tops","_law_point"]:List Str) by decide +kernel) rfl (Or.inl rfl))) (fun _ _ _ _ _=>(cZ dA (PD.q (aC di hr rfl (aa (ar (ae 0) (PD.q af) (fun _ _=>rfl)) (aa (dv 1) ag ab) aw) aw (ai ab ak))) (PD.q (ah aQ (PD.q (ar (ae 0) (PD.q af) (fun _ _=>rfl))) (PD.q (ar (ae 2) (PD.q af) (fun _ _=>rfl))))) (aO _)))))) aM aV) aV ak)) (fun _=>rfl)) (az (aH eu)) bt))))
   (ax (aB (i:=5) sc__law_endless_true.nd rfl (Or.inr rfl) (ah aF (PD.q (ah aF (PD.q af) (PD.q (bB ij rfl eA PyProof.Rows.boot_abs (aI (PD.q (aC di hr rfl (aa (dv 1) (aa (ar (ae 4) (PD.q af) (fun _ _=>rfl)) ag aw) ab) ab (ai aw ak))) aM aE) aE ak)))) (PD.q (bB ij rfl eA PyProof.Rows.boot_abs (aI (PD.q (aC di hr rfl (aa (dv 1) (aa (ar (ae 2) (PD.q af) (fun _ _=>rfl)) ag aw) ab) ab (ai aw ak))) aM aE) aE ak))))
   (ax (aB (i:=6) sc__law_endless_true.nd rfl (Or.inr rfl) (PF.d (bH (k:=2) (N':=["_law_one","_law_more","_law_often","_law_point"]) (cap:=[none,none,some 5,some 2]) rfl (.ok (show bu ["_law_rows_here","_law_goal","_law_point","_law_ray","_law_planted_here","_law_often","_law_tops"] (ay gn) _ ["_law_one","_law_more","_law_often","_law_point"] [none,none,some 5,some 2]=true by decide +kernel)) (by decide +kernel) (fo (n:=2) (cY (bf (by decide)) (cY (bf (by decide)) fi))) (fN rfl cy (aa (ar (ae 2) (PD.q af) (fun _ _=>rfl)) (aa (dv 3) ag ab) aw)) (fun _ _ _ _ _=>(cg (n:=2) rfl (bh (aD (i:=0) (show List.Nodup (["_law_one","_law_more","_law_often","_law_point"]:List Str) by decide +kernel) rfl (Or.inl rfl)) (bh (aD (i:=1) (show List.Nodup (["_law_one","_law_more","_law_often","_law_point"]:List Str) by decide +kernel) rfl (Or.inl rfl)) bZ)))) (fun _ _ _ _ _=>(ah aF (ae 0) (PD.q (ah aQ (PD.q (ah aQ (ae 2) (PD.q (ar (ae 3) (PD.q af) (fun _ _=>rfl))))) (ae 1))))))))
   (bz (bj (dO (PD.q (bB (tV rfl) rfl lK PyProof.Rows.boot_any (aI (PD.q (PF.d (bH (k:=1) (N':=["_law_row","_law_tops","_law_point"]) (cap:=[none,some 6,some 2]) rfl (.ok (show bu ["_law_rows_here","_law_goal","_law_point","_law_ray","_law_planted_here","_law_often","_law_tops"] (ay gn) _ ["_law_row","_law_tops","_law_point"] [none,some 6,some 2]=true by decide +kernel)) (by decide +kernel) (bf (by decide)) (bO (dv 0)) (fun _ _ _ _ _=>(aD (i:=0) (show List.Nodup (["_law_row","_law_tops","_law_point"]:List Str) by decide +kernel) rfl (Or.inl rfl))) (fun _ _ _ _ _=>(cZ dA (PD.q (aC di hr rfl (aa (ar (ae 0) (PD.q af) (fun _ _=>rfl)) (aa (dv 1) ag ab) aw) aw (ai ab ak))) (PD.q (ah aQ (PD.q (ar (ae 0) (PD.q af) (fun _ _=>rfl))) (PD.q (ar (ae 2) (PD.q af) (fun _ _=>rfl))))) (aO _)))))) aM aV) aV ak)) (fun _=>rfl)) (az (aH eu)) bt)
   (az (aH (cZ gq (PD.q (ah aQ (PD.q (aC di hr rfl (aa (dv 1) (aa (dv 6) ag ab) ab) ab (ai ab ak))) (PD.q (ar (ae 4) (PD.q af) (fun _ _=>rfl))))) (PD.q (ah aQ (PD.q (aC di hr rfl (aa (dv 1) (aa (ar (ae 4) (PD.q af) (fun _ _=>rfl)) ag aw) ab) ab (ai aw ak))) (PD.q (ar (ae 2) (PD.q af) (fun _ _=>rfl))))) (aO _)))))))),?_⟩
 have n8:=h.n8
 have pB:aW p.2:=Bt.big (b:=1000) h.pb.2 (by decide)
 have gB:∀ x∈goal,aW x:=fun x hx=>Bt.big (h.gb x hx) (by decide)
 have m1:∀ o:Int,Bt 2010 o→∀ y∈ray,IntMulOk o p.2∧IntMulOk (o*p.2) y:=fun o ho y hy=>⟨cF (ho.big (by decide)) pB,cF (Bt.big (Bt.mul (b:=1000) ho h.pb.2) (by decide)) (Bt.big (h.yb y hy) (by decide))⟩
 have ea:∀ o:Int,List.zipWith (fun x y=>D.int (x+o*p.2*y)) p.1 ray=(cR p ray o).map D.int:=fun o=>by unfold cR;rw[List.map_zipWith]
 have al:∀ o:Int,(cR p ray o).length=n:=fun o=>by unfold cR;rw[List.length_zipWith,h.pl_,h.yl,Nat.min_self]
 have hAny:∀ o:Int,0≤o→¬ (rs.any fun r=>decide (aj r.1 (cR p ray o)<r.2*p.2))=true:=fun o ho c=>by
  obtain⟨r,hr,h'⟩:=List.any_eq_true.mp c
  have:=of_decide_eq_true h'
  have:=BF h ho r hr
  omega
 have hB:∀ r∈rs,r.1.length≤1000∧cD r:=fun r hr=>⟨by rw[(h.rr r hr).1];omega,fun x hx=>Bt.big (b:=1000) ((h.rr r hr).2.1 x hx) (by decide),Bt.big (b:=1000) (h.rr r hr).2.2 (by decide)⟩
 refine⟨⟨by decide,by decide⟩,fun i ρ=>∃ u5 u6:Option Sl,ρ=[some (.v (.lst (rs.map av))),some (.v (.tup (goal.map D.int))),some (.v (av p)),some (.v (.tup (ray.map D.int))),some (.v (av pl)),u5,u6],⟨_,_,rfl⟩,?_,?_⟩
 ·rintro i d ρ hd ⟨u5,u6,rfl⟩
  obtain⟨hi,rfl⟩:=dZ hd
  have hi':i<3:=by simpa using hi
  have hb:Bt 2010 (0+(i:Int)):=Nat.le_trans (show (0+(i:Int)).natAbs≤2 ^ 2 by omega) (Nat.pow_le_pow_right (by decide) (by decide))
  refine⟨_,rfl,_,_,rfl,rfl,?_⟩
  refine fD (f:=D.int) (h:=D.int) (fun x y=>D.int (x+(0+(i:Int))*p.2*y)) (bc (by rw[h.pl_];omega)) (fun x hx y hy=>⟨rfl,_,rfl,(m1 _ hb y hy).1,(m1 _ hb y hy).2,rfl⟩) ?_
  rw[ea]
  refine eM (f:=av) (fun r=>D.bl (decide (aj r.1 (cR p ray (0+(i:Int)))<r.2*p.2))) (bc (by have:=h.rl;omega)) (fun r hr'=>⟨_,rfl,r.1,cR p ray (0+(i:Int)),rfl,(hB r hr').1,(hB r hr').2.1,fun x hx=>Bt.big (j3 h hb x hx) (by decide),_,rfl,_,rfl,cF (hB r hr').2.2 pB,rfl⟩) ?_
  exact⟨rs.map fun r=>decide (aj r.1 (cR p ray (0+(i:Int)))<r.2*p.2),by rw[List.map_map];rfl,⟨fun h'=>absurd (rP h') (hAny _ (by omega)),fun _=>⟨_,_,rfl⟩⟩⟩
 ·rintro ρ ⟨u5,u6,rfl⟩
  have d1:Bt 2003 (aj goal pl.1):=dot_le h.n8 h.gl h.ll h.gb h.lb.1
  have d2:Bt 2003 (aj goal p.1):=dot_le h.n8 h.gl h.pl_ h.gb h.pb.1
  obtain⟨o,ho⟩:∃ o:Int,o=1+((aj goal pl.1).natAbs:Int)+((aj goal p.1).natAbs:Int):=⟨_,rfl⟩
  have o0:0≤o:=by omega
  have hb:Bt 2010 o:=by
   have h1:(aj goal pl.1).natAbs≤2 ^ 2003:=d1
   have h2:(aj goal p.1).natAbs≤2 ^ 2003:=d2
   have h3:1≤2 ^ 2003:=Nat.one_le_two_pow
   refine Nat.le_trans (show o.natAbs≤4*2 ^ 2003 by omega) ?_
   rw[show (4:Nat)=2 ^ 2 by decide,← Nat.pow_add]
   exact Nat.pow_le_pow_right (by decide) (by decide)
  have eo:1+(if aj goal pl.1<0 then -aj goal pl.1 else aj goal pl.1)+(if aj goal p.1<0 then -aj goal p.1 else aj goal p.1)=o:=by
   rw[ho]
   split <;> split <;> omega
  refine⟨_,rfl,goal,pl.1,rfl,by rw[h.gl];omega,gB,fun x hx=>Bt.big (b:=1000) (h.lb.1 x hx) (by decide),_,rfl,goal,p.1,rfl,by rw[h.gl];omega,gB,fun x hx=>Bt.big (b:=1000) (h.pb.1 x hx) (by decide),?_⟩
  have hbE:Bt 2010 (1+(if aj goal pl.1<0 then -aj goal pl.1 else aj goal pl.1)+(if aj goal p.1<0 then -aj goal p.1 else aj goal p.1)):=by rw[eo];exact hb
  refine⟨_,rfl,_,_,rfl,rfl,?_⟩
  refine fD (f:=D.int) (h:=D.int) (fun x y=>D.int (x+(1+(if aj goal pl.1<0 then -aj goal pl.1 else aj goal pl.1)+(if aj goal p.1<0 then -aj goal p.1 else aj goal p.1))*p.2*y)) (bc (by rw[h.pl_];omega)) (fun x hx y hy=>⟨rfl,_,rfl,(m1 _ hbE y hy).1,(m1 _ hbE y hy).2,rfl⟩) ?_
  rw[ea]
  refine⟨fun ρ=>ρ=[some (.v (.lst (rs.map av))),some (.v (.tup (goal.map D.int))),some (.v (av p)),some (.v (.tup (ray.map D.int))),some (.v (av pl)),some (.v (.int (1+(if aj goal pl.1<0 then -aj goal pl.1 else aj goal pl.1)+(if aj goal p.1<0 then -aj goal p.1 else aj goal p.1)))),some (.v (.lst ((cR p ray (1+(if aj goal pl.1<0 then -aj goal pl.1 else aj goal pl.1)+(if aj goal p.1<0 then -aj goal p.1 else aj goal p.1))).map D.int)))],?_,?_⟩
  ·refine eM (f:=av) (fun r=>D.bl (decide (aj r.1 (cR p ray (1+(if aj goal pl.1<0 then -aj goal pl.1 else aj goal pl.1)+(if aj goal p.1<0 then -aj goal p.1 else aj goal p.1)))<r.2*p.2))) (bc (by have:=h.rl;omega)) (fun r hr'=>⟨_,rfl,r.1,cR p ray (1+(if aj goal pl.1<0 then -aj goal pl.1 else aj goal pl.1)+(if aj goal p.1<0 then -aj goal p.1 else aj goal p.1)),rfl,(hB r hr').1,(hB r hr').2.1,fun x hx=>Bt.big (j3 h hbE x hx) (by decide),_,rfl,_,rfl,cF (hB r hr').2.2 pB,rfl⟩) ?_
   exact⟨rs.map fun r=>decide (aj r.1 (cR p ray (1+(if aj goal pl.1<0 then -aj goal pl.1 else aj goal pl.1)+(if aj goal p.1<0 then -aj goal p.1 else aj goal p.1)))<r.2*p.2),by rw[List.map_map];rfl,⟨fun h'=>absurd (rP h') (hAny _ (by rw[eo];exact o0)),fun _=>rfl⟩⟩
  rintro ρ rfl
  have ed:aj goal (cR p ray (1+(if aj goal pl.1<0 then -aj goal pl.1 else aj goal pl.1)+(if aj goal p.1<0 then -aj goal p.1 else aj goal p.1)))=aj goal p.1+o*p.2*aj goal ray:=by
   rw[eo]
   unfold cR
   rw[uc h.gl h.pl_ h.yl]
  have d3:Bt 5014 (aj goal (cR p ray (1+(if aj goal pl.1<0 then -aj goal pl.1 else aj goal pl.1)+(if aj goal p.1<0 then -aj goal p.1 else aj goal p.1)))):=dot_le h.n8 h.gl (al _) h.gb (j3 h hbE)
  refine⟨goal,cR p ray (1+(if aj goal pl.1<0 then -aj goal pl.1 else aj goal pl.1)+(if aj goal p.1<0 then -aj goal p.1 else aj goal p.1)),rfl,by rw[h.gl];omega,gB,fun x hx=>Bt.big (j3 h hbE x hx) (by decide),_,rfl,cF (d3.big (by decide)) (Bt.big (b:=1000) h.lb.2 (by decide)),_,rfl,goal,pl.1,rfl,by rw[h.gl];omega,gB,fun x hx=>Bt.big (b:=1000) (h.lb.1 x hx) (by decide),_,rfl,cF (d1.big (by decide)) pB,?_⟩
  show R (.bl (decide (aj goal pl.1*p.2<aj goal (cR p ray (1+(if aj goal pl.1<0 then -aj goal pl.1 else aj goal pl.1)+(if aj goal p.1<0 then -aj goal p.1 else aj goal p.1)))*pl.2)))
  rw[ed,decide_eq_true (y6 h.grow h.p1 h.l1 o ho)]
  exact q
theorem zS (n k:Nat):gX n (k:Int)=dn n k:=by
 unfold gX dn
 exact List.map_congr_left fun o _=>by
  by_cases e:o=k
  ·rw[if_pos e,if_pos (by omega)]
  ·rw[if_neg e,if_neg (by omega)]
def fF (n:Nat)(f:Nat→Int):List ao:=(List.range n).map fun i=>(dn n i,f i)
theorem nq (n:Nat)(f:Nat→Int):(fF n f).length=n:=by unfold fF;rw[List.length_map,List.length_range]
theorem Dt {n:Nat}{f:Nat→Int}{xs:List ao}{gs:List Int}(hn:n≤8)(hx:xs.length≤12)(hf:∀ i,i<n→(f i).natAbs≤2 ^ 40)(hr:∀ r∈xs,RowN n 40 r)(hg:gs.length=n)(hgb:∀ x∈gs,x.natAbs≤2 ^ 40):FirstOk (fF n f++xs) gs n:=by
 have hl:=nq n f
 have p9:∀ x:Int,x.natAbs≤2 ^ 40→x.natAbs≤2 ^ 900:=fun x h=>Nat.le_trans h (Nat.pow_le_pow_right (by decide) (by decide))
 have hall:∀ r∈fF n f++xs,RowN n 40 r:=fun r hr'=>by
  rcases List.mem_append.mp hr' with h | h
  ·obtain⟨i,hi,rfl⟩:=List.mem_map.mp h
   refine⟨ux n i,fun x hx'=>?_,hf i (List.mem_range.mp hi)⟩
   obtain⟨o,_,rfl⟩:=List.mem_map.mp (show x∈List.map _ _ from hx')
   split <;> decide
  ·exact hr r h
 refine⟨⟨fun r h=>(hall r h).1,fun r h x hx'=>p9 x ((hall r h).2.1 x hx'),fun r h=>p9 _ (hall r h).2.2,hn,by rw[List.length_append,hl];omega,by rw[List.length_append,hl];omega⟩,⟨hg,fun x hx'=>p9 x (hgb x hx')⟩,.inl ?_,fun k hk=>?_⟩
 ·rw[List.length_append,hl]
  exact Nat.le_trans (Nat.pow_le_pow_right (by decide) (show n+xs.length≤23 by omega)) (by decide)
 ·unfold au
  rw[Int.toNat_natCast,List.getD_eq_getElem?_getD,List.getElem?_append_left (by rw[hl];exact hk)]
  unfold fF
  rw[List.getElem?_map,List.getElem?_range hk]
  rfl
theorem CT {x:Int}(h:0≤x∧x<4):∃ b:Int,bJ [D.int 4,D.int 4,D.int 9,D.int (10 ^ (9:Int).toNat)] x=some (D.int b)∧0<b∧b≤2 ^ 39:=by
 have:x=0∨x=1∨x=2∨x=3:=by omega
 rcases this with rfl | rfl | rfl | rfl
 ·exact⟨4,rfl,by decide,by decide⟩
 ·exact⟨4,rfl,by decide,by decide⟩
 ·exact⟨9,rfl,by decide,by decide⟩
 ·exact⟨10 ^ 9,rfl,by decide,by decide⟩
def sD:aR:=fun ds R=>∃ ns:List Int,ds=[.fzl (ns.map D.int)]∧ns.length≤63∧R (.bl true)
theorem A4 {n:Nat}{f:Addr}{fd:FuncData}(F:Fun K "_law_first_told" "_law_first_told" ir f fd)(cW:Cl P w K mg base n "_law_draws" ["_law_cell_here","_law_salt","_law_sizes"] fB)(ic:Cl P w K mg base n "_law_cell" ["_law_script","_law_k"] ou)(gf:Cl P w K mg base n "_law_rows" ["_law_cell_here","_law_salt","_law_n","_law_many","_law_big"] iy)(oF:Cl P w K mg base n "shares_hold" ["rows","goal","told"] nX)(fZ:Cl P w K mg base n "_law_unit" ["_law_n","_law_at"] iA)(D2:Cl P w K mg base n "first" ["rows","goal"] sM)(aG:mg "tuple"=none)(bx:mg "range"=none):FnOk P w K mg base aS (n+1) f fd ["_law_script"] (aZ K sD):=by
 refine F.okD sc__law_first_told (fun ds R h=>?_) (fun cdv A outer s H E ds R hr h=>?_)
 ·obtain⟨ns,rfl,_⟩:=h;rfl
 obtain⟨ns,rfl,hz,q⟩:=h
 refine⟨_,(ax (aB (i:=1) sc__law_first_told.nd rfl (Or.inl rfl) (aC cW hr rfl (aa (aC ic hr rfl (aa (dv 0) (aa af ag aA) ab) ab (ai aA ak)) (aa af (aa (PF.d (bC (aa af (aa af (aa af (aa af (aa af (aa af ag aA) aA) aA) aA) aA) aA))) ag js) aA) aE) aE (ai aA (ai js ak))))
   (ax (aB (i:=2) sc__law_first_told.nd rfl (Or.inr rfl) (ar (ae 1) (PD.q af) (fun _ _=>rfl)))
   (ax (aB (i:=3) sc__law_first_told.nd rfl (Or.inl rfl) (ar (ae 1) (PD.q af) (fun _ _=>rfl)))
   (bz (bj (bg (bI hr.units) (PD.q (ar (ae 1) (PD.q af) (fun _ _=>rfl))) (PD.q af) (aO _)) (ax (aB (i:=2) sc__law_first_told.nd rfl (Or.inr rfl) (ar (ae 1) (PD.q af) (fun _ _=>rfl)))
   (az (aB (i:=3) sc__law_first_told.nd rfl (Or.inl rfl) (ar (ae 1) (PD.q af) (fun _ _=>rfl))))) bt)
   (ax (aB (i:=4) sc__law_first_told.nd rfl (Or.inr rfl) (aC cW hr rfl (aa (aC ic hr rfl (aa (dv 0) (aa af ag aA) ab) ab (ai aA ak)) (aa af (aa (ah aF (PD.q (ah aQ (PD.q (PF.d (bC (aa af ag aA)))) (ae 2))) (PD.q (ah aQ (PD.q (PF.d (bC (aa af ag aA)))) (ae 2)))) ag aP) aA) aE) aE (ai aA (ai aP ak))))
   (ax (gy (i:=5) (k:=1) (N':=["_law_k","_law_n","_law_numbers"]) (cap:=[none,some 2,some 4]) rfl sc__law_first_told.nd rfl (Or.inl rfl) (.ok (show bu ["_law_script","_law_shape","_law_n","_law_many","_law_numbers","_law_rows_here","_law_goal"] (ay ir) _ ["_law_k","_law_n","_law_numbers"] [none,some 2,some 4]=true by decide +kernel)) (by decide +kernel) (bf (by decide)) (dm rfl bx (aa (dv 2) ag ab)) (fun _ _ _ _ _=>(aD (i:=0) (show List.Nodup (["_law_k","_law_n","_law_numbers"]:List Str) by decide +kernel) rfl (Or.inl rfl))) (fun _ _ _ _ _=>(aU (aa (aC fZ hr rfl (aa (dv 1) (aa (dv 0) ag ab) ab) ab (ai ab ak)) (aa (ah cG (PD.q (ar (ae 2) (ae 0) (fun _ _=>rfl))) (PD.q af)) ag aP) aE))))
   (ax (aB (i:=5) sc__law_first_told.nd rfl (Or.inl rfl) (ah aF (ae 5) (PD.q (aC gf hr rfl (aa (aC ic hr rfl (aa (dv 0) (aa af ag aA) ab) ab (ai aA ak)) (aa af (aa (dv 2) (aa (dv 3) (aa (ar (PD.q (PF.d (bC (aa af (aa af (aa af (aa (ah mQ (PD.q af) (PD.q af)) ag aP) aA) aA) aA)))) (PD.q (ar (ae 1) (PD.q af) (fun _ _=>rfl))) (fun _ _=>rfl)) ag aw) ab) ab) aA) aE) aE (ai aA (ai ab (ai ab (ai aw ak))))))))
   (ax (aB (i:=6) sc__law_first_told.nd rfl (Or.inl rfl) (bF bG rfl aG PyProof.Rows.boot_tuple (aI (PD.q (PF.d (bH (k:=1) (N':=["_law_one"]) (cap:=[none]) rfl (.ok (show bu ["_law_script","_law_shape","_law_n","_law_many","_law_numbers","_law_rows_here","_law_goal"] (ay ir) _ ["_law_one"] [none]=true by decide +kernel)) (by decide +kernel) (bf (by decide)) (bO (cb (ae 4) (bU (ae 2)) cC)) (fun _ _ _ _ _=>(aD (i:=0) (show List.Nodup (["_law_one"]:List Str) by decide +kernel) rfl (Or.inl rfl))) (fun _ _ _ _ _=>(ah cG (ae 0) (PD.q af)))))) aM aV) aV ak))
   (az (aH (cZ gD (PD.q (aC oF hr rfl (aa (bF bG rfl aG PyProof.Rows.boot_tuple (aI (ae 5) aM ab) ab ak) (aa (dv 6) (aa (aC D2 hr rfl (aa (bF bG rfl aG PyProof.Rows.boot_tuple (aI (ae 5) aM ab) ab ak) (aa (dv 6) ag ab) aE) aE (ai ab ak)) ag aE) ab) aE) aE (ai ab (ai aE ak)))) (PD.q eu) (aO _)))))))))))),?_⟩
 refine⟨ns,5,rfl,hz,by decide,fun c0=>⟨c0,55,[4,4,5,9,13,4],rfl,by decide,by decide,by decide,by decide +kernel,fun es hD=>?_⟩⟩
 obtain⟨x0,x1,x2,x3,x4,x5,rfl,d0,d1,d2,d3,d4,d5⟩:=zU hD
 obtain⟨b,hb,b0,b1⟩:=CT d5
 obtain⟨n1,rfl⟩:∃ n:Nat,x1=(n:Int):=⟨x1.toNat,by omega⟩
 obtain⟨n2,rfl⟩:∃ n:Nat,x2=(n:Int):=⟨x2.toNat,by omega⟩
 obtain⟨n3,rfl⟩:∃ n:Nat,x3=(n:Int):=⟨x3.toNat,by omega⟩
 obtain⟨n4,rfl⟩:∃ n:Nat,x4=(n:Int):=⟨x4.toNat,by omega⟩
 refine⟨_,rfl,_,rfl,fun ρ=>∃ n many:Nat,n≤8∧many≤12∧ρ=[some (.v (.fzl (ns.map D.int))),some (.v (.lst (([x0,↑n1,↑n2,↑n3,↑n4,x5]:List Int).map D.int))),some (.v (.int n)),some (.v (.int many)),none,none,none],⟨_,rfl,fun h=>⟨_,rfl,_,rfl,n3,n4,by omega,by omega,rfl⟩,fun h=>⟨n1,n2,by omega,by omega,rfl⟩⟩,?_⟩
 rintro ρ ⟨n,many,hn,hm,rfl⟩
 refine⟨ns,6,rfl,hz,by decide,fun c1=>?_⟩
 refine⟨⟨by omega,by omega,small (by show 1*(n:Int).toNat≤1000;omega)⟩,(List.replicate n (9:Int)).map D.int,by rw[dz,Int.toNat_natCast],⟨by omega,by omega,small (by show 1*(n:Int).toNat≤1000;omega)⟩,(List.replicate n (7:Int)).map D.int,by rw[dz,Int.toNat_natCast],?_,_,df D.int (List.replicate n (9:Int)) (List.replicate n (7:Int)),c1,56,_,rfl,?_,by decide,by decide,fun z hz'=>?_,fun es hE=>?_⟩
 ·rw[List.length_map,List.length_map,List.length_replicate,List.length_replicate];exact small (by omega)
 ·rw[List.length_append,List.length_replicate,List.length_replicate];omega
 ·have h9:(9:Int)<2 ^ 9000:=by decide +kernel
  rcases List.mem_append.mp hz' with h | h
  ·rw[(List.mem_replicate.mp h).2];omega
  ·rw[(List.mem_replicate.mp h).2];omega
 have hel:es.length=2*n:=by rw[hE.len,List.length_append,List.length_replicate,List.length_replicate];omega
 have heb:∀ d∈es,0≤d∧d<9:=fx hE fun z hz'=>by
  rcases List.mem_append.mp hz' with h | h
  ·rw[(List.mem_replicate.mp h).2];decide
  ·rw[(List.mem_replicate.mp h).2];decide
 have hat:∀ o:Nat,o<2*n→∀ k:Int,k=(o:Int)→bJ (es.map D.int) k=some (.int (es.getD o 0)):=fun o ho k e=>bD (i:=o) (cS (by omega)) e
 have hbd:∀ o:Nat,o<2*n→0≤es.getD o 0∧es.getD o 0<9:=fun o ho=>heb _ (cA (by omega))
 refine⟨⟨by omega,by omega⟩,?_⟩
 refine iS (fun i=>av (dn n i,es.getD i 0 - 4)) (bc (by omega)) (fun i hi=>?_) ?_
 ·refine⟨n,0+(i:Int),rfl,by omega,fun us _ _ hu=>?_⟩
  rw[hu,Int.zero_add,zS]
  exact⟨_,hat i (by omega) _ rfl,rfl⟩
 have e0:(List.range (n:Int).toNat).map (fun i=>av (dn n i,es.getD i 0 - 4))=(fF n fun i=>es.getD i 0 - 4).map av:=by
  unfold fF
  rw[List.map_map,Int.toNat_natCast]
  rfl
 rw[e0]
 refine⟨ns,7,rfl,hz,by decide,fun c2=>?_⟩
 refine⟨⟨by decide,by decide,by decide⟩,_,rfl,.int b,hb,c2,57,b,n,many,rfl,by decide,by decide,by omega,by omega,b0,b1,fun xs hxl hxr=>?_⟩
 refine⟨?_,_,df av _ xs,?_⟩
 ·rw[List.length_map,List.length_map,nq];exact Nat.le_of_lt (bc (by omega))
 refine⟨_,i6 (xs:=es) (a:=(n:Int)) (by omega),?_⟩
 rw[Int.toNat_natCast]
 refine du (f:=D.int) (fun x=>x - 3) (bc (by rw[List.length_drop];omega)) (fun x _=>rfl) ?_
 obtain⟨gs,hgs⟩:∃ gs,gs=(es.drop n).map (fun x=>x - 3):=⟨_,rfl⟩
 rw[← hgs]
 have hgl:gs.length=n:=by rw[hgs,List.length_map,List.length_drop];omega
 have hgb:∀ x∈gs,x.natAbs≤2 ^ 40:=fun x hx=>by
  rw[hgs] at hx
  obtain⟨y,hy,rfl⟩:=List.mem_map.mp hx
  have:=heb y (List.mem_of_mem_drop hy)
  exact Nat.le_trans (show _≤2 ^ 4 by omega) (by decide)
 have ho:FirstOk ((fF n fun i=>es.getD i 0 - 4)++xs) gs n:=Dt hn (by omega) (fun i hi=>by
  have:=hbd i (by omega)
  exact Nat.le_trans (show _≤2 ^ 4 by omega) (by decide)) hxr hgl hgb
 obtain⟨rs,hrs⟩:∃ rs,rs=(fF n fun i=>es.getD i 0 - 4)++xs:=⟨_,rfl⟩
 rw[← hrs] at ho ⊢
 have hE2:EndOk rs gs:=⟨fun r hr'=>(ho.rw_.big r hr').2,fun r hr'=>by rw[ho.rw_.len r hr',hgl],by omega,by have:=ho.rw_.M1;rw[hrs,List.length_append,nq];omega,fun x hx=>Bt.big (b:=40) (hgb x hx) (by decide)⟩
 refine⟨rs,gs,n,rfl,ho,fun sd d hf he=>?_⟩
 obtain⟨e,rfl,h1,h2⟩:=xl ho (Dw ho hf he)
 refine⟨rs,gs,e,rfl,hE2,h1,?_⟩
 rw[h2]
 exact q
abbrev sp_law:=sS
abbrev Bb:=p7
theorem BU {x:Int}(h:0≤x∧x<4):∃ b:Int,bJ [D.int 3,D.int 3,D.int 9,D.int (10 ^ (9:Int).toNat)] x=some (D.int b)∧0<b∧b≤2 ^ 31:=by
 have:x=0∨x=1∨x=2∨x=3:=by omega
 rcases this with rfl | rfl | rfl | rfl
 ·exact⟨3,rfl,by decide,by decide⟩
 ·exact⟨3,rfl,by decide,by decide⟩
 ·exact⟨9,rfl,by decide,by decide⟩
 ·exact⟨10 ^ 9,rfl,by decide,by decide⟩
theorem zd {x:Int}(h:0≤x∧x<4):∃ b:Int,bJ [D.int 1,D.int (-1),D.int 2,D.int (-3)] x=some (D.int b)∧b.natAbs≤3:=by
 have:x=0∨x=1∨x=2∨x=3:=by omega
 rcases this with rfl | rfl | rfl | rfl
 ·exact⟨1,rfl,by decide⟩
 ·exact⟨-1,rfl,by decide⟩
 ·exact⟨2,rfl,by decide⟩
 ·exact⟨-3,rfl,by decide⟩
theorem nK {rs:List ao}{m:Nat}{x:List Int}{y:Int}(hl:∀ r∈rs,r.1.length=m)(hx:x.length=m)(h:jM rs x y):∀ {qs:List (Int × Int)},(∀ s∈qs,dk rs s)→cH rs qs*y≤Wk.sm m (fun k=>cQ rs qs k*x.getD k 0)
 | [],_=>by
  have e:Wk.sm m (fun k=>cQ rs [] k*x.getD k 0)=0:=by
   rw[Wk.sm_congr (g:=fun _=>0) fun k _=>by show (0:Int)*_=0;omega]
   exact Wk.sm_zero m
  rw[e]
  show (0:Int)*y≤0
  omega
 | s::qs,hq=>by
  have i1:=nK hl hx h fun t ht=>hq t (List.mem_cons_of_mem _ ht)
  obtain⟨⟨s0,s1⟩,s2⟩:=hq s List.mem_cons_self
  have hm:=dW s0 s1
  have h1:=h _ hm
  rw[eX (hl _ hm) hx] at h1
  have h2:=Int.mul_le_mul_of_nonneg_left h1 (show 0≤s.2 by omega)
  have e1:cH rs (s::qs)=s.2*(au rs s.1).2+cH rs qs:=by unfold cH;rw[List.map_cons,List.sum_cons]
  have e2:Wk.sm m (fun k=>cQ rs (s::qs) k*x.getD k 0)=s.2*Wk.dt m (fun i=>(au rs s.1).1.getD i 0) (fun i=>x.getD i 0)+Wk.sm m (fun k=>cQ rs qs k*x.getD k 0):=by
   unfold Wk.dt
   rw[← Wk.sm_mul,← Wk.sm_add]
   refine Wk.sm_congr fun k _=>?_
   have:cQ rs (s::qs) k=s.2*(au rs s.1).1.getD k 0+cQ rs qs k:=by unfold cQ;rw[List.map_cons,List.sum_cons]
   rw[this,Int.add_mul,Int.mul_assoc]
  rw[e1,e2,Int.add_mul,Int.mul_assoc]
  omega
theorem C5 {rs:List ao}{goal:List Int}{kind:Int}{p:ao}{ray:List Int}{shs:List (Int × Int)}{d:Int}(hp:cD p)(hy:∀ x∈ray,aW x)(hs:∀ s∈shs,aW s.2)(hsb:∀ a,bS rs shs goal.length=some a→aW a.2)(hd:aW d∧aW (aj goal p.1)):mR rs goal (fM kind p ray shs d):=by
 unfold fM
 split
 ·exact hs
 split
 ·exact⟨hp,hy⟩
 ·exact⟨hp,hs,hsb,hd⟩
theorem zy {rs:List ao}{n:Nat}{shs:List (Int × Int)}{x:List Int}{y:Int}(hl:∀ r∈rs,r.1.length=n)(hx:x.length=n)(hy:0<y)(hm:jM rs x y)(h:fu rs n shs=true):False:=by
 unfold fu at h
 cases e:bS rs shs n with
 | none=>rw[e] at h;cases h
 | some a =>
  rw[e] at h
  obtain⟨h1,h2⟩:=Bool.and_eq_true_iff.mp (show (hU a.1 && decide (a.2>0))=true from h)
  have h2:=of_decide_eq_true h2
  obtain⟨a',e',el,ej,eb⟩:=kJ hl (kL e)
  rw[e] at e'
  cases e'
  have h3:=nK hl hx hm (kL e)
  have e4:Wk.sm n (fun k=>cQ rs shs k*x.getD k 0)=0:=by
   rw[Wk.sm_congr (g:=fun _=>0) fun k hk=>?_]
   ·exact Wk.sm_zero n
   ·rw[← ej k hk]
    have:=of_decide_eq_true (List.all_eq_true.mp h1 _ (cA (d:=0) (show k<a.1.length by omega)))
    rw[this]
    exact Int.zero_mul _
  have:=Int.mul_pos h2 hy
  rw[e4,← eb] at h3
  omega
theorem CA {rs:List ao}{goal:List Int}{m:Nat}{p:ao}{qs:List (Int × Int)}{d:Int}{x:List Int}{y:Int}(hg:goal.length=m)(hl:∀ r∈rs,r.1.length=m)(hx:x.length=m)(hm:jM rs x y)(h:eG rs goal p qs d=true):aj goal x*p.2≤aj goal p.1*y:=by
 unfold eG at h
 by_cases hd:d<1
 ·rw[if_pos hd] at h;cases h
 rw[if_neg hd] at h
 by_cases hpt:cT rs goal p=true
 ·rw[if_pos hpt] at h
  have hp:1≤p.2:=by
   unfold cT at hpt
   by_cases c:p.2<1∨p.1.length≠goal.length
   ·rw[if_pos c] at hpt;cases hpt
   ·omega
  cases e:bS rs qs goal.length with
  | none=>rw[e] at h;cases h
  | some a =>
   rw[e] at h
   replace h:(if a.1=goal.map (fun x=>-d*x) then decide (a.2*p.2 = -d*aj goal p.1) else false)=true:=h
   by_cases ea:a.1=goal.map (fun x=>-d*x)
   ·rw[if_pos ea] at h
    have h3:=of_decide_eq_true h
    obtain⟨a',e',el,ej,eb⟩:=kJ (n:=goal.length) (by rw[hg];exact hl) (kL e)
    rw[e] at e'
    cases e'
    have h1:=nK hl hx hm (kL e)
    have e5:Wk.sm m (fun k=>cQ rs qs k*x.getD k 0) = -d*aj goal x:=by
     rw[eX hg hx]
     unfold Wk.dt
     rw[← Wk.sm_mul]
     refine Wk.sm_congr fun k hk=>?_
     rw[← ej k (by omega),ea,List.getD_eq_getElem?_getD,List.getElem?_map,cS (d:=0) (show k<goal.length by omega)]
     show -d*goal.getD k 0*_=_
     rw[Int.mul_assoc]
    rw[e5,← eb] at h1
    have h2:=Int.mul_le_mul_of_nonneg_right h1 (show 0≤p.2 by omega)
    generalize aj goal p.1=g at *
    generalize aj goal x=X at *
    generalize a.2=b at *
    generalize p.2=u at *
    have e4:b*y*u = -(d*(g*y)):=by
     have:b*y*u=b*u*y:=by grind
     rw[this,h3]
     grind
    have e6:-d*X*u = -(d*(X*u)):=by grind
    rw[e4,e6] at h2
    exact Int.le_of_mul_le_mul_left (show d*(X*u)≤d*(g*y) by omega) (by omega)
   ·rw[if_neg ea] at h;cases h
 ·rw[if_neg hpt] at h;cases h
theorem xH {rs:List ao}{pl:ao}(h1:1≤pl.2):jM (rs.map (gp pl)) pl.1 pl.2:=fun r hr=>by
 obtain⟨r,_,rfl⟩:=List.mem_map.mp hr
 show (if aj r.1 pl.1 / pl.2<r.2 then aj r.1 pl.1 / pl.2 else r.2)*pl.2≤aj r.1 pl.1
 have h2:=Int.ediv_mul_le (aj r.1 pl.1) (show pl.2≠0 by omega)
 split
 ·exact h2
 ·rename_i c
  exact Int.le_trans (Int.mul_le_mul_of_nonneg_right (show r.2≤aj r.1 pl.1 / pl.2 by omega) (by omega)) h2
theorem B5 {n:Nat}{pl r:ao}(hn:n≤8)(h1:1≤pl.2)(hp:pl.1.length=n)(hb:RowB 401 pl)(h:RowN n 201 r):RowN n 700 (gp pl r):=by
 refine⟨h.1,fun x hx=>Nat.le_trans (h.2.1 x hx) (Nat.pow_le_pow_right (by decide) (by decide)),?_⟩
 show Bt 700 (if aj r.1 pl.1 / pl.2<r.2 then aj r.1 pl.1 / pl.2 else r.2)
 have hd:Bt 605 (aj r.1 pl.1):=dot_le hn h.1 hp h.2.1 hb.1
 split
 ·exact (hd.div h1).up (by decide)
 ·exact Bt.up (a:=201) h.2.2 (by decide)
theorem A3 {rs:List ao}{goal:List Int}{n:Nat}{p:ao}{ray:List Int}{pl:ao}(hn:n≤8)(hl:rs.length≤100)(hr:∀ r∈rs,RowN n 700 r)(hg:goal.length=n)(hgb:∀ x∈goal,x.natAbs≤2 ^ 201)(hp:RowB 201 p)(hy:∀ x∈ray,x.natAbs≤2 ^ 201)(l1:pl.1.length=n)(l3:RowB 401 pl)(l2:1≤pl.2)(h1:cT rs goal p=true)(h2:eN rs goal ray=true):EtOk rs goal n p ray pl:=by
 unfold cT at h1
 unfold eN at h2
 by_cases c:p.2<1∨p.1.length≠goal.length
 ·rw[if_pos c] at h1;cases h1
 rw[if_neg c] at h1
 by_cases c2:ray.length=goal.length
 ·rw[if_pos c2] at h2
  obtain⟨h3,h4⟩:=Bool.and_eq_true_iff.mp h2
  have up:=fun (x:Int) (b:Nat) (hb:b≤1000) (h:x.natAbs≤2 ^ b)=>Nat.le_trans h (Nat.pow_le_pow_right (n:=2) (by decide) hb)
  exact⟨hn,hl,fun r h=>⟨(hr r h).1,(hr r h).2.mono (by decide)⟩,hg,fun x hx=>up x 201 (by decide) (hgb x hx),by omega,hp.mono (by decide),by omega,fun x hx=>up x 201 (by decide) (hy x hx),l1,l3.mono (by decide),by omega,l2,fun r h=>of_decide_eq_true (List.all_eq_true.mp h1 r h),fun r h=>of_decide_eq_true (List.all_eq_true.mp h3 r h),of_decide_eq_true h4⟩
 ·rw[if_neg c2] at h2;cases h2
theorem vg {n:Nat}{f:Addr}{fd:FuncData}(F:Fun K "law" "law" je f fd)(cW:Cl P w K mg base n "_law_draws" ["_law_cell_here","_law_salt","_law_sizes"] fB)(DL:Cl P w K mg base n "_law_made" ["_law_kind","_law_wild_here","_law_cells","_law_n","_law_many","_law_big"] qy)(DM:Cl P w K mg base n "_law_planted" ["_law_cell_here","_law_parts","_law_n","_law_far"] ua)(DC:Cl P w K mg base n "_law_bent" ["_law_parts","_law_spoil","_law_way","_law_at","_law_step"] qX)(DJ:Cl P w K mg base n "_law_bent_rows" ["_law_rows_here","_law_goal","_law_spoil","_law_at","_law_step"] sF)(DZ:Cl P w K mg base n "_law_loosened" ["_law_rows_here","_law_point"] qj)(oF:Cl P w K mg base n "shares_hold" ["rows","goal","told"] nX)(DO:Cl P w K mg base n "_law_first_told" ["_law_script"] sD)(ic:Cl P w K mg base n "_law_cell" ["_law_script","_law_k"] ou)(DX:Cl P w K mg base n "_law_told" ["_law_kind","_law_parts"] rO)(DS:Cl P w K mg base n "_law_endless_true" ["_law_rows_here","_law_goal","_law_point","_law_ray","_law_planted_here"] sQ)(di:Cl P w K mg base n "_law_left" ["_law_entries","_law_spot"] gv)(aG:mg "tuple"=none)(bx:mg "range"=none):FnOk P w K mg base aS (n+1) f fd ["_law_script"] (aZ K Bb):=by
 refine F.okD sc_law (fun ds R h=>?_) (fun cdv A outer s H E ds R hr h=>?_)
 ·obtain⟨ns,rfl,_⟩:=h;rfl
 obtain⟨ns,rfl,hz,q⟩:=h
 refine⟨_,(bz (bj (jy (dO (PD.q (aC DO hr rfl (aa (dv 0) ag ab) ab ak)) (fun _=>rfl))) (az (aH eu)) bt)
   (ax (aB (i:=1) sc_law.nd rfl (Or.inl rfl) (aC cW hr rfl (aa (aC ic hr rfl (aa (dv 0) (aa af ag aA) ab) ab (ai aA ak)) (aa af (aa (PF.d (bC (aa af (aa af (aa af (aa af (aa af (aa af (aa af (aa af (aa af (aa af ag aA) aA) aA) aA) aA) aA) aA) aA) aA) aA))) ag js) aA) aE) aE (ai aA (ai js ak))))
   (ax (aB (i:=2) sc_law.nd rfl (Or.inl rfl) (ar (ae 1) (PD.q af) (fun _ _=>rfl)))
   (ax (aB (i:=3) sc_law.nd rfl (Or.inl rfl) (ar (ae 1) (PD.q af) (fun _ _=>rfl)))
   (ax (gy (i:=4) (k:=1) (N':=["_law_k","_law_script"]) (cap:=[none,some 0]) rfl sc_law.nd rfl (Or.inl rfl) (.ok (show bu ["_law_script","_law_shape","_law_kind","_law_n","_law_cells","_law_wild_here","_law_rows_here","_law_goal","_law_parts","_law_planted_here","_law_step","_law_told_here"] (ay je) _ ["_law_k","_law_script"] [none,some 0]=true by decide +kernel)) (by decide +kernel) (bf (by decide)) (wx rfl bx (aa af (aa af ag aA) aA)) (fun _ _ _ _ _=>(aD (i:=0) (show List.Nodup (["_law_k","_law_script"]:List Str) by decide +kernel) rfl (Or.inl rfl))) (fun _ _ _ _ _=>(aC ic hr rfl (aa (dv 1) (aa (dv 0) ag ab) ab) ab (ai ab ak))))
   (ax (aB (i:=5) sc_law.nd rfl (Or.inl rfl) (cZ (bI hr.units) (PD.q (ar (ae 1) (PD.q af) (fun _ _=>rfl))) (PD.q af) (aO _)))
   (ax (fU (aC DL hr rfl (aa (dv 2) (aa (dv 5) (aa (dv 4) (aa (dv 3) (aa (ar (ae 1) (PD.q af) (fun _ _=>rfl)) (aa (ar (PD.q (PF.d (bC (aa af (aa af (aa af (aa (ah mQ (PD.q af) (PD.q af)) ag aP) aA) aA) aA)))) (PD.q (ar (ae 1) (PD.q af) (fun _ _=>rfl))) (fun _ _=>rfl)) ag aw) aw) ab) ab) ab) ab) ab (ai ab (ai ab (ai ab (ai aw (ai aw ak)))))) (cg (n:=3) rfl (bh (aD (i:=6) sc_law.nd rfl (Or.inl rfl)) (bh (aD (i:=7) sc_law.nd rfl (Or.inl rfl)) (bh (aD (i:=8) sc_law.nd rfl (Or.inl rfl)) bZ)))))
   (ax (aB (i:=9) sc_law.nd rfl (Or.inl rfl) (aC DM hr rfl (aa (aC ic hr rfl (aa (dv 0) (aa af ag aA) ab) ab (ai aA ak)) (aa (dv 8) (aa (dv 3) (aa (nE (dv 5) (nE (cZ (bI hr.units) (ae 2) (PD.q af) (aO _)) (iz (cZ (bI hr.units) (PD.q (ar (ae 1) (PD.q af) (fun _ _=>rfl))) (PD.q af) (aO _))))) ag qd) ab) ab) aE) aE (ai ab (ai ab (ai qd ak)))))
   (ax (aB (i:=10) sc_law.nd rfl (Or.inl rfl) (ar (PD.q (PF.d (bC (aa af (aa (dS (PD.q af)) (aa af (aa (dS (PD.q af)) ag iC) aA) iC) aA)))) (PD.q (ar (ae 1) (PD.q af) (fun _ _=>rfl))) (fun _ _=>rfl)))
   (ax (aB (i:=8) sc_law.nd rfl (Or.inl rfl) (aC DC hr rfl (aa (dv 8) (aa (ar (ae 1) (PD.q af) (fun _ _=>rfl)) (aa (ar (ae 1) (PD.q af) (fun _ _=>rfl)) (aa (ar (ae 1) (PD.q af) (fun _ _=>rfl)) (aa (dv 10) ag ab) aw) aw) aw) ab) ab (ai aw (ai aw (ai aw (ai ab ak))))))
   (ax (fU (aC DJ hr rfl (aa (dv 6) (aa (dv 7) (aa (ar (ae 1) (PD.q af) (fun _ _=>rfl)) (aa (ar (ae 1) (PD.q af) (fun _ _=>rfl)) (aa (dv 10) ag ab) aw) aw) ab) ab) ab (ai ab (ai aw (ai aw (ai ab ak))))) (cg (n:=2) rfl (bh (aD (i:=6) sc_law.nd rfl (Or.inl rfl)) (bh (aD (i:=7) sc_law.nd rfl (Or.inl rfl)) bZ))))
   (ax (aB (i:=6) sc_law.nd rfl (Or.inl rfl) (aC DZ hr rfl (aa (dv 6) (aa (dv 9) ag ab) ab) ab (ai ab ak)))
   (ax (aB (i:=11) sc_law.nd rfl (Or.inl rfl) (aC oF hr rfl (aa (bF bG rfl aG PyProof.Rows.boot_tuple (aI (ae 6) aM ab) ab ak) (aa (dv 7) (aa (aC DX hr rfl (aa (dv 2) (aa (dv 8) ag ab) ab) ab (ai ab ak)) ag aE) ab) aE) aE (ai ab (ai aE ak))))
   (bz (bj (bg qO (ae 11) (PD.q eu) (aO _)) (az (aH (cZ gD (ae 11) (PD.q eu) (aO _)))) bt)
   (bz (bj (bg (bI hr.units) (ae 2) (PD.q af) (aO _)) (az (aH (aC DS hr rfl (aa (dv 6) (aa (dv 7) (aa (ar (ae 8) (PD.q af) (fun _ _=>rfl)) (aa (ar (ae 8) (PD.q af) (fun _ _=>rfl)) (aa (dv 9) ag ab) aw) aw) ab) ab) ab (ai ab (ai aw (ai aw (ai ab ak))))))) bt)
   (bz (bj (bg (bI hr.units) (ae 2) (PD.q af) (aO _)) (az (aH eu)) bt)
   (az (aH (cZ Ce (PD.q (ah aQ (PD.q (aC di hr rfl (aa (dv 7) (aa (ar (ae 9) (PD.q af) (fun _ _=>rfl)) ag aw) ab) ab (ai aw ak))) (PD.q (ar (PD.q (ar (ae 8) (PD.q af) (fun _ _=>rfl))) (PD.q af) (fun _ _=>rfl))))) (PD.q (ah aQ (PD.q (aC di hr rfl (aa (dv 7) (aa (ar (PD.q (ar (ae 8) (PD.q af) (fun _ _=>rfl))) (PD.q af) (fun _ _=>rfl)) ag aw) ab) ab (ai aw ak))) (PD.q (ar (ae 9) (PD.q af) (fun _ _=>rfl))))) (aO _)))))))))))))))))))),?_⟩
 refine⟨fun ρ=>ρ=[some (.v (.fzl (ns.map D.int))),none,none,none,none,none,none,none,none,none,none,none],⟨ns,rfl,hz,⟨fun h=>(by cases h),fun _=>rfl⟩⟩,?_⟩
 rintro ρ rfl
 refine⟨ns,0,rfl,hz,by decide,fun c0=>⟨c0,1,[3,4,5,4,4,8,4,8,4,3],rfl,by decide,by decide,by decide,by decide +kernel,fun es hD=>?_⟩⟩
 obtain⟨x0,t,rfl,d0,hD⟩:=bV hD
 obtain⟨x1,t,rfl,d1,hD⟩:=bV hD
 obtain⟨x2,t,rfl,d2,hD⟩:=bV hD
 obtain⟨x3,t,rfl,d3,hD⟩:=bV hD
 obtain⟨x4,t,rfl,d4,hD⟩:=bV hD
 obtain⟨x5,t,rfl,d5,hD⟩:=bV hD
 obtain⟨x6,t,rfl,d6,hD⟩:=bV hD
 obtain⟨x7,t,rfl,d7,hD⟩:=bV hD
 obtain⟨x8,t,rfl,d8,hD⟩:=bV hD
 obtain⟨x9,t,rfl,d9,hD⟩:=bV hD
 cases pj hD
 obtain⟨n,rfl⟩:∃ n:Nat,x1=n:=⟨x1.toNat,by omega⟩
 obtain⟨many,rfl⟩:∃ n:Nat,x2=n:=⟨x2.toNat,by omega⟩
 refine⟨_,rfl,_,rfl,⟨by decide,by decide,by decide,by decide⟩,by rw[cw];exact bc (by decide),fun i y=>∃ c:Int,True∧y=.int c,fun i d hd=>?_,fun ys hyl hy=>?_⟩
 ·obtain⟨hi,rfl⟩:=dZ hd
  exact⟨ns,1+(i:Int),rfl,hz,by omega,fun c=>⟨c,trivial,rfl⟩⟩
 obtain⟨cs,rfl,-⟩:=gJ hy
 rw[List.length_map,cw] at hyl
 obtain⟨c1,c2,c3,rfl⟩:∃ c1 c2 c3,cs=[c1,c2,c3]:=by
  match cs,hyl with
  | [c1,c2,c3],_=>exact⟨c1,c2,c3,rfl⟩
 obtain⟨big,ebig,hb0,hb1⟩:=BU d3
 obtain⟨step,estep,hst⟩:=zd d8
 refine⟨_,rfl,_,rfl,⟨by decide,by decide⟩,_,rfl,.int big,ebig,x0,(x4 == 0),c1,c2,c3,n,many,big,rfl,by omega,by omega,hb0,hb1,fun rs goal p ray shs d hM=>⟨rfl,?_⟩⟩
 dsimp only [List.set]
 refine⟨ns,4,rfl,hz,by decide,fun c4=>?_⟩
 refine⟨fun e=>?_,fun e=>⟨fun e2=>?_,fun e2=>⟨_,rfl,?_⟩⟩⟩
 all_goals
  refine⟨c4,p,ray,shs,d,n,_,rfl,by omega,hM.pb,hM.yb,fun hf=>hM.gd (by first | (cases hf;done) | (rw[e,e2];rfl)),fun pl l1 l2 l3=>?_⟩
  refine⟨_,rfl,.int step,estep,_,rfl,_,rfl,_,rfl,p,ray,shs,d,x5,x6,x7,step,rfl,hM.pb,hM.pl,hM.yb,hM.yl,hM.sl,hM.sb,hM.db,hst,by omega,by omega,fun p' ray' shs' d' b1 b2 b3 b4 b5 b6 b7=>?_⟩
  refine⟨_,rfl,_,rfl,rs,goal,x5,x7,step,n,rfl,hM.rl,hM.gl,by omega,hM.rr,hM.gb,hst,fun rs' goal' g1 g2 g3 g4=>⟨rfl,?_⟩⟩
  have plB:cD pl:=⟨fun x hx=>cJ (b:=401) (by decide) (l3.1 x hx),cJ (b:=401) (by decide) l3.2⟩
  have pl9:pl.2<2 ^ 9000:=by
   have h1:pl.2.natAbs≤2 ^ 401:=l3.2
   have h2:(2:Nat) ^ 401<2 ^ 9000:=Nat.pow_lt_pow_right (by decide) (by decide)
   have h3:((pl.2.natAbs:Nat):Int)<((2 ^ 9000:Nat):Int):=by exact_mod_cast Nat.lt_of_le_of_lt h1 h2
   have h6:((2 ^ 9000:Nat):Int)=2 ^ 9000:=by rw[Int.natCast_pow];rfl
   rw[h6] at h3
   omega
  refine⟨rs',pl,rfl,by omega,fun r h=>⟨by rw[(g3 r h).1];omega,fun x hx=>cJ (b:=201) (by decide) ((g3 r h).2.1 x hx),cJ (b:=201) (by decide) (g3 r h).2.2⟩,plB,l2,pl9,?_⟩
  have hlo:∀ r∈rs'.map (gp pl),RowN n 700 r:=fun r h=>by
   obtain⟨r',h',rfl⟩:=List.mem_map.mp h
   exact B5 (by omega) l2 l1 l3 (g3 r' h')
  have hmt:jM (rs'.map (gp pl)) pl.1 pl.2:=xH l2
  have hll:(rs'.map (gp pl)).length≤100:=by rw[List.length_map];omega
  generalize rs'.map (gp pl)=rs2 at hlo hmt hll ⊢
  have ok:EndOk rs2 goal':=⟨fun r h=>⟨fun x hx=>cJ (by decide) ((hlo r h).2.1 x hx),cJ (by decide) (hlo r h).2.2⟩,fun r h=>by rw[(hlo r h).1,g2],by omega,by omega,fun x hx=>cJ (by decide) (g4 x hx)⟩
  have hp:cD p':=⟨fun x hx=>cJ (by decide) (b1.1 x hx),cJ (by decide) b1.2⟩
  have hy':∀ x∈ray',aW x:=fun x hx=>cJ (by decide) (b3 x hx)
  have hs:∀ s∈shs',aW s.2:=fun s hs=>cJ (by decide) (b6 s hs)
  have hdp:(aj goal' p'.1).natAbs≤goal'.length*(2 ^ 201*2 ^ 201):=L2.dot_le g4 b1.1
  have hd:aW d'∧aW (aj goal' p'.1):=⟨cJ (by decide) b7,cJ (b:=420) (by decide) (Nat.le_trans hdp (Nat.le_trans (Nat.mul_le_mul_right _ (show goal'.length≤8 by omega)) (by decide)))⟩
  have hsb:∀ a,bS rs2 shs' goal'.length=some a→aW a.2:=fun a ea=>by
   have:=sX (E:=2 ^ 700) (W:=2 ^ 41) ea (fun r h=>(hlo r h).2) b6
   refine cJ (b:=800) (by decide) (Nat.le_trans this.2 ?_)
   exact Nat.le_trans (Nat.mul_le_mul_right _ b5) (by decide)
  refine⟨x0,p',ray',shs',d',rfl,rs2,goal',fM x0 p' ray' shs' d',rfl,ok,C5 hp hy' hs hsb hd,?_⟩
  dsimp only [List.set]
  have hdq:(aj goal' pl.1).natAbs≤goal'.length*(2 ^ 201*2 ^ 401):=L2.dot_le g4 l3.1
  have hdl:aW (aj goal' pl.1):=cJ (b:=620) (by decide) (Nat.le_trans hdq (Nat.le_trans (Nat.mul_le_mul_right _ (show goal'.length≤8 by omega)) (by decide)))
  cases hB:oj rs2 goal' (fM x0 p' ray' shs' d') with
  | false=>exact⟨fun ρ=>False,⟨fun _=>q,fun h=>(by cases h)⟩,fun _ h=>h.elim⟩
  | true =>
  refine⟨fun ρ=>ρ=[some (.v (.fzl (ns.map D.int))),some (.v (.lst (([x0,↑n,↑many,x3,x4,x5,x6,x7,x8,x9]:List Int).map D.int))),some (.v (.int x0)),some (.v (.int n)),some (.v (.lst ([c1,c2,c3].map D.int))),some (.v (.bl (x4 == 0))),some (.v (.lst (rs2.map av))),some (.v (.tup (goal'.map D.int))),some (.v (dJ p' ray' shs' d')),some (.v (av pl)),some (.v (.int step)),some (.v (.bl true))],⟨fun h=>(by cases h),fun _=>rfl⟩,?_⟩
  rintro ρ rfl
  refine⟨fun ρ=>x0≠1∧ρ=[some (.v (.fzl (ns.map D.int))),some (.v (.lst (([x0,↑n,↑many,x3,x4,x5,x6,x7,x8,x9]:List Int).map D.int))),some (.v (.int x0)),some (.v (.int n)),some (.v (.lst ([c1,c2,c3].map D.int))),some (.v (.bl (x4 == 0))),some (.v (.lst (rs2.map av))),some (.v (.tup (goal'.map D.int))),some (.v (dJ p' ray' shs' d')),some (.v (av pl)),some (.v (.int step)),some (.v (.bl true))],⟨fun h=>?_,fun h=>⟨fun e=>(by rw[e] at h;cases h),rfl⟩⟩,?_⟩
  ·have e1:x0=1:=eq_of_beq h
   rw[e1] at hB
   obtain⟨hB1,hB2⟩:=Bool.and_eq_true_iff.mp (show (cT rs2 goal' p' && eN rs2 goal' ray')=true from hB)
   exact⟨_,rfl,_,rfl,rs2,goal',n,p',ray',pl,rfl,A3 (by omega) hll hlo g2 g4 b1 b3 l1 l3 l2 hB1 hB2,q⟩
  rintro ρ ⟨hk1,rfl⟩
  refine⟨fun ρ=>x0≠0∧ρ=[some (.v (.fzl (ns.map D.int))),some (.v (.lst (([x0,↑n,↑many,x3,x4,x5,x6,x7,x8,x9]:List Int).map D.int))),some (.v (.int x0)),some (.v (.int n)),some (.v (.lst ([c1,c2,c3].map D.int))),some (.v (.bl (x4 == 0))),some (.v (.lst (rs2.map av))),some (.v (.tup (goal'.map D.int))),some (.v (dJ p' ray' shs' d')),some (.v (av pl)),some (.v (.int step)),some (.v (.bl true))],⟨fun h=>?_,fun h=>⟨fun e=>(by rw[e] at h;cases h),rfl⟩⟩,?_⟩
  ·have e1:x0=0:=eq_of_beq h
   rw[e1] at hB
   exact (zy (fun r h=>by rw[(hlo r h).1,g2]) (by rw[l1,g2]) (by omega) hmt (show fu rs2 goal'.length shs'=true from hB)).elim
  rintro ρ ⟨hk0,rfl⟩
  have hbb:eG rs2 goal' p' shs' d'=true:=by
   unfold fM at hB
   rw[if_neg hk0,if_neg hk1] at hB
   exact hB
  refine⟨_,rfl,goal',pl.1,rfl,by omega,ok.gbig,plB.1,_,rfl,_,rfl,cF hdl hp.2,_,rfl,_,rfl,goal',p'.1,rfl,by omega,ok.gbig,hp.1,_,rfl,cF hd.2 plB.2,?_⟩
  show R (.bl (decide (aj goal' pl.1*p'.2≤aj goal' p'.1*pl.2)))
  rw[show decide (aj goal' pl.1*p'.2≤aj goal' p'.1*pl.2)=true from decide_eq_true (CA g2 (fun r h=>(hlo r h).1) l1 hmt hbb)]
  exact q
end
theorem tG {A:Type}{p:List A→Prop}(h:∀ a0,p [a0]):∀ us:List A,us.length=1→p us
 | [a0],_=>h a0
theorem cK {A:Type}{p:List A→Prop}(h:∀ a0 a1,p [a0,a1]):∀ us:List A,us.length=2→p us
 | [a0,a1],_=>h a0 a1
theorem fw {A:Type}{p:List A→Prop}(h:∀ a0 a1 a2,p [a0,a1,a2]):∀ us:List A,us.length=3→p us
 | [a0,a1,a2],_=>h a0 a1 a2
theorem eS {A:Type}{p:List A→Prop}(h:∀ a0 a1 a2 a3,p [a0,a1,a2,a3]):∀ us:List A,us.length=4→p us
 | [a0,a1,a2,a3],_=>h a0 a1 a2 a3
theorem gL {A:Type}{p:List A→Prop}(h:∀ a0 a1 a2 a3 a4,p [a0,a1,a2,a3,a4]):∀ us:List A,us.length=5→p us
 | [a0,a1,a2,a3,a4],_=>h a0 a1 a2 a3 a4
theorem rj {A:Type}{p:List A→Prop}(h:∀ a0 a1 a2 a3 a4 a5,p [a0,a1,a2,a3,a4,a5]):∀ us:List A,us.length=6→p us
 | [a0,a1,a2,a3,a4,a5],_=>h a0 a1 a2 a3 a4 a5
theorem all_mk {l:PySem.W.OpenLaw}{w:World}{K:Frag}{h:Heap}{mg:Str→Option Value}{fa f18 f56:Addr}{C_Stand:Addr}(X:K.In h)(G:h.Ns mainGlobals mg)(hfa:mg "law"=some (.ref fa))
  {od18 an18 od56 an56:Option Addr} {sl18 sl56:Array (Option Value)} {oc18 kV18 dc18 pm18 cd18 ct18 oc56 kV56 dc56 pm56 cd56 ct56:Value}
  (aC_Stand:nsIn K mainGlobals "Stand"=some (some (.ref C_Stand)))
  (a1:Has K k7 "common_of_two")
  (a2:Has K kS "common")
  (a3:Has K jJ "lowest")
  (a4:Has K jd "unit")
  (a5:Has K jG "left")
  (a6:Has K kv "passes")
  (a7:Has K ko "is_row_number")
  (a8:Has K jL "shares_sum")
  (a9:Has K jD "none_holds")
  (a10:Has K jK "is_ray")
  (a11:Has K jq "is_point")
  (a12:Has K jo "best_holds")
  (a13:Has K kj "shares_hold")
  (a14:Has K iF "beginning")
  (a15:Has K i3 "growths")
  (a16:Has K kB "over")
  (a17:Has K k9 "missed_row")
  (a18:nsIn K mainGlobals "least_grown"=some (some (.ref f18))) (l18:K.lookup f18=some ⟨oc18,od18,.func (fnOf "least_grown" "least_grown" (fh dR) (eg dR) (ay dR) .none kV18 dc18 pm18 an18 cd18 ct18),sl18⟩) (c18:codeIn K cd18 "least_grown"=true) (k18:keepIn K (.ref f18)=true)
  {cc18 pp18:Addr} {dq18:Option Addr} {vq18:Array Value} {sq18:Array (Option Value)} (x18:cd18=.ref cc18) (q18:K.lookup cc18=some ⟨.type "code",dq18,.fields vq18,sq18⟩) (r18:(vq18[11]?:Option Value)=some (.ref pp18)) (v18:codeHdIn [(cc18,⟨.type "code",dq18,.fields vq18,sq18⟩)] cc18 pp18=true) (yg:nsIn K mainGlobals "greatest_first"=some none)
  (a19:Has K kD "stopping_row")
  (a20:Has K jw "moved")
  (a21:Has K iE "exchanged")
  (a22:Has K jv "fallen")
  (a23:Has K iq "in_lowest")
  (a24:Has K lH "none_ending")
  (a25:Has K kE "best_ending")
  (a26:Has K jF "endless_ending")
  (a27:Has K jY "next_step")
  (a28:Has K kF "walk_on")
  (a29:Has K jX "walk")
  (a30:Has K kW "first")
  (a31:Has K lB "_law_cell")
  (a32:Has K jW "_law_draws")
  (a33:Has K jj "_law_total")
  (a34:Has K jr "_law_rows")
  (a35:Has K i9 "_law_left")
  (a36:Has K jh "_law_unit")
  (a37:Has K ki "_law_told")
  (a38:Has K gW "_law_none_built")
  (a39:Has K jB "_law_along")
  (a40:Has K lJ "_law_under")
  (a41:Has K ie "_law_endless_built")
  (a42:Has K iR "_law_best_rows")
  (a43:Has K jg "_law_fits")
  (a44:Has K fL "_law_best_built")
  (a45:Has K hX "_law_wild")
  (a46:Has K kU "_law_bent_shares")
  (a47:Has K iZ "_law_bent_point")
  (a48:Has K jV "_law_bent")
  (a49:Has K k6 "_law_bent_rows")
  (a50:Has K lx "_law_made")
  (a51:Has K iD "_law_planted")
  (a52:Has K iY "_law_loosened")
  (a53:Has K gn "_law_endless_true")
  (a54:Has K ir "_law_first_told")
  (a55:Has K je "law")
  (a56:findIn K (.ref C_Stand) "__init__"=some (some (.ref f56))) (i56:isFn K (.ref f56)=true) (l56:K.lookup f56=some ⟨oc56,od56,.func (fnOf "__init__" "Stand.__init__" (fh gT) (eg gT) (ay gT) .none kV56 dc56 pm56 an56 cd56 ct56),sl56⟩) (c56:codeIn K cd56 "Stand.__init__"=true) (k56:keepIn K (.ref f56)=true)
  (pg_Stand:plainGet K C_Stand Str.empty=true) (hd_Stand:hasDictIn K C_Stand=true) (po_Stand:plainOver K C_Stand=true) (sa_Stand:findIn K (.ref C_Stand) "__setattr__"=some (some (.builtin "object.__setattr__"))) (mk_Stand:makesIn K C_Stand=true) (kc_Stand:keepIn K (.ref C_Stand)=true)
  (n_Stand_held:findIn K (.ref C_Stand) "held"=some none)
  (n_Stand_ways:findIn K (.ref C_Stand) "ways"=some none)
  (n_Stand_tops:findIn K (.ref C_Stand) "tops"=some none)
  (n_Stand_bottom:findIn K (.ref C_Stand) "bottom"=some none)
  (y_abs:nsIn K mainGlobals "abs"=some none)
  (y_tuple:nsIn K mainGlobals "tuple"=some none)
  (y_range:nsIn K mainGlobals "range"=some none)
  (y_sum:nsIn K mainGlobals "sum"=some none)
  (y_zip:nsIn K mainGlobals "zip"=some none)
  (y_len:nsIn K mainGlobals "len"=some none)
  (y_all:nsIn K mainGlobals "all"=some none)
  (y_min:nsIn K mainGlobals "min"=some none)
  (y_sorted:nsIn K mainGlobals "sorted"=some none)
  (y_max:nsIn K mainGlobals "max"=some none)
  (y_enumerate:nsIn K mainGlobals "enumerate"=some none)
  (y_list:nsIn K mainGlobals "list"=some none)
  (y_int:nsIn K mainGlobals "int"=some none)
  (y_any:nsIn K mainGlobals "any"=some none) :
  ∃ fd:FuncData,(∀ (s:Shared) (v:Value),BindsTo s fd ⟨[v],[]⟩ [("_law_script",v)])∧∀ base:Heap,K.In base→base.Ns mainGlobals mg→FnOk l.prog w K mg base aS 11 fa fd ["_law_script"] (sp_law K):=by
 obtain⟨f1,d1,F1,m1,_⟩:=a1.fn X G
 obtain⟨f2,d2,F2,m2,_⟩:=a2.fn X G
 obtain⟨f3,d3,F3,m3,_⟩:=a3.fn X G
 obtain⟨f4,d4,F4,m4,_⟩:=a4.fn X G
 obtain⟨f5,d5,F5,m5,_⟩:=a5.fn X G
 obtain⟨f6,d6,F6,m6,_⟩:=a6.fn X G
 obtain⟨f7,d7,F7,m7,_⟩:=a7.fn X G
 obtain⟨f8,d8,F8,m8,_⟩:=a8.fn X G
 obtain⟨f9,d9,F9,m9,_⟩:=a9.fn X G
 obtain⟨f10,d10,F10,m10,_⟩:=a10.fn X G
 obtain⟨f11,d11,F11,m11,_⟩:=a11.fn X G
 obtain⟨f12,d12,F12,m12,_⟩:=a12.fn X G
 obtain⟨f13,d13,F13,m13,_⟩:=a13.fn X G
 obtain⟨f14,d14,F14,m14,_⟩:=a14.fn X G
 obtain⟨f15,d15,F15,m15,_⟩:=a15.fn X G
 obtain⟨f16,d16,F16,m16,_⟩:=a16.fn X G
 obtain⟨f17,d17,F17,m17,_⟩:=a17.fn X G
 have F18:=l5 (st:=dR) l18 c18 k18
 have m18:=mg_of X G a18
 obtain⟨f19,d19,F19,m19,_⟩:=a19.fn X G
 obtain⟨f20,d20,F20,m20,_⟩:=a20.fn X G
 obtain⟨f21,d21,F21,m21,_⟩:=a21.fn X G
 obtain⟨f22,d22,F22,m22,_⟩:=a22.fn X G
 obtain⟨f23,d23,F23,m23,_⟩:=a23.fn X G
 obtain⟨f24,d24,F24,m24,_⟩:=a24.fn X G
 obtain⟨f25,d25,F25,m25,_⟩:=a25.fn X G
 obtain⟨f26,d26,F26,m26,_⟩:=a26.fn X G
 obtain⟨f27,d27,F27,m27,_⟩:=a27.fn X G
 obtain⟨f28,d28,F28,m28,_⟩:=a28.fn X G
 obtain⟨f29,d29,F29,m29,_⟩:=a29.fn X G
 obtain⟨f30,d30,F30,m30,_⟩:=a30.fn X G
 obtain⟨f31,d31,F31,m31,_⟩:=a31.fn X G
 obtain⟨f32,d32,F32,m32,_⟩:=a32.fn X G
 obtain⟨f33,d33,F33,m33,_⟩:=a33.fn X G
 obtain⟨f34,d34,F34,m34,_⟩:=a34.fn X G
 obtain⟨f35,d35,F35,m35,_⟩:=a35.fn X G
 obtain⟨f36,d36,F36,m36,_⟩:=a36.fn X G
 obtain⟨f37,d37,F37,m37,_⟩:=a37.fn X G
 obtain⟨f38,d38,F38,m38,_⟩:=a38.fn X G
 obtain⟨f39,d39,F39,m39,_⟩:=a39.fn X G
 obtain⟨f40,d40,F40,m40,_⟩:=a40.fn X G
 obtain⟨f41,d41,F41,m41,_⟩:=a41.fn X G
 obtain⟨f42,d42,F42,m42,_⟩:=a42.fn X G
 obtain⟨f43,d43,F43,m43,_⟩:=a43.fn X G
 obtain⟨f44,d44,F44,m44,_⟩:=a44.fn X G
 obtain⟨f45,d45,F45,m45,_⟩:=a45.fn X G
 obtain⟨f46,d46,F46,m46,_⟩:=a46.fn X G
 obtain⟨f47,d47,F47,m47,_⟩:=a47.fn X G
 obtain⟨f48,d48,F48,m48,_⟩:=a48.fn X G
 obtain⟨f49,d49,F49,m49,_⟩:=a49.fn X G
 obtain⟨f50,d50,F50,m50,_⟩:=a50.fn X G
 obtain⟨f51,d51,F51,m51,_⟩:=a51.fn X G
 obtain⟨f52,d52,F52,m52,_⟩:=a52.fn X G
 obtain⟨f53,d53,F53,m53,_⟩:=a53.fn X G
 obtain⟨f54,d54,F54,m54,_⟩:=a54.fn X G
 obtain⟨f55,d55,F55,m55,_,_,_,e⟩:=a55.fn X G
 have F56:=l5 (st:=gT) l56 c56 k56
 have b56:=F56.binds (ps:=["self","held","ways","tops","bottom"]) <| fun _ _ _ _ _ _=>gL fun _ _ _ _ _=>rfl
 cases hfa.symm.trans m55
 refine⟨d55,fun s v=>by rw[e];exact .of_eq rfl,fun base _ _=>?_⟩
 have eA:=mg_none_of X G y_abs
 have aG:=mg_none_of X G y_tuple
 have bx:=mg_none_of X G y_range
 have iU:=mg_none_of X G y_sum
 have cy:=mg_none_of X G y_zip
 have bq:=mg_none_of X G y_len
 have eU:=mg_none_of X G y_all
 have iV:=mg_none_of X G y_min
 have iW:=mg_none_of X G y_sorted
 have eV:=mg_none_of X G y_max
 have fY:=mg_none_of X G y_enumerate
 have oz:=mg_none_of X G y_list
 have oA:=mg_none_of X G y_int
 have lK:=mg_none_of X G y_any
 have T_Stand:TxtStand K mg C_Stand:=⟨⟨pg_Stand,hd_Stand,po_Stand,sa_Stand⟩,n_Stand_held,n_Stand_ways,n_Stand_tops,n_Stand_bottom,mg_of X G aC_Stand,aC_Stand⟩
 have H1:=xZ (P:=l.prog) (w:=w) (mg:=mg) (base:=base) (n:=0) F1 eA
 have Q1:=F1.cl m1 H1 <| fun _ _ _ _ _ _=>cK fun _ _=>rfl
 have H2:=vj (n:=1) F2 (Q1.mono (by decide))
 have Q2:=F2.cl m2 H2 <| fun _ _ _ _ _ _=>tG fun _=>rfl
 have H3:=vp (n:=2) F3 (Q1.mono (by decide)) (Q2.mono (by decide)) aG
 have Q3:=F3.cl m3 H3 <| fun _ _ _ _ _ _=>cK fun _ _=>rfl
 have H4:=uC (P:=l.prog) (w:=w) (mg:=mg) (base:=base) (n:=0) F4 aG bx
 have Q4:=F4.cl m4 H4 <| fun _ _ _ _ _ _=>cK fun _ _=>rfl
 have H5:=Cs (P:=l.prog) (w:=w) (mg:=mg) (base:=base) (n:=0) F5 iU cy
 have Q5:=F5.cl m5 H5 <| fun _ _ _ _ _ _=>cK fun _ _=>rfl
 have H6:=zN (n:=1) F6 (Q5.mono (by decide))
 have Q6:=F6.cl m6 H6 <| fun _ _ _ _ _ _=>cK fun _ _=>rfl
 have H7:=AJ (P:=l.prog) (w:=w) (mg:=mg) (base:=base) (n:=0) F7 bq
 have Q7:=F7.cl m7 H7 <| fun _ _ _ _ _ _=>cK fun _ _=>rfl
 have H8:=CN (n:=1) F8 (Q7.mono (by decide)) aG cy
 have Q8:=F8.cl m8 H8 <| fun _ _ _ _ _ _=>fw fun _ _ _=>rfl
 have H9:=A7 (n:=2) F9 (Q8.mono (by decide)) bq eU
 have Q9:=F9.cl m9 H9 <| fun _ _ _ _ _ _=>fw fun _ _ _=>rfl
 have H10:=Cv (n:=1) F10 (Q5.mono (by decide)) bq eU
 have Q10:=F10.cl m10 H10 <| fun _ _ _ _ _ _=>fw fun _ _ _=>rfl
 have H11:=wV (n:=2) F11 (Q6.mono (by decide)) eU bq
 have Q11:=F11.cl m11 H11 <| fun _ _ _ _ _ _=>fw fun _ _ _=>rfl
 have H12:=yk (n:=3) F12 (Q8.mono (by decide)) (Q11.mono (by decide)) (Q5.mono (by decide)) bq aG
 have Q12:=F12.cl m12 H12 <| fun _ _ _ _ _ _=>gL fun _ _ _ _ _=>rfl
 have H13:=uO (n:=4) F13 (Q12.mono (by decide)) (Q9.mono (by decide)) (Q11.mono (by decide)) (Q10.mono (by decide))
 have Q13:=F13.cl m13 H13 <| fun _ _ _ _ _ _=>fw fun _ _ _=>rfl
 have H15:=wJ (n:=1) F15 T_Stand (Q5.mono (by decide)) aG
 have Q15:=F15.cl m15 H15 <| fun _ _ _ _ _ _=>cK fun _ _=>rfl
 have H16:=BC (n:=1) F16 T_Stand (Q5.mono (by decide))
 have Q16:=F16.cl m16 H16 <| fun _ _ _ _ _ _=>cK fun _ _=>rfl
 have H17:=xW (n:=2) F17 (Q16.mono (by decide))
 have Q17:=F17.cl m17 H17 <| fun _ _ _ _ _ _=>fw fun _ _ _=>rfl
 have L18:LamT K "least_grown" (fnOf "least_grown" "least_grown" (fh dR) (eg dR) (ay dR) .none kV18 dc18 pm18 an18 cd18 ct18) cc18 pp18 ⟨96,27,96,58⟩:=⟨x18,uP q18 v18,by rw[tU (o5 a18 l18 x18 q18 r18 rfl) (qJ yg)];exact List.mem_singleton.mpr rfl⟩
 have H18:=vF (P:=l.prog) (w:=w) (mg:=mg) (base:=base) (n:=0) F18 T_Stand iV bx bq L18
 have Q18:=F18.cl m18 H18 <| fun _ _ _ _ _ _=>cK fun _ _=>rfl
 have H19:=yR (n:=2) F19 (Q5.mono (by decide)) (Q16.mono (by decide))
 have Q19:=F19.cl m19 H19 <| fun _ _ _ _ _ _=>eS fun _ _ _ _=>rfl
 have H20:=B1 (P:=l.prog) (w:=w) (mg:=mg) (base:=base) (n:=0) F20 aG cy
 have Q20:=F20.cl m20 H20 <| fun _ _ _ _ _ _=>gL fun _ _ _ _ _=>rfl
 have H22:=CM (P:=l.prog) (w:=w) (mg:=mg) (base:=base) (n:=0) F22 T_Stand bx bq
 have Q22:=F22.cl m22 H22 <| fun _ _ _ _ _ _=>cK fun _ _=>rfl
 have H23:=Ds (n:=3) F23 (Q3.mono (by decide)) aG cy
 have Q23:=F23.cl m23 H23 <| fun _ _ _ _ _ _=>cK fun _ _=>rfl
 have H24:=Bq (n:=4) F24 T_Stand (Q23.mono (by decide)) (Q22.mono (by decide)) aG iW
 have Q24:=F24.cl m24 H24 <| fun _ _ _ _ _ _=>fw fun _ _ _=>rfl
 have H25:=zZ (n:=4) F25 T_Stand (Q23.mono (by decide)) (Q22.mono (by decide)) (Q3.mono (by decide)) aG iW
 have Q25:=F25.cl m25 H25 <| fun _ _ _ _ _ _=>cK fun _ _=>rfl
 have H26:=yM (n:=3) F26 T_Stand (Q2.mono (by decide)) (Q3.mono (by decide)) aG
 have Q26:=F26.cl m26 H26 <| fun _ _ _ _ _ _=>cK fun _ _=>rfl
 have H27:=Aj (n:=5) F27 T_Stand (Q17.mono (by decide)) (Q15.mono (by decide)) (Q18.mono (by decide)) (Q19.mono (by decide)) (Q25.mono (by decide)) (Q26.mono (by decide)) (Q24.mono (by decide))
 have Q27:=F27.cl m27 H27 <| fun _ _ _ _ _ _=>eS fun _ _ _ _=>rfl
 have H31:=CF (P:=l.prog) (w:=w) (mg:=mg) (base:=base) (n:=0) F31 bq
 have Q31:=F31.cl m31 H31 <| fun _ _ _ _ _ _=>cK fun _ _=>rfl
 have H32:=uY (P:=l.prog) (w:=w) (mg:=mg) (base:=base) (n:=0) F32 eV fY eA
 have Q32:=F32.cl m32 H32 <| fun _ _ _ _ _ _=>fw fun _ _ _=>rfl
 have H33:=yz (P:=l.prog) (w:=w) (mg:=mg) (base:=base) (n:=0) F33 oz bq cy
 have Q33:=F33.cl m33 H33 <| fun _ _ _ _ _ _=>fw fun _ _ _=>rfl
 have H34:=wU (n:=1) F34 (Q32.mono (by decide)) bx aG
 have Q34:=F34.cl m34 H34 <| fun _ _ _ _ _ _=>gL fun _ _ _ _ _=>rfl
 have H35:=xN (P:=l.prog) (w:=w) (mg:=mg) (base:=base) (n:=0) F35 iU cy
 have Q35:=F35.cl m35 H35 <| fun _ _ _ _ _ _=>cK fun _ _=>rfl
 have H36:=zR (P:=l.prog) (w:=w) (mg:=mg) (base:=base) (n:=0) F36 aG oA bx
 have Q36:=F36.cl m36 H36 <| fun _ _ _ _ _ _=>cK fun _ _=>rfl
 have H37:=yq (P:=l.prog) (w:=w) (mg:=mg) (base:=base) (n:=0) F37 aG
 have Q37:=F37.cl m37 H37 <| fun _ _ _ _ _ _=>cK fun _ _=>rfl
 have H38:=wG (n:=2) F38 (Q32.mono (by decide)) (Q33.mono (by decide)) (Q34.mono (by decide)) (Q36.mono (by decide)) aG bq bx eV
 have Q38:=F38.cl m38 H38 <| fun _ _ _ _ _ _=>eS fun _ _ _ _=>rfl
 have H39:=xo (n:=1) F39 (Q35.mono (by decide)) aG
 have Q39:=F39.cl m39 H39 <| fun _ _ _ _ _ _=>cK fun _ _=>rfl
 have H40:=zP (P:=l.prog) (w:=w) (mg:=mg) (base:=base) (n:=0) F40 eV
 have Q40:=F40.cl m40 H40 <| fun _ _ _ _ _ _=>fw fun _ _ _=>rfl
 have H41:=Bm (n:=2) F41 (Q32.mono (by decide)) (Q34.mono (by decide)) (Q39.mono (by decide)) (Q36.mono (by decide)) (Q40.mono (by decide)) (Q35.mono (by decide)) aG bx
 have Q41:=F41.cl m41 H41 <| fun _ _ _ _ _ _=>eS fun _ _ _ _=>rfl
 have H42:=wa (n:=2) F42 (Q32.mono (by decide)) (Q34.mono (by decide)) (Q39.mono (by decide)) (Q35.mono (by decide)) (Q36.mono (by decide)) (Q40.mono (by decide)) fY bx aG
 have Q42:=F42.cl m42 H42 <| fun _ _ _ _ _ _=>rj fun _ _ _ _ _ _=>rfl
 have H43:=uE (n:=1) F43 (Q35.mono (by decide)) eU
 have Q43:=F43.cl m43 H43 <| fun _ _ _ _ _ _=>eS fun _ _ _ _=>rfl
 have H44:=AF (n:=3) F44 (Q32.mono (by decide)) (Q42.mono (by decide)) (Q33.mono (by decide)) (Q43.mono (by decide)) aG fY eV
 have Q44:=F44.cl m44 H44 <| fun _ _ _ _ _ _=>eS fun _ _ _ _=>rfl
 have H45:=vk (n:=2) F45 (Q32.mono (by decide)) (Q34.mono (by decide)) (Q36.mono (by decide)) aG bx
 have Q45:=F45.cl m45 H45 <| fun _ _ _ _ _ _=>eS fun _ _ _ _=>rfl
 have H46:=wK (P:=l.prog) (w:=w) (mg:=mg) (base:=base) (n:=0) F46 bq
 have Q46:=F46.cl m46 H46 <| fun _ _ _ _ _ _=>eS fun _ _ _ _=>rfl
 have H47:=CI (P:=l.prog) (w:=w) (mg:=mg) (base:=base) (n:=0) F47 bq aG
 have Q47:=F47.cl m47 H47 <| fun _ _ _ _ _ _=>eS fun _ _ _ _=>rfl
 have H48:=wq (n:=1) F48 (Q47.mono (by decide)) (Q46.mono (by decide)) bq
 have Q48:=F48.cl m48 H48 <| fun _ _ _ _ _ _=>gL fun _ _ _ _ _=>rfl
 have H49:=CD (P:=l.prog) (w:=w) (mg:=mg) (base:=base) (n:=0) F49 bq
 have Q49:=F49.cl m49 H49 <| fun _ _ _ _ _ _=>gL fun _ _ _ _ _=>rfl
 have H50:=B6 (n:=4) F50 (Q44.mono (by decide)) (Q45.mono (by decide)) (Q38.mono (by decide)) (Q41.mono (by decide))
 have Q50:=F50.cl m50 H50 <| fun _ _ _ _ _ _=>rj fun _ _ _ _ _ _=>rfl
 have H51:=AL (n:=1) F51 (Q32.mono (by decide)) aG cy
 have Q51:=F51.cl m51 H51 <| fun _ _ _ _ _ _=>eS fun _ _ _ _=>rfl
 have H52:=ve (n:=1) F52 (Q35.mono (by decide)) iV
 have Q52:=F52.cl m52 H52 <| fun _ _ _ _ _ _=>cK fun _ _=>rfl
 have H53:=v5 (n:=1) F53 (Q35.mono (by decide)) bx lK eA cy
 have Q53:=F53.cl m53 H53 <| fun _ _ _ _ _ _=>gL fun _ _ _ _ _=>rfl
 have H56:=AS (P:=l.prog) (w:=w) (mg:=mg) (base:=base) (n:=0) F56 T_Stand
 have H14:=xn (n:=1) F14 T_Stand (Q4.mono (by decide)) (H56.mono (by decide)) b56 ⟨mk_Stand,a56,i56,kc_Stand⟩ aG bx
 have Q14:=F14.cl m14 H14 <| fun _ _ _ _ _ _=>cK fun _ _=>rfl
 have H21:=wF (n:=1) F21 T_Stand (Q15.mono (by decide)) (Q20.mono (by decide)) (Q16.mono (by decide)) (H56.mono (by decide)) b56 ⟨mk_Stand,a56,i56,kc_Stand⟩ eA bx aG bq
 have Q21:=F21.cl m21 H21 <| fun _ _ _ _ _ _=>eS fun _ _ _ _=>rfl
 have H28:=xw (n:=6) F28 T_Stand (Q27.mono (by decide)) (Q21.mono (by decide)) aG
 have Q28:=F28.cl m28 H28 <| fun _ _ _ _ _ _=>eS fun _ _ _ _=>rfl
 have H29:=ye (n:=7) F29 (Q28.mono (by decide)) (Q14.mono (by decide)) aG bx bq
 have Q29:=F29.cl m29 H29 <| fun _ _ _ _ _ _=>cK fun _ _=>rfl
 have H30:=wo (n:=8) F30 (Q29.mono (by decide))
 have Q30:=F30.cl m30 H30 <| fun _ _ _ _ _ _=>cK fun _ _=>rfl
 have H54:=A4 (n:=9) F54 (Q32.mono (by decide)) (Q31.mono (by decide)) (Q34.mono (by decide)) (Q13.mono (by decide)) (Q36.mono (by decide)) (Q30.mono (by decide)) aG bx
 have Q54:=F54.cl m54 H54 <| fun _ _ _ _ _ _=>tG fun _=>rfl
 have H55:=vg (n:=10) F55 (Q32.mono (by decide)) (Q50.mono (by decide)) (Q51.mono (by decide)) (Q48.mono (by decide)) (Q49.mono (by decide)) (Q52.mono (by decide)) (Q13.mono (by decide)) (Q54.mono (by decide)) (Q31.mono (by decide)) (Q37.mono (by decide)) (Q53.mono (by decide)) (Q35.mono (by decide)) aG bx
 exact H55.imp yC
theorem walk {l:PySem.W.OpenLaw}{q:Program}{loose:List Str}{XP:(Str→Option Value)→Heap→Prop}{YP:World→Heap→Prop}{d:DefRec}{K:Params→Frag}(hn:l.most=some 63)(hdf:d.params.defaults=[])
  (hY:∀ (w:World) (h:Heap),YP w h→(K w.params).In h)
  (hT:∀ (w:World) (h:Heap),YP w h→∀ t∈bX (K w.params),h.get? t.1=some (tabObj #[])∧(K w.params).lookup t.1=none∧isCodeTable h t.1) (hnd:∀ (w:World),∀ t∈bX (K w.params),∀ u∈bX (K w.params),t.1=u.1→t=u)
  (F:∀ (w:World) (mg:Str→Option Value) (fa:Addr) (h:Heap),(K w.params).In h→h.Ns mainGlobals mg→mg d.name=some (.ref fa) →
   ∃ fd:FuncData,(∀ (s:Shared) (u:Value),BindsTo s fd ⟨[u],[]⟩ [("_law_script",u)])∧∀ base:Heap,(K w.params).In base→base.Ns mainGlobals mg→FnOk l.prog w (K w.params) mg base aS 11 fa fd ["_law_script"] (sp_law (K w.params))) :
  PySem.W.WalkO q loose XP YP l.row.toRowW d [] (fun f vs=>PySem.call f vs) :=
 L2.walk_ofT (n:=63) (k:=11) (x:="_law_script") (CX:=fun _=>aS) (sp:=fun w=>sp_law (K w.params)) hn (by decide) hdf ⟨rfl,by decide,by decide⟩ hY hT hnd F (fun _ _ a ns hl hS hTb=>⟨a,ns,rfl,hS,hl,hTb,fun _=>rfl⟩) fun _ _ _ _ _ z=>z
theorem tabs_is {K:Frag}{f c P:Addr}{oc kV dc pm cd ct:Value}{od an odq:Option Addr}{sl slq:Array (Option Value)}{vq:Array Value}(a:nsIn K mainGlobals "least_grown"=some (some (.ref f)))
  (l:K.lookup f=some ⟨oc,od,.func (fnOf "least_grown" "least_grown" (fh dR) (eg dR) (ay dR) .none kV dc pm an cd ct),sl⟩) (x:cd=.ref c) (q:K.lookup c=some ⟨.type "code",odq,.fields vq,slq⟩) (r:(vq[11]?:Option Value)=some (.ref P)) (yg:nsIn K mainGlobals "greatest_first"=some none):∃ ps,bX K=[(P,ps)] :=
 ⟨_,tU (o5 a l x q r rfl) (qJ yg)⟩
theorem tabs_in {K:Frag}{h:Heap}{P c:Addr}{odq:Option Addr}{vq:Array Value}{slq:Array (Option Value)}(X:K.In h)(e:∃ ps,bX K=[(P,ps)])(q:K.lookup c=some ⟨.type "code",odq,.fields vq,slq⟩)(r:(vq[11]?:Option Value)=some (.ref P))(n:K.lookup P=none)(m:h.get? P=some (tabObj #[])) :
  ∀ t∈bX K,h.get? t.1=some (tabObj #[])∧K.lookup t.1=none∧isCodeTable h t.1:=fun t ht=>by
 obtain⟨ps,e⟩:=e
 rw[e] at ht
 have:=List.mem_singleton.mp ht
 subst this
 exact⟨m,n,c,_,vq,X _ _ q,rfl,rfl,r⟩
theorem tabs_nd {K:Frag}{P:Addr}(e:∃ ps,bX K=[(P,ps)]):∀ t∈bX K,∀ u∈bX K,t.1=u.1→t=u:=fun t ht u hu _=>by
 obtain⟨ps,e⟩:=e
 rw[e] at ht hu
 rw[List.mem_singleton.mp ht,List.mem_singleton.mp hu]
end Kx
namespace Kx
open PySem PySem.W L2
def KK:Params→Frag:=fun P =>
 (nat_lit 2,⟨.none,none,(.dict #[] 0),#[]⟩) ::
 (nat_lit 3,⟨(.type "dict"),none,(.dict #[dE P "__name__" 165 ((.str "law_cutyard_k21_endings_true" 502)),dE P "__doc__" 166 (.none),dE P "__package__" 167 (.none),dE P "__loader__" 168 ((.builtin "__main__.__loader__#opaque")),dE P "__spec__" 169 (.none),dE P "__annotations__" 170 ((.ref 6)),dE P "__builtins__" 171 ((.ref 4)),dE P "__file__" 173 ((.str "/claim/cut.py" 172)),dE P "__cached__" 174 (.none),dE P "YardError" 206 ((.ref 24)),dE P "NoNumber" 222 ((.ref 37)),dE P "common_of_two" 235 ((.ref 46)),dE P "common" 244 ((.ref 53)),dE P "lowest" 250 ((.ref 58)),dE P "unit" 258 ((.ref 63)),dE P "left" 264 ((.ref 68)),dE P "passes" 272 ((.ref 75)),dE P "is_row_number" 282 ((.ref 82)),dE P "shares_sum" 288 ((.ref 87)),dE P "none_holds" 294 ((.ref 92)),dE P "is_ray" 300 ((.ref 97)),dE P "is_point" 306 ((.ref 102)),dE P "best_holds" 312 ((.ref 107)),dE P "shares_hold" 321 ((.ref 114)),dE P "Stand" 358 ((.ref 131)),dE P "beginning" 364 ((.ref 140)),dE P "growths" 370 ((.ref 145)),dE P "over" 378 ((.ref 152)),dE P "missed_row" 388 ((.ref 159)),dE P "least_grown" 394 ((.ref 164)),dE P "stopping_row" 410 ((.ref 171)),dE P "moved" 416 ((.ref 176)),dE P "exchanged" 422 ((.ref 181)),dE P "fallen" 428 ((.ref 186)),dE P "in_lowest" 434 ((.ref 191)),dE P "none_ending" 444 ((.ref 198)),dE P "best_ending" 453 ((.ref 205)),dE P "endless_ending" 459 ((.ref 210)),dE P "next_step" 473 ((.ref 217)),dE P "walk_on" 485 ((.ref 224)),dE P "walk" 493 ((.ref 231)),dE P "first" 501 ((.ref 238)),dE P "_law_cell" 511 ((.ref 245)),dE P "_law_draws" 525 ((.ref 252)),dE P "_law_total" 531 ((.ref 257)),dE P "_law_rows" 537 ((.ref 262)),dE P "_law_left" 543 ((.ref 267)),dE P "_law_unit" 549 ((.ref 272)),dE P "_law_told" 561 ((.ref 279)),dE P "_law_none_built" 567 ((.ref 284)),dE P "_law_along" 573 ((.ref 289)),dE P "_law_under" 582 ((.ref 296)),dE P "_law_endless_built" 588 ((.ref 301)),dE P "_law_best_rows" 594 ((.ref 306)),dE P "_law_fits" 600 ((.ref 311)),dE P "_law_best_built" 606 ((.ref 316)),dE P "_law_wild" 612 ((.ref 321)),dE P "_law_bent_shares" 625 ((.ref 328)),dE P "_law_bent_point" 631 ((.ref 333)),dE P "_law_bent" 646 ((.ref 340)),dE P "_law_bent_rows" 657 ((.ref 347)),dE P "_law_made" 669 ((.ref 354)),dE P "_law_planted" 675 ((.ref 359)),dE P "_law_loosened" 681 ((.ref 364)),dE P "_law_endless_true" 687 ((.ref 369)),dE P "_law_first_told" 693 ((.ref 374)),dE P "law" 699 ((.ref 379))] 67),#[]⟩) ::
(nat_lit 45,cO "common_of_two" 225 "common_of_two" 226 227 7 2 3 40 181 41 (.ref 42) (.ref 43) 44 233 234) ::
 (nat_lit 46,fO k7 "common_of_two" "common_of_two" "cutyard.wholes" 223 45) ::
(nat_lit 52,cO "common" 236 "common" 237 238 15 1 3 47 181 48 (.ref 49) (.ref 50) 51 242 243) ::
 (nat_lit 53,fO kS "common" "common" "cutyard.wholes" 223 52) ::
(nat_lit 57,cO "lowest" 245 "lowest" 246 247 20 2 3 54 181 55 .none .none 56 248 249) ::
 (nat_lit 58,fO jJ "lowest" "lowest" "cutyard.wholes" 223 57) ::
(nat_lit 62,cO "unit" 253 "unit" 254 255 26 2 3 59 181 60 .none .none 61 256 257) ::
 (nat_lit 63,fO jd "unit" "unit" "cutyard.rows" 251 62) ::
(nat_lit 67,cO "left" 259 "left" 260 261 28 2 3 64 181 65 .none .none 66 262 263) ::
 (nat_lit 68,fO jG "left" "left" "cutyard.rows" 251 67) ::
(nat_lit 74,cO "passes" 265 "passes" 266 267 30 2 3 69 181 70 (.ref 71) (.ref 72) 73 270 271) ::
 (nat_lit 75,fO kv "passes" "passes" "cutyard.rows" 251 74) ::
(nat_lit 81,cO "is_row_number" 275 "is_row_number" 276 277 33 2 3 76 181 77 (.ref 78) (.ref 79) 80 280 281) ::
 (nat_lit 82,fO ko "is_row_number" "is_row_number" "cutyard.looker" 273 81) ::
(nat_lit 86,cO "shares_sum" 283 "shares_sum" 284 285 35 3 3 83 181 84 .none .none 85 286 287) ::
 (nat_lit 87,fO jL "shares_sum" "shares_sum" "cutyard.looker" 273 86) ::
(nat_lit 91,cO "none_holds" 289 "none_holds" 290 291 45 3 3 88 181 89 .none .none 90 292 293) ::
 (nat_lit 92,fO jD "none_holds" "none_holds" "cutyard.looker" 273 91) ::
(nat_lit 96,cO "is_ray" 295 "is_ray" 296 297 50 3 3 93 181 94 .none .none 95 298 299) ::
 (nat_lit 97,fO jK "is_ray" "is_ray" "cutyard.looker" 273 96) ::
(nat_lit 101,cO "is_point" 301 "is_point" 302 303 54 3 3 98 181 99 .none .none 100 304 305) ::
 (nat_lit 102,fO jq "is_point" "is_point" "cutyard.looker" 273 101) ::
(nat_lit 106,cO "best_holds" 307 "best_holds" 308 309 58 5 3 103 181 104 .none .none 105 310 311) ::
 (nat_lit 107,fO jo "best_holds" "best_holds" "cutyard.looker" 273 106) ::
(nat_lit 113,cO "shares_hold" 313 "shares_hold" 314 315 67 3 3 108 181 109 (.ref 110) (.ref 111) 112 319 320) ::
 (nat_lit 114,fO kj "shares_hold" "shares_hold" "cutyard.looker" 273 113) ::
(nat_lit 127,cO "__init__" 336 "Stand.__init__" 337 338 76 5 3 122 181 123 (.ref 124) (.ref 125) 126 344 345) ::
 (nat_lit 128,fO gT "__init__" "Stand.__init__" "cutyard.first" 322 127) ::
 (nat_lit 129,⟨(.type "tuple"),none,(.seq #[(.str "bottom" 347),(.str "held" 348),(.str "tops" 349),(.str "ways" 350)] 0),#[]⟩) ::
 (nat_lit 130,⟨(.type "dict"),none,(.dict #[dE P "__module__" 331 ((.str "cutyard.first" 322)),dE P "__firstlineno__" 335 ((.int 74 334)),dE P "__init__" 346 ((.ref 128)),dE P "__static_attributes__" 351 ((.ref 129)),dE P "__dict__" 353 ((.ref 132)),dE P "__weakref__" 355 ((.ref 133)),dE P "__doc__" 356 (.none)] 4),#[]⟩) ::
 (nat_lit 131,⟨(.type "type"),none,(.cls ⟨"Stand",[(.type "object")],[(.ref 131),(.type "object")],130,"Stand",true,[],[],false,none,false⟩),#[none,none,(some (.str "Stand" 324)),(some (.str "Stand" 332)),(some (.builtin "object.__new__")),(some (.bool true))]⟩) ::
 (nat_lit 132,⟨(.type "getset_descriptor"),none,(.fields #[(.str "__dict__" 352),(.ref 131),(.builtin "function.__dict__"),(.builtin "function.__dict__#set")]),#[]⟩) ::
 (nat_lit 133,⟨(.type "getset_descriptor"),none,(.fields #[(.str "__weakref__" 354),(.ref 131),(.builtin "ExceptionGroup.__weakref__"),.none]),#[]⟩) ::
(nat_lit 139,cO "beginning" 359 "beginning" 360 361 81 2 3 136 181 137 .none .none 138 362 363) ::
 (nat_lit 140,fO iF "beginning" "beginning" "cutyard.first" 322 139) ::
(nat_lit 144,cO "growths" 365 "growths" 366 367 85 2 3 141 181 142 .none .none 143 368 369) ::
 (nat_lit 145,fO i3 "growths" "growths" "cutyard.first" 322 144) ::
(nat_lit 151,cO "over" 371 "over" 372 373 87 2 3 146 181 147 (.ref 148) (.ref 149) 150 376 377) ::
 (nat_lit 152,fO kB "over" "over" "cutyard.first" 322 151) ::
(nat_lit 158,cO "missed_row" 379 "missed_row" 380 381 89 3 3 153 181 154 (.ref 155) (.ref 156) 157 386 387) ::
 (nat_lit 159,fO k9 "missed_row" "missed_row" "cutyard.first" 322 158) ::
(nat_lit 163,cO "least_grown" 389 "least_grown" 390 391 94 2 3 160 181 161 .none .none 162 392 393) ::
 (nat_lit 164,fO dR "least_grown" "least_grown" "cutyard.first" 322 163) ::
(nat_lit 170,cO "stopping_row" 395 "stopping_row" 396 397 97 4 3 165 181 166 (.ref 167) (.ref 168) 169 408 409) ::
 (nat_lit 171,fO kD "stopping_row" "stopping_row" "cutyard.first" 322 170) ::
(nat_lit 175,cO "moved" 411 "moved" 412 413 110 5 3 172 181 173 .none .none 174 414 415) ::
 (nat_lit 176,fO jw "moved" "moved" "cutyard.first" 322 175) ::
(nat_lit 180,cO "exchanged" 417 "exchanged" 418 419 112 4 3 177 181 178 .none .none 179 420 421) ::
 (nat_lit 181,fO iE "exchanged" "exchanged" "cutyard.first" 322 180) ::
(nat_lit 185,cO "fallen" 423 "fallen" 424 425 128 2 3 182 181 183 .none .none 184 426 427) ::
 (nat_lit 186,fO jv "fallen" "fallen" "cutyard.first" 322 185) ::
(nat_lit 190,cO "in_lowest" 429 "in_lowest" 430 431 130 2 3 187 181 188 .none .none 189 432 433) ::
 (nat_lit 191,fO iq "in_lowest" "in_lowest" "cutyard.first" 322 190) ::
(nat_lit 197,cO "none_ending" 435 "none_ending" 436 437 133 3 3 192 181 193 (.ref 194) (.ref 195) 196 442 443) ::
 (nat_lit 198,fO lH "none_ending" "none_ending" "cutyard.first" 322 197) ::
(nat_lit 204,cO "best_ending" 445 "best_ending" 446 447 136 2 3 199 181 200 (.ref 201) (.ref 202) 203 451 452) ::
 (nat_lit 205,fO kE "best_ending" "best_ending" "cutyard.first" 322 204) ::
(nat_lit 209,cO "endless_ending" 454 "endless_ending" 455 456 139 2 3 206 181 207 .none .none 208 457 458) ::
 (nat_lit 210,fO jF "endless_ending" "endless_ending" "cutyard.first" 322 209) ::
(nat_lit 216,cO "next_step" 460 "next_step" 461 462 142 4 3 211 181 212 (.ref 213) (.ref 214) 215 471 472) ::
 (nat_lit 217,fO jY "next_step" "next_step" "cutyard.first" 322 216) ::
(nat_lit 223,cO "walk_on" 474 "walk_on" 475 476 158 4 3 218 181 219 (.ref 220) (.ref 221) 222 483 484) ::
 (nat_lit 224,fO kF "walk_on" "walk_on" "cutyard.first" 322 223) ::
(nat_lit 230,cO "walk" 486 "walk" 487 488 166 2 3 225 181 226 (.ref 227) (.ref 228) 229 491 492) ::
 (nat_lit 231,fO jX "walk" "walk" "cutyard.first" 322 230) ::
(nat_lit 237,cO "first" 494 "first" 495 496 168 2 3 232 181 233 (.ref 234) (.ref 235) 236 499 500) ::
 (nat_lit 238,fO kW "first" "first" "cutyard.first" 322 237) ::
(nat_lit 244,cO "_law_cell" 504 "_law_cell" 505 506 171 2 3 239 181 240 (.ref 241) (.ref 242) 243 509 510) ::
 (nat_lit 245,fO lB "_law_cell" "_law_cell" "law_cutyard_k21_endings_true" 502 244) ::
(nat_lit 251,cO "_law_draws" 512 "_law_draws" 513 514 175 3 3 246 181 247 (.ref 248) (.ref 249) 250 523 524) ::
 (nat_lit 252,fO jW "_law_draws" "_law_draws" "law_cutyard_k21_endings_true" 502 251) ::
(nat_lit 256,cO "_law_total" 526 "_law_total" 527 528 191 3 3 253 181 254 .none .none 255 529 530) ::
 (nat_lit 257,fO jj "_law_total" "_law_total" "law_cutyard_k21_endings_true" 502 256) ::
(nat_lit 261,cO "_law_rows" 532 "_law_rows" 533 534 199 5 3 258 181 259 .none .none 260 535 536) ::
 (nat_lit 262,fO jr "_law_rows" "_law_rows" "law_cutyard_k21_endings_true" 502 261) ::
(nat_lit 266,cO "_law_left" 538 "_law_left" 539 540 206 2 3 263 181 264 .none .none 265 541 542) ::
 (nat_lit 267,fO i9 "_law_left" "_law_left" "law_cutyard_k21_endings_true" 502 266) ::
(nat_lit 271,cO "_law_unit" 544 "_law_unit" 545 546 208 2 3 268 181 269 .none .none 270 547 548) ::
 (nat_lit 272,fO jh "_law_unit" "_law_unit" "law_cutyard_k21_endings_true" 502 271) ::
(nat_lit 278,cO "_law_told" 550 "_law_told" 551 552 210 2 3 273 181 274 (.ref 275) (.ref 276) 277 559 560) ::
 (nat_lit 279,fO ki "_law_told" "_law_told" "law_cutyard_k21_endings_true" 502 278) ::
(nat_lit 283,cO "_law_none_built" 562 "_law_none_built" 563 564 217 4 3 280 181 281 .none .none 282 565 566) ::
 (nat_lit 284,fO gW "_law_none_built" "_law_none_built" "law_cutyard_k21_endings_true" 502 283) ::
(nat_lit 288,cO "_law_along" 568 "_law_along" 569 570 229 2 3 285 181 286 .none .none 287 571 572) ::
 (nat_lit 289,fO jB "_law_along" "_law_along" "law_cutyard_k21_endings_true" 502 288) ::
(nat_lit 295,cO "_law_under" 574 "_law_under" 575 576 233 3 3 290 181 291 (.ref 292) (.ref 293) 294 580 581) ::
 (nat_lit 296,fO lJ "_law_under" "_law_under" "law_cutyard_k21_endings_true" 502 295) ::
(nat_lit 300,cO "_law_endless_built" 583 "_law_endless_built" 584 585 235 4 3 297 181 298 .none .none 299 586 587) ::
 (nat_lit 301,fO ie "_law_endless_built" "_law_endless_built" "law_cutyard_k21_endings_true" 502 300) ::
(nat_lit 305,cO "_law_best_rows" 589 "_law_best_rows" 590 591 248 6 3 302 181 303 .none .none 304 592 593) ::
 (nat_lit 306,fO iR "_law_best_rows" "_law_best_rows" "law_cutyard_k21_endings_true" 502 305) ::
(nat_lit 310,cO "_law_fits" 595 "_law_fits" 596 597 260 4 3 307 181 308 .none .none 309 598 599) ::
 (nat_lit 311,fO jg "_law_fits" "_law_fits" "law_cutyard_k21_endings_true" 502 310) ::
(nat_lit 315,cO "_law_best_built" 601 "_law_best_built" 602 603 264 4 3 312 181 313 .none .none 314 604 605) ::
 (nat_lit 316,fO fL "_law_best_built" "_law_best_built" "law_cutyard_k21_endings_true" 502 315) ::
(nat_lit 320,cO "_law_wild" 607 "_law_wild" 608 609 292 4 3 317 181 318 .none .none 319 610 611) ::
 (nat_lit 321,fO hX "_law_wild" "_law_wild" "law_cutyard_k21_endings_true" 502 320) ::
(nat_lit 327,cO "_law_bent_shares" 613 "_law_bent_shares" 614 615 301 4 3 322 181 323 (.ref 324) (.ref 325) 326 623 624) ::
 (nat_lit 328,fO kU "_law_bent_shares" "_law_bent_shares" "law_cutyard_k21_endings_true" 502 327) ::
(nat_lit 332,cO "_law_bent_point" 626 "_law_bent_point" 627 628 311 4 3 329 181 330 .none .none 331 629 630) ::
 (nat_lit 333,fO iZ "_law_bent_point" "_law_bent_point" "law_cutyard_k21_endings_true" 502 332) ::
(nat_lit 339,cO "_law_bent" 632 "_law_bent" 633 634 321 5 3 334 181 335 (.ref 336) (.ref 337) 338 644 645) ::
 (nat_lit 340,fO jV "_law_bent" "_law_bent" "law_cutyard_k21_endings_true" 502 339) ::
(nat_lit 346,cO "_law_bent_rows" 647 "_law_bent_rows" 648 649 335 5 3 341 181 342 (.ref 343) (.ref 344) 345 655 656) ::
 (nat_lit 347,fO k6 "_law_bent_rows" "_law_bent_rows" "law_cutyard_k21_endings_true" 502 346) ::
(nat_lit 353,cO "_law_made" 658 "_law_made" 659 660 343 6 3 348 181 349 (.ref 350) (.ref 351) 352 667 668) ::
 (nat_lit 354,fO lx "_law_made" "_law_made" "law_cutyard_k21_endings_true" 502 353) ::
(nat_lit 358,cO "_law_planted" 670 "_law_planted" 671 672 351 4 3 355 181 356 .none .none 357 673 674) ::
 (nat_lit 359,fO iD "_law_planted" "_law_planted" "law_cutyard_k21_endings_true" 502 358) ::
(nat_lit 363,cO "_law_loosened" 676 "_law_loosened" 677 678 357 2 3 360 181 361 .none .none 362 679 680) ::
 (nat_lit 364,fO iY "_law_loosened" "_law_loosened" "law_cutyard_k21_endings_true" 502 363) ::
(nat_lit 368,cO "_law_endless_true" 682 "_law_endless_true" 683 684 359 5 3 365 181 366 .none .none 367 685 686) ::
 (nat_lit 369,fO gn "_law_endless_true" "_law_endless_true" "law_cutyard_k21_endings_true" 502 368) ::
(nat_lit 373,cO "_law_first_told" 688 "_law_first_told" 689 690 369 1 3 370 181 371 .none .none 372 691 692) ::
 (nat_lit 374,fO ir "_law_first_told" "_law_first_told" "law_cutyard_k21_endings_true" 502 373) ::
(nat_lit 378,cO "law" 694 "law" 695 696 381 1 3 375 181 376 .none .none 377 697 698) ::
 (nat_lit 379,fO je "law" "law" "law_cutyard_k21_endings_true" 502 378)::[]
end Kx
def PySem.W.Fast.tw15952158541040972506:=PySem.Challenge.pw_cutyard_k21_endings_true
theorem PySem.W.Fast.te15952158541040972506:PySem.Challenge.pw_cutyard_k21_endings_true=PySem.W.Fast.tw15952158541040972506:=rfl
def PySem.W.Fast.tw5385739360559341639:=Kx.KK
theorem PySem.W.Fast.te5385739360559341639:Kx.KK=PySem.W.Fast.tw5385739360559341639:=rfl
theorem PySem.W.Fast.tw104042473404996429:True:=trivial
theorem PySem.W.Fast.tw10645863116232267816:True:=trivial
theorem PySem.W.Fast.tw10712480530690699409:True:=trivial
theorem PySem.W.Fast.tw11235939188594210371:True:=trivial
theorem PySem.W.Fast.tw12058836131035350142:True:=trivial
theorem PySem.W.Fast.tw12423021675583366074:True:=trivial
theorem PySem.W.Fast.tw14087654283078790215:True:=trivial
theorem PySem.W.Fast.tw15345267600831427189:True:=trivial
theorem PySem.W.Fast.tw1547540938583607659:True:=trivial
theorem PySem.W.Fast.tw15491332902135259819:True:=trivial
theorem PySem.W.Fast.tw15619136061124792507:True:=trivial
theorem PySem.W.Fast.tw17596566948695902352:True:=trivial
theorem PySem.W.Fast.tw2684448305158347981:True:=trivial
theorem PySem.W.Fast.tw3331555413298331880:True:=trivial
theorem PySem.W.Fast.tw3675438028164574664:True:=trivial
theorem PySem.W.Fast.tw3856496898519357737:True:=trivial
theorem PySem.W.Fast.tw4270961200602727535:True:=trivial
theorem PySem.W.Fast.tw4488485181325438063:True:=trivial
theorem PySem.W.Fast.tw4501093547714581079:True:=trivial
theorem PySem.W.Fast.tw5213690784731545998:True:=trivial
theorem PySem.W.Fast.tw5488054745820924307:True:=trivial
theorem PySem.W.Fast.tw5613359043953223856:True:=trivial
theorem PySem.W.Fast.tw578078455408396616:True:=trivial
theorem PySem.W.Fast.tw6127383345578030778:True:=trivial
theorem PySem.W.Fast.tw6220789566590178307:True:=trivial
theorem PySem.W.Fast.tw6421686954920432502:True:=trivial
theorem PySem.W.Fast.tw6876372197387593866:True:=trivial
theorem PySem.W.Fast.tw7486251545497641064:True:=trivial
theorem PySem.W.Fast.tw7922044042244387423:True:=trivial
theorem PySem.W.Fast.tw883763047528909573:True:=trivial
theorem PySem.W.Fast.tw9045981041801905896:True:=trivial
theorem PySem.W.Fast.tw9090461248177633531:True:=trivial
theorem PySem.W.Fast.tw9677415609306608625:True:=trivial
theorem PySem.W.Fast.tw9817845139842625257:True:=trivial
theorem PySem.W.Fast.tw984382272675921086:True:=trivial
theorem PySem.W.Fast.tw989570125431813771:True:=trivial
theorem PySem.W.Fast.tw9901192128878536765:True:=trivial
open PySem PySem.W PyProof.Rows
set_option maxRecDepth 100000 in
set_option maxHeartbeats 0 in
theorem PySem.Challenge.cw_cutyard_k21_endings_true_holds : PySem.Challenge.rw_cutyard_k21_endings_true.Holds := by
 w_on;o_law;o_head (kmHook Kx.KK (2::3::45::46::52::53::57::58::62::63::67::68::74::75::81::82::86::87::91::92::96::97::101::102::106::107::113::114::127::128::129::130::131::132::133::139::140::144::145::151::152::158::159::163::164::170::171::175::176::180::181::185::186::190::191::197::198::204::205::209::210::216::217::223::224::230::231::237::238::244::245::251::252::256::257::261::262::266::267::271::272::278::279::283::284::288::289::295::296::300::301::305::306::310::311::315::316::320::321::327::328::332::333::339::340::346::347::353::354::358::359::363::364::368::369::373::374::378::379::[]) (fun _=>by kernel_rfl) [161]);(case hw=>w_witness2)
 k_fill
 refine Kx.walk (l:=PySem.Challenge.rw_cutyard_k21_endings_true) rfl rfl (fun w h Y=>km_in_of Y) ?tabT ?tabN ?F
 case tabT =>
  intro w h Y
  have KX:=km_in_of Y
  refine' Kx.tabs_in KX (Kx.tabs_is ?ta9 ?tl9 ?tx9 ?tq9 ?tr9 ?tg9) ?tq9 ?tr9 ?tn9 ?tm9
  (case ta9=>k_is);(case tl9=>k_is);(case tx9=>rfl);(case tq9=>k_is);(case tr9=>rfl);(case tg9=>k_is)
  (case tn9=>kernel_rfl);(case tm9=>exact PySem.W.km_tabs_of Y _ (by simp))
 case tabN =>
  intro w
  refine' Kx.tabs_nd (Kx.tabs_is ?ta9 ?tl9 ?tx9 ?tq9 ?tr9 ?tg9)
  (case ta9=>k_is);(case tl9=>k_is);(case tx9=>rfl);(case tq9=>k_is);(case tr9=>rfl);(case tg9=>k_is)
 case F =>
  intro w mg fa h KX G hmg
  refine' Kx.all_mk KX G hmg ?aC_Stand ?a1 ?a2 ?a3 ?a4 ?a5 ?a6 ?a7 ?a8 ?a9 ?a10 ?a11 ?a12 ?a13 ?a14 ?a15 ?a16 ?a17 ?a18 ?l18 ?c18 ?k18 ?lx18 ?lq18 ?lr18 ?lv18 ?lyg ?a19 ?a20 ?a21 ?a22 ?a23 ?a24 ?a25 ?a26 ?a27 ?a28 ?a29 ?a30 ?a31 ?a32 ?a33 ?a34 ?a35 ?a36 ?a37 ?a38 ?a39 ?a40 ?a41 ?a42 ?a43 ?a44 ?a45 ?a46 ?a47 ?a48 ?a49 ?a50 ?a51 ?a52 ?a53 ?a54 ?a55 ?a56 ?i56 ?l56 ?c56 ?k56 ?pg_Stand ?hd_Stand ?po_Stand ?sa_Stand ?mk_Stand ?kc_Stand ?n_Stand_held ?n_Stand_ways ?n_Stand_tops ?n_Stand_bottom ?y_abs ?y_tuple ?y_range ?y_sum ?y_zip ?y_len ?y_all ?y_min ?y_sorted ?y_max ?y_enumerate ?y_list ?y_int ?y_any
  (case aC_Stand=>k_is);(case pg_Stand=>k_is);(case hd_Stand=>k_is);(case po_Stand=>k_is);(case sa_Stand=>k_is);(case mk_Stand=>k_is);(case kc_Stand=>k_is);(case n_Stand_held=>k_is);(case n_Stand_ways=>k_is);(case n_Stand_tops=>k_is);(case n_Stand_bottom=>k_is)
  (case a18=>k_is);(case l18=>k_is);(case c18=>k_is);(case k18=>k_is)
  (case lx18=>rfl);(case lq18=>k_is);(case lr18=>rfl);(case lv18=>kernel_rfl);(case lyg=>k_is)
  (case a56=>k_is);(case i56=>k_is);(case l56=>k_is);(case c56=>k_is);(case k56=>k_is)
  (case y_abs=>k_is)
  (case y_tuple=>k_is)
  (case y_range=>k_is)
  (case y_sum=>k_is)
  (case y_zip=>k_is)
  (case y_len=>k_is)
  (case y_all=>k_is)
  (case y_min=>k_is)
  (case y_sorted=>k_is)
  (case y_max=>k_is)
  (case y_enumerate=>k_is)
  (case y_list=>k_is)
  (case y_int=>k_is)
  (case y_any=>k_is)
  all_goals (refine' L2.Has.of ?a ?l ?c;(case a=>k_is);(case l=>k_is);(case c=>k_is))

