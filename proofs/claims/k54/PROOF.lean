import PyProof.Rows.All
import Wide.All
import OpenK.AllK
import Wide.FinOn
import Lean
import PyProof.EqAt
import PyProof.EqKinds
import PyProof.TupleCall
import PyProof.NeKinds
import KE.KLam
import KE.KMinKey
import KE.KSortTup
import PyProof.AutoListH
import PyProof.MeetsStr
import PyProof.StrLawsJoin
import PyProof.FitsReplace
import PyProof.Rows.TupDisplay
import PyProof.ListRange
import PyProof.ZipIter
import PyProof.ListNew
import KE.KSortKey
import PyProof.StationsW
import PyProof.ExcClass2
import PyProof.ExcInit
import PyProof.ExcBaseAll.ValueError
import PyProof.RulesAs
import PyProof.NsDelKeeps
import PyProof.ExcAttrAll.ValueError
import PyProof.IsiBase
import KE.KIsAll
import PyProof.InstStoreFacts
import PyProof.Rows.SetFrom
import PyProof.SetRoads
import PySem.Challenge.RW_cutyard_k54_sack_plan
set_option Elab.async false
set_option linter.all false
set_option maxRecDepth 100000
namespace L2
open PySem PySem.Spec PyProof.Rows
abbrev Key:=Sum Int Str
def qg1:Key→Value→Bool
  | .inl k,v=>Value.isInt k v
  | .inr x,v=>Value.isStrOf x v
def qpl (w:World):Key→Int
  | .inl k=>hashInt k
  | .inr x=>hashStr w x
theorem qaR:∀ {k:Key} {v:Value},qg1 k v=true→(∃ i t,k=Sum.inl i∧v=Value.int i t)∨(∃ x t,k=Sum.inr x∧v=Value.str x t)
  | .inl i,v,h=>by
    obtain ⟨t,e⟩:=Value.isInt_shape (k:=i) (v:=v) h
    exact .inl ⟨i,t,rfl,e⟩
  | .inr x,v,h=>by
    obtain ⟨t,e⟩:=Value.isStrOf_shape (x:=x) (v:=v) h
    exact .inr ⟨x,t,rfl,e⟩
theorem qhI (i:Int) (t:Tok):qg1 (.inl i) (.int i t)=true:=by simp [qg1,Value.isInt]
theorem qha (x:Str) (t:Tok):qg1 (.inr x) (.str x t)=true:=by simp [qg1,Value.isStrOf]
theorem ql5 (a b:Int):decide ((Sum.inl a:Key)=Sum.inl b)=(a == b):=by
  by_cases e:a=b
  · subst e;simp
  · have h:¬ (Sum.inl a:Key)=Sum.inl b:=fun q=>e (Sum.inl.inj q)
    rw [decide_eq_false h]
    exact (beq_eq_false_iff_ne.mpr e).symm
theorem qmn (a b:Str):decide ((Sum.inr a:Key)=Sum.inr b)=decide (a=b):=by
  by_cases e:a=b
  · subst e;simp
  · have h:¬ (Sum.inr a:Key)=Sum.inr b:=fun q=>e (Sum.inr.inj q)
    rw [decide_eq_false h,decide_eq_false e]
theorem qmo (a:Int) (b:Str):decide ((Sum.inl a:Key)=Sum.inr b)=false:=decide_eq_false (fun q=>nomatch q)
theorem qlG (a:Str) (b:Int):decide ((Sum.inr a:Key)=Sum.inl b)=false:=decide_eq_false (fun q=>nomatch q)
def qaA (prog:Program) (w:World):PySem.KeyKind prog w Key where
  is:=qg1
  hash:=qpl w
  inj:=fun v a b ha hb=>by
    rcases qaR ha with ⟨i,t,rfl,rfl⟩ | ⟨x,t,rfl,rfl⟩
    · rcases qaR hb with ⟨j,u,rfl,e⟩ | ⟨y,u,rfl,e⟩
      · injection e with e1 _;rw [e1]
      · exact nomatch e
    · rcases qaR hb with ⟨j,u,rfl,e⟩ | ⟨y,u,rfl,e⟩
      · exact nomatch e
      · injection e with e1 _;rw [e1]
  byValue:=fun k v h=>by
    rcases qaR h with ⟨i,t,rfl,rfl⟩ | ⟨x,t,rfl,rfl⟩ <;> rfl
  pyHash:=fun hv h=>by
    rcases qaR hv with ⟨i,t,rfl,rfl⟩ | ⟨x,t,rfl,rfl⟩
    · exact wpAny_pyHash_int h
    · exact wpAny_pyHash_str h
  eqBool:=fun hu hv h=>by
    rcases qaR hu with ⟨i,t,rfl,rfl⟩ | ⟨x,t,rfl,rfl⟩
    · rcases qaR hv with ⟨j,u,rfl,rfl⟩ | ⟨y,u,rfl,rfl⟩
      · rw [ql5] at h;exact wpAny_eqBool_int h
      · rw [qmo] at h;exact SeqAt.EqAt.int_str i t y u _ _ _ _ h
    · rcases qaR hv with ⟨j,u,rfl,rfl⟩ | ⟨y,u,rfl,rfl⟩
      · rw [qlG] at h;exact SeqAt.EqAt.str_int x t j u _ _ _ _ h
      · rw [qmn] at h;exact wpAny_eqBool_str h
  «strs»:=fun k x t v h=>by
    rcases qaR h with ⟨i,u,rfl,e⟩ | ⟨y,u,rfl,e⟩
    · exact nomatch e
    · injection e with e1 _
      subst e1
      cases v <;> rfl
theorem qfp (prog:Program) (w:World) (i:Int) (t:Tok):(qaA prog w).is (.inl i) (.int i t)=true:=qhI i t
theorem qfG (prog:Program) (w:World) (x:Str) (t:Tok):(qaA prog w).is (.inr x) (.str x t)=true:=qha x t
inductive V where
  | non | bl (b:Bool) | int (i:Int) | str (x:Str) | byt (b:Array UInt8) | flt (b:UInt64) | ref (a:Addr) | ty (n:String)
  deriving DecidableEq
def RelV:V→Value→Prop
  | .non,u=>u=Value.none
  | .bl b,u=>u=Value.bool b
  | .int i,u=>∃ t,u=Value.int i t
  | .str x,u=>∃ t,u=Value.str x t
  | .byt b,u=>∃ t,u=Value.bytes b t
  | .flt b,u=>∃ t,u=Value.float b t
  | .ref a,u=>u=Value.ref a
  | .ty n,u=>u=Value.type n
abbrev Vals:List V→List Value→Prop:=Paired RelV
theorem Vals.length {xs:List V} {us:List Value} (r:Vals xs us):xs.length=us.length:=Paired.length r
theorem Vals.get:∀ {xs:List V} {us:List Value} {i:Nat} {x:V},Vals xs us→xs[i]?=some x→∃ u,us[i]?=some u∧RelV x u
  | _,_,_,_,.nil,e=>by simp at e
  | _,_,0,_,.cons r _,e=>by simp at e;subst e;exact ⟨_,rfl,r⟩
  | _,_,i+1,x,.cons _ t,e=>by
    obtain ⟨u,h1,h2⟩:=Vals.get (i:=i) (x:=x) t (by simpa using e)
    exact ⟨u,by simpa using h1,h2⟩
theorem Vals.set {x:V} {u:Value} (r:RelV x u):∀ {xs:List V} {us:List Value} (i:Nat),Vals xs us→Vals (xs.set i x) (us.set i u)
  | _,_,_,.nil=>.nil
  | _,_,0,.cons _ t=>.cons r t
  | _,_,i+1,.cons q t=>.cons q (Vals.set r i t)
theorem Vals.append:∀ {xs ys:List V} {us ws:List Value},Vals xs us→Vals ys ws→Vals (xs++ys) (us++ws)
  | _,_,_,_,.nil,s=>s
  | _,_,_,_,.cons r t,s=>.cons r (Vals.append t s)
theorem Vals.take:∀ {xs:List V} {us:List Value} (n:Nat),Vals xs us→Vals (xs.take n) (us.take n)
  | _,_,0,_=>.nil
  | _,_,_+1,.nil=>.nil
  | _,_,n+1,.cons r t=>.cons r (Vals.take n t)
theorem Vals.drop:∀ {xs:List V} {us:List Value} (n:Nat),Vals xs us→Vals (xs.drop n) (us.drop n)
  | _,_,0,r=>r
  | _,_,_+1,.nil=>.nil
  | _,_,n+1,.cons _ t=>Vals.drop n t
def RelO:Option V→Option Value→Prop
  | some v,some u=>RelV v u
  | none,none=>True
  | _,_=>False
def KV {κ:Type}:List (κ × V)→List (κ × Value)→Prop:=Paired fun (p:κ × V) (q:κ × Value)=>p.1=q.1∧RelV p.2 q.2
def kV:Key→V
  | .inl i=>.int i
  | .inr x=>.str x
inductive HO where
    | lst (xs:List V)
    | tup (xs:List V)
    | dK (kvs:List (Key × V)) | dT (kvs:List (List Key × V))
    | set (S:Int→Bool) (n:Nat)
    | ins (C dx:Addr) (fs:List (Str × V))
    | own (x:Addr)
    | xd (fs:List (Str × V))
    | met (f x:Addr)
    | rng (lo hi:Int)
    | frz (o:Obj) (u:HO)
    | tbl (ps:Array Value)
    | ext (φ:Heap→Prop)
abbrev Hp:=Addr→Option HO
def upd (H:Hp) (a:Addr) (o:HO):Hp:=fun b=>if b=a then some o else H b
theorem qaj {H:Hp} {a:Addr} {o:HO}:upd H a o a=some o:=by unfold upd;rw [if_pos rfl]
theorem qal {H:Hp} {a b:Addr} {o:HO} (h:b≠a):upd H a o b=H b:=by unfold upd;rw [if_neg h]
theorem qnX {H:Hp} {a b:Addr} {o u:HO} (h:H a=some o) (h':H b=some u) (d:o≠u):a≠b:=by
  intro e;subst e;rw [h] at h';exact d (Option.some.inj h')
theorem qas {H:Hp} {a b:Addr} {o:HO} (h:H a=some o) (h':H b=none):a≠b:=by
  intro e;subst e;rw [h] at h';cases h'
def IsTupD (h:Heap) (a:Addr) (items:Array Value):Prop:=∃ o,h.get? a=some o∧(o.cls=.type "tuple"∧o.dict=none)∧∃ n,o.data=.seq items n
theorem IsTupD.tup {h:Heap} {a:Addr} {items:Array Value} (x:IsTupD h a items):IsTup h a items:=let ⟨o,e,c,d⟩:=x;⟨o,e,c.1,d⟩
theorem IsTupD.lt {h:Heap} {a:Addr} {items:Array Value} (x:IsTupD h a items):a<h.objs.size:=x.tup.lt
theorem IsTupD.new (h:Heap) (items:Array Value):IsTupD (h.push { cls:=.type "tuple",data:=.seq items }) h.objs.size items:=⟨_,Heap.get?_push_size _ rfl,⟨rfl,rfl⟩,_,rfl⟩
section
variable (P : Program) (w : World)
def ObjOk (H:Hp) (h:Heap) (a:Addr):HO→Prop
  | .lst xs=>xs.length≤sizeLine∧∃ (its:List Value) (n:Nat),Vals xs its∧h.get? a=some { cls:=.type "list",data:=.seq its.toArray n }
  | .tup xs=>xs.length≤sizeLine∧∃ its:List Value,Vals xs its∧IsTupD h a its.toArray
  | .dK kvs=>kvs.length≤sizeLine∧(a == sysModules)=false∧∃ vs,KV kvs vs∧h.DictOf (qaA P w) a vs
  | .dT kvs=>kvs.length≤sizeLine∧(a == sysModules)=false∧∃ xs:List (List Key × Addr × Value),
      Paired (fun (p:List Key × V) (q:List Key × Addr × Value)=>p.1=q.1∧H q.2.1=some (.tup (p.1.map kV))∧RelV p.2 q.2.2) kvs xs ∧
      ∃ o es ep,h.get? a=some o∧o.ExactDict∧o.data=.dict es ep∧es.toList=xs.map (entryOfKey (tupleKind (qaA P w)))∧(xs.map (·.1)).Nodup
  | .set S n=>h.SetOf (intKind P w) a S n
  | .ins C dx fs=>H dx=some (.own a)∧fs.length≤1000∧dx≠a∧h.get? a=some (PySem.W.instObj C dx) ∧
      ∃ mA,h.Ns1 dx mA∧(∀ f,RelO (fs.lookup f) (mA f))∧PySem.Within mA (fs.map (·.1))
  | .own _=>∃ o,h.get? a=some o
  | .xd fs=>∃ mA,h.Ns1 a mA∧∀ f,RelO (fs.lookup f) (mA f)
  | .rng lo hi=>∃ t u v,h.get? a=some { cls:=.type "range",data:=.fields #[.int lo t,.int hi u,.int 1 v] }
  | .frz o u=>h.get? a=some o∧ObjOk H h a u
  | .tbl ps=>h.get? a=some { cls:=.none,data:=.fields #[] }∨∃ (c:Addr) (o:Obj) (vs:Array Value) (x y:Value) (q:Str) (t t':Tok),ps=#[x,y,.str q t]∧H c=some (.frz o (.own a)) ∧
      h.get? a=some { cls:=.none,data:=.fields #[x,y,.ref c] }∧o.data=.fields vs∧vs[1]?=some (.str q t')
  | .met f x=>h.get? a=some (PySem.W.methodObj (.ref f) (.ref x))
  | .ext φ=>φ h∧(∃ o,h.get? a=some o)∧∀ h1 h2:Heap,φ h1→(∀ o,h1.get? a=some o→h2.get? a=some o)→φ h2
def HOk (H:Hp) (h:Heap):Prop:=∀ a o,H a=some o→ObjOk P w H h a o
end
section
variable {P : Program} {w : World} {H H' : Hp} {h h' : Heap} {a : Addr} {o : HO}
theorem ObjOk.lt (x:ObjOk P w H h a o):a<h.objs.size:=by
  cases o with
  | lst xs=>obtain ⟨_,_,_,_,e⟩:=x;exact Heap.lt_size e
  | tup xs=>obtain ⟨_,_,_,p⟩:=x;exact p.lt
  | dK kvs=>obtain ⟨_,_,_,_,o,_,_,e,_⟩:=x;exact Heap.lt_size e
  | dT kvs=>obtain ⟨_,_,_,_,o,_,_,e,_⟩:=x;exact Heap.lt_size e
  | set S n=>obtain ⟨o,_,_,_,e,_⟩:=x;exact Heap.lt_size e
  | ins C dx fs=>obtain ⟨_,_,_,e,_⟩:=x;exact Heap.lt_size e
  | own y=>obtain ⟨_,e⟩:=x;exact Heap.lt_size e
  | xd fs=>obtain ⟨_,⟨_,_,_,e,_⟩,_⟩:=x;exact Heap.lt_size e
  | rng lo hi=>obtain ⟨_,_,_,e⟩:=x;exact Heap.lt_size e
  | frz ob u=>obtain ⟨e,_⟩:=x;exact Heap.lt_size e
  | tbl ps=>rcases x with x | ⟨_,_,_,_,_,_,_,_,_,_,x,_⟩ <;> exact Heap.lt_size x
  | met f y=>exact Heap.lt_size (show h.get? a=some _ from x)
  | ext φ=>obtain ⟨_,⟨_,e⟩,_⟩:=x;exact Heap.lt_size e
theorem Paired.mapP {α β:Type} {F G:α→β→Prop}:∀ {l₁:List α} {l₂:List β},Paired F l₁ l₂→(∀ a b,F a b→G a b)→Paired G l₁ l₂
  | _,_,.nil,_=>.nil
  | _,_,.cons r t,f=>.cons (f _ _ r) (Paired.mapP t f)
theorem ObjOk.stay (x:ObjOk P w H h a o) (k:∀ b u,(b=a∨H b=some (.own a))→h.get? b=some u→h'.get? b=some u)
    (ho:∀ b,H b=some (.own a)→H' b=some (.own a)) (ht:∀ b xs,H b=some (.tup xs)→H' b=some (.tup xs)) (hf:∀ b o u,H b=some (.frz o u)→H' b=some (.frz o u)):ObjOk P w H' h' a o:=by
  induction o with
  | lst xs=>obtain ⟨z,its,n,r,e⟩:=x;exact ⟨z,its,n,r,k _ _ (.inl rfl) e⟩
  | tup xs=>obtain ⟨z,its,r,ob,e,c⟩:=x;exact ⟨z,its,r,ob,k _ _ (.inl rfl) e,c⟩
  | dK kvs=>obtain ⟨z,y,vs,r,ob,es,ep,e,c⟩:=x;exact ⟨z,y,vs,r,ob,es,ep,k _ _ (.inl rfl) e,c⟩
  | dT kvs =>
    obtain ⟨z,y,xs,r,ob,es,ep,e,c⟩:=x
    exact ⟨z,y,xs,Paired.mapP r fun p q z=>⟨z.1,ht _ _ z.2.1,z.2.2⟩,ob,es,ep,k _ _ (.inl rfl) e,c⟩
  | set S n=>obtain ⟨ob,es,ep,t,e,c⟩:=x;exact ⟨ob,es,ep,t,k _ _ (.inl rfl) e,c⟩
  | ins C dx fs =>
    obtain ⟨d,z,ne,e,mA,⟨od,es,ep,e2,c⟩,r⟩:=x
    exact ⟨ho _ d,z,ne,k _ _ (.inl rfl) e,mA,⟨od,es,ep,k _ _ (.inr d) e2,c⟩,r⟩
  | own y=>obtain ⟨ob,e⟩:=x;exact ⟨ob,k _ _ (.inl rfl) e⟩
  | xd fs=>obtain ⟨mA,⟨od,es,ep,e,c⟩,r⟩:=x;exact ⟨mA,⟨od,es,ep,k _ _ (.inl rfl) e,c⟩,r⟩
  | rng lo hi=>obtain ⟨t,u,v,e⟩:=x;exact ⟨t,u,v,k _ _ (.inl rfl) e⟩
  | frz ob u ih=>obtain ⟨e,q⟩:=x;exact ⟨k _ _ (.inl rfl) e,ih q⟩
  | tbl ps =>
    rcases x with x | ⟨c,o,vs,y,z,q,t,t',e1,e2,e3,e4⟩
    · exact .inl (k a _ (.inl rfl) x)
    · exact .inr ⟨c,o,vs,y,z,q,t,t',e1,hf _ _ _ e2,k a _ (.inl rfl) e3,e4⟩
  | met f y =>
    have e:h.get? a=some (PySem.W.methodObj (.ref f) (.ref y)):=x
    show h'.get? a=some (PySem.W.methodObj (.ref f) (.ref y))
    exact k a _ (.inl rfl) e
  | ext φ=>obtain ⟨p,⟨o,e⟩,st⟩:=x;exact ⟨st _ _ p fun o q=>k _ _ (.inl rfl) q,⟨o,k _ _ (.inl rfl) e⟩,st⟩
theorem HOk.lt (x:HOk P w H h) (e:H a=some o):a<h.objs.size:=(x a o e).lt
theorem HOk.fresh (x:HOk P w H h) (e:h.objs.size≤a):H a=none:=by
  cases q:H a with
  | none=>rfl
  | some u=>exact absurd (Nat.lt_of_lt_of_le (x.lt q) e) (Nat.lt_irrefl _)
theorem HOk.kept (x:HOk P w H h) (k:∀ b u,h.get? b=some u→h'.get? b=some u):HOk P w H h':=fun a o e =>
  (x a o e).stay (fun b u _ q=>k b u q) (fun _ q=>q) (fun _ _ q=>q) fun _ _ _ q=>q
theorem HOk.laid (x:HOk P w H h) (k:∀ b u,h.get? b=some u→h'.get? b=some u) (hp:h.objs.size≤a) (new:ObjOk P w (upd H a o) h' a o):HOk P w (upd H a o) h':=fun b u e=>by
  have hn:=x.fresh hp
  by_cases hb:b=a
  · subst hb;rw [qaj] at e;cases e;exact new
  · rw [qal hb] at e
    exact (x b u e).stay (fun c v _ q=>k c v q) (fun c q=>by rw [qal (qas q hn)];exact q) (fun c xs q=>by rw [qal (qas q hn)];exact q) fun c ob w' q=>by rw [qal (qas q hn)];exact q
end
def Rd (H:Hp) (a:Addr) (u:HO):Prop:=H a=some u∨∃ o,H a=some (.frz o u)
theorem Rd.ok {P:Program} {w:World} {H:Hp} {h:Heap} {a:Addr} {u:HO} (r:Rd H a u) (x:HOk P w H h):ObjOk P w H h a u:=by
  rcases r with r | ⟨o,r⟩
  · exact x a u r
  · obtain ⟨_,q⟩:=x a _ r
    exact q
def Mut:Option HO→Prop
  | some (.lst _)=>True
  | some (.dK _)=>True
  | some (.dT _)=>True
  | some (.set _ _)=>True
  | some (.ins _ _ _)=>True
  | some (.ext _)=>True
  | _=>False
section
variable {P : Program} {w : World} {H : Hp} {h h' : Heap} {x e : Addr} {o' : HO}
theorem HOk.write (ok:HOk P w H h) (mu:Mut (H x)) (he:e=x∨H e=some (.own x)) (k:∀ b u,b≠e→h.get? b=some u→h'.get? b=some u) (heo:∃ u,h'.get? e=some u)
    (new:ObjOk P w (upd H x o') h' x o'):HOk P w (upd H x o') h':=fun b u q=>by
  have nown:∀ c y,H c=some (.own y)→c≠x:=fun c y r z=>by subst z;rw [r] at mu;exact mu
  have ntup:∀ c xs,H c=some (.tup xs)→c≠x:=fun c xs r z=>by subst z;rw [r] at mu;exact mu
  have nfrz:∀ c ob w',H c=some (.frz ob w')→c≠x:=fun c ob w' r z=>by subst z;rw [r] at mu;exact mu
  by_cases hb:b=x
  · subst hb;rw [qaj] at q;cases q;exact new
  · rw [qal hb] at q
    by_cases hbe:b=e
    · have q':H b=some (.own x):=by
        rcases he with z | z
        · exact absurd (hbe.trans z) hb
        · rw [hbe];exact z
      rw [q] at q';cases q'
      obtain ⟨v,hv⟩:=heo
      exact ⟨v,by rw [hbe];exact hv⟩
    · refine (ok b u q).stay (fun c v hc r=>k c v ?_ r) (fun c r=>by rw [qal (nown c b r)];exact r) (fun c xs r=>by rw [qal (ntup c xs r)];exact r) fun c ob w' r=>by rw [qal (nfrz c ob w' r)];exact r
      rcases hc with rfl | hc
      · exact hbe
      · rintro rfl
        rcases he with z | z
        · exact nown c b hc z
        · rw [hc] at z;cases z;exact hb rfl
end
structure Un (fs ex:List Addr) (H H':Hp) (h h':Heap):Prop where
  keep:∀ b o,h.get? b=some o→H b=none→b∉fs→b∉ex→h'.get? b=some o
  slot:∀ b o,h.get? b=some o→H b=none→b∈fs→b∉ex→∃ sl,h'.get? b=some { o with slots:=sl }
  free:∀ b o,h.get? b=some o→H b=none→b∉ex→H' b=none
  there:∀ b o,h.get? b=some o→b∉ex→∃ o',h'.get? b=some o'
  tups:∀ b xs,H b=some (.tup xs)→H' b=some (.tup xs)
  frzs:∀ b o u,H b=some (.frz o u)→H' b=some (.frz o u)
  tbls:∀ b ps,H b=some (.tbl ps)→H' b=some (.tbl ps)
section
variable {fs fs' ex ex' : List Addr} {H H1 H2 : Hp} {h h1 h2 h' : Heap} {a x e : Addr} {o : HO}
theorem Un.any (u:Un fs ex H H1 h h1) {b:Addr} {ob:Obj} (q:h.get? b=some ob) (n:H b=none) (hx:b∉ex):∃ sl,h1.get? b=some { ob with slots:=sl }:=by
  by_cases hb:b∈fs
  · exact u.slot b ob q n hb hx
  · exact ⟨ob.slots,u.keep b ob q n hb hx⟩
theorem Un.kept (k:∀ b u,h.get? b=some u→h'.get? b=some u):Un fs ex H H h h' :=
  ⟨fun b ob q _ _ _=>k b ob q,fun b ob q _ _ _=>⟨ob.slots,k b ob q⟩,fun _ _ _ n _=>n,fun b ob q _=>⟨ob,k b ob q⟩,fun _ _ q=>q,fun _ _ _ q=>q,fun _ _ q=>q⟩
theorem Un.refl:Un fs ex H H h h:=Un.kept fun _ _ q=>q
theorem Un.laid (k:∀ b u,h.get? b=some u→h'.get? b=some u) (hp:h.objs.size≤a) (hn:H a=none):Un fs ex H (upd H a o) h h' where
  keep:=fun b u q _ _ _=>k b u q
  slot:=fun b u q _ _ _=>⟨u.slots,k b u q⟩
  free:=fun b u q n _=>by rw [qal (Nat.ne_of_lt (Nat.lt_of_lt_of_le (Heap.lt_size q) hp))];exact n
  there:=fun b u q _=>⟨u,k b u q⟩
  tups:=fun b xs q=>by rw [qal (qas q hn)];exact q
  frzs:=fun b u xs q=>by rw [qal (qas q hn)];exact q
  tbls:=fun b ps q=>by rw [qal (qas q hn)];exact q
theorem Un.write (mu:Mut (H x)) (he:e=x∨H e=some (.own x)) (k:∀ b u,b≠e→h.get? b=some u→h'.get? b=some u) (heo:∃ u,h'.get? e=some u):Un fs ex H (upd H x o) h h':=by
  have hx:∀ b,H b=none→b≠x:=fun b n z=>by subst z;rw [n] at mu;exact mu
  have hb:∀ b,H b=none→b≠e:=fun b n z=>by
    subst z
    rcases he with r | r
    · exact hx b n r
    · rw [n] at r;cases r
  have hm:∀ b u,H b=some u→¬ Mut (some u)→b≠x:=fun b u q nm z=>by subst z;rw [q] at mu;exact nm mu
  refine ⟨fun b u q n _ _=>k b u (hb b n) q,fun b u q n _ _=>⟨u.slots,k b u (hb b n) q⟩,fun b u q n _=>by rw [qal (hx b n)];exact n,fun b u q _=>?_,
    fun b xs q=>by rw [qal (hm b _ q fun z=>z)];exact q,fun b u xs q=>by rw [qal (hm b _ q fun z=>z)];exact q,fun b ps q=>by rw [qal (hm b _ q fun z=>z)];exact q⟩
  by_cases hbe:b=e
  · subst hbe;exact heo
  · exact ⟨u,k b u hbe q⟩
end
def trk (h:Heap) (H:Hp):List Addr:=(List.range h.objs.size).filter fun a=>(H a).isSome
def qi2 (h:Heap) (H:Hp):Heap:=PySem.W.hideAll h (trk h H)
theorem qhz (h:Heap) (H:Hp):(qi2 h H).objs.size=h.objs.size:=PySem.W.hideAll_size _ _
theorem qiI {h:Heap} {H:Hp} {b:Addr} {o:Obj} (e:h.get? b=some o) (n:H b=none):(qi2 h H).get? b=some o :=
  PySem.W.hideAll_get _ e fun hm=>by
    have q:(H b).isSome=true:=(List.mem_filter.mp hm).2
    rw [n] at q;simp at q
theorem qlb {h:Heap} {H:Hp} {b:Addr} {o:Obj} (e:(qi2 h H).get? b=some o):h.get? b=some o∧H b=none:=by
  have e':h.get? b=some o:=PySem.W.of_hideAll (trk h H) e
  refine ⟨e',?_⟩
  cases q:H b with
  | none=>rfl
  | some x =>
    have hm:b∈trk h H:=List.mem_filter.mpr ⟨List.mem_range.mpr (Heap.lt_size e'),by simp [q]⟩
    have z:(qi2 h H).get? b=none:=PySem.W.hideAll_none (trk h H) hm
    rw [z] at e;cases e
structure Mod (K:PySem.W.Frag) (mg:Str→Option Value) (base:Heap):Prop where
  kin:K.In base
  glob:base.Ns mainGlobals mg
  blt:∃ mb,base.Ns builtinsNs mb∧∀ x:Str,x≠"__name__"→mb x=bootBuiltins x
  nolimit:base.NoLimit
  bmod:∃ bm ob,mg "__builtins__"=some (.ref bm)∧bm≠builtinsNs∧base.get? bm=some ob∧ob.cls=.type "module"∧ob.dict=some builtinsNs∧ob.data=.plain
  seer:base.NoSeer
  dig:∃ mc,base.Ns cStatics mc∧mc "sys.int_max_str_digits"=none
structure Cx where
  prog:Program
  w:World
  K:PySem.W.Frag
  mg:Str→Option Value
  base:Heap
  A:Around
  N:List Str
  s₀:Shared
  H₀:Hp
  env:Env
  outer:List Env
  stack:List Env
  ex:List Addr
  fn:Str→Bool
  calm:Bool
  pn:List (Addr × Obj)
  xe:Value→Shared→Prop
def frs (l:List Env):List Addr:=l.filterMap (·.frame)
abbrev Cx.fs (X:Cx):List Addr:=frs X.outer
def Vis (sc:Scope) (x:Str):Prop:=sc.names.lookup x=some .local∨sc.names.lookup x=some .cell∨sc.names.lookup x=some .free
def Loc (sc:Scope) (x:Str):Prop:=sc.names.lookup x=some .local∨sc.names.lookup x=some .cell
def qpG (env:Env) (h:Heap) (m:Str→Option Value) (x:Str) (u:Value):Prop :=
  (env.kindOf x=some .local∧m x=some u)∨((env.kindOf x=some .cell∨env.kindOf x=some .free)∧∃ c,env.cells.lookup x=some c∧h.IsCell c (some u))
structure Cx.Ok (X:Cx):Prop where
  mod:Mod X.K X.mg X.base
  kind:X.env.scope.kind=.function
  glob:X.env.globals=mainGlobals
  blt:X.env.builtins=builtinsNs
  above:X.s₀.heap.objs.size≤X.env.locals
  inj:∀ x y c,X.env.cells.lookup x=some c→X.env.cells.lookup y=some c→x=y
  has:∀ x,(X.env.kindOf x=some .cell∨X.env.kindOf x=some .free)→∃ c,X.env.cells.lookup x=some c
  cab:∀ x c,X.fn x=true→X.env.cells.lookup x=some c→X.s₀.heap.objs.size≤c
  hd:X.calm=true→X.A.handled=none
  frames:X.A.frames=some X.stack
  stk:X.stack=X.outer∨(X.stack=X.env::X.outer∧X.env.frame=some X.env.locals)
  exf:∀ b∈X.ex,b≠X.env.locals∧∀ x c,X.env.cells.lookup x=some c→c≠b
  bs:∀ b o,X.base.get? b=some o→X.s₀.heap.get? b=some o∧X.H₀ b=none
  bsz:X.base.objs.size≤X.s₀.heap.objs.size
  noex:∀ b o,X.base.get? b=some o→b∉X.ex
  exfs:∀ b∈X.ex,b∉X.fs
  funs:X.s₀.heap.FunFrames X.base X.outer
  frf:∀ b∈X.fs,X.H₀ b=none
structure Inv (X:Cx) (pins:List (Addr × Obj)) (σ:List (Option V)) (H:Hp) (s:Shared):Prop where
  ok:X.Ok
  os:s.os=X.s₀.os
  bare:AllBare s.gens
  base:Un X.fs X.ex X.H₀ H X.s₀.heap s.heap
  loc:∃ m,s.heap.Ns X.env.locals m∧∀ (i:Nat) (x:Str) (v:V),X.N[i]?=some x→σ[i]?=some (some v)→Vis X.env.scope x→∃ u,RelV v u∧qpG X.env s.heap m x u
  cell:∀ x c,X.env.cells.lookup x=some c→∃ v,s.heap.IsCell c v
  free:H X.env.locals=none
  freeC:∀ x c,X.env.cells.lookup x=some c→H c=none
  pin:∀ p∈X.pn++pins,s.heap.get? p.1=some p.2∧H p.1=none∧p.1≠X.env.locals∧p.1∉X.fs∧∀ v,p.2.data≠.cell v
  hok:HOk X.prog X.w H s.heap
  len:σ.length=X.N.length
section
variable {X : Cx} {pins : List (Addr × Obj)} {σ : List (Option V)} {H H' : Hp} {s : Shared} {h' : Heap}
theorem Cx.Ok.nofr (ok:X.Ok) {b:Addr} {o:Obj} (e:X.base.get? b=some o):b∉X.fs:=fun hb=>by
  have:=(ok.funs.mem hb).1
  rw [e] at this;cases this
theorem Inv.bs (I:Inv X pins σ H s):∀ b o,X.base.get? b=some o→s.heap.get? b=some o∧H b=none:=fun b o e =>
  ⟨I.base.keep b o (I.ok.bs b o e).1 (I.ok.bs b o e).2 (I.ok.nofr e) (I.ok.noex b o e),I.base.free b o (I.ok.bs b o e).1 (I.ok.bs b o e).2 (I.ok.noex b o e)⟩
theorem Inv.bk (I:Inv X pins σ H s):∀ b o,X.base.get? b=some o→s.heap.get? b=some o:=fun b o e=>(I.bs b o e).1
theorem Inv.mod (I:Inv X pins σ H s):Mod X.K X.mg X.base:=I.ok.mod
theorem Inv.kIn (I:Inv X pins σ H s):X.K.In s.heap:=I.ok.mod.kin.keeps I.bk
theorem Inv.lt (I:Inv X pins σ H s):X.env.locals<s.heap.objs.size:=let ⟨_,hn,_⟩:=I.loc;hn.lt
theorem Inv.sz (I:Inv X pins σ H s):X.s₀.heap.objs.size≤s.heap.objs.size:=Nat.le_trans I.ok.above (Nat.le_of_lt I.lt)
theorem Inv.nofs (I:Inv X pins σ H s) {a:Addr} (h:s.heap.objs.size≤a):a∉X.fs:=fun hb=>by
  obtain ⟨_,o,ho,_⟩:=I.ok.funs.mem hb
  exact absurd (Nat.lt_of_lt_of_le (Heap.lt_size ho) (Nat.le_trans I.sz h)) (Nat.lt_irrefl _)
theorem Inv.cne (I:Inv X pins σ H s):∀ x c,X.env.cells.lookup x=some c→c≠X.env.locals:=fun x c e z=>by
  obtain ⟨v,o,ho,hd⟩:=I.cell x c e
  obtain ⟨m,⟨o',es,ep,ho',hd',_⟩,_⟩:=I.loc
  rw [z,ho'] at ho;cases ho;rw [hd'] at hd;cases hd
theorem Inv.funs (I:Inv X pins σ H s):s.heap.FunFrames X.base X.outer:=by
  have all:∀ (l:List Env),(∀ b∈frs l,b∈X.fs)→X.s₀.heap.FunFrames X.base l→s.heap.FunFrames X.base l:=by
    intro l
    induction l with
    | nil=>intro _ _;trivial
    | cons env r ih =>
      intro hs hl
      obtain ⟨hk,⟨L,o,hf,hn,ho,hd⟩,hr⟩:=hl
      have hL:L∈X.fs:=hs L (by unfold frs;rw [List.filterMap_cons,hf];exact List.mem_cons_self)
      obtain ⟨sl,e⟩:=I.base.slot L o ho (I.ok.frf L hL) hL fun z=>I.ok.exfs L z hL
      exact ⟨hk,⟨L,_,hf,hn,e,hd⟩,ih (fun b hb=>hs b (by unfold frs;rw [List.filterMap_cons,hf];exact List.mem_cons_of_mem _ hb)) hr⟩
  exact all X.outer (fun _ hb=>hb) I.ok.funs
theorem Inv.stack (I:Inv X pins σ H s):s.heap.FunFrames X.base X.stack:=by
  rcases I.ok.stk with e | ⟨e,hf⟩
  · rw [e];exact I.funs
  · rw [e]
    obtain ⟨m,hn,_⟩:=I.loc
    refine .cons (by rw [I.ok.kind];decide) hf hn ?_ I.funs
    exact Heap.get?_none_of_le (Nat.le_trans I.ok.bsz I.ok.above)
theorem Inv.stkSub (I:Inv X pins σ H s):∀ b∈frs X.stack,b∈X.env.locals::X.fs:=fun b hb=>by
  rcases I.ok.stk with e | ⟨e,hf⟩
  · rw [e] at hb;exact List.mem_cons_of_mem _ hb
  · rw [e] at hb
    unfold frs at hb
    rw [List.filterMap_cons,hf] at hb
    exact hb
theorem Inv.stkFree (I:Inv X pins σ H s):∀ b∈frs X.stack,H b=none:=fun b hb=>by
  rcases List.mem_cons.mp (I.stkSub b hb) with e | hb
  · rw [e];exact I.free
  · obtain ⟨_,o,ho,_⟩:=I.ok.funs.mem hb
    exact I.base.free b o ho (I.ok.frf b hb) fun z=>I.ok.exfs b z hb
theorem Inv.step {g':Array GenState} {t':Nat} {d':Drawn} {ch:List Addr} (I:Inv X pins σ H s)
    (hch:∀ b∈ch,(b∈X.ex∨X.s₀.heap.objs.size≤b)∧b≠X.env.locals∧(∀ x c,X.env.cells.lookup x=some c→c≠b)∧∀ p∈X.pn++pins,p.1≠b)
    (keep:∀ b o,b≠X.env.locals→b∉X.fs→b∉ch→s.heap.get? b=some o→H b=none→h'.get? b=some o)
    (slot:∀ b o,b≠X.env.locals→b∈X.fs→b∉ch→s.heap.get? b=some o→H b=none→∃ sl,h'.get? b=some { o with slots:=sl }) (free:∀ b o,b∉ch→s.heap.get? b=some o→H b=none→H' b=none)
    (there:∀ b o,b∉ch→s.heap.get? b=some o→∃ o',h'.get? b=some o')
    (tups:∀ b xs,H b=some (.tup xs)→H' b=some (.tup xs)) (frzs:∀ b o u,H b=some (.frz o u)→H' b=some (.frz o u)) (tbls:∀ b ps,H b=some (.tbl ps)→H' b=some (.tbl ps))
    (ns:∀ m,s.heap.Ns X.env.locals m→h'.Ns X.env.locals m) (hok:HOk X.prog X.w H' h') (hg:AllBare g') :
    Inv X pins σ H' { s with heap:=h',gens:=g',drawn:=d',toks:=t' }:=by
  have neL:∀ b o,X.s₀.heap.get? b=some o→b≠X.env.locals:=fun b o e=>Nat.ne_of_lt (Nat.lt_of_lt_of_le (Heap.lt_size e) I.ok.above)
  have neC:∀ b o,X.s₀.heap.get? b=some o→b∉X.ex→b∉ch:=fun b o e hx hb=>by
    rcases (hch b hb).1 with z | z
    · exact hx z
    · exact absurd (Nat.lt_of_lt_of_le (Heap.lt_size e) z) (Nat.lt_irrefl _)
  have cellK:∀ x c,X.env.cells.lookup x=some c→∀ v,s.heap.IsCell c v→h'.IsCell c v:=fun x c e v hq0=>by
    obtain ⟨o,ho,hd⟩:=hq0
    have nch:c∉ch:=fun z=>(hch c z).2.2.1 x c e rfl
    by_cases hc:c∈X.fs
    · obtain ⟨sl,q⟩:=slot c o (I.cne x c e) hc nch ho (I.freeC x c e)
      exact ⟨_,q,hd⟩
    · exact ⟨o,keep c o (I.cne x c e) hc nch ho (I.freeC x c e),hd⟩
  refine ⟨I.ok,I.os,hg,⟨fun b o e n hb hx=>?_,fun b o e n hb hx=>?_,fun b o e n hx=>?_,fun b o e hx=>?_,fun b xs e=>tups b xs (I.base.tups b xs e),fun b o xs e=>frzs b o xs (I.base.frzs b o xs e),fun b ps e=>tbls b ps (I.base.tbls b ps e)⟩,?_,fun x c e=>?_,?_,fun x c e=>?_,fun p hp=>?_,hok,I.len⟩
  · exact keep b o (neL b o e) hb (neC b o e hx) (I.base.keep b o e n hb hx) (I.base.free b o e n hx)
  · obtain ⟨sl,e1⟩:=I.base.slot b o e n hb hx
    obtain ⟨sl',e2⟩:=slot b _ (neL b o e) hb (neC b o e hx) e1 (I.base.free b o e n hx)
    exact ⟨sl',e2⟩
  · obtain ⟨o',e1⟩:=I.base.there b o e hx
    exact free b o' (neC b o e hx) e1 (I.base.free b o e n hx)
  · obtain ⟨o',e1⟩:=I.base.there b o e hx
    exact there b o' (neC b o e hx) e1
  · obtain ⟨m,hn,hl⟩:=I.loc
    refine ⟨m,ns m hn,fun i x v e1 e2 e3=>?_⟩
    obtain ⟨u,r,l⟩:=hl i x v e1 e2 e3
    refine ⟨u,r,?_⟩
    rcases l with l | ⟨k,c,e,z⟩
    · exact .inl l
    · exact .inr ⟨k,c,e,cellK x c e _ z⟩
  · obtain ⟨v,z⟩:=I.cell x c e
    exact ⟨v,cellK x c e v z⟩
  · obtain ⟨m,⟨o,_,_,ho,_⟩,_⟩:=I.loc
    exact free _ o (fun z=>(hch _ z).2.1 rfl) ho I.free
  · obtain ⟨v,o,ho,hd⟩:=I.cell x c e
    exact free c o (fun z=>(hch c z).2.2.1 x c e rfl) ho (I.freeC x c e)
  · obtain ⟨e,n,ne,nf,d⟩:=I.pin p hp
    have nch:p.1∉ch:=fun z=>(hch p.1 z).2.2.2 p hp rfl
    exact ⟨keep p.1 p.2 ne nf nch e n,free p.1 p.2 nch e n,ne,nf,d⟩
theorem Inv.un {t':Nat} (I:Inv X pins σ H s) (u:Un X.fs [] H H' s.heap h') (hok:HOk X.prog X.w H' h'):Inv X pins σ H' { s with heap:=h',toks:=t' }:=by
  obtain ⟨m,⟨o,es,ep,ho,r⟩,_⟩:=id I.loc
  obtain ⟨sl,hL⟩:=u.any ho I.free (by simp)
  exact I.step (g':=s.gens) (d':=s.drawn) (ch:=[]) (fun _ z=>nomatch z) (fun b o _ hb _ e n=>u.keep b o e n hb (by simp)) (fun b o _ hb _ e n=>u.slot b o e n hb (by simp)) (fun b o _ e n=>u.free b o e n (by simp)) (fun b o _ e=>u.there b o e (by simp)) u.tups u.frzs u.tbls (fun m' hm=>by
    obtain ⟨o',es',ep',ho',r'⟩:=hm
    rw [ho] at ho';cases ho'
    exact ⟨_,es',ep',hL,r'⟩) hok I.bare
theorem Inv.call {g':Array GenState} {t':Nat} {d':Drawn} {ch:List Addr} (I:Inv X pins σ H s) (u:Un (frs X.stack) ch H H' s.heap h') (hok:HOk X.prog X.w H' h') (hg:AllBare g')
    (hch:∀ b∈ch,(b∈X.ex∨X.s₀.heap.objs.size≤b)∧b≠X.env.locals∧(∀ x c,X.env.cells.lookup x=some c→c≠b)∧∀ p∈X.pn++pins,p.1≠b) :
    Inv X pins σ H' { s with heap:=h',gens:=g',drawn:=d',toks:=t' }:=by
  obtain ⟨m,⟨o,es,ep,ho,r⟩,_⟩:=id I.loc
  obtain ⟨sl,hL⟩:=u.any ho I.free fun z=>(hch _ z).2.1 rfl
  exact I.step (ch:=ch) hch (fun b o hL hb hc e n=>u.keep b o e n (fun z=>(List.mem_cons.mp (I.stkSub b z)).elim hL hb) hc) (fun b o _ _ hc e n=>u.any e n hc) (fun b o hc e n=>u.free b o e n hc) (fun b o hc e=>u.there b o e hc) u.tups u.frzs u.tbls (fun m' hm=>by
    obtain ⟨o',es',ep',ho',r'⟩:=hm
    rw [ho] at ho';cases ho'
    exact ⟨_,es',ep',hL,r'⟩) hok hg
theorem Inv.turned {t':Nat} {it:Addr} (I:Inv X pins σ H s) (k:∀ b o,b≠it→s.heap.get? b=some o→h'.get? b=some o) (hn:H it=none) (hL:it≠X.env.locals)
    (h1:it∈X.ex∨X.s₀.heap.objs.size≤it) (h2:∀ x c,X.env.cells.lookup x=some c→c≠it) (h3:∀ p∈X.pn++pins,p.1≠it):Inv X pins σ H { s with heap:=h',toks:=t' }:=by
  have nit:∀ b u,H b=some u→b≠it:=fun b u e z=>by rw [z,hn] at e;cases e
  refine I.step (g':=s.gens) (d':=s.drawn) (ch:=[it]) (fun b hb=>?_) (fun b o _ _ hc e _=>k b o (fun z=>hc (by simp [z])) e) (fun b o _ _ hc e _=>⟨o.slots,k b o (fun z=>hc (by simp [z])) e⟩) (fun _ _ _ _ n=>n)
    (fun b o hc e=>⟨o,k b o (fun z=>hc (by simp [z])) e⟩) (fun _ _ e=>e) (fun _ _ _ e=>e) (fun b ps e=>e) (fun m hm=>?_) (fun b u e=>?_) I.bare
  · have e:b=it:=by simpa using hb
    subst e
    exact ⟨h1,hL,h2,h3⟩
  · obtain ⟨o,es,ep,ho,r⟩:=hm
    exact ⟨o,es,ep,k _ o (Ne.symm hL) ho,r⟩
  · refine (I.hok b u e).stay (fun c v hc q=>k c v ?_ q) (fun _ q=>q) (fun _ _ q=>q) fun _ _ _ q=>q
    rcases hc with z | z
    · rw [z];exact nit b u e
    · exact nit c _ z
theorem Inv.tok (I:Inv X pins σ H s) (t:Nat):Inv X pins σ H { s with toks:=t }:=I.un (h':=s.heap) (t':=t) Un.refl I.hok
theorem Inv.kept {t':Nat} (I:Inv X pins σ H s) (k:∀ b u,s.heap.get? b=some u→h'.get? b=some u):Inv X pins σ H { s with heap:=h',toks:=t' }:=I.un (Un.kept k) (I.hok.kept k)
theorem Inv.laid {a:Addr} {o:HO} {t':Nat} (I:Inv X pins σ H s) (k:∀ b u,s.heap.get? b=some u→h'.get? b=some u) (hp:s.heap.objs.size≤a) (new:ObjOk X.prog X.w (upd H a o) h' a o) :
    Inv X pins σ (upd H a o) { s with heap:=h',toks:=t' }:=I.un (Un.laid k hp (I.hok.fresh hp)) (I.hok.laid k hp new)
theorem Inv.write {x e:Addr} {o:HO} {t':Nat} (I:Inv X pins σ H s) (mu:Mut (H x)) (he:e=x∨H e=some (.own x)) (k:∀ b u,b≠e→s.heap.get? b=some u→h'.get? b=some u) (heo:∃ u,h'.get? e=some u)
    (new:ObjOk X.prog X.w (upd H x o) h' x o):Inv X pins σ (upd H x o) { s with heap:=h',toks:=t' }:=I.un (Un.write mu he k heo) (I.hok.write mu he k heo new)
theorem Inv.pins_of {pins':List (Addr × Obj)} (I:Inv X pins σ H s) (h:∀ p∈pins',s.heap.get? p.1=some p.2∧H p.1=none∧p.1≠X.env.locals∧p.1∉X.fs∧∀ v,p.2.data≠.cell v):Inv X pins' σ H s :=
  ⟨I.ok,I.os,I.bare,I.base,I.loc,I.cell,I.free,I.freeC,fun p hp=>(List.mem_append.mp hp).elim (fun z=>I.pin p (List.mem_append_left _ z)) (h p),I.hok,I.len⟩
theorem qf7 {N:List Str} (hN:N.Nodup) {i j:Nat} {x:Str} (a:N[i]?=some x) (b:N[j]?=some x):i=j:=by
  obtain ⟨h1,e1⟩:=List.getElem?_eq_some_iff.mp a
  obtain ⟨h2,e2⟩:=List.getElem?_eq_some_iff.mp b
  exact (List.getElem_inj hN).mp (e1.trans e2.symm)
theorem qdN {M:Model} {A:Around} {E:Value→Shared→Prop} {i:Nat} {x:Str} {v:V} {u:Value} {Q:Unit→Shared→Prop} (I:Inv X pins σ H s) (hN:X.N.Nodup) (hi:X.N[i]?=some x) (hx:Loc X.env.scope x) (r:RelV v u)
    (h:∀ s',Inv X pins (σ.set i (some v)) H s'→(∃ a,Heap.SameBut a s.heap s'.heap∧(a=X.env.locals∨X.env.cells.lookup x=some a))→Q () s') (hf:X.fn x=true∨X.env.scope.names.lookup x=some .local:=by first | exact .inl rfl | exact .inr rfl | assumption):wpAny M A (storeName X.env x u) Q E s:=by
  obtain ⟨m,hn,hl⟩:=id I.loc
  have hcls:(X.env.scope.kind == .class || (X.env.scope.kind == .module && X.env.locals != X.env.globals))=false:=by rw [I.ok.kind];rfl
  have hiσ:i<σ.length:=by rw [I.len];exact (List.getElem?_eq_some_iff.mp hi).1
  have cne:=I.cne
  have tracked:∀ {a:Addr} {h':Heap},(∃ o,s.heap.get? a=some o∧H a=none)→Heap.SameBut a s.heap h'→HOk X.prog X.w H h':=fun {a h'} ha hs b ob e=>by
    obtain ⟨_,_,hfree⟩:=ha
    refine (I.hok b ob e).stay (fun c w' hc q=>(hs.2 c ?_).trans q) (fun _ q=>q) (fun _ _ q=>q) fun _ _ _ q=>q
    rintro rfl
    rcases hc with rfl | hc
    · rw [hfree] at e;cases e
    · rw [hfree] at hc;cases hc
  rcases hx with hk | hk
  · refine wpAny_storeName_local hk hn (fun h' hn' hs=>?_) hcls
    obtain ⟨oL,_,_,hoL,_⟩:=id hn
    refine h _ ⟨I.ok,I.os,I.bare,⟨fun b o e n hb hx=>?_,fun b o e n hb hx=>?_,I.base.free,fun b o e hx=>?_,I.base.tups,I.base.frzs,I.base.tbls⟩,⟨_,hn',fun j y v' e1 e2 e3=>?_⟩,fun y c e=>?_,I.free,I.freeC,fun p hp=>?_,tracked ⟨oL,hoL,I.free⟩ hs,by simpa using I.len⟩ ⟨_,hs,.inl rfl⟩
    · exact (hs.2 b (Nat.ne_of_lt (Nat.lt_of_lt_of_le (Heap.lt_size e) I.ok.above))).trans (I.base.keep b o e n hb hx)
    · obtain ⟨sl,e1⟩:=I.base.slot b o e n hb hx
      exact ⟨sl,(hs.2 b (Nat.ne_of_lt (Nat.lt_of_lt_of_le (Heap.lt_size e) I.ok.above))).trans e1⟩
    · obtain ⟨o',e1⟩:=I.base.there b o e hx
      exact ⟨o',(hs.2 b (Nat.ne_of_lt (Nat.lt_of_lt_of_le (Heap.lt_size e) I.ok.above))).trans e1⟩
    · by_cases hj:j=i
      · subst hj
        rw [hi] at e1;cases e1
        rw [List.getElem?_set_self hiσ] at e2
        cases e2
        exact ⟨u,r,.inl ⟨hk,by simp⟩⟩
      · rw [List.getElem?_set_ne (Ne.symm hj)] at e2
        obtain ⟨u',r',q⟩:=hl j y v' e1 e2 e3
        refine ⟨u',r',?_⟩
        rcases q with ⟨k,e⟩ | ⟨k,c,e,z⟩
        · refine .inl ⟨k,?_⟩
          have:y≠x:=fun e=>hj (qf7 hN e1 (e ▸ hi))
          simp [this,e]
        · exact .inr ⟨k,c,e,z.sameBut hs (cne y c e)⟩
    · obtain ⟨w',z⟩:=I.cell y c e
      exact ⟨w',z.sameBut hs (cne y c e)⟩
    · obtain ⟨e,n,ne,nf,d⟩:=I.pin p hp
      exact ⟨(hs.2 p.1 ne).trans e,n,ne,nf,d⟩
  · have hfn:X.fn x=true:=by
      rcases hf with z | z
      · exact z
      · rw [z] at hk;cases hk
    obtain ⟨c,hc⟩:=I.ok.has x (.inl hk)
    obtain ⟨w',z⟩:=I.cell x c hc
    refine wpAny_storeName_cell I.ok.kind hk hc z (fun h' hc' hs=>?_)
    obtain ⟨oc,hoc,hocd⟩:=id z
    refine h { s with heap:=h' } ⟨I.ok,I.os,I.bare,⟨fun b o e n hb hx=>?_,fun b o e n hb hx=>?_,I.base.free,fun b o e hx=>?_,I.base.tups,I.base.frzs,I.base.tbls⟩,⟨m,hn.sameBut hs (Ne.symm (cne x c hc)),fun j y v' e1 e2 e3=>?_⟩,fun y c' e=>?_,I.free,I.freeC,fun p hp=>?_,tracked ⟨oc,hoc,I.freeC x c hc⟩ hs,by simpa using I.len⟩ ⟨c,hs,.inr hc⟩
    · exact (hs.2 b (Nat.ne_of_lt (Nat.lt_of_lt_of_le (Heap.lt_size e) (I.ok.cab x c hfn hc)))).trans (I.base.keep b o e n hb hx)
    · obtain ⟨sl,e1⟩:=I.base.slot b o e n hb hx
      exact ⟨sl,(hs.2 b (Nat.ne_of_lt (Nat.lt_of_lt_of_le (Heap.lt_size e) (I.ok.cab x c hfn hc)))).trans e1⟩
    · obtain ⟨o',e1⟩:=I.base.there b o e hx
      exact ⟨o',(hs.2 b (Nat.ne_of_lt (Nat.lt_of_lt_of_le (Heap.lt_size e) (I.ok.cab x c hfn hc)))).trans e1⟩
    · by_cases hj:j=i
      · subst hj
        rw [hi] at e1;cases e1
        rw [List.getElem?_set_self hiσ] at e2
        cases e2
        exact ⟨u,r,.inr ⟨.inl hk,c,hc,hc'⟩⟩
      · rw [List.getElem?_set_ne (Ne.symm hj)] at e2
        obtain ⟨u',r',q⟩:=hl j y v' e1 e2 e3
        refine ⟨u',r',?_⟩
        rcases q with q | ⟨k,c',e,z'⟩
        · exact .inl q
        · refine .inr ⟨k,c',e,z'.sameBut hs ?_⟩
          rintro rfl
          exact hj (qf7 hN e1 (I.ok.inj _ _ _ e hc ▸ hi))
    · by_cases hcc:c'=c
      · subst hcc;exact ⟨_,hc'⟩
      · obtain ⟨w2,z2⟩:=I.cell y c' e
        exact ⟨w2,z2.sameBut hs hcc⟩
    · obtain ⟨e,n,ne,nf,d⟩:=I.pin p hp
      refine ⟨(hs.2 p.1 ?_).trans e,n,ne,nf,d⟩
      intro q
      rw [q,hoc] at e
      have q':oc=p.2:=Option.some.inj e
      exact d w' (by rw [← q'];exact hocd)
theorem qey {M:Model} {A:Around} {E:Value→Shared→Prop} {i:Nat} {x:Str} {v:V} {u:Value} {Q:Unit→Shared→Prop} (I:Inv X pins σ H s) (hN:X.N.Nodup) (hi:X.N[i]?=some x) (hx:Loc X.env.scope x) (r:RelV v u)
    (h:∀ s',Inv X pins (σ.set i (some v)) H s'→Q () s') (hf:X.fn x=true∨X.env.scope.names.lookup x=some .local:=by first | exact .inl rfl | exact .inr rfl | assumption):wpAny M A (storeName X.env x u) Q E s :=
  qdN I hN hi hx r (fun s' I' _=>h s' I') hf
theorem Inv.call' {s':Shared} {ch:List Addr} (I:Inv X pins σ H s) (ho:s'.os=s.os) (u:Un (frs X.stack) ch H H' s.heap s'.heap) (hok:HOk X.prog X.w H' s'.heap) (hg:AllBare s'.gens)
    (hch:∀ b∈ch,(b∈X.ex∨X.s₀.heap.objs.size≤b)∧b≠X.env.locals∧(∀ x c,X.env.cells.lookup x=some c→c≠b)∧∀ p∈X.pn++pins,p.1≠b):Inv X pins σ H' s':=by
  obtain ⟨h',g',d',t',o'⟩:=s'
  have e:o'=s.os:=ho
  subst e
  exact I.call (g':=g') (t':=t') (d':=d') u hok hg hch
end
abbrev XK:=Value→Option Addr→Hp→Prop
abbrev St:=List (Option V)
abbrev VK:=V→Hp→Prop
abbrev TE:=St→Hp→VK→Prop
abbrev TT:=St→Hp→(Bool→Hp→Prop)→Prop
abbrev TA:=St→Hp→(List V→Hp→Prop)→Prop
structure Ends where
  nx:St→Hp→Prop
  rt:VK
  bk:St→Hp→Prop:=fun _ _=>False
  ct:St→Hp→Prop:=fun _ _=>False
abbrev TS:=Ends→St→Hp→Prop
def EP (X:Cx) (pins:List (Addr × Obj)) (σ:St) (Q:VK) (u:Value) (s':Shared):Prop:=∃ v H',Inv X pins σ H' s'∧RelV v u∧Q v H'
def TP (X:Cx) (pins:List (Addr × Obj)) (σ:St) (Q:Bool→Hp→Prop) (b:Bool) (s':Shared):Prop:=∃ H',Inv X pins σ H' s'∧Q b H'
def AP (X:Cx) (pins:List (Addr × Obj)) (σ:St) (Q:List V→Hp→Prop) (us:List Value) (s':Shared):Prop:=∃ vs H',Inv X pins σ H' s'∧Vals vs us∧Q vs H'
def SP (X:Cx) (pins:List (Addr × Obj)) (D:Ends) (f:Flow) (s':Shared):Prop :=
  match f with
  | .next=>∃ σ' H',Inv X pins σ' H' s'∧D.nx σ' H'
  | .brk=>∃ σ' H',Inv X pins σ' H' s'∧D.bk σ' H'
  | .cont=>∃ σ' H',Inv X pins σ' H' s'∧D.ct σ' H'
  | .ret u=>∃ v σ' H',Inv X pins σ' H' s'∧RelV v u∧D.rt v H'
def PE (X:Cx) (e:Expr) (t:TE):Prop :=
  ∀ (pins:List (Addr × Obj)) (s:Shared) (σ:St) (H:Hp) (Q:VK),Inv X pins σ H s→t σ H Q→wpAny (model X.prog X.w) X.A (eval e X.env) (EP X pins σ Q) X.xe s
def PT (X:Cx) (e:Expr) (t:TT):Prop :=
  ∀ (pins:List (Addr × Obj)) (s:Shared) (σ:St) (H:Hp) (Q:Bool→Hp→Prop),Inv X pins σ H s→t σ H Q→wpAny (model X.prog X.w) X.A (isTrue e X.env (eval e X.env)) (TP X pins σ Q) X.xe s
def PW (X:Cx) (e:Expr) (t:TT):Prop :=
  ∀ (whole:Sem Value) (pins:List (Addr × Obj)) (s:Shared) (σ:St) (H:Hp) (Q:Bool→Hp→Prop),Inv X pins σ H s→t σ H Q→wpAny (model X.prog X.w) X.A (isTrue e X.env whole) (TP X pins σ Q) X.xe s
theorem PW.pt {X:Cx} {e:Expr} {t:TT} (h:PW X e t):PT X e t:=h _
def PA (X:Cx) (es:List Expr) (t:TA):Prop :=
  ∀ (pos:Pos) (pins:List (Addr × Obj)) (s:Shared) (σ:St) (H:Hp) (Q:List V→Hp→Prop),Inv X pins σ H s→t σ H Q→wpAny (model X.prog X.w) X.A (spliced (backTo pos (starEach es X.env))) (AP X pins σ Q) X.xe s
def PS (X:Cx) (st:Stmt) (t:TS):Prop :=
  ∀ (pins:List (Addr × Obj)) (s:Shared) (σ:St) (H:Hp) (D:Ends),Inv X pins σ H s→t D σ H→wpAny (model X.prog X.w) X.A (exec st X.env) (SP X pins D) X.xe s
def PSs (X:Cx) (st:List Stmt) (t:TS):Prop :=
  ∀ (pins:List (Addr × Obj)) (s:Shared) (σ:St) (H:Hp) (D:Ends),Inv X pins σ H s→t D σ H→wpAny (model X.prog X.w) X.A (execs st X.env) (SP X pins D) X.xe s
theorem thn {α:Type} {t:Sem α} {Q Q':α→Shared→Prop} {M:Model} {A:Around} {E:Value→Shared→Prop} {s:Shared} (h:wpAny M A t Q E s) (hQ:∀ a s,Q a s→Q' a s):wpAny M A t Q' E s:=wpAny_mono h hQ fun _ _ x=>x
section
variable {X : Cx}
def qkM (i:Nat):TE:=fun σ H Q=>∃ v,σ[i]?=some (some v)∧Q v H
def tC (v:V):TE:=fun _ H Q=>Q v H
theorem qhu {i:Nat} {x:Str} {pos:Pos} (hN:X.N[i]?=some x) (hv:Vis X.env.scope x) (hd:(x == ("__debug__":Str))=false:=by decide) (hcd:(x == ("__classdict__":Str))=false:=by decide):PE X (.Name x pos) (qkM i):=by
  intro pins s σ H Q I h
  obtain ⟨v,e,h⟩:=h
  obtain ⟨m,hn,hl⟩:=I.loc
  obtain ⟨u,r,l⟩:=hl i x v hN e hv
  have fin:EP X pins σ Q u s:=⟨v,H,I,r,h⟩
  rcases l with ⟨hk,hm⟩ | ⟨hk,c,hc,hcell⟩
  · exact wpAny_Name (wpAny_loadName_local I.ok.kind hk hn hm fin) hd
  · rcases hk with hk | hk
    · exact wpAny_Name (wpAny_loadName_cell I.ok.kind hk hc hcell fin) hd
    · exact wpAny_Name (wpAny_loadName_free I.ok.kind hk hc hcell fin hcd) hd
theorem qmL {i j pos}:PE X (.Constant (.int i) j pos) (tC (.int i)):=fun _ _ _ H _ I h=>wpAny_Constant_int ⟨.int i,H,I.tok _,⟨_,rfl⟩,h⟩
theorem qou {b j pos}:PE X (.Constant (.bool b) j pos) (tC (.bl b)):=fun _ _ _ H _ I h=>Constant_bool ⟨.bl b,H,I,rfl,h⟩
theorem qnn {j pos}:PE X (.Constant .none j pos) (tC .non):=fun _ _ _ H _ I h=>Constant_none ⟨.non,H,I,rfl,h⟩
theorem qlK {x j pos}:PE X (.Constant (.str x) j pos) (tC (.str x)):=fun _ _ _ H _ I h=>Calls.Constant_str ⟨.str x,H,I.tok _,⟨_,rfl⟩,h⟩
def Gl (X:Cx) (x:Str):Prop:=X.env.kindOf x=some .globalImplicit
theorem qcn {E:Value→Shared→Prop} {pins:List (Addr × Obj)} {s:Shared} {σ:St} {H:Hp} {x:Str} {u:Value} {pos:Pos} {Q:Value→Shared→Prop} (I:Inv X pins σ H s) (hg:Gl X x) (hm:X.mg x=some u) (h:Q u s)
    (hd:(x == ("__debug__":Str))=false:=by decide):wpAny (model X.prog X.w) X.A (eval (.Name x pos) X.env) Q E s :=
  Calls.Name_function_global I.ok.kind hg (Calls.loadGlobal_global (by rw [I.ok.glob];exact I.mod.glob.keeps I.bk) hm h) hd
theorem qdq {E:Value→Shared→Prop} {pins:List (Addr × Obj)} {s:Shared} {σ:St} {H:Hp} {x:Str} {u:Value} {pos:Pos} {Q:Value→Shared→Prop} (I:Inv X pins σ H s) (hg:Gl X x) (hm:X.mg x=none) (hv:bootBuiltins x=some u) (h:Q u s)
    (hn:x≠"__name__":=by decide) (hd:(x == ("__debug__":Str))=false:=by decide):wpAny (model X.prog X.w) X.A (eval (.Name x pos) X.env) Q E s:=by
  obtain ⟨mb,h1,h2⟩:=I.mod.blt
  exact Calls.Name_function_global I.ok.kind hg (Calls.loadGlobal_builtin (by rw [I.ok.glob];exact I.mod.glob.keeps I.bk) hm (by rw [I.ok.blt];exact h1.keeps I.bk) ((h2 x hn).trans hv) h) hd
theorem qhH {x:Str} {v:V} {u:Value} {pos:Pos} (hg:Gl X x) (hm:X.mg x=some u) (r:RelV v u) (hd:(x == ("__debug__":Str))=false:=by decide):PE X (.Name x pos) (tC v) :=
  fun _ _ _ H _ I h=>qcn I hg hm ⟨v,H,I,r,h⟩ hd
theorem qcQ {x:Str} {v:V} {u:Value} {pos:Pos} (hg:Gl X x) (hm:X.mg x=none) (hv:bootBuiltins x=some u) (r:RelV v u) (hn:x≠"__name__":=by decide) (hd:(x == ("__debug__":Str))=false:=by decide):PE X (.Name x pos) (tC v) :=
  fun _ _ _ H _ I h=>qdq I hg hm hv ⟨v,H,I,r,h⟩ hn hd
variable {a b : Expr} {ta tb : TE} {pos : Pos}
def PC (X:Cx) (op:CmpOp) (a b:Expr) (t:TE):Prop :=
  ∀ (pins:List (Addr × Obj)) (s:Shared) (σ:St) (H:Hp) (Q:VK),Inv X pins σ H s→t σ H Q →
    wpAny (model X.prog X.w) X.A (eval a X.env) (fun v s₁=>wpAny (model X.prog X.w) X.A (eval b X.env) (fun u s₂=>wpAny (model X.prog X.w) X.A (compareOp op v u) (EP X pins σ Q) X.xe s₂) X.xe s₁) X.xe s
def tB (t:TE):TT:=fun σ H Q=>t σ H fun x H1=>∃ c,x=.bl c∧Q c H1
theorem qjS {op:CmpOp} {t:TE} (h:PC X op a b t) (h1:behindInMarks op b=false:=by first | exact nobehind _ (by decide) (by decide) | rfl):PT X (.Compare a [op] [b] pos) (tB t):=by
  intro pins s σ H Q I hw
  refine wpAny_isTrue_Compare1 (thn (h pins s σ H _ I hw) fun v s1 h1=>thn h1 fun u s2 h2=>thn h2 fun c s3 hq0=>?_) h1
  obtain ⟨x,H1,I1,r1,q1⟩:=hq0
  obtain ⟨d,rfl,q⟩:=q1
  cases r1
  exact wpAny_truthy_bool ⟨H1,I1,q⟩
variable {tA tB' : TT} {rest : List Expr}
def qpi (t u:TT):TT:=fun σ H Q=>t σ H fun c H1=>if c=true then u σ H1 Q else Q false H1
def tOr (t u:TT):TT:=fun σ H Q=>t σ H fun c H1=>if c=true then Q true H1 else u σ H1 Q
def qpX (t:TT):TT:=fun σ H Q=>t σ H fun c H1=>Q (!c) H1
theorem qk3 (ha:PT X a tA):PW X (.BoolOp .And [a] pos) tA:=by
  intro wh pins s σ H Q I h
  refine isTrue_and (thn (ha pins s σ H Q I h) fun c s1 e=>?_)
  cases c with
  | true=>exact isTrue_and_nil e
  | false=>exact e
theorem qmE (ha:PT X a tA):PW X (.BoolOp .Or [a] pos) tA:=by
  intro wh pins s σ H Q I h
  refine isTrue_or (thn (ha pins s σ H Q I h) fun c s1 e=>?_)
  cases c with
  | false=>exact isTrue_or_nil e
  | true=>exact e
theorem qmT (ha:PT X a tA) (hb:PW X (.BoolOp .And (b::rest) pos) tB'):PW X (.BoolOp .And (a::b::rest) pos) (qpi tA tB'):=by
  intro wh pins s σ H Q I h
  refine isTrue_and (thn (ha pins s σ H _ I h) fun c s1 hq0=>?_)
  obtain ⟨H1,I1,q1⟩:=hq0
  cases c with
  | true=>exact hb wh pins s1 σ H1 Q I1 q1
  | false=>exact ⟨H1,I1,q1⟩
theorem qnU (ha:PT X a tA) (hb:PW X (.BoolOp .Or (b::rest) pos) tB'):PW X (.BoolOp .Or (a::b::rest) pos) (tOr tA tB'):=by
  intro wh pins s σ H Q I h
  refine isTrue_or (thn (ha pins s σ H _ I h) fun c s1 hq0=>?_)
  obtain ⟨H1,I1,q1⟩:=hq0
  cases c with
  | true=>exact ⟨H1,I1,q1⟩
  | false=>exact hb wh pins s1 σ H1 Q I1 q1
theorem qlB (ha:PT X a tA):PT X (.UnaryOp .Not a pos) (qpX tA):=by
  intro pins s σ H Q I h
  exact isTrue_not (ha pins s σ H (fun c H1=>Q (!c) H1) I h)
def qnM (ta tb:TE):TE:=fun σ H Q=>ta σ H fun x H1=>∃ c,x=.bl c∧if c=true then tb σ H1 Q else Q (.bl false) H1
def qod (ta:TE):TE:=fun σ H Q=>ta σ H fun x H1=>∃ c,x=.bl c∧Q (.bl (!c)) H1
theorem qm8 {op} {t:TE} (h:PE X a t):PE X (.BoolOp op [a] pos) t:=fun pins s σ H Q I hw=>BoolOp_one (h pins s σ H Q I hw)
theorem qlA (ha:PE X a ta) (hb:PE X (.BoolOp .And (b::rest) pos) tb):PE X (.BoolOp .And (a::b::rest) pos) (qnM ta tb):=by
  intro pins s σ H Q I h
  refine BoolOp_and (thn (ha pins s σ H _ I h) fun v s1 hq0=>?_)
  obtain ⟨x,H1,I1,r1,q1⟩:=hq0
  obtain ⟨c,rfl,q1⟩:=q1
  cases r1
  refine wpAny_truthy_bool ?_
  cases c with
  | true=>exact hb pins s1 σ H1 Q I1 q1
  | false=>exact ⟨.bl false,H1,I1,rfl,q1⟩
theorem qmy (ha:PE X a ta):PE X (.UnaryOp .Not a pos) (qod ta):=by
  intro pins s σ H Q I h
  refine UnaryOp_ (thn (ha pins s σ H _ I h) fun v s1 hq0=>?_)
  obtain ⟨x,H1,I1,r1,q1⟩:=hq0
  obtain ⟨c,rfl,q1⟩:=q1
  cases r1
  exact not_of (wpAny_truthy_bool ⟨.bl (!c),H1,I1,rfl,q1⟩)
end
def SqL (K:PySem.W.Frag) (H:Hp) (a:Addr) (xs:List V):Prop :=
  Rd H a (.lst xs) ∨
    ∃ (o:Obj) (its:Array Value) (n:Nat),K.lookup a=some o∧o.cls=.type "list"∧o.dict=none∧o.data=.seq its n∧its.size≤sizeLine∧Vals xs its.toList
def SqT (K:PySem.W.Frag) (H:Hp) (a:Addr) (xs:List V):Prop :=
  Rd H a (.tup xs) ∨
    ∃ (o:Obj) (its:Array Value) (n:Nat),K.lookup a=some o∧o.cls=.type "tuple"∧o.data=.seq its n∧its.size≤sizeLine∧Vals xs its.toList
def qpw:Value→Option V
  | .none=>some .non
  | .bool b=>some (.bl b)
  | .int i _=>some (.int i)
  | .str x _=>some (.str x)
  | .bytes b _=>some (.byt b)
  | .float b _=>some (.flt b)
  | .ref a=>some (.ref a)
  | .type n=>some (.ty n)
  | _=>none
theorem RelV.abs {x:V} {u:Value} (r:RelV x u):qpw u=some x:=by
  cases x with
  | non=>cases r;rfl
  | bl _=>cases r;rfl
  | int _=>obtain ⟨t,rfl⟩:=r;rfl
  | str _=>obtain ⟨t,rfl⟩:=r;rfl
  | byt _=>obtain ⟨t,rfl⟩:=r;rfl
  | flt _=>obtain ⟨t,rfl⟩:=r;rfl
  | ref _=>cases r;rfl
  | ty _=>cases r;rfl
theorem RelV.inj {x y:V} {u:Value} (r:RelV x u) (q:RelV y u):x=y:=Option.some.inj (r.abs.symm.trans q.abs)
theorem Vals.inj:∀ {xs ys:List V} {us:List Value},Vals xs us→Vals ys us→xs=ys
  | _,_,_,.nil,.nil=>rfl
  | _,_,_,.cons r t,.cons r' t'=>by rw [r.inj r',Vals.inj t t']
section
variable {X : Cx} {pins : List (Addr × Obj)} {σ : St} {H : Hp} {s : Shared} {a : Addr} {xs ys : List V}
theorem SqL.of {K:PySem.W.Frag} (h:H a=some (.lst xs)):SqL K H a xs:=.inl (.inl h)
theorem SqT.of {K:PySem.W.Frag} (h:H a=some (.tup xs)):SqT K H a xs:=.inl (.inl h)
theorem Inv.list (I:Inv X pins σ H s) (h:SqL X.K H a xs):∃ its:List Value,Vals xs its∧PlainL s.heap a its.toArray∧xs.length≤sizeLine:=by
  rcases h with h | ⟨o,its,n,hk,hc,hd,hs,hz,r⟩
  · obtain ⟨z,its,n,r,e⟩:=h.ok I.hok
    exact ⟨its,r,⟨_,n,e,rfl,rfl,rfl⟩,z⟩
  · refine ⟨its.toList,r,⟨o,n,I.kIn a o hk,hc,hd,by simpa using hs⟩,?_⟩
    have e:=r.length
    simp only [Array.length_toList] at e
    omega
theorem Inv.tuple (I:Inv X pins σ H s) (h:SqT X.K H a xs):∃ its:List Value,Vals xs its∧IsTup s.heap a its.toArray∧xs.length≤sizeLine:=by
  rcases h with h | ⟨o,its,n,hk,hc,hs,hz,r⟩
  · obtain ⟨z,its,r,p⟩:=h.ok I.hok
    exact ⟨its,r,p.tup,z⟩
  · refine ⟨its.toList,r,⟨o,I.kIn a o hk,hc,n,by simpa using hs⟩,?_⟩
    have e:=r.length
    simp only [Array.length_toList] at e
    omega
theorem Inv.list_inj (I:Inv X pins σ H s) (h:SqL X.K H a xs) (h':SqL X.K H a ys):xs=ys:=by
  obtain ⟨its,r,⟨o,n,e,_,_,d⟩,_⟩:=I.list h
  obtain ⟨its',r',⟨o',n',e',_,_,d'⟩,_⟩:=I.list h'
  rw [e] at e';cases e'
  rw [d] at d'
  injection d' with d1 _
  have:its=its':=by simpa using congrArg Array.toList d1
  subst this
  exact r.inj r'
theorem Inv.tuple_inj (I:Inv X pins σ H s) (h:SqT X.K H a xs) (h':SqT X.K H a ys):xs=ys:=by
  obtain ⟨its,r,⟨o,e,_,n,d⟩,_⟩:=I.tuple h
  obtain ⟨its',r',⟨o',e',_,n',d'⟩,_⟩:=I.tuple h'
  rw [e] at e';cases e'
  rw [d] at d'
  injection d' with d1 _
  have:its=its':=by simpa using congrArg Array.toList d1
  subst this
  exact r.inj r'
end
abbrev Cx.wish (X:Cx) (E:Value→Shared→Prop):Cx:={ X with xe:=E }
abbrev Cx.nox (X:Cx):Cx:=X.wish fun _ _=>False
theorem Cx.Ok.wish {X:Cx} (ok:X.Ok) (E:Value→Shared→Prop):(X.wish E).Ok :=
  ⟨ok.mod,ok.kind,ok.glob,ok.blt,ok.above,ok.inj,ok.has,ok.cab,ok.hd,ok.frames,ok.stk,ok.exf,ok.bs,ok.bsz,ok.noex,ok.exfs,ok.funs,ok.frf⟩
theorem Cx.Ok.unwish {X:Cx} {E:Value→Shared→Prop} (ok:(X.wish E).Ok):X.Ok :=
  ⟨ok.mod,ok.kind,ok.glob,ok.blt,ok.above,ok.inj,ok.has,ok.cab,ok.hd,ok.frames,ok.stk,ok.exf,ok.bs,ok.bsz,ok.noex,ok.exfs,ok.funs,ok.frf⟩
section
variable {X : Cx} {pins : List (Addr × Obj)} {σ : St} {H : Hp} {s : Shared} {E : Value → Shared → Prop}
theorem Inv.wish (I:Inv X pins σ H s) (E:Value→Shared→Prop):Inv (X.wish E) pins σ H s:=⟨I.ok.wish E,I.os,I.bare,I.base,I.loc,I.cell,I.free,I.freeC,I.pin,I.hok,I.len⟩
theorem Inv.unwish (I:Inv (X.wish E) pins σ H s):Inv X pins σ H s:=⟨I.ok.unwish,I.os,I.bare,I.base,I.loc,I.cell,I.free,I.freeC,I.pin,I.hok,I.len⟩
theorem SP.unwish {D:Ends} {f:Flow} {s':Shared} (h:SP (X.wish E) pins D f s'):SP X pins D f s':=by
  cases f with
  | next=>obtain ⟨σ',H',I,q⟩:=h;exact ⟨σ',H',I.unwish,q⟩
  | brk=>obtain ⟨σ',H',I,q⟩:=h;exact ⟨σ',H',I.unwish,q⟩
  | cont=>obtain ⟨σ',H',I,q⟩:=h;exact ⟨σ',H',I.unwish,q⟩
  | ret u=>obtain ⟨v,σ',H',I,r,q⟩:=h;exact ⟨v,σ',H',I.unwish,r,q⟩
theorem PSs.nox {st:List Stmt} {t:TS} (h:PSs X.nox st t):PSs X st t:=fun pins s σ H D I hw =>
  wpAny_mono (h pins s σ H D (I.wish _) hw) (fun _ _ q=>q.unwish) fun _ _ z=>False.elim z
end
section
variable {X : Cx} {st : Stmt} {rest : List Stmt} {t u : TS} {e : Expr} {te : TE} {pos : Pos}
def qnT:TS:=fun D σ H=>D.nx σ H
def qpP (t u:TS):TS:=fun D σ H=>t { D with nx:=u D } σ H
theorem pss_nil:PSs X [] qnT:=fun _ _ σ H _ I h=>wpAny_execs_nil ⟨σ,H,I,h⟩
theorem qdf (h1:PS X st t) (h2:PSs X rest u):PSs X (st::rest) (qpP t u):=by
  intro pins s σ H D I h
  refine wpAny_execs_cons (thn (h1 pins s σ H { D with nx:=u D } I h) fun f s1 q=>?_)
  cases f with
  | next =>
    obtain ⟨σ',H',I',q⟩:=q
    exact h2 pins s1 σ' H' D I' q
  | ret v=>exact q
  | brk=>exact q
  | cont=>exact q
theorem qfS (h1:PS X st t):PSs X [st] t:=by
  intro pins s σ H D I h
  refine wpAny_execs_cons (thn (h1 pins s σ H D I h) fun f s1 q=>?_)
  cases f with
  | next=>exact wpAny_execs_nil q
  | ret v=>exact q
  | brk=>exact q
  | cont=>exact q
theorem Inv.quiet {pins:List (Addr × Obj)} {σ:St} {H:Hp} {s:Shared} (I:Inv X pins σ H s):interactive X.env=false:=by simp [interactive,I.ok.kind]
def qnF (te:TE):TS:=fun D σ H=>te σ H fun _ H1=>D.nx σ H1
theorem qev (he:PE X e te) (hs:swapsWith e none pos.line X.env=pure false:=by rfl):PS X (.Expr e pos) (qnF te):=by
  intro pins s σ H D I h
  exact wpAny_Expr_any (thn (he pins s σ H _ I h) fun v s1 hq0=>by obtain ⟨x,H1,I1,r1,q1⟩:=hq0;exact ⟨σ,H1,I1,q1⟩) I.quiet hs
def qpM (te:TE):TS:=fun D σ H=>te σ H D.rt
theorem qjW (he:PE X e te):PS X (.Return (some e) pos) (qpM te):=by
  intro pins s σ H D I h
  exact wpAny_Return_some (thn (he pins s σ H _ I h) fun v s1 hq0=>by obtain ⟨x,H1,I1,r1,q1⟩:=hq0;exact ⟨x,σ,H1,I1,r1,q1⟩)
def qpx (c:TT) (t u:TS):TS:=fun D σ H=>c σ H fun b H1=>if b=true then t D σ H1 else u D σ H1
theorem qmN {c:Expr} {a b:List Stmt} {tc:TT} (hc:PT X c tc) (ha:PSs X a t) (hb:PSs X b u):PS X (.If c a b pos) (qpx tc t u):=by
  intro pins s σ H D I h
  refine wpAny_If (thn (hc pins s σ H _ I h) fun d s1 hq0=>?_)
  obtain ⟨H1,I1,q1⟩:=hq0
  cases d with
  | true=>exact ha pins s1 σ H1 D I1 q1
  | false=>exact hb pins s1 σ H1 D I1 q1
def qme:TS:=fun _ _ _=>False
theorem ps_never:PS X st qme:=fun _ _ _ _ _ _ h=>h.elim
end
abbrev TG:=V→St→Hp→(St→Hp→Prop)→Prop
abbrev TGs:=List V→St→Hp→(St→Hp→Prop)→Prop
def PG (X:Cx) (target:Expr) (t:TG):Prop :=
  ∀ (pins:List (Addr × Obj)) (s:Shared) (σ:St) (H:Hp) (v:V) (u:Value) (Q:St→Hp→Prop),Inv X pins σ H s→RelV v u→t v σ H Q →
    wpAny (model X.prog X.w) X.A (assign target X.env u) (fun _ s'=>∃ σ' H',Inv X pins σ' H' s'∧Q σ' H') X.xe s
def PGs (X:Cx) (ts:List Expr) (t:TGs):Prop :=
  ∀ (pins:List (Addr × Obj)) (s:Shared) (σ:St) (H:Hp) (vs:List V) (us:List Value) (Q:St→Hp→Prop),Inv X pins σ H s→Vals vs us→t vs σ H Q →
    wpAny (model X.prog X.w) X.A (assignInOrder ((assignEach ts X.env).map (·.2)) us) (fun _ s'=>∃ σ' H',Inv X pins σ' H' s'∧Q σ' H') X.xe s
abbrev qok:=V→V→V→Hp→(Hp→Prop)→Prop
def qoX (X:Cx) (t:qok):Prop :=
  ∀ (pins:List (Addr × Obj)) (s:Shared) (σ:St) (H:Hp) (o i v:V) (ov iv u:Value) (Q:Hp→Prop),Inv X pins σ H s→RelV o ov→RelV i iv→RelV v u→t o i v H Q →
    wpAny (model X.prog X.w) X.A (setItem ov iv u) (fun _ s'=>∃ H',Inv X pins σ H' s'∧Q H') X.xe s
section
variable {X : Cx} {pos : Pos}
def qfN (i:Nat):TG:=fun v σ H Q=>Q (σ.set i (some v)) H
theorem qih {i:Nat} {x:Str} (hN:X.N.Nodup) (hi:X.N[i]?=some x) (hx:Loc X.env.scope x) (hf:X.fn x=true∨X.env.scope.names.lookup x=some .local:=by first | exact .inl rfl | exact .inr rfl | assumption):PG X (.Name x pos) (qfN i):=by
  intro pins s σ H v u Q I r h
  exact wpAny_assign_Name (qey I hN hi hx r (fun s' I'=>⟨_,H,I',h⟩) hf)
def qo8:TGs:=fun vs σ H Q=>vs=[]∧Q σ H
def qn1 (t:TG) (u:TGs):TGs:=fun vs σ H Q=>∃ v r,vs=v::r∧t v σ H fun σ' H'=>u r σ' H' Q
theorem pgs_nil:PGs X [] qo8:=by
  intro pins s σ H vs us Q I r h
  obtain ⟨e,h⟩:=h
  subst e
  cases r
  exact assignInOrder_nil ⟨σ,H,I,h⟩
theorem qgg {e:Expr} {es:List Expr} {t:TG} {u:TGs} (h1:PG X e t) (h2:PGs X es u)
    (hs:(assignEach (e::es) X.env).map (·.2)=assign e X.env::(assignEach es X.env).map (·.2):=by rfl):PGs X (e::es) (qn1 t u):=by
  intro pins s σ H vs us Q I r h
  obtain ⟨v,vr,e1,h⟩:=h
  subst e1
  cases r with
  | cons r rr =>
    rw [hs]
    refine assignInOrder_cons (thn (h1 pins s σ H _ _ _ I r h) fun _ s1 hq0=>?_)
    obtain ⟨σ1,H1,I1,q1⟩:=hq0
    exact h2 pins s1 σ1 H1 _ _ Q I1 rr q1
def qn4 (K:PySem.W.Frag) (n:Nat) (t:TGs):TG:=fun v σ H Q=>∃ a xs,v=.ref a∧SqT K H a xs∧xs.length=n∧t xs σ H Q
theorem qms {es:List Expr} {k:Nat} {t:TGs} {n:Nat} (hc:X.calm=true) (h:PGs X es t)
    (hn:(assignEach es X.env).length=n:=by rfl) (hst:(assignEach es X.env).findIdx? (·.1)=none:=by rfl):PG X (.Tuple es k pos) (qn4 X.K n t):=by
  intro pins s σ H v u Q I r hw
  obtain ⟨a,xs,e1,hq,hl,hw⟩:=hw
  subst e1
  cases r
  obtain ⟨its,rv,ht,hz⟩:=I.tuple hq
  refine assign_Tuple_tuple (I.ok.hd hc) ht (by simp [hn,← hl,rv.length]) hst fun h' hx=>?_
  have I1:Inv X pins σ H { s with heap:=h' }:=I.kept (t':=s.toks) fun b o e=>hx b o (Nat.ne_of_lt (Heap.lt_size e)) e
  exact h pins _ σ H xs _ Q I1 (by simpa using rv) hw
def qpI (to ti:TE) (t:qok):TG:=fun v σ H Q=>to σ H fun o H1=>ti σ H1 fun i H2=>t o i v H2 fun H3=>Q σ H3
theorem qmC {o i:Expr} {to ti:TE} {t:qok} (ho:PE X o to) (hi:PE X i ti) (hs:qoX X t)
    (ha:∀ v,assign (.Subscript o i pos) X.env v=(do
      let ov ← holding [v] (eval o X.env)
      let iv ← holding [v,ov] (eval i X.env)
      standAt pos
      holding [v,ov,iv] (setItem ov iv v)
      release [v,ov,iv] []):=by intro _;rfl):PG X (.Subscript o i pos) (qpI to ti t):=by
  intro pins s σ H v u Q I r h
  rw [ha]
  refine wpAny_bind (wpAny_holding (thn (ho pins s σ H _ I h) fun ov s1 hq0=>?_))
  obtain ⟨x,H1,I1,r1,q1⟩:=hq0
  refine wpAny_bind (wpAny_holding (thn (hi pins s1 σ H1 _ I1 q1) fun iv s2 hq1=>?_))
  obtain ⟨y,H2,I2,r2,q2⟩:=hq1
  refine wpAny_bind (wpAny_standAt (wpAny_bind (wpAny_holding (thn (hs pins s2 σ H2 x y v ov iv u _ I2 r1 r2 r q2) fun _ s3 hq2=>?_))))
  obtain ⟨H3,I3,q3⟩:=hq2
  exact wpAny_release ⟨σ,H3,I3,q3⟩
def qlx (te:TE) (g:TG):TS:=fun D σ H=>te σ H fun x H1=>g x σ H1 D.nx
theorem qjT {tg e:Expr} {te:TE} {g:TG} (he:PE X e te) (hg:PG X tg g) (hs:swapsWithSole [tg] e pos.line X.env=pure false:=by rfl) (hw:swappedStores [tg] e X.env=pure none:=by rfl)
    (h1:(assignEach [tg] X.env).map (·.2)=[assign tg X.env]:=by rfl):PS X (.Assign [tg] e pos) (qlx te g):=by
  intro pins s σ H D I h
  refine wpAny_Assign_stores (thn (he pins s σ H _ I h) fun v s1 hq0=>?_) hs hw
  obtain ⟨x,H1,I1,r1,q1⟩:=hq0
  rw [h1]
  exact thn (hg pins s1 σ H1 x v _ I1 r1 q1) fun _ s2 q=>q
theorem qgi {i:Nat} {x:Str} {e:Expr} {te:TE} {pos':Pos} (hN:X.N.Nodup) (hi:X.N[i]?=some x) (hx:Loc X.env.scope x) (he:PE X e te) (hs:swapsWith e (some (.Name x pos')) pos.line X.env=pure false:=by rfl) (hf:X.fn x=true∨X.env.scope.names.lookup x=some .local:=by first | exact .inl rfl | exact .inr rfl | assumption) :
    PS X (.Assign [.Name x pos'] e pos) (qlx te (qfN i)):=by
  intro pins s σ H D I h
  refine wpAny_Assign_Name (thn (he pins s σ H _ I h) fun v s1 hq0=>?_) hs
  obtain ⟨y,H1,I1,r1,q1⟩:=hq0
  exact qey I1 hN hi hx r1 (fun s2 I2=>⟨_,H1,I2,q1⟩) hf
end
section
variable {X : Cx} {pos : Pos}
def qmJ (c:TT) (tb:TS):TS:=fun D σ H=>∃ W:Nat→St→Hp→Prop,(∃ m,W m σ H)∧∀ m σ H,W m σ H →
  c σ H fun b H1=>if b=true then ∃ N:St→Hp→Prop,(∀ σ' H',N σ' H'→∃ m',m'<m∧W m' σ' H')∧tb { D with nx:=N,ct:=N,bk:=D.nx } σ H1 else D.nx σ H1
theorem qjh {c:Expr} {body:List Stmt} {tc:TT} {tb:TS} (hp:PassesOwn (model X.prog X.w) X.A X.env X.xe) (hc:PT X c tc) (hb:PSs X body tb):PS X (.While c body [] pos) (qmJ tc tb):=by
  intro pins s σ H D I h
  obtain ⟨W,⟨m0,w0⟩,turn⟩:=h
  refine wpAny_While (codeAny_whileLoop (fun n s'=>∃ σ' H',Inv X pins σ' H' s'∧W n σ' H') ?_ m0 ⟨σ,H,I,w0⟩)
  rintro n s1 ⟨σ1,H1,I1,w1⟩
  refine wpAny_passesOwn hp (thn (hc pins s1 σ1 H1 _ I1 (turn n σ1 H1 w1)) fun b s2 hq0=>?_)
  obtain ⟨H2,I2,q2⟩:=hq0
  cases b with
  | true =>
    obtain ⟨N,hN,q2⟩:=q2
    rw [if_pos rfl]
    refine wpAny_passesOwn hp (thn (hb pins s2 σ1 H2 _ I2 q2) fun f s3 q3=>?_)
    cases f with
    | next =>
      obtain ⟨σ3,H3,I3,n3⟩:=q3
      obtain ⟨m',hm,w3⟩:=hN σ3 H3 n3
      exact ⟨m',hm,σ3,H3,I3,w3⟩
    | cont =>
      obtain ⟨σ3,H3,I3,n3⟩:=q3
      obtain ⟨m',hm,w3⟩:=hN σ3 H3 n3
      exact ⟨m',hm,σ3,H3,I3,w3⟩
    | brk=>exact q3
    | ret v=>exact q3
  | false =>
    rw [if_neg Bool.false_ne_true]
    exact wpAny_execs_nil ⟨σ1,H2,I2,q2⟩
end
structure It where
  go:Nat→Hp→Prop
  yld:Nat→Hp→V→Hp→Prop
  stop:Nat→Hp→Prop
def qeH (X:Cx) (pins:List (Addr × Obj)) (H:Hp) (b:Addr):Prop :=
  H b=none∧b≠X.env.locals∧b∉X.fs∧(b∈X.ex∨X.s₀.heap.objs.size≤b)∧(∀ x c,X.env.cells.lookup x=some c→c≠b)∧∀ p∈X.pn++pins,p.1≠b
theorem Inv.fpOk {X:Cx} {pins:List (Addr × Obj)} {σ:St} {H H':Hp} {s:Shared} {b:Addr} (I:Inv X pins σ H s) (hb:s.heap.objs.size≤b) (hn:H' b=none):qeH X pins H' b:=by
  refine ⟨hn,Nat.ne_of_gt (Nat.lt_of_lt_of_le I.lt hb),I.nofs hb,.inr (Nat.le_trans I.sz hb),fun x c e z=>?_,fun p hp z=>?_⟩
  · obtain ⟨v,q⟩:=I.cell x c e
    exact absurd (Nat.lt_of_lt_of_le q.lt (by rw [z];exact hb)) (Nat.lt_irrefl _)
  · exact absurd (Nat.lt_of_lt_of_le (Heap.lt_size (I.pin p hp).1) (by rw [z];exact hb)) (Nat.lt_irrefl _)
structure Turn (P:Program) (w:World) (K:PySem.W.Frag) (tg:Expr) (J:It) (fp:List Addr) (it:Addr) (tn:Nat→Heap→Prop):Prop where
  mem:it∈fp
  obj:∀ i h,tn i h→∀ b∈fp,∃ o,h.get? b=some o∧∀ v,o.data≠.cell v
  keep:∀ i h h',tn i h→(∀ b∈fp,∀ o,h.get? b=some o→h'.get? b=some o)→tn i h'
  item:∀ (X:Cx),X.prog=P→X.w=w→X.K=K→X.calm=true→∀ (i:Nat) (pins:List (Addr × Obj)) (s:Shared) (σ:St) (H:Hp) (E:Value→Shared→Prop),Inv X pins σ H s→(∀ b∈fp,qeH X pins H b)→tn i s.heap→J.go i H →
    wpAny (model P w) X.A (pyNext (.ref it)) (fun r s1=>∃ u,r=some u ∧
      wpAny (model P w) X.A (letOwnedTupleGo tg (.ref it) u) (fun _ s2=>∃ x H',Inv X pins σ H' s2∧RelV x u∧J.yld i H x H'∧tn (i+1) s2.heap∧∀ b∈fp,H' b=none) E s1) E s
  done:∀ (X:Cx),X.prog=P→X.w=w→X.K=K→X.calm=true→∀ (i:Nat) (pins:List (Addr × Obj)) (s:Shared) (σ:St) (H:Hp) (E:Value→Shared→Prop),Inv X pins σ H s→(∀ b∈fp,qeH X pins H b)→tn i s.heap→J.stop i H →
    wpAny (model P w) X.A (pyNext (.ref it)) (fun r s1=>r=none∧Inv X pins σ H s1) E s
  self:∀ (A:Around) (i:Nat) (s:Shared) (Q:Value→Shared→Prop) (E:Value→Shared→Prop),tn i s.heap→Q (.ref it) s→wpAny (model P w) A (pyIter (.ref it)) Q E s
abbrev TI:=St→Hp→(It→Hp→Prop)→Prop
def PIE (X:Cx) (pins:List (Addr × Obj)) (σ:St) (tg:Expr) (R:It→Hp→Prop) (itv:Value) (s2:Shared):Prop :=
  ∃ (it:Addr) (fp:List Addr) (tn:Nat→Heap→Prop) (J:It) (H':Hp),itv=.ref it∧Inv X pins σ H' s2∧Turn X.prog X.w X.K tg J fp it tn∧tn 0 s2.heap∧(∀ b∈fp,qeH X pins H' b)∧R J H'
def PI (X:Cx) (tg iter:Expr) (wi:TI):Prop :=
  ∀ (pins:List (Addr × Obj)) (s:Shared) (σ:St) (H:Hp) (R:It→Hp→Prop),Inv X pins σ H s→wi σ H R →
    wpAny (model X.prog X.w) X.A (eval iter X.env) (fun v s1=>wpAny (model X.prog X.w) X.A (pyIter v) (PIE X pins σ tg R) X.xe s1) X.xe s
theorem qll {M:Model} {A:Around} {E:Value→Shared→Prop} {s:Shared} {tg:Expr} {it:Addr} {u:Value} {o:Obj} {n:String} {vs:Array Value} {Q:Unit→Shared→Prop} (ho:s.heap.get? it=some o) (hc:o.cls=.type n) (hd:o.data=.fields vs)
    (hn:["enumerate","zip","dict_itemiterator","dict_reverseitemiterator","odict_iterator","itertools.zip_longest","itertools.pairwise"].contains n=false) (hQ:Q () s):wpAny M A (letOwnedTupleGo tg (.ref it) u) Q E s:=by
  unfold letOwnedTupleGo
  cases tg <;> first
    | exact wpAny_pure hQ
    | (cases u <;> first
        | exact wpAny_pure hQ
        | (refine wpAny_bind (wpAny_load ho ?_)
           rw [hc,hd]
           show wpAny M A (if (["enumerate","zip","dict_itemiterator","dict_reverseitemiterator","odict_iterator","itertools.zip_longest","itertools.pairwise"].contains n && vs[0]? == some (rawInt _))=true then _ else _) Q E s
           rw [if_neg (by intro h;rw [hn,Bool.false_and] at h;cases h)]
           exact wpAny_pure hQ))
def Itl (K:PySem.W.Frag) (a:Addr):It :=
  ⟨fun i H=>∃ xs x,SqL K H a xs∧xs[i]?=some x,fun i H x H'=>H'=H∧∀ xs,SqL K H a xs→xs[i]?=some x,fun i H=>∃ xs,SqL K H a xs∧xs.length≤i⟩
def Itt (K:PySem.W.Frag) (a:Addr):It :=
  ⟨fun i H=>∃ xs x,SqT K H a xs∧xs[i]?=some x,fun i H x H'=>H'=H∧∀ xs,SqT K H a xs→xs[i]?=some x,fun i H=>∃ xs,SqT K H a xs∧xs.length≤i⟩
def Itr (lo:Int) (n:Nat):It:=⟨fun i _=>i<n,fun i H x H'=>H'=H∧x=.int (lo+i),fun i _=>n≤i⟩
theorem qg8 {P:Program} {w:World} {K:PySem.W.Frag} {tg:Expr} (a it:Addr):Turn P w K tg (Itl K a) [it] it (fun i h=>h.IsListIter it a i) where
  mem:=by simp
  obj:=fun i h st b hb=>by
    have e:b=it:=by simpa using hb
    subst e
    obtain ⟨o,e,c,d⟩:=st
    exact ⟨o,e,fun v z=>by rw [d] at z;cases z⟩
  keep:=fun i h h' st k=>st.at fun o e=>k it (by simp) o e
  item:=by
    intro X hP hw hK hc i pins s σ H E I hf st hg
    subst hP hw hK
    obtain ⟨xs,x,hq,hx⟩:=hg
    obtain ⟨its,rv,p,hz⟩:=I.list hq
    obtain ⟨u,hu,ru⟩:=rv.get hx
    obtain ⟨f0,f1,f2,f3,f4,f5⟩:=hf it (by simp)
    refine wpAny_pyNext_list_item st p.isList (x:=u) (by simpa using hu) fun h' st' sb=>?_
    have I1:Inv X pins σ H { s with heap:=h' }:=I.turned (t':=s.toks) (fun b o hb e=>(sb.2 b hb).trans e) f0 f1 f3 f4 f5
    obtain ⟨o,e,c,d⟩:=id st'
    exact ⟨u,rfl,qll (s:={ s with heap:=h' }) e c d (by decide) ⟨x,H,I1,ru,⟨rfl,fun ys hy=>by rw [I.list_inj hy hq];exact hx⟩,st',fun b hb=>(hf b hb).1⟩⟩
  done:=by
    intro X hP hw hK hc i pins s σ H E I hf st hg
    subst hP hw hK
    obtain ⟨xs,hq,hx⟩:=hg
    obtain ⟨its,rv,p,hz⟩:=I.list hq
    obtain ⟨f0,f1,f2,f3,f4,f5⟩:=hf it (by simp)
    have hl:=rv.length
    exact wpAny_pyNext_list_end (I.ok.hd hc) st p.isList (by simp;omega) fun h' eb=>⟨rfl,I.turned (t':=s.toks) (fun b o hb e=>eb b o hb e) f0 f1 f3 f4 f5⟩
  self:=fun _ _ _ _ _ st h=>wpAny_pyIter_listiter st h
theorem qgE {P:Program} {w:World} {K:PySem.W.Frag} {tg:Expr} (a it:Addr):Turn P w K tg (Itt K a) [it] it (fun i h=>h.IsTupleIter it a i) where
  mem:=by simp
  obj:=fun i h st b hb=>by
    have e:b=it:=by simpa using hb
    subst e
    obtain ⟨o,e,c,d⟩:=st
    exact ⟨o,e,fun v z=>by rw [d] at z;cases z⟩
  keep:=fun i h h' st k=>st.at fun o e=>k it (by simp) o e
  item:=by
    intro X hP hw hK hc i pins s σ H E I hf st hg
    subst hP hw hK
    obtain ⟨xs,x,hq,hx⟩:=hg
    obtain ⟨its,rv,p,hz⟩:=I.tuple hq
    obtain ⟨u,hu,ru⟩:=rv.get hx
    obtain ⟨f0,f1,f2,f3,f4,f5⟩:=hf it (by simp)
    refine wpAny_pyNext_tuple_item st (show s.heap.IsTuple a its.toArray from p) (x:=u) (by simpa using hu) fun h' st' sb=>?_
    have I1:Inv X pins σ H { s with heap:=h' }:=I.turned (t':=s.toks) (fun b o hb e=>(sb.2 b hb).trans e) f0 f1 f3 f4 f5
    obtain ⟨o,e,c,d⟩:=id st'
    exact ⟨u,rfl,qll (s:={ s with heap:=h' }) e c d (by decide) ⟨x,H,I1,ru,⟨rfl,fun ys hy=>by rw [I.tuple_inj hy hq];exact hx⟩,st',fun b hb=>(hf b hb).1⟩⟩
  done:=by
    intro X hP hw hK hc i pins s σ H E I hf st hg
    subst hP hw hK
    obtain ⟨xs,hq,hx⟩:=hg
    obtain ⟨its,rv,p,hz⟩:=I.tuple hq
    obtain ⟨f0,f1,f2,f3,f4,f5⟩:=hf it (by simp)
    have hl:=rv.length
    exact wpAny_pyNext_tuple_end (I.ok.hd hc) st (show s.heap.IsTuple a its.toArray from p) (by simp;omega) fun h' eb=>⟨rfl,I.turned (t':=s.toks) (fun b o hb e=>eb b o hb e) f0 f1 f3 f4 f5⟩
  self:=fun _ _ _ _ _ st h=>wpAny_pyIter_tupleiter st h
theorem qg4 {P:Program} {w:World} {K:PySem.W.Frag} {tg:Expr} (it:Addr) (lo:Int) (n:Nat):Turn P w K tg (Itr lo n) [it] it (fun i h=>IsRangeIter h it (lo+(i:Nat)*1) ((n:Int) - (i:Nat)) 1) where
  mem:=by simp
  obj:=fun i h st b hb=>by
    have e:b=it:=by simpa using hb
    subst e
    exact ⟨_,st,fun v z=>by
      have z':Data.fields _=Data.cell v:=z
      cases z'⟩
  keep:=fun i h h' st k=>k it (by simp) _ st
  item:=by
    intro X hP hw hK hc i pins s σ H E I hf st hg
    subst hP hw hK
    obtain ⟨f0,f1,f2,f3,f4,f5⟩:=hf it (by simp)
    have W:=Walks.range (prog:=X.prog) (w:=X.w) (I.ok.hd hc) it lo 1 n
    refine W.item i s _ _ hg st fun v h' tk hv st' kk=>?_
    obtain ⟨t,rfl⟩:=hv
    have I1:Inv X pins σ H { s with heap:=h',toks:=tk }:=I.turned (fun b o hb e=>kk b o (by simpa using hb) e) f0 f1 f3 f4 f5
    refine ⟨_,rfl,qll (s:={ s with heap:=h',toks:=tk }) (n:="range_iterator") st' rfl rfl (by decide) ⟨.int (lo+i),H,I1,⟨t,?_⟩,⟨rfl,rfl⟩,st',fun b hb=>(hf b hb).1⟩⟩
    rw [Int.mul_one]
  done:=by
    intro X hP hw hK hc i pins s σ H E I hf st hg
    subst hP hw hK
    obtain ⟨f0,f1,f2,f3,f4,f5⟩:=hf it (by simp)
    exact wpAny_pyNext_range_end (I.ok.hd hc) st (by have:n≤i:=hg;omega) fun h' eb=>⟨rfl,I.turned (t':=s.toks) (fun b o hb e=>eb b o hb e) f0 f1 f3 f4 f5⟩
  self:=fun _ _ _ _ _ st h=>wpAny_pyIter_rangeiter st h
section
variable {X : Cx} {tg : Expr}
theorem qiQ {pins:List (Addr × Obj)} {σ:St} {H:Hp} {s:Shared} {R:It→Hp→Prop} {E:Value→Shared→Prop} {lo hi:Int} {t u v:Tok} {tk:Nat} (I:Inv X pins σ H s) (h1:-(2 ^ 62)≤lo) (h2:lo<2 ^ 62) (h3:-(2 ^ 62)≤hi) (h4:hi<2 ^ 62)
    (q:R (Itr lo (hi - lo).toNat) H):wpAny (model X.prog X.w) X.A (pyIter (.ref s.heap.objs.size)) (PIE X pins σ tg R) E { s with heap:=s.heap.push { cls:=.type "range",data:=.fields #[.int lo t,.int hi u,.int 1 v] },toks:=tk }:=by
  refine wpAny_pyIter_range (IsRange.new ..) (small_one h1 h2 h3 h4) ?_
  have I1:Inv X pins σ H { s with heap:=s.heap.push { cls:=.type "range",data:=.fields #[.int lo t,.int hi u,.int 1 v] },toks:=tk }:=I.kept fun b o e=>Heap.get?_push_of_some _ e
  refine ⟨(s.heap.push { cls:=.type "range",data:=.fields #[.int lo t,.int hi u,.int 1 v] }).objs.size,[(s.heap.push { cls:=.type "range",data:=.fields #[.int lo t,.int hi u,.int 1 v] }).objs.size],_,_,H,rfl,
    I1.kept (t':=tk) fun b o e=>Heap.get?_push_of_some _ e,qg4 _ lo (hi - lo).toNat,?_,fun b hb=>?_,q⟩
  · have e1:lo+((0:Nat):Int)*1=lo:=by simp
    have e2:(((hi - lo).toNat:Nat):Int) - ((0:Nat):Int)=Builtin.Range.rangeSize lo hi 1:=by rw [rangeSize_one];split <;> omega
    show IsRangeIter _ _ (lo+((0:Nat):Int)*1) ((((hi - lo).toNat:Nat):Int) - ((0:Nat):Int)) 1
    rw [e1,e2]
    exact Heap.get?_push_size _ rfl
  · have e:b=(s.heap.push { cls:=.type "range",data:=.fields #[.int lo t,.int hi u,.int 1 v] }).objs.size:=by simpa using hb
    subst e
    exact I1.fpOk (Nat.le_refl _) (I1.hok.fresh (Nat.le_refl _))
def qnN (ta:TA):TI:=fun σ H R=>ta σ H fun vs H1=>∃ j:Int,vs=[.int j]∧-(2 ^ 62)≤j∧j<2 ^ 62∧R (Itr 0 j.toNat) H1
theorem qhR {a:Expr} {ta:TA} {p pos:Pos} (hg:Gl X "range") (hm:X.mg "range"=none) (ha:PA X [a] ta) (hs:starEach [a] X.env=[(false,eval a X.env)]:=by rfl):PI X tg (.Call (.Name "range" p) [a] [] pos) (qnN ta):=by
  intro pins s σ H R I h
  refine Call_ (qdq I hg hm boot_range (PyProof.Rows.callWith_type1 (thn (ha pos pins s σ H _ I h) fun us s1 hq0=>?_) hs rfl))
  obtain ⟨vs,H1,I1,r1,q1⟩:=hq0
  obtain ⟨j,e,q1,q2,q⟩:=q1
  subst e
  cases r1 with
  | cons r rr =>
    cases rr
    obtain ⟨t,rfl⟩:=r
    exact call_range_1 (qiQ I1 (by omega) (by omega) q1 q2 (by simpa using q))
def qo6 (wi:TI) (g:TG) (tb:TS):TS:=fun D σ H=>wi σ H fun J H1=>∃ W:Nat→Nat→St→Hp→Prop,(∃ m,W 0 m σ H1)∧∀ i m σ H,W i m σ H →
  (J.stop i H∧D.nx σ H)∨(J.go i H∧∃ N:St→Hp→Prop,(∀ σ' H',N σ' H'→∃ m',m'<m∧W (i+1) m' σ' H')∧∀ x H',J.yld i H x H'→g x σ H' fun σ2 H2=>tb { D with nx:=N,ct:=N,bk:=D.nx } σ2 H2)
def qe2 (fp:List Addr) (h:Heap):List (Addr × Obj):=fp.filterMap fun b=>(h.get? b).map fun o=>(b,o)
theorem qb9 {fp:List Addr} {h:Heap} {b:Addr} {o:Obj} (hb:b∈fp) (e:h.get? b=some o):(b,o)∈qe2 fp h:=List.mem_filterMap.mpr ⟨b,hb,by rw [e];rfl⟩
theorem qhO {fp:List Addr} {h:Heap} {p:Addr × Obj} (hp:p∈qe2 fp h):p.1∈fp∧h.get? p.1=some p.2:=by
  obtain ⟨b,hb,e⟩:=List.mem_filterMap.mp hp
  cases q:h.get? b with
  | none=>rw [q] at e;cases e
  | some o =>
    rw [q] at e
    have e':(b,o)=p:=Option.some.inj e
    subst e'
    exact ⟨hb,q⟩
theorem Inv.pinned {pins:List (Addr × Obj)} {σ:St} {H:Hp} {s:Shared} {fp:List Addr} (I:Inv X pins σ H s) (hf:∀ b∈fp,qeH X pins H b) (ho:∀ b∈fp,∃ o,s.heap.get? b=some o∧∀ v,o.data≠.cell v):Inv X (pins++qe2 fp s.heap) σ H s :=
  I.pins_of fun p hp=>(List.mem_append.mp hp).elim (fun z=>I.pin p (List.mem_append_right _ z)) fun z=>by
    obtain ⟨hb,e⟩:=qhO z
    obtain ⟨f0,f1,f2,_⟩:=hf p.1 hb
    obtain ⟨o,e',d⟩:=ho p.1 hb
    rw [e] at e';cases e'
    exact ⟨e,f0,f1,f2,d⟩
theorem Inv.unpinned {pins pl:List (Addr × Obj)} {σ:St} {H:Hp} {s:Shared} (I:Inv X (pins++pl) σ H s):Inv X pins σ H s:=I.pins_of fun p hp=>I.pin p (List.mem_append_right _ (List.mem_append_left _ hp))
theorem qjZ {iter:Expr} {body:List Stmt} {wi:TI} {g:TG} {tb:TS} {pos:Pos} (hp:PassesOwn (model X.prog X.w) X.A X.env X.xe) (hc:X.calm=true) (hi:PI X tg iter wi) (hg:PG X tg g) (hb:PSs X body tb)
    (hs:∀ x,foldedSetIterable iter X.env x=pure x:=by intro _;rfl):PS X (.For tg iter body [] pos) (qo6 wi g tb):=by
  intro pins s σ H D I h
  refine wpAny_For (thn (hi pins s σ H _ I h) fun v s1 h1=>thn h1 fun itv s2 h2=>?_) hs
  obtain ⟨it,fp,tn,J,H2,e,I2,T,st2,f2,W,⟨m0,w0⟩,turn⟩:=h2
  subst e
  have stat:∀ {H':Hp},(∀ b∈fp,H' b=none)→∀ b∈fp,qeH X pins H' b:=fun hn b hb=>⟨hn b hb,(f2 b hb).2⟩
  refine codeAny_forLoop_any (fun n s'=>∃ i σ' H',Inv X pins σ' H' s'∧tn i s'.heap∧(∀ b∈fp,H' b=none)∧W i n σ' H') ?_ m0 ⟨0,σ,H2,I2,st2,fun b hb=>(f2 b hb).1,w0⟩
  rintro n s3 ⟨i,σ3,H3,I3,st3,fr3,w3⟩
  rcases turn i n σ3 H3 w3 with ⟨stop,qn⟩ | ⟨go,N,hN,step⟩
  · refine wpAny_passesOwn hp (thn (T.done X rfl rfl rfl hc i pins s3 σ3 H3 X.xe I3 (stat fr3) st3 stop) fun r s4 hq0=>?_)
    obtain ⟨hr,I4⟩:=hq0
    subst hr
    exact wpAny_execs_nil ⟨σ3,H3,I4,qn⟩
  · refine wpAny_passesOwn hp (thn (T.item X rfl rfl rfl hc i pins s3 σ3 H3 X.xe I3 (stat fr3) st3 go) fun r s4 hq1=>?_)
    obtain ⟨u,hr,h4⟩:=hq1
    subst hr
    refine wpAny_passesOwn hp (thn h4 fun _ s5 hq2=>?_)
    obtain ⟨x,H5,I5,r5,y5,st5,fr5⟩:=hq2
    have I5':=I5.pinned (stat fr5) (T.obj _ _ st5)
    refine wpAny_passesOwn hp (thn (hg _ s5 σ3 H5 x u _ I5' r5 (step x H5 y5)) fun _ s6 hq3=>?_)
    obtain ⟨σ6,H6,I6,q6⟩:=hq3
    refine wpAny_passesOwn hp (thn (hb _ s6 σ6 H6 _ I6 q6) fun f s7 q7=>?_)
    have again:∀ {σ7:St} {H7:Hp},Inv X (pins++qe2 fp s5.heap) σ7 H7 s7→N σ7 H7→∃ m,m<n∧∃ i σ' H',Inv X pins σ' H' s7∧tn i s7.heap∧(∀ b∈fp,H' b=none)∧W i m σ' H':=fun {σ7 H7} I7 n7=>by
      obtain ⟨m',hm,w7⟩:=hN σ7 H7 n7
      refine ⟨m',hm,i+1,σ7,H7,I7.unpinned,T.keep _ _ _ st5 fun b hb o e=>(I7.pin (b,o) (List.mem_append_right _ (List.mem_append_right _ (qb9 hb e)))).1,fun b hb=>?_,w7⟩
      obtain ⟨o,e,d⟩:=T.obj _ _ st5 b hb
      exact (I7.pin (b,o) (List.mem_append_right _ (List.mem_append_right _ (qb9 hb e)))).2.1
    cases f with
    | next=>obtain ⟨σ7,H7,I7,n7⟩:=q7;exact again I7 n7
    | cont=>obtain ⟨σ7,H7,I7,n7⟩:=q7;exact again I7 n7
    | brk=>obtain ⟨σ7,H7,I7,q7⟩:=q7;exact ⟨σ7,H7,I7.unpinned,q7⟩
    | ret v=>obtain ⟨x7,σ7,H7,I7,r7,q7⟩:=q7;exact ⟨x7,σ7,H7,I7.unpinned,r7,q7⟩
end
abbrev R2:=V→V→Hp→VK→Prop
def OpR (X:Cx) (f:Value→Value→Sem Value) (r:R2):Prop :=
  ∀ (pins:List (Addr × Obj)) (s:Shared) (σ:St) (H:Hp) (x y:V) (v u:Value) (Q:VK),Inv X pins σ H s→RelV x v→RelV y u→r x y H Q →
    wpAny (model X.prog X.w) X.A (f v u) (EP X pins σ Q) X.xe s
def UnR (X:Cx) (f:Value→Sem Value) (r:V→Hp→VK→Prop):Prop :=
  ∀ (pins:List (Addr × Obj)) (s:Shared) (σ:St) (H:Hp) (x:V) (v:Value) (Q:VK),Inv X pins σ H s→RelV x v→r x H Q →
    wpAny (model X.prog X.w) X.A (f v) (EP X pins σ Q) X.xe s
def qci (X:Cx) (f:Value) (r:List V→Hp→VK→Prop):Prop :=
  ∀ (pins:List (Addr × Obj)) (s:Shared) (σ:St) (H:Hp) (xs:List V) (us:List Value) (Q:VK),Inv X pins σ H s→Vals xs us→r xs H Q →
    wpAny (model X.prog X.w) X.A (call f us) (EP X pins σ Q) X.xe s
def qo5 (X:Cx) (r:V→Hp→(Bool→Hp→Prop)→Prop):Prop :=
  ∀ (pins:List (Addr × Obj)) (s:Shared) (σ:St) (H:Hp) (x:V) (v:Value) (Q:Bool→Hp→Prop),Inv X pins σ H s→RelV x v→r x H Q →
    wpAny (model X.prog X.w) X.A (truthy v) (TP X pins σ Q) X.xe s
def tOp (r:R2) (ta tb:TE):TE:=fun σ H Q=>ta σ H fun x H1=>tb σ H1 fun y H2=>r x y H2 Q
def tUn (r:V→Hp→VK→Prop) (ta:TE):TE:=fun σ H Q=>ta σ H fun x H1=>r x H1 Q
def rI (C:Int→Int→Prop) (g:Int→Int→V):R2:=fun x y H Q=>∃ i j,x=.int i∧y=.int j∧C i j∧Q (g i j) H
def rI0 (g:Int→Int→V):R2:=fun x y H Q=>∃ i j,x=.int i∧y=.int j∧Q (g i j) H
def rU (g:Int→V):V→Hp→VK→Prop:=fun x H Q=>∃ i,x=.int i∧Q (g i) H
section
variable {X : Cx} {a b c : Expr} {ta tb tc : TE} {pos : Pos}
theorem qnG (ha:PE X a ta) (hb:PE X b tb) {pins:List (Addr × Obj)} {s:Shared} {σ:St} {H:Hp} {R:V→V→Hp→Prop} (I:Inv X pins σ H s)
    (h:ta σ H fun x H1=>tb σ H1 fun y H2=>R x y H2) {Q:Value→Shared→Prop} {f:Value→Value→Sem Value}
    (hf:∀ v u s2 x y H2,Inv X pins σ H2 s2→RelV x v→RelV y u→R x y H2→wpAny (model X.prog X.w) X.A (f v u) Q X.xe s2) :
    wpAny (model X.prog X.w) X.A (eval a X.env) (fun v s₁=>wpAny (model X.prog X.w) X.A (eval b X.env) (fun u s₂=>wpAny (model X.prog X.w) X.A (f v u) Q X.xe s₂) X.xe s₁) X.xe s:=by
  refine thn (ha pins s σ H _ I h) fun v s1 hq0=>?_
  obtain ⟨x,H1,I1,r1,q1⟩:=hq0
  refine thn (hb pins s1 σ H1 _ I1 q1) fun u s2 hq1=>?_
  obtain ⟨y,H2,I2,r2,q2⟩:=hq1
  exact hf v u s2 x y H2 I2 r1 r2 q2
theorem qnV {op:Operator} {r:R2} (ho:OpR X (binaryOp op) r) (ha:PE X a ta) (hb:PE X b tb):PE X (.BinOp a op b pos) (tOp r ta tb):=by
  intro pins s σ H Q I h
  exact wpAny_BinOp (qnG ha hb I h fun v u s2 x y H2 I2 rx ry q=>ho pins s2 σ H2 x y v u Q I2 rx ry q)
theorem qnu {op:UnaryOp} {r:V→Hp→VK→Prop} (ho:UnR X (unaryOp op) r) (ha:PE X a ta):PE X (.UnaryOp op a pos) (tUn r ta):=by
  intro pins s σ H Q I h
  exact UnaryOp_ (thn (ha pins s σ H _ I h) fun v s1 hq0=>by obtain ⟨x,H1,I1,r1,q1⟩:=hq0;exact ho pins s1 σ H1 x v Q I1 r1 q1)
theorem opI {f:Value→Value→Sem Value} {C:Int→Int→Prop} {g:Int→Int→Int}
    (rule:∀ (i j:Int) (t u:Tok) (s:Shared) (Q:Value→Shared→Prop) (E:Value→Shared→Prop),C i j→Q (.int (g i j) s.toks) { s with toks:=s.toks+1 }→wpAny (model X.prog X.w) X.A (f (.int i t) (.int j u)) Q E s) :
    OpR X f (rI C fun i j=>.int (g i j)):=by
  intro pins s σ H x y v u Q I rx ry h
  obtain ⟨i,j,rfl,rfl,hc,q⟩:=h
  obtain ⟨t,rfl⟩:=rx
  obtain ⟨t',rfl⟩:=ry
  exact rule i j t t' s _ _ hc ⟨.int (g i j),H,I.tok _,⟨_,rfl⟩,q⟩
theorem qoF {f:Value→Value→Sem Value} {g:Int→Int→Int}
    (rule:∀ (i j:Int) (t u:Tok) (s:Shared) (Q:Value→Shared→Prop) (E:Value→Shared→Prop),Q (.int (g i j) s.toks) { s with toks:=s.toks+1 }→wpAny (model X.prog X.w) X.A (f (.int i t) (.int j u)) Q E s) :
    OpR X f (rI0 fun i j=>.int (g i j)):=by
  intro pins s σ H x y v u Q I rx ry h
  obtain ⟨i,j,rfl,rfl,q⟩:=h
  obtain ⟨t,rfl⟩:=rx
  obtain ⟨t',rfl⟩:=ry
  exact rule i j t t' s _ _ ⟨.int (g i j),H,I.tok _,⟨_,rfl⟩,q⟩
theorem qo0 {f:Value→Value→Sem Value} {g:Int→Int→Bool}
    (rule:∀ (i j:Int) (t u:Tok) (s:Shared) (Q:Value→Shared→Prop) (E:Value→Shared→Prop),Q (.bool (g i j)) s→wpAny (model X.prog X.w) X.A (f (.int i t) (.int j u)) Q E s) :
    OpR X f (rI0 fun i j=>.bl (g i j)):=by
  intro pins s σ H x y v u Q I rx ry h
  obtain ⟨i,j,rfl,rfl,q⟩:=h
  obtain ⟨t,rfl⟩:=rx
  obtain ⟨t',rfl⟩:=ry
  exact rule i j t t' s _ _ ⟨.bl (g i j),H,I,rfl,q⟩
def qoW (i j:Int):Prop:=0≤j∧j≤1000000∧i.natAbs<2 ^ 64
theorem qnc:OpR X (binaryOp .Add) (rI0 fun i j=>.int (i+j)):=qoF fun _ _ _ _ _ _ _ q=>add_int q
theorem qm4:OpR X (binaryOp .Sub) (rI0 fun i j=>.int (i - j)):=qoF fun _ _ _ _ _ _ _ q=>sub_int q
theorem qmG:OpR X (binaryOp .Mod) (rI (fun _ j=>0<j) fun i j=>.int (i % j)):=opI fun i j _ _ _ _ _ hc q=>by
  have h1:(0:Int)<j:=hc
  exact mod_int' (by omega) (by rw [Int.fmod_eq_emod_of_nonneg i (by omega)];exact q)
theorem qlO:OpR X (binaryOp .Pow) (rI qoW fun i j=>.int (i ^ j.toNat)):=opI fun _ _ _ _ _ _ _ hc q=>pow_int_small hc.1 hc.2.1 hc.2.2 q
theorem unI {f:Value→Sem Value} {g:Int→Int}
    (rule:∀ (i:Int) (t:Tok) (s:Shared) (Q:Value→Shared→Prop) (E:Value→Shared→Prop),Q (.int (g i) s.toks) { s with toks:=s.toks+1 }→wpAny (model X.prog X.w) X.A (f (.int i t)) Q E s) :
    UnR X f (rU fun i=>.int (g i)):=by
  intro pins s σ H x v Q I rx h
  obtain ⟨i,rfl,q⟩:=h
  obtain ⟨t,rfl⟩:=rx
  exact rule i t s _ _ ⟨.int (g i),H,I.tok _,⟨_,rfl⟩,q⟩
theorem qmr:UnR X (unaryOp .USub) (rU fun i=>.int (-i)):=unI fun _ _ _ _ _ q=>neg_int q
end
section
variable {X : Cx} {a b c : Expr} {ta tb tc : TE} {pos : Pos}
theorem qjY {pins:List (Addr × Obj)} {σ:St} {H:Hp} {s:Shared} {Q:VK} {k k':Bool} (I:Inv X pins σ H s) (q:Q (.bl k) H) (e:k=k'):EP X pins σ Q (.bool k') s:=by
  subst e
  exact ⟨.bl k,H,I,rfl,q⟩
theorem qnE:OpR X (compareOp .Lt) (rI0 fun i j=>.bl (decide (i<j))):=qo0 fun _ _ _ _ _ _ _ q=>lt_int q
theorem qof:OpR X (compareOp .Gt) (rI0 fun i j=>.bl (decide (j<i))):=qo0 fun _ _ _ _ _ _ _ q=>gt_int q
theorem qkp:OpR X (compareOp .IsNot) (fun x y H Q=>y=.non∧Q (.bl (!decide (x=.non))) H):=by
  intro pins s σ H x y v u Q I rx ry h
  obtain ⟨rfl,q⟩:=h
  cases ry
  refine isnot_none_gen (qjY I q ?_)
  cases x <;> first
    | (cases rx;rfl)
    | (obtain ⟨t,rfl⟩:=rx;rfl)
theorem qaE (b:Expr) {op:CmpOp} (h:op≠.In:=by decide) (h2:op≠.NotIn:=by decide):behindInMarks op b=false:=by
  have e1:(op == CmpOp.In)=false:=by cases op <;> first | rfl | exact absurd rfl h
  have e2:(op == CmpOp.NotIn)=false:=by cases op <;> first | rfl | exact absurd rfl h2
  cases b <;> simp [behindInMarks,e1,e2]
theorem qlk {op:CmpOp} {r:R2} (ho:OpR X (compareOp op) r) (ha:PE X a ta) (hb:PE X b tb) (hm:behindInMarks op b=false):PE X (.Compare a [op] [b] pos) (tOp r ta tb):=by
  intro pins s σ H Q I h
  exact wpAny_Compare1 (qnG ha hb I h fun v u s2 x y H2 I2 rx ry q=>ho pins s2 σ H2 x y v u Q I2 rx ry q) hm
def qni (t:TE):TT:=fun σ H Q=>t σ H fun x H'=>∃ k,x=.bl k∧Q k H'
theorem qk4 {op:CmpOp} {r:R2} (ho:OpR X (compareOp op) r) (ha:PE X a ta) (hb:PE X b tb) (hm:behindInMarks op b=false):PT X (.Compare a [op] [b] pos) (qni (tOp r ta tb)):=by
  intro pins s σ H Q I h
  refine wpAny_isTrue_Compare1 (thn (ha pins s σ H _ I h) fun v s1 ⟨x,H1,I1,r1,q1⟩=>thn (hb pins s1 σ H1 _ I1 q1) fun u s2 ⟨y,H2,I2,r2,q2⟩ =>
    thn (ho pins s2 σ H2 x y v u _ I2 r1 r2 q2) fun c s3 ⟨z,H3,I3,r3,k,e,q3⟩=>?_) hm
  subst e
  cases r3
  exact wpAny_truthy_bool ⟨H3,I3,q3⟩
def qn5 (K:PySem.W.Frag) (x:V) (H:Hp) (k:Bool):Prop :=
  match x with
  | .non=>k=false
  | .bl b=>k=b
  | .int i=>k=(i != 0)
  | .str y=>y.length≤sizeLine∧k=((y.length:Int) != 0)
  | .byt y=>y.size≤sizeLine∧k=((y.size:Int) != 0)
  | .ref p=>(∃ xs,SqL K H p xs∧k=!xs.isEmpty)∨(∃ xs,SqT K H p xs∧k=!xs.isEmpty)∨∃ kvs,H p=some (.dK kvs)∧k=!kvs.isEmpty
  | _=>False
theorem qgH {κ:Type} {kvs:List (κ × V)} {vs:List (κ × Value)} (r:KV kvs vs):(!vs.isEmpty)=!kvs.isEmpty:=by
  cases r <;> rfl
theorem qd4 {xs:List V} {its:List Value} (r:Vals xs its):(!its.toArray.isEmpty)=!xs.isEmpty:=by
  cases r <;> simp
theorem qdM:(sizeLine:Nat)<2 ^ 63:=by rw [sizeLine_eq];decide
theorem qmq:qo5 X (fun x H Q=>∃ k,qn5 X.K x H k∧Q k H):=by
  intro pins s σ H x v Q I rx h
  obtain ⟨k,e,q⟩:=h
  have hl:=qdM
  have hs:sizeLine=16777216:=sizeLine_eq
  cases x with
  | non =>
    cases rx
    have e':k=false:=e
    subst e'
    exact truthy_none ⟨H,I,q⟩
  | bl b =>
    cases rx
    have e':k=b:=e
    subst e'
    exact wpAny_truthy_bool ⟨H,I,q⟩
  | int i =>
    obtain ⟨t,rfl⟩:=rx
    have e':k=(i != 0):=e
    subst e'
    exact PySem.P.truthy_int ⟨H,I,q⟩
  | str y =>
    obtain ⟨t,rfl⟩:=rx
    obtain ⟨hy,e'⟩:y.length≤sizeLine∧k=((y.length:Int) != 0):=e
    subst e'
    exact PySem.P.truthy_str (by omega) ⟨H,I.tok _,q⟩
  | byt y =>
    obtain ⟨t,rfl⟩:=rx
    obtain ⟨hy,e'⟩:y.size≤sizeLine∧k=((y.size:Int) != 0):=e
    subst e'
    exact PySem.W.truthy_bytes (by omega) ⟨H,I.tok _,q⟩
  | ref p =>
    cases rx
    have e':(∃ xs,SqL X.K H p xs∧k=!xs.isEmpty)∨(∃ xs,SqT X.K H p xs∧k=!xs.isEmpty)∨∃ kvs,H p=some (.dK kvs)∧k=!kvs.isEmpty:=e
    rcases e' with ⟨xs,hx,e'⟩ | ⟨xs,hx,e'⟩ | ⟨kvs,hx,e'⟩
    · subst e'
      obtain ⟨its,r,pl,hz⟩:=I.list hx
      have hlen:=r.length
      exact wpAny_truthy_list pl.isList (by simp only [List.size_toArray];omega) ⟨H,I.tok _,by rw [qd4 r];exact q⟩
    · subst e'
      obtain ⟨its,r,pl,hz⟩:=I.tuple hx
      have hlen:=r.length
      exact truthy_tuple pl (by simp only [List.size_toArray];omega) ⟨H,I.tok _,by rw [qd4 r];exact q⟩
    · subst e'
      obtain ⟨hz,hS,vs,r,m⟩:kvs.length≤sizeLine∧(p == sysModules)=false∧∃ vs,KV kvs vs∧s.heap.DictOf (qaA X.prog X.w) p vs:=I.hok p _ hx
      have hlen:kvs.length=vs.length:=Paired.length r
      exact wpAny_truthy_dict hS m (by omega) ⟨H,I.tok _,by rw [qgH r];exact q⟩
  | _=>exact (show False from e).elim
theorem qiK (ha:PE X a ta) (he:∀ whole,isTrue a X.env whole=(do let v ← whole;standAt a.pos;holding [v] (truthy v))) :
    PT X a (fun σ H Q=>ta σ H fun x H'=>∃ k,qn5 X.K x H' k∧Q k H'):=by
  intro pins s σ H Q I h
  exact isTrue_plain (thn (ha pins s σ H _ I h) fun v s1 hq0=>by obtain ⟨x,H1,I1,r1,q1⟩:=hq0;exact qmq pins s1 σ H1 x v Q I1 r1 q1) (he _)
theorem qgR:OpR X (binaryOp .Add) (fun x y H Q=>∃ i j,x=.str i∧y=.str j∧i.length+j.length≤sizeLine∧Q (.str (i++j)) H):=by
  intro pins s σ H x y v u Q I rx ry h
  obtain ⟨i,j,rfl,rfl,hz,q⟩:=h
  obtain ⟨t,rfl⟩:=rx
  obtain ⟨t',rfl⟩:=ry
  exact add_str (fun t' tk=>⟨.str (i++j),H,I.tok _,⟨_,rfl⟩,q⟩) hz
theorem qfQ {x:V} {us:List Value} (r:Vals [x] us):∃ u,us=[u]∧RelV x u:=by
  cases r with
  | cons r1 r2=>cases r2;exact ⟨_,rfl,r1⟩
theorem qom {x y:V} {us:List Value} (r:Vals [x,y] us):∃ u w',us=[u,w']∧RelV x u∧RelV y w':=by
  cases r with
  | cons r1 r2 =>
    cases r2 with
    | cons r3 r4=>cases r4;exact ⟨_,_,rfl,r1,r3⟩
theorem qi5:qci X (.builtin "abs") (fun xs H Q=>∃ i,xs=[.int i]∧Q (.int (if i<0 then -i else i)) H):=by
  intro pins s σ H xs us Q I r h
  obtain ⟨i,rfl,q⟩:=h
  obtain ⟨u,rfl,t,rfl⟩:=qfQ r
  exact call_abs_int fun u tk=>⟨.int (if i<0 then -i else i),H,I.tok _,⟨_,rfl⟩,q⟩
theorem qh6 (hc:X.calm=true):qci X (.builtin "max") (fun xs H Q=>∃ i j,xs=[.int i,.int j]∧Q (.int (if j>i then j else i)) H):=by
  intro pins s σ H xs us Q I r h
  obtain ⟨i,j,rfl,q⟩:=h
  obtain ⟨u,w',rfl,⟨t,rfl⟩,⟨t',rfl⟩⟩:=qom r
  refine max_two_ints (I.ok.hd hc) fun h' tk k=>⟨_,H,I.kept k,?_,q⟩
  by_cases hj:j>i
  · rw [if_pos hj,if_pos hj];exact ⟨_,rfl⟩
  · rw [if_neg hj,if_neg hj];exact ⟨_,rfl⟩
end
section
variable {prog : Program} {w : World} {A : Around} {E : Value → Shared → Prop} {s : Shared} {K : PySem.W.Frag} {x dx C f : Addr} {mA : Str → Option Value} {name : Str} {v : Value}
end
section
variable {P : Program} {w : World} {H H' : Hp} {h h' : Heap} {a C dx : Addr} {fs fs' : List (Str × V)}
end
structure Cls (K:PySem.W.Frag) (C:Addr):Prop where
  pg:PySem.W.plainGet K C Str.empty=true
  hd:PySem.W.hasDictIn K C=true
  po:PySem.W.plainOver K C=true
  sa:PySem.W.findIn K (.ref C) "__setattr__"=some (some (.builtin "object.__setattr__"))
section
variable {X : Cx} {pins : List (Addr × Obj)} {σ : St} {H : Hp} {s : Shared} {a C dx : Addr} {fs : List (Str × V)} {f : Str} {v : V} {A : Around} {E : Value → Shared → Prop}
theorem qlq {prog:Program} {w:World} {env:Env} {e:Expr} {f:Str} {pos:Pos} {s:Shared} {Q:Value→Shared→Prop} (hb:attributeBase e f env (eval e env)=eval e env)
    (h:wpAny (model prog w) A (eval e env) (fun o s₁=>wpAny (model prog w) A (getAttr o f true) Q E s₁) E s):wpAny (model prog w) A (eval (.Attribute e f pos) env) Q E s :=
  Attribute_any_ h (by rw [arm_eval_Attribute,hb])
end
section
variable {X : Cx} {o e value : Expr} {f : Str} {pos pos' tpos : Pos} {ta tv : TE}
end
section
variable {X : Cx} {pins : List (Addr × Obj)} {σ : St} {H : Hp} {s : Shared} {A : Around} {E : Value → Shared → Prop} {Q : Value → Shared → Prop} {c : Value} {b : Bool}
inductive TyOf (K:PySem.W.Frag) (H:Hp):V→Value→Prop where
  | non:TyOf K H .non (.type "NoneType")
  | bl (x:Bool):TyOf K H (.bl x) (.type "bool")
  | int (i:Int):TyOf K H (.int i) (.type "int")
  | str (x:Str):TyOf K H (.str x) (.type "str")
  | flt (x:UInt64):TyOf K H (.flt x) (.type "float")
  | lst {a:Addr} {xs:List V} (e:H a=some (.lst xs)):TyOf K H (.ref a) (.type "list")
  | frz {a:Addr} {o:Obj} {xs:List V} (e:H a=some (.frz o (.lst xs))):TyOf K H (.ref a) (.type "list")
  | tup {a:Addr} {xs:List V} (e:H a=some (.tup xs)):TyOf K H (.ref a) (.type "tuple")
  | dK {a:Addr} {kvs:List (Key × V)} (e:H a=some (.dK kvs)):TyOf K H (.ref a) (.type "dict")
  | dT {a:Addr} {kvs:List (List Key × V)} (e:H a=some (.dT kvs)):TyOf K H (.ref a) (.type "dict")
  | ins {a C dx:Addr} {fs:List (Str × V)} (e:H a=some (.ins C dx fs)) (cl:Cls K C) (ha:PySem.W.findIn K (.ref C) "__class__"=some (some (.builtin "object.__class__")))
      (hn:PySem.W.specialIn K (.builtin "object.__class__") "__get__"=some (some (.builtin "getset_descriptor.__get__"))) (htk:PySem.W.takesIn K (.builtin "object.__class__")=some true)
      (hm:PySem.W.mroIn K C (.type "object")=some true):TyOf K H (.ref a) (.ref C)
end
structure Room (k:Nat) (A:Around):Prop where
  hd:A.handled=none
  dp:A.depth+3*k+5<recursionLimit
  un:A.units+16*k+200<cLine
theorem Room.mono {j k:Nat} {A:Around} (r:Room k A) (h:j≤k):Room j A:=⟨r.hd,by have:=r.dp;omega,by have:=r.un;omega⟩
theorem Room.deeper {k:Nat} {A:Around} (r:Room (k+1) A) (env:Env):Room k (A.deeper env) :=
  ⟨r.hd,by have:=r.dp;show A.depth+1+3*k+5<_;omega,by have:=r.un;show A.units+3+16*k+200<_;omega⟩
theorem qgV {A:Around} {C:Addr} {us:List Value} {kw:List (Str × Value)}:(A.under (.builtin "type.__call__" ⟨.ref C::us,kw⟩)).depth=A.depth+1:=by
  first | rfl | simp [Around.under,Code.weight,Code.isCreation,Code.isGuard,Code.isCaller,Code.frames,Code.isFrame,guardIds]
theorem qgF {A:Around} {C:Addr} {us:List Value} {kw:List (Str × Value)}:(A.under (.builtin "type.__call__" ⟨.ref C::us,kw⟩)).units=A.units+1:=by
  first | rfl | simp [Around.under,Code.cUnits,Code.frames,Code.isFrame]
theorem Room.make {k:Nat} {A:Around} (r:Room (k+1) A) (C:Addr) (us:List Value) (kw:List (Str × Value)):Room k (A.under (.builtin "type.__call__" ⟨.ref C::us,kw⟩)) :=
  ⟨r.hd,by have:=r.dp;rw [qgV];omega,by have:=r.un;rw [qgF];omega⟩
theorem Room.depth {k:Nat} {A:Around} (r:Room k A):A.depth<recursionLimit:=by have:=r.dp;omega
theorem Room.units {k:Nat} {A:Around} (r:Room k A):A.units+64<cLine:=by have:=r.un;omega
def qo9:TA:=fun _ H Q=>Q [] H
def qoD (ta:TE) (tr:TA):TA:=fun σ H Q=>ta σ H fun x H1=>tr σ H1 fun xs H2=>Q (x::xs) H2
section
variable {X : Cx} {e : Expr} {es : List Expr} {te : TE} {t : TA} {pos : Pos}
theorem pa_nil:PA X [] qo9:=fun _ _ _ _ H Q I h=>Calls.spliced_nil ⟨[],H,I,.nil,h⟩
theorem qaZ (ha:PE X e te) (hr:PA X es t) (hs:starEach (e::es) X.env=(false,eval e X.env)::starEach es X.env:=by rfl):PA X (e::es) (qoD te t):=by
  intro pos pins s σ H Q I h
  rw [hs]
  show wpAny _ _ (spliced ((false,eval e X.env)::backTo pos (starEach es X.env))) _ _ s
  refine Calls.spliced_cons (thn (ha pins s σ H _ I h) fun u s1 hq0=>?_)
  obtain ⟨x,H1,I1,r1,q1⟩:=hq0
  exact thn (hr pos pins s1 σ H1 _ I1 q1) fun us s2 hq1=>by obtain ⟨xs,H2,I2,r2,q2⟩:=hq1;exact ⟨x::xs,H2,I2,.cons r1 r2,q2⟩
def qph (t:TA):TE:=fun σ H Q=>t σ H fun xs H1=>xs.length≤sizeLine∧∀ p,H1 p=none→Q (.ref p) (upd H1 p (.tup xs))
def qpE (t:TA):TE:=fun σ H Q=>t σ H fun xs H1=>xs.length≤sizeLine∧∀ p,H1 p=none→Q (.ref p) (upd H1 p (.lst xs))
theorem qna {x1} (h:PA X es t):PE X (.Tuple es x1 pos) (qph t):=by
  intro pins s σ H Q I hq
  refine wpAny_Tuple_spliced (thn (h pos pins s σ H _ I hq) fun us s1 ⟨xs,H1,I1,r,z,q⟩=>⟨by rw [← r.length];exact z,?_⟩)
  have hf:H1 s1.heap.objs.size=none:=I1.hok.fresh (Nat.le_refl _)
  refine ⟨.ref s1.heap.objs.size,upd H1 s1.heap.objs.size (.tup xs),I1.laid (t':=s1.toks) (fun b u e=>Heap.get?_push_of_some _ e) (Nat.le_refl _) ?_,rfl,q _ hf⟩
  exact ⟨z,us,r,⟨_,Heap.get?_push_size _ rfl,⟨rfl,rfl⟩,_,rfl⟩⟩
theorem qmX (h:PA X es t):PE X (.List es pos) (qpE t):=by
  intro pins s σ H Q I hq
  refine wpAny_List_spliced (thn (h pos pins s σ H _ I hq) fun us s1 ⟨xs,H1,I1,r,z,q⟩=>⟨by rw [← r.length];exact z,?_⟩)
  have hf:H1 s1.heap.objs.size=none:=I1.hok.fresh (Nat.le_refl _)
  refine ⟨.ref s1.heap.objs.size,upd H1 s1.heap.objs.size (.lst xs),I1.laid (t':=s1.toks) (fun b u e=>Heap.get?_push_of_some _ e) (Nat.le_refl _) ?_,rfl,q _ hf⟩
  exact ⟨z,us,0,r,Heap.get?_push_size _ rfl⟩
end
abbrev Sp:=List V→Hp→VK→XK→Prop
abbrev CXT:=List Env→Hp→Shared→XK→Value→Shared→Prop
structure Env0 (P:Program) (w:World) (K:PySem.W.Frag) (mg:Str→Option Value) (base:Heap) (A:Around) (outer:List Env) (s:Shared) (H:Hp):Prop where
  frames:A.frames=some outer
  mod:Mod K mg base
  bs:∀ b o,base.get? b=some o→s.heap.get? b=some o∧H b=none
  bsz:base.objs.size≤s.heap.objs.size
  funs:s.heap.FunFrames base outer
  frf:∀ b∈frs outer,H b=none
  hok:HOk P w H s.heap
  bare:AllBare s.gens
def CE (outer:List Env) (P:Program) (w:World) (H:Hp) (s:Shared) (Q:VK) (u:Value) (s':Shared):Prop :=
  ∃ v H',s'.os=s.os∧AllBare s'.gens∧Un (frs outer) [] H H' s.heap s'.heap∧HOk P w H' s'.heap∧RelV v u∧Q v H'
def CR (CX:CXT) (outer:List Env) (P:Program) (w:World) (H:Hp) (s:Shared) (Q:VK) (E:XK) (r:Result) (s':Shared):Prop :=
  match r with
  | .ok (.ret u)=>CE outer P w H s Q u s'
  | .ok _=>False
  | .error e=>CX outer H s E e s'
structure FnOk (P:Program) (w:World) (K:PySem.W.Frag) (mg:Str→Option Value) (base:Heap) (CX:CXT) (k:Nat) (f:Addr) (fd:FuncData) (ps:List Str) (sp:Sp):Prop where
  len:∀ vs H Q E,sp vs H Q E→vs.length=ps.length
  run:∀ (A:Around) (outer:List Env) (s:Shared) (H:Hp) (args:Args) (us:List Value) (vs:List V) (Q:VK) (E:XK),Room k A→Env0 P w K mg base A outer s H→BindsTo s fd args (ps.zip us)→Vals vs us→sp vs H Q E →
    codeAny (model P w) A (.call (.ref f) args) (CR CX outer P w H s Q E) s
theorem FnOk.mono {P:Program} {w:World} {K:PySem.W.Frag} {mg:Str→Option Value} {base:Heap} {CX:CXT} {j k:Nat} {f:Addr} {fd:FuncData} {ps:List Str} {sp:Sp} (F:FnOk P w K mg base CX j f fd ps sp) (h:j≤k) :
    FnOk P w K mg base CX k f fd ps sp:=⟨F.len,fun A outer s H args us vs Q E hr=>F.run A outer s H args us vs Q E (hr.mono h)⟩
theorem FnOk.imp {P:Program} {w:World} {K:PySem.W.Frag} {mg:Str→Option Value} {base:Heap} {CX:CXT} {k:Nat} {f:Addr} {fd:FuncData} {ps:List Str} {sp sp':Sp} (F:FnOk P w K mg base CX k f fd ps sp)
    (h:∀ vs H Q E,sp' vs H Q E→sp vs H Q E):FnOk P w K mg base CX k f fd ps sp' :=
  ⟨fun vs H Q E q=>F.len vs H Q E (h _ _ _ _ q),fun A outer s H args us vs Q E hr he hb hv hs=>F.run A outer s H args us vs Q E hr he hb hv (h _ _ _ _ hs)⟩
theorem Env0.make {P:Program} {w:World} {K:PySem.W.Frag} {mg:Str→Option Value} {base:Heap} {A:Around} {outer:List Env} {s:Shared} {H:Hp} (e:Env0 P w K mg base A outer s H) (C:Addr) (us:List Value) (kw:List (Str × Value)) :
    Env0 P w K mg base (A.under (.builtin "type.__call__" ⟨.ref C::us,kw⟩)) outer s H:=⟨by first | exact e.frames | (simpa [Around.under,Code.envs,Code.isFrame,pushEnvs] using e.frames),e.mod,e.bs,e.bsz,e.funs,e.frf,e.hok,e.bare⟩
section
variable {X : Cx} {pins : List (Addr × Obj)} {σ : St} {H : Hp} {s s' : Shared}
theorem Inv.env0 (I:Inv X pins σ H s):Env0 X.prog X.w X.K X.mg X.base X.A X.stack s H :=
  ⟨I.ok.frames,I.ok.mod,I.bs,Nat.le_trans I.ok.bsz I.sz,I.stack,I.stkFree,I.hok,I.bare⟩
theorem Inv.after {Q:VK} {u:Value} (I:Inv X pins σ H s) (h:CE X.stack X.prog X.w H s Q u s'):EP X pins σ Q u s':=by
  obtain ⟨v,H',os,bare,un,hok,r,q⟩:=h
  obtain ⟨hh,g,d,t,os'⟩:=s'
  obtain rfl:os'=s.os:=os
  exact ⟨v,H',I.call (h':=hh) (g':=g) (d':=d) (t':=t) (ch:=[]) un hok bare (fun b z=>absurd z (by simp)),r,q⟩
end
def qoy (sp:Sp) (dvs:List V) (E:XK) (t:TA):TE:=fun σ H Q=>t σ H fun vs H1=>sp (vs++dvs) H1 Q E
def Binds (K:PySem.W.Frag) (fd:FuncData) (ps:List Str) (ds:List Value):Prop :=
  ∀ (s:Shared) (us:List Value),K.In s.heap→(us++ds).length=ps.length→BindsTo s fd ⟨us,[]⟩ (ps.zip (us++ds))
theorem Binds.all {K:PySem.W.Frag} {fd:FuncData} {ps:List Str} (h:∀ us:List Value,us.length=ps.length→bindArgs fd ⟨us,[]⟩=pure (ps.zip us)):Binds K fd ps []:=fun s us _ hl=>by
  rw [List.append_nil] at hl ⊢
  exact .of_eq (h us hl)
def qf8 (CX:CXT) (X:Cx) (E:XK):Prop:=∀ (pins:List (Addr × Obj)) (σ:St) (H:Hp) (s:Shared) (e:Value) (s':Shared),Inv X pins σ H s→CX X.stack H s E e s'→X.xe e s'
section
variable {X : Cx} {CX : CXT} {k : Nat} {f C : Addr} {fd : FuncData} {ps : List Str} {sp : Sp} {dvs : List V} {ds : List Value} {E : XK} {x m : Str} {p pos apos : Pos} {e o : Expr} {es : List Expr} {ta : TE} {t : TA}
theorem qmc {pins:List (Addr × Obj)} {σ:St} {H:Hp} {s:Shared} {Q:VK} {us:List Value} {vs:List V} (F:FnOk X.prog X.w X.K X.mg X.base CX k f fd ps sp) (hr:Room k X.A) (hb:Binds X.K fd ps ds) (hd:Vals dvs ds) (hx:qf8 CX X E)
    (I:Inv X pins σ H s) (r:Vals vs us) (h:sp (vs++dvs) H Q E):wpAny (model X.prog X.w) X.A (call (.ref f) us) (EP X pins σ Q) X.xe s:=by
  have r2:Vals (vs++dvs) (us++ds):=r.append hd
  have hl:(us++ds).length=ps.length:=by rw [← r2.length];exact F.len _ _ _ _ h
  refine wpAny_call (codeAny_mono (F.run X.A X.stack s H ⟨us,[]⟩ (us++ds) (vs++dvs) Q E hr I.env0 (hb s us I.kIn hl) r2 h) fun r s' hq=>?_)
  cases r with
  | error e=>exact hx pins σ H s e s' I hq
  | ok fl =>
    cases fl with
    | ret u=>exact I.after hq
    | next=>exact False.elim hq
    | brk=>exact False.elim hq
    | cont=>exact False.elim hq
theorem qkq (F:FnOk X.prog X.w X.K X.mg X.base CX k f fd ps sp) (hr:Room k X.A) (hg:Gl X x) (hm:X.mg x=some (.ref f)) (hk:PySem.W.keepIn X.K (.ref f)=true) (hb:Binds X.K fd ps ds) (hd:Vals dvs ds) (hx:qf8 CX X E)
    (ha:PA X (e::es) t) (hdb:(x == ("__debug__":Str))=false:=by decide) (he:starEach (e::es) X.env=(false,eval e X.env)::starEach es X.env:=by rfl) (hpl:(backTo pos (starEach es X.env)).any (·.1)=false:=by rfl) :
    PE X (.Call (.Name x p) (e::es) [] pos) (qoy sp dvs E t):=by
  intro pins s σ H Q I h
  refine wpAny_Call_Name_kw (qcn I hg hm ?_ hdb)
  refine PySem.W.callWith_K (h₀:=X.base) I.ok.mod.kin hk (thn (ha pos pins s σ H _ I h) fun us s1 ⟨vs,H1,I1,r,q⟩=>⟨I1.kIn,?_⟩) he hpl
  exact qmc F hr hb hd hx I1 r q
end
section
variable {X : Cx} {CX : CXT} {k : Nat} {f C : Addr} {fd : FuncData} {ps ks : List Str} {sp : Sp} {E : XK} {x m : Str} {p pos apos kpos : Pos} {e o : Expr} {es : List Expr} {kws : List Keyword} {te ta : TE} {t tk : TA} {nm : Option Str}
variable {g : List Value → List Value → List Value} {gV : List V → List V → List V}
end
structure FnScope (N P:List Str) (sc:Scope):Prop where
  kind:sc.kind=.function
  co:sc.isCoroutine=false
  gen:sc.isGenerator=false
  nd:N.Nodup
  pre:N.take P.length=P
  par:∀ x∈P,sc.names.lookup x=some .local∨sc.names.lookup x=some .cell
  nofree:∀ y∈sc.names,y.2≠.free
theorem qeW {kindOf:Str→Option NameKind} {x:Str}:∀ {binds:List (Str × Value)} {m:Str→Option Value},(∀ v,(x,v)∉binds)→bindL kindOf binds m x=m x
  | [],_,_=>rfl
  | (n,v)::r,m,h=>by
    unfold bindL
    rw [qeW fun w hw=>h w (List.mem_cons_of_mem _ hw)]
    split
    · have:x≠n:=by rintro rfl;exact h v List.mem_cons_self
      simp [this]
    · rfl
theorem qeV {kindOf:Str→Option NameKind} {x:Str}:∀ {binds:List (Str × Value)} {m:Str→Option Value},(∀ v,(x,v)∉binds)→bindC kindOf binds m x=m x
  | [],_,_=>rfl
  | (n,v)::r,m,h=>by
    unfold bindC
    rw [qeV fun w hw=>h w (List.mem_cons_of_mem _ hw)]
    split
    · rfl
    · have:x≠n:=by rintro rfl;exact h v List.mem_cons_self
      simp [this]
theorem qe0 {kindOf:Str→Option NameKind} {x:Str} {v:Value}:∀ {P:List Str} {vs:List Value} {i:Nat} {m:Str→Option Value},P.Nodup→P[i]?=some x→vs[i]?=some v→kindOf x=some .local →
    bindL kindOf (P.zip vs) m x=some v
  | [],_,_,_,_,h,_,_=>by simp at h
  | _::_,[],_,_,_,_,h,_=>by simp at h
  | p::P,w::vs,0,m,nd,h1,h2,hk=>by
    simp at h1 h2;subst h1;subst h2
    show bindL kindOf ((p,w)::P.zip vs) m p=_
    unfold bindL
    rw [qeW fun v hv=>(List.nodup_cons.mp nd).1 (List.of_mem_zip hv).1,if_pos hk]
    simp
  | p::P,w::vs,i+1,m,nd,h1,h2,hk=>by
    show bindL kindOf ((p,w)::P.zip vs) m x=_
    unfold bindL
    exact qe0 (i:=i) (List.nodup_cons.mp nd).2 (by simpa using h1) (by simpa using h2) hk
theorem qeL {kindOf:Str→Option NameKind} {x:Str} {v:Value}:∀ {P:List Str} {vs:List Value} {i:Nat} {m:Str→Option Value},P.Nodup→P[i]?=some x→vs[i]?=some v→kindOf x≠some .local →
    bindC kindOf (P.zip vs) m x=some v
  | [],_,_,_,_,h,_,_=>by simp at h
  | _::_,[],_,_,_,_,h,_=>by simp at h
  | p::P,w::vs,0,m,nd,h1,h2,hk=>by
    simp at h1 h2;subst h1;subst h2
    show bindC kindOf ((p,w)::P.zip vs) m p=_
    unfold bindC
    rw [qeV fun v hv=>(List.nodup_cons.mp nd).1 (List.of_mem_zip hv).1,if_neg hk]
    simp
  | p::P,w::vs,i+1,m,nd,h1,h2,hk=>by
    show bindC kindOf ((p,w)::P.zip vs) m x=_
    unfold bindC
    exact qeL (i:=i) (List.nodup_cons.mp nd).2 (by simpa using h1) (by simpa using h2) hk
def qbH (N:List Str) (vs:List V):St:=vs.map some++List.replicate (N.length - vs.length) none
def qg3 (CX:CXT) (P:Program) (w:World) (K:PySem.W.Frag) (mg:Str→Option Value) (base:Heap) (N:List Str) (qual:Str) (scope:Scope) (f:Addr) (cd:Value) (A:Around) (outer:List Env) (s:Shared) (H:Hp) (E:XK):Cx where
  prog:=P
  w:=w
  K:=K
  mg:=mg
  base:=base
  A:=A.deeper (envOfC qual scope s.heap.objs.size f cd)
  N:=N
  s₀:=s
  H₀:=H
  env:=envOfC qual scope s.heap.objs.size f cd
  outer:=outer
  stack:=envOfC qual scope s.heap.objs.size f cd::outer
  ex:=[]
  calm:=true
  fn:=fun _=>true
  pn:=[]
  xe:=fun e s'=>wpAny (model P w) (A.deeper (envOfC qual scope s.heap.objs.size f cd)) (leaving (envOfC qual scope s.heap.objs.size f cd) e) (fun _ s''=>CX outer H s E e s'') (fun e' s''=>CX outer H s E e' s'') s'
theorem qeo {sc:Scope} {n:Nat} {x:Str} (h:sc.names.lookup x=some .cell):∃ c,(cellsFrom n sc.names []).lookup x=some c:=by
  have q:=PySem.W.cellsFrom_some sc.names n [] (.inl h)
  exact Option.isSome_iff_exists.mp q
theorem qfc {CX:CXT} {P:Program} {w:World} {K:PySem.W.Frag} {mg:Str→Option Value} {base:Heap} {N ps:List Str} {qual:Str} {scope:Scope} {f:Addr} {cd:Value} {A:Around} {outer:List Env} {s s1:Shared} {H:Hp} {E:XK} {us:List Value} {vs:List V}
    (S:FnScope N ps scope) (hd:A.handled=none) (e0:Env0 P w K mg base A outer s H) (hl:vs.length=ps.length) (r:Vals vs us)
    (x:InCallC s s.heap.objs.size (bindL (envOfC qual scope s.heap.objs.size f cd).kindOf (ps.zip us) fun _=>none) (cellsFrom (s.heap.objs.size+1) scope.names []) (bindC (envOfC qual scope s.heap.objs.size f cd).kindOf (ps.zip us) fun _=>none) s1) :
    Inv (qg3 CX P w K mg base N qual scope f cd A outer s H E) [] (qbH N vs) H s1:=by
  have hpl:ps.length≤N.length:=by have:=congrArg List.length S.pre;rw [List.length_take] at this;omega
  obtain ⟨h1,tk,rfl,hk⟩:=x.done
  have noA:∀ b:Addr,b∉(qg3 CX P w K mg base N qual scope f cd A outer s H E).ex:=fun b z=>absurd (show b∈([]:List Addr) from z) (by simp)
  refine ⟨⟨e0.mod,S.kind,rfl,rfl,Nat.le_refl _,fun y z c h1 h2=>?_,fun y hy=>?_,fun y c _ h=>?_,fun _=>hd,Around.frames_deeper e0.frames,.inr ⟨rfl,rfl⟩,fun b z=>absurd z (noA b),e0.bs,e0.bsz,fun b _ _=>noA b,fun b z=>absurd z (noA b),e0.funs,e0.frf⟩,
    rfl,e0.bare,Un.kept hk,⟨_,x.toInCall.ns,fun i y v h1 h2 h3=>?_⟩,fun y c h=>⟨_,x.cell y c h⟩,e0.hok.fresh (Nat.le_refl _),fun y c h=>?_,fun p hp=>absurd (show p∈([]:List (Addr × Obj)) from hp) (by simp),e0.hok.kept hk,?_⟩
  · exact name_of_addr x.apart (PySem.mem_of_lookup h1) (PySem.mem_of_lookup h2)
  · have hy:scope.names.lookup y=some .cell∨scope.names.lookup y=some .free:=hy
    rcases hy with hy | hy
    · exact qeo hy
    · exact absurd rfl (S.nofree _ (PySem.mem_of_lookup hy))
  · exact Nat.le_of_lt (x.above y c (PySem.mem_of_lookup h))
  · have hi:i<vs.length:=by
      unfold qbH at h2
      by_cases hi:i<vs.length
      · exact hi
      · rw [List.getElem?_append_right (by simpa using hi)] at h2
        rw [List.getElem?_replicate] at h2
        split at h2 <;> cases h2
    have ha:vs[i]?=some v:=by
      unfold qbH at h2
      rw [List.getElem?_append_left (by simpa using hi),List.getElem?_map] at h2
      cases e:vs[i]? with
      | none=>rw [e] at h2;cases h2
      | some a=>rw [e] at h2;cases h2;rfl
    obtain ⟨u,hu,rv⟩:=r.get ha
    have hp:ps[i]?=some y:=by
      rw [← S.pre,List.getElem?_take_of_lt (by omega)];exact h1
    have ndP:ps.Nodup:=by rw [← S.pre];exact S.nd.sublist (List.take_sublist _ _)
    refine ⟨u,rv,?_⟩
    rcases S.par y (List.mem_of_getElem? hp) with k | k
    · exact .inl ⟨k,qe0 ndP hp hu k⟩
    · obtain ⟨c,e⟩:=qeo (n:=s.heap.objs.size+1) k
      refine .inr ⟨.inl k,c,e,?_⟩
      have q:=x.cell y c e
      rw [qeL ndP hp hu (by show scope.names.lookup y≠_;rw [k];decide)] at q
      exact q
  · exact e0.hok.fresh (Nat.le_of_lt (x.above y c (PySem.mem_of_lookup h)))
  · unfold qbH
    show _=N.length
    rw [List.length_append,List.length_map,List.length_replicate]
    omega
theorem qi9 {CX:CXT} {P:Program} {w:World} {K:PySem.W.Frag} {mg:Str→Option Value} {base:Heap} {k:Nat} {f:Addr} {name qual:Str} {params:Arguments} {body:List Stmt} {scope:Scope} {dV kV doc pm cdv ct oc:Value} {an od:Option Addr}
    {osl:Array (Option Value)} {N ps:List Str} {sp:Sp} (lk:K.lookup f=some ⟨oc,od,.func (PySem.W.fnOf name qual params body scope dV kV doc pm an cdv ct),osl⟩) (hcd:PySem.W.codeIn K cdv qual=true) (S:FnScope N ps scope)
    (len:∀ vs H Q E,sp vs H Q E→vs.length=ps.length)
    (hbody:∀ (A:Around) (outer:List Env) (s:Shared) (H:Hp) (vs:List V) (Q:VK) (E:XK),Room k (A.deeper (envOfC qual scope s.heap.objs.size f cdv))→sp vs H Q E →
      ∃ t,PSs (qg3 CX P w K mg base N qual scope f cdv A outer s H E) body t∧t { nx:=fun _ H'=>Q .non H',rt:=Q } (qbH N vs) H) :
    FnOk P w K mg base CX (k+1) f (PySem.W.fnOf name qual params body scope dV kV doc pm an cdv ct) ps sp:=by
  refine ⟨len,fun A outer s H args us vs Q E hr e0 hb r hsp=>?_⟩
  have hl:=len _ _ _ _ hsp
  have KX:K.In s.heap:=e0.mod.kin.keeps fun b o e=>(e0.bs b o e).1
  have lim:s.heap.NoLimit:=e0.mod.nolimit.keeps fun b o e=>(e0.bs b o e).1
  have hkind:∀ y∈ps.zip us,scope.names.lookup y.1=some .local∨(scope.names.lookup y.1=some .cell∧((cellsFrom (s.heap.objs.size+1) scope.names []).lookup y.1).isSome=true):=fun hq0 hy=>by
    obtain ⟨n,v⟩:=hq0
    rcases S.par n (List.of_mem_zip hy).1 with q | q
    · exact .inl q
    · exact .inr ⟨q,PySem.W.cellsFrom_some _ _ _ (.inl q)⟩
  refine codeAny_call_function hr.depth (KX _ _ lk) rfl S.co S.gen rfl (PySem.W.codeRec_of KX hcd) (hb _ _ _ _ ?_)
  refine wpAny_newFunctionEnv_cells S.kind hkind fun env he s1 x=>?_
  subst he
  refine ⟨lim.keeps x.toInCall.keep,codeAny_func ?_⟩
  obtain ⟨t,ht,hq⟩:=hbody A outer s H vs Q E (hr.deeper _) hsp
  have I:Inv (qg3 CX P w K mg base N qual scope f cdv A outer s H E) [] (qbH N vs) H s1:=qfc S hr.hd e0 hl r x
  refine wpAny_mono (ht [] s1 (qbH N vs) H _ I hq) (fun fl s' hs=>?_) fun e s' hs=>hs
  have fin:∀ {σ':St} {H':Hp} {v:V} {u:Value},Inv (qg3 CX P w K mg base N qual scope f cdv A outer s H E) [] σ' H' s'→RelV v u→Q v H'→CE outer P w H s Q u s' :=
    fun {σ' H' v u} J rv q=>⟨v,H',J.os,J.bare,J.base,J.hok,rv,q⟩
  cases fl with
  | ret u =>
    obtain ⟨v,σ',H',J,rv,q⟩:=hs
    exact fin J rv q
  | next =>
    obtain ⟨σ',H',J,q⟩:=hs
    exact fin (v:=V.non) (u:=Value.none) J rfl q
  | brk =>
    obtain ⟨_,_,_,q⟩:=hs
    exact False.elim q
  | cont =>
    obtain ⟨_,_,_,q⟩:=hs
    exact False.elim q
section
variable {X : Cx} {x : Str} {p pos : Pos} {e : Expr} {es : List Expr} {t : TA} {id T : String} {r : List V → Hp → VK → Prop}
def tCB (r:List V→Hp→VK→Prop) (t:TA):TE:=fun σ H Q=>t σ H fun vs H1=>r vs H1 Q
theorem qcz (hc:qci X (.builtin id) r) (hg:Gl X x) (hm:X.mg x=none) (hv:bootBuiltins x=some (.builtin id)) (ha:PA X (e::es) t) (hn:x≠"__name__":=by decide) (hdb:(x == ("__debug__":Str))=false:=by decide)
    (he:starEach (e::es) X.env=(false,eval e X.env)::starEach es X.env:=by rfl) (hpl:(backTo pos (starEach es X.env)).any (·.1)=false:=by rfl):PE X (.Call (.Name x p) (e::es) [] pos) (tCB r t):=by
  intro pins s σ H Q I h
  refine wpAny_Call_Name_kw (qdq I hg hm hv ?_ hn hdb)
  exact PyProof.Rows.callWith_builtin1 (thn (ha pos pins s σ H _ I h) fun us s1 hq0=>by obtain ⟨vs,H1,I1,r1,q1⟩:=hq0;exact hc pins s1 σ H1 vs us Q I1 r1 q1) he hpl
theorem qe1 (hc:qci X (.type T) r) (hg:Gl X x) (hm:X.mg x=none) (hv:bootBuiltins x=some (.type T)) (ha:PA X (e::es) t) (hn:x≠"__name__":=by decide) (hdb:(x == ("__debug__":Str))=false:=by decide)
    (he:starEach (e::es) X.env=(false,eval e X.env)::starEach es X.env:=by rfl) (hpl:(backTo pos (starEach es X.env)).any (·.1)=false:=by rfl):PE X (.Call (.Name x p) (e::es) [] pos) (tCB r t):=by
  intro pins s σ H Q I h
  refine wpAny_Call_Name_kw (qdq I hg hm hv ?_ hn hdb)
  exact PyProof.Rows.callWith_type1 (thn (ha pos pins s σ H _ I h) fun us s1 hq0=>by obtain ⟨vs,H1,I1,r1,q1⟩:=hq0;exact hc pins s1 σ H1 vs us Q I1 r1 q1) he hpl
end
end L2
namespace HT
open PySem PyProof.Rows
section
open PySem.SeqAt
open PySem.AutoSeq1 (wpAny_loadPart')
open PySem.MeetsSeq PySem.MeetsSeq2 PySem.MeetsSeq3
end
section
variable {prog : Program} {w : World} {A : Around} {E : Value → Shared → Prop} {s : Shared}
theorem cat_tup {t b:Addr} {vs ws:List Value} {Q:Value→Shared→Prop} (ht:IsTup s.heap t vs.toArray) (hb:IsTup s.heap b ws.toArray) (hv:vs≠[])
    (h1:ws=[]→Q (.ref t) s) (h2:ws≠[]→Q (.ref s.heap.objs.size) { s with heap:=s.heap.push { cls:=.type "tuple",data:=.seq (vs++ws).toArray } })
    (hsz:vs.length+ws.length≤sizeLine):wpAny (model prog w) A (binaryOp .Add (.ref t) (.ref b)) Q E s:=by
  obtain ⟨⟨cls,dd,data,sl⟩,ho,hc,n,hd⟩:=id ht
  obtain ⟨⟨cls2,dd2,data2,sl2⟩,ho2,hc2,n2,hd2⟩:=id hb
  simp only at hc hd hc2 hd2
  subst hc hd hc2 hd2
  have e:vs.toArray++ws.toArray=(vs++ws).toArray:=by simp
  by_cases hw:ws=[]
  · exact concat_meets ⟨_,ho,rfl⟩ ⟨_,ho2,rfl⟩ noFill_tuple_add seq_tuple_add PySem.F.slot_tuple_add PySem.F.entry_tuple_add (PySem.F.args_tuple_add_2 _ _)
      (tuple_addW1 t b vs.toArray ws.toArray n n2 dd dd2 sl sl2 (by simpa using hv) (by simp [hw])) ⟨ho,ho2,h1 hw⟩
  · refine concat_meets ⟨_,ho,rfl⟩ ⟨_,ho2,rfl⟩ noFill_tuple_add seq_tuple_add PySem.F.slot_tuple_add PySem.F.entry_tuple_add (PySem.F.args_tuple_add_2 _ _)
      (tuple_addW2 t b vs.toArray ws.toArray n n2 dd dd2 sl sl2 (by simpa using hv) (by simpa using hw) (by rw [List.size_toArray,List.size_toArray];exact hsz)) ⟨ho,ho2,?_⟩
    rw [e]
    exact h2 hw
def sIx (n d:Nat):Option Int→Nat
  | none=>d
  | some v=>if v<0 then (v+(n:Int)).toNat else min v.toNat n
theorem sIx_none (n d:Nat):sIx n d none=d:=rfl
theorem sIx_nat (n d k:Nat):sIx n d (some (k:Int))=min k n:=by
  show (if (k:Int)<0 then ((k:Int)+(n:Int)).toNat else min (k:Int).toNat n)=min k n
  rw [if_neg (by omega),Int.toNat_natCast]
theorem qne (n d:Nat) (hd:d≤n) (o:Option Int):sIx n d o≤n:=by
  cases o with
  | none=>exact hd
  | some v =>
    show (if v<0 then (v+(n:Int)).toNat else min v.toNat n)≤n
    by_cases hv:v<0
    · rw [if_pos hv];omega
    · rw [if_neg hv];exact Nat.min_le_right _ _
theorem qhJ (v:Int) (n d:Nat):(if v<0 then max (v+(n:Int)) 0 else min v (n:Int))=((sIx n d (some v):Nat):Int):=by
  show (if v<0 then max (v+(n:Int)) 0 else min v (n:Int))=(((if v<0 then (v+(n:Int)).toNat else min v.toNat n):Nat):Int)
  by_cases hv:v<0
  · simp only [if_pos hv];omega
  · simp only [if_neg hv];omega
theorem qgD (lo hi:Option Int) (n:Nat):Builtin.Slice.sliceAdjust lo hi 1 (n:Int)=(((sIx n 0 lo:Nat):Int),((sIx n n hi:Nat):Int)):=by
  have h1:¬ ((1:Int)<0):=by omega
  unfold Builtin.Slice.sliceAdjust
  simp only [h1,if_false]
  refine Prod.ext ?_ ?_
  · cases lo with
    | none=>rfl
    | some v=>exact qhJ v n 0
  · cases hi with
    | none=>rfl
    | some v=>exact qhJ v n n
theorem qgN (i j:Nat):Builtin.Slice.slicePlaces (i:Int) (j:Int) 1=j - i:=by
  unfold Builtin.Slice.slicePlaces
  have h1:(1:Int)>0:=by omega
  simp only [h1,if_true,Int.ediv_one]
  split <;> omega
theorem qd6 {v:Value} {o:Option Int} {Q:Option Int→Shared→Prop} (p:IsPart v o) (h:Q o s):wpAny (model prog w) A (Builtin.Slice.slicePartIndex v) Q E s:=by
  cases p with
  | none=>exact slicePart_none h
  | int i t=>exact slicePart_int h
theorem qbR {sl:Addr} {vl vu:Value} {lo hi:Option Int} {n:Nat} {Q:Int × Int × Nat→Shared→Prop} (hs:s.heap.IsSliceOf sl vl vu .none) (pl:IsPart vl lo) (pu:IsPart vu hi)
    (h:Q (((sIx n 0 lo:Nat):Int),1,sIx n n hi - sIx n 0 lo) s):wpAny (model prog w) A (Builtin.Slice.sliceApplied (.ref sl) (pure (n:Int))) Q E s:=by
  obtain ⟨os,hos,hcs,hds⟩:=id hs
  unfold Builtin.Slice.sliceApplied Builtin.Slice.sliceFields
  refine wpAny_bind (wpAny_bind (wpAny_field hos hds (x:=vl) rfl (wpAny_bind (wpAny_field hos hds (x:=vu) rfl (wpAny_bind (wpAny_field hos hds (x:=.none) rfl (wpAny_pure ?_)))))))
  refine wpAny_bind (slicePart_none ?_)
  show wpAny _ _ (if ((1:Int) == 0)=true then _ else _) _ _ s
  rw [if_neg (by decide)]
  refine wpAny_bind (qd6 pl (wpAny_bind (qd6 pu (wpAny_bind (wpAny_pure ?_)))))
  show wpAny _ _ (match Builtin.Slice.sliceAdjust lo hi 1 (n:Int) with | (lo,hi)=>pure (lo,(1:Int),Builtin.Slice.slicePlaces lo hi 1)) _ _ s
  rw [qgD lo hi n]
  show wpAny _ _ (pure (((sIx n 0 lo:Nat):Int),(1:Int),Builtin.Slice.slicePlaces ((sIx n 0 lo:Nat):Int) ((sIx n n hi:Nat):Int) 1)) _ _ s
  rw [qgN]
  exact wpAny_pure h
theorem qiF (xs:Array Value) (i k:Nat):((List.range k).filterMap fun (m:Nat)=>xs[((i:Int)+(m:Int)*1).toNat]?).toArray=((xs.toList.drop i).take k).toArray:=by
  have e:(fun (m:Nat)=>xs[((i:Int)+(m:Int)*1).toNat]?)=fun m=>xs[i+m]?:=by
    funext m
    have:((i:Int)+(m:Int)*1).toNat=i+m:=by omega
    rw [this]
  rw [e]
  have:=pick_run xs i k
  rw [List.filterMap_map] at this
  have e2:((fun x=>xs[x]?) ∘ fun x=>i+x)=fun m=>xs[i+m]?:=rfl
  rw [e2] at this
  rw [this]
theorem getItem_tuple_cut {t sl:Addr} {items:Array Value} {vl vu:Value} {lo hi:Option Int} {Q:Value→Shared→Prop} (ht:IsTup s.heap t items) (hs:s.heap.IsSliceOf sl vl vu .none) (pl:IsPart vl lo) (pu:IsPart vu hi)
    (hw:¬ (sIx items.size 0 lo=0∧sIx items.size items.size hi=items.size))
    (h:Q (.ref s.heap.objs.size) { s with heap:=s.heap.push { cls:=.type "tuple",data:=.seq ((items.toList.drop (sIx items.size 0 lo)).take (sIx items.size items.size hi - sIx items.size 0 lo)).toArray } })
    (hsz:items.size≤sizeLine):wpAny (model prog w) A (getItem (.ref t) (.ref sl)) Q E s:=by
  have htake:sizeOk (.seq ((items.toList.drop (sIx items.size 0 lo)).take (sIx items.size items.size hi - sIx items.size 0 lo)).toArray):=by
    show ((items.toList.drop (sIx items.size 0 lo)).take (sIx items.size items.size hi - sIx items.size 0 lo)).toArray.size≤sizeLine
    rw [List.size_toArray,List.length_take,List.length_drop,Array.length_toList]
    omega
  have hj:sIx items.size items.size hi≤items.size:=qne _ _ (Nat.le_refl _) hi
  obtain ⟨os,hos,hcs,hds⟩:=id hs
  have hTs:s.TypeIs (.ref sl) "slice":=⟨os,hos,hcs⟩
  unfold getItem
  try with_reducible refine wpAny_holding ?_
  first | refine wpAny_bind (wpAny_pure ?_) | skip
  refine wpAny_bind (wpAny_sequenceKey ht.typeIs (by decide) ?_)
  refine wpAny_bind (wpAny_callSpecial?_slot (name:=Str.ofString "__getitem__") ht.typeIs PyProof.Rows.slot_tuple_getitem
    (wpAny_call_entry PyProof.Rows.slot_tuple_getitem ht.typeIs entry_tuple_getitem ?_ (args_tuple_getitem _ _)))
  show wpAny _ _ (Builtin.Tuple.tupleItemsOf (.ref t) >>= _) _ _ s
  refine wpAny_bind (tupleItemsOf_ ht ?_)
  refine wpAny_bind (wpAny_typeOf hTs ?_)
  rw [if_pos (by decide)]
  refine wpAny_bind (qbR hs pl pu ?_)
  have hno:¬ ((((sIx items.size 0 lo:Nat):Int) == 0 && (1:Int) == 1 && (sIx items.size items.size hi - sIx items.size 0 lo) == items.size)=true):=by
    intro q
    rw [Bool.and_eq_true,Bool.and_eq_true] at q
    have q1:((sIx items.size 0 lo:Nat):Int)=0:=eq_of_beq q.1.1
    have q2:sIx items.size items.size hi - sIx items.size 0 lo=items.size:=eq_of_beq q.2
    exact hw ⟨by omega,by omega⟩
  show wpAny _ _ (if (((sIx items.size 0 lo:Nat):Int) == 0 && (1:Int) == 1 && (sIx items.size items.size hi - sIx items.size 0 lo) == items.size)=true then _ else _) _ _ s
  rw [if_neg hno,qiF]
  first
    | exact wpAny_bind (m:=Builtin.Tuple.tupleExact _) (wpAny_newObj_type (wpAny_pure ⟨_,rfl,wpAny_pure h⟩) htake)
    | exact wpAny_bind (m:=Builtin.Tuple.tupleExact _) (wpAny_newObj_type (wpAny_bind (wpAny_pure (wpAny_pure ⟨_,rfl,wpAny_pure h⟩))) htake)
    | exact wpAny_bind (wpAny_bind (m:=Builtin.Tuple.tupleExact _) (wpAny_newObj_type (wpAny_pure (wpAny_pure ⟨_,rfl,wpAny_pure h⟩)) htake))
    | exact wpAny_bind (wpAny_bind (m:=Builtin.Tuple.tupleExact _) (wpAny_newObj_type (wpAny_pure ⟨_,rfl,wpAny_pure h⟩) htake))
end
end HT
namespace L2
open PySem PySem.Spec PyProof.Rows
abbrev TO:=St→Hp→(Option Int→Hp→Prop)→Prop
def PO (X:Cx) (e:Option Expr) (t:TO):Prop :=
  ∀ (pins:List (Addr × Obj)) (s:Shared) (σ:St) (H:Hp) (Q:Option Int→Hp→Prop),Inv X pins σ H s→t σ H Q →
    wpAny (model X.prog X.w) X.A (evalPart e X.env) (fun u s'=>∃ o H',Inv X pins σ H' s'∧IsPart u o∧Q o H') X.xe s
def qlr:TO:=fun _ H Q=>Q none H
def qn0 (t:TE):TO:=fun σ H Q=>t σ H fun x H1=>∃ i,x=.int i∧Q (some i) H1
section
variable {X : Cx} {e : Expr} {te : TE} {lo hi : Option Expr} {tl th : TO} {pos p2 : Pos}
theorem po_none:PO X none qlr:=by
  intro pins s σ H Q I h
  rw [evalPart_none]
  exact wpAny_pure ⟨none,H,I,.none,h⟩
theorem qkO (h:PE X e te):PO X (some e) (qn0 te):=by
  intro pins s σ H Q I hw
  rw [evalPart_some]
  refine thn (h pins s σ H _ I hw) fun u s1 hq0=>?_
  obtain ⟨x,H1,I1,r1,q1⟩:=hq0
  obtain ⟨i,rfl,q⟩:=q1
  obtain ⟨t,rfl⟩:=r1
  exact ⟨some i,H1,I1,.int i t,q⟩
def SlR (X:Cx) (r:V→Option Int→Option Int→Hp→VK→Prop):Prop :=
  ∀ (pins:List (Addr × Obj)) (s:Shared) (σ:St) (H:Hp) (x:V) (v vl vu:Value) (lo hi:Option Int) (sl:Addr) (Q:VK),Inv X pins σ H s→RelV x v→s.heap.IsSliceOf sl vl vu .none→IsPart vl lo→IsPart vu hi→r x lo hi H Q →
    ∃ T id,typeLookup (.type T) "__getitem__"=pure (some (.builtin id))∧s.TypeIs v T∧wpAny (model X.prog X.w) X.A (getItem v (.ref sl)) (EP X pins σ Q) X.xe s
theorem SlR.or {r r':V→Option Int→Option Int→Hp→VK→Prop} (h:SlR X r) (h':SlR X r'):SlR X (fun x lo hi H Q=>r x lo hi H Q∨r' x lo hi H Q):=by
  intro pins s σ H x v vl vu lo hi sl Q I rx hs pl pu q
  rcases q with q | q
  · exact h pins s σ H x v vl vu lo hi sl Q I rx hs pl pu q
  · exact h' pins s σ H x v vl vu lo hi sl Q I rx hs pl pu q
def tSl (r:V→Option Int→Option Int→Hp→VK→Prop) (te:TE) (tl th:TO):TE:=fun σ H Q=>te σ H fun x H1=>tl σ H1 fun l H2=>th σ H2 fun u H3=>r x l u H3 Q
theorem qiV {r:V→Option Int→Option Int→Hp→VK→Prop} (hr:SlR X r) (he:PE X e te) (hl:PO X lo tl) (hu:PO X hi th):PE X (.Subscript e (.Slice lo hi none p2) pos) (tSl r te tl th):=by
  intro pins s σ H Q I h
  refine Subscript_ (thn (he pins s σ H _ I h) fun v s1 ⟨x,H1,I1,r1,q1⟩=>?_)
  refine wpAny_Slice (thn (hl pins s1 σ H1 _ I1 q1) fun vl s2 ⟨l,H2,I2,pl,q2⟩=>thn (hu pins s2 σ H2 _ I2 q2) fun vu s3 ⟨u,H3,I3,pu,q3⟩=>?_)
  rw [evalPart_none]
  refine wpAny_pure ?_
  have I4:Inv X pins σ H3 { s3 with heap:=s3.heap.push { cls:=.type "slice",data:=.fields #[vl,vu,.none] } }:=I3.kept (t':=s3.toks) fun b ob q=>Heap.get?_push_of_some _ q
  obtain ⟨T,id,hT,ht,hg⟩:=hr pins { s3 with heap:=s3.heap.push { cls:=.type "slice",data:=.fields #[vl,vu,.none] } } σ H3 x v vl vu l u s3.heap.objs.size Q I4 r1 (Heap.IsSliceOf.new ..) pl pu q3
  show wpAny (model X.prog X.w) X.A (subscriptTail e (.Slice lo hi none p2) v (.ref s3.heap.objs.size)) (EP X pins σ Q) X.xe { s3 with heap:=s3.heap.push { cls:=.type "slice",data:=.fields #[vl,vu,.none] } }
  exact tail_any (ops:=[.ref s3.heap.objs.size,v]) ht hT hg (by with_unfolding_all rfl)
def qjQ (xs:List V) (lo hi:Option Int):List V:=(xs.drop (HT.sIx xs.length 0 lo)).take (HT.sIx xs.length xs.length hi - HT.sIx xs.length 0 lo)
theorem qdk (xs:List V) (lo hi:Option Int):(qjQ xs lo hi).length≤xs.length:=by
  unfold qjQ
  rw [List.length_take,List.length_drop]
  omega
def qo2 (K:PySem.W.Frag):V→Option Int→Option Int→Hp→VK→Prop:=fun x lo hi H Q=>∃ a xs,x=.ref a∧SqT K H a xs ∧
  ¬ (HT.sIx xs.length 0 lo=0∧HT.sIx xs.length xs.length hi=xs.length)∧∀ p,H p=none→Q (.ref p) (upd H p (.tup (qjQ xs lo hi)))
theorem sl_tup:SlR X (qo2 X.K):=by
  intro pins s σ H x v vl vu lo hi sl Q I rx hs pl pu h
  obtain ⟨a,xs,rfl,hx,hw,q⟩:=h
  cases rx
  obtain ⟨its,r,ht,hz⟩:=I.tuple hx
  have hlen:its.toArray.size=xs.length:=by rw [List.size_toArray];exact r.length.symm
  refine ⟨"tuple",_,PyProof.Rows.slot_tuple_getitem.lookup,ht.typeIs,?_⟩
  refine HT.getItem_tuple_cut ht hs pl pu (by rw [hlen];exact hw) ?_ (by rw [hlen];exact hz)
  rw [hlen]
  refine ⟨.ref s.heap.objs.size,_,I.laid (t':=s.toks) (o:=.tup (qjQ xs lo hi)) (fun b ob q=>Heap.get?_push_of_some _ q) (Nat.le_refl _) ?_,rfl,q _ (I.hok.fresh (Nat.le_refl _))⟩
  exact ⟨Nat.le_trans (qdk xs lo hi) hz,_,(r.drop (HT.sIx xs.length 0 lo)).take (HT.sIx xs.length xs.length hi - HT.sIx xs.length 0 lo),IsTupD.new _ _⟩
def qoB (K:PySem.W.Frag):R2:=fun x y H Q=>∃ a b xs ys,x=.ref a∧y=.ref b∧SqT K H a xs∧SqT K H b ys∧xs≠[]∧xs.length+ys.length≤sizeLine ∧
  (ys=[]→Q (.ref a) H)∧(ys≠[]→∀ p,H p=none→Q (.ref p) (upd H p (.tup (xs++ys))))
theorem Vals.nil_iff {xs:List V} {us:List Value} (r:Vals xs us):us=[]↔xs=[]:=by
  cases r with
  | nil=>simp
  | cons _ _=>simp
theorem qkf:OpR X (binaryOp .Add) (qoB X.K):=by
  intro pins s σ H x y v u Q I rx ry h
  obtain ⟨a,b,xs,ys,rfl,rfl,ha,hb,hx,hz,q1,q2⟩:=h
  cases rx
  cases ry
  obtain ⟨its,r1,p1,_⟩:=I.tuple ha
  obtain ⟨its2,r2,p2,_⟩:=I.tuple hb
  refine HT.cat_tup p1 p2 (fun z=>hx (r1.nil_iff.mp z)) (fun z=>⟨.ref a,H,I,rfl,q1 (r2.nil_iff.mp z)⟩) (fun z=>?_) (by rw [← r1.length,← r2.length];exact hz)
  refine ⟨.ref s.heap.objs.size,_,I.laid (t':=s.toks) (o:=.tup (xs++ys)) (fun b ob q=>Heap.get?_push_of_some _ q) (Nat.le_refl _) ?_,rfl,q2 (fun w=>z (r2.nil_iff.mpr w)) _ (I.hok.fresh (Nat.le_refl _))⟩
  exact ⟨by rw [List.length_append];exact hz,_,r1.append r2,IsTupD.new _ _⟩
end
def ixN (n:Nat) (i:Int):Option Nat:=if 0≤i then (if i<n then some i.toNat else none) else if -(n:Int)≤i then some (i+n).toNat else none
def atI {α:Type} (xs:List α) (i:Int):Option α:=(ixN xs.length i).bind fun j=>xs[j]?
theorem qhV {n:Nat} {i:Int} {j:Nat} (h:ixN n i=some j):seqIndex? i n=some j∧j<n∧-(n:Int)≤i∧i<n:=by
  unfold ixN at h
  by_cases h0:0≤i
  · rw [if_pos h0] at h
    by_cases h1:i<n
    · rw [if_pos h1] at h
      have e:i.toNat=j:=Option.some.inj h
      exact ⟨by rw [seqIndex_of h0 h1,e],by omega,by omega,h1⟩
    · rw [if_neg h1] at h;cases h
  · rw [if_neg h0] at h
    by_cases h1:-(n:Int)≤i
    · rw [if_pos h1] at h
      have e:(i+n).toNat=j:=Option.some.inj h
      exact ⟨by rw [seqIndex_neg (by omega) h1,e],by omega,h1,by omega⟩
    · rw [if_neg h1] at h;cases h
theorem qfK {α:Type} {xs:List α} {i:Int} {v:α} (h:atI xs i=some v):∃ j,seqIndex? i xs.length=some j∧xs[j]?=some v∧j<xs.length∧-(xs.length:Int)≤i∧i<xs.length:=by
  unfold atI at h
  cases e:ixN xs.length i with
  | none=>rw [e] at h;cases h
  | some j =>
    rw [e] at h
    obtain ⟨h1,h2,h3,h4⟩:=qhV e
    exact ⟨j,h1,h,h2,h3,h4⟩
theorem qld {α:Type} {xs:List α} {j:Nat} {v:α} (h:xs[j]?=some v):atI xs (j:Int)=some v:=by
  have hj:j<xs.length:=(List.getElem?_eq_some_iff.mp h).1
  have e:ixN xs.length (j:Int)=some j:=by
    unfold ixN
    rw [if_pos (by omega),if_pos (by omega)];simp
  unfold atI;rw [e];exact h
def qg7 (b:Expr):Prop:=∀ o i,subscripted b false o i=operate [o,i] (getItem o i)
def IxR (X:Cx) (r:R2):Prop :=
  ∀ (value slice:Expr) (pins:List (Addr × Obj)) (s:Shared) (σ:St) (H:Hp) (x y:V) (v u:Value) (Q:VK),Inv X pins σ H s→RelV x v→RelV y u→r x y H Q →
    subscripted slice false v u=operate [v,u] (getItem v u)→wpAny (model X.prog X.w) X.A (subscriptTail value slice v u) (EP X pins σ Q) X.xe s
def MtR (X:Cx) (id:String) (r:V→List V→Hp→VK→Prop):Prop :=
  ∀ (pins:List (Addr × Obj)) (s:Shared) (σ:St) (H:Hp) (x:V) (xs:List V) (v:Value) (us:List Value) (Q:VK),Inv X pins σ H s→RelV x v→Vals xs us→r x xs H Q →
    wpAny (model X.prog X.w) X.A (call (.builtin id) (v::us)) (EP X pins σ Q) X.xe s
section
variable {X : Cx} {a b : Expr} {ta tb : TE} {pos : Pos}
theorem qnJ {r:R2} (hr:IxR X r) (ha:PE X a ta) (hb:PE X b tb) (hs:qg7 b):PE X (.Subscript a b pos) (tOp r ta tb):=by
  intro pins s σ H Q I h
  exact Subscript_ (qnG ha hb I h fun v u s2 x y H2 I2 rx ry q=>hr a b pins s2 σ H2 x y v u Q I2 rx ry q (hs _ _))
def qpf (K:PySem.W.Frag):R2:=fun x y H Q=>∃ p xs i v,x=.ref p∧y=.int i∧SqL K H p xs∧atI xs i=some v∧Q v H
def qpr (K:PySem.W.Frag):R2:=fun x y H Q=>∃ p xs i v,x=.ref p∧y=.int i∧SqT K H p xs∧atI xs i=some v∧Q v H
def qpC:R2:=fun x y H Q=>∃ z i c,x=.str z∧y=.int i∧z.length≤sizeLine∧atI z.cps.toList i=some c∧Q (.str ⟨#[c]⟩) H
theorem qie:IxR X (qpf X.K):=by
  intro value slice pins s σ H x y v u Q I rx ry h hs
  obtain ⟨p,xs,i,z,rfl,rfl,hq,he,q⟩:=h
  cases rx
  obtain ⟨t,rfl⟩:=ry
  obtain ⟨its,r,pl,hz⟩:=I.list hq
  obtain ⟨j,h1,h2,h3,h4,h5⟩:=qfK he
  obtain ⟨w,ew,rw'⟩:=r.get h2
  have hl:=r.length
  have hn:=qdM
  have fin:EP X pins σ Q w s:=⟨z,H,I,rw',q⟩
  by_cases h0:0≤i
  · have hj:i.toNat=j:=by
      rw [seqIndex_of h0 h5] at h1
      exact Option.some.inj h1
    exact item_listR pl.isList h0 (by omega) (by rw [hj];simpa using ew) fin hs
  · have hj:(i+(its.toArray.size:Int)).toNat=j:=by
      rw [seqIndex_neg (by omega) h4] at h1
      rw [List.size_toArray,← hl]
      exact Option.some.inj h1
    exact subscriptTail_builtinR (x:=w) pl.isList.typeIs slot_list_getitem.lookup
      (wpAny_getItem_list_neg (Q:=fun r s'=>r=w∧EP X pins σ Q r s') pl.isList (by omega) (by rw [List.size_toArray] <;> omega) (by omega) (by rw [hj];simpa using ew) ⟨rfl,fin⟩) hs
theorem qmV:IxR X (qpr X.K):=by
  intro value slice pins s σ H x y v u Q I rx ry h hs
  obtain ⟨p,xs,i,z,rfl,rfl,hq,he,q⟩:=h
  cases rx
  obtain ⟨t,rfl⟩:=ry
  obtain ⟨its,r,pl,hz⟩:=I.tuple hq
  obtain ⟨j,h1,h2,h3,h4,h5⟩:=qfK he
  obtain ⟨w,ew,rw'⟩:=r.get h2
  have hl:=r.length
  have hn:=qdM
  have fin:EP X pins σ Q w s:=⟨z,H,I,rw',q⟩
  exact subscriptTail_builtinR (x:=w) pl.typeIs slot_tuple_getitem.lookup
    (getItem_tuple (j:=j) (Q:=fun r s'=>r=w∧EP X pins σ Q r s') pl (by omega) (by omega) (by rw [List.size_toArray,← hl];exact h1) (by simpa using ew) ⟨rfl,fin⟩) hs
theorem ql6:IxR X qpC:=by
  intro value slice pins s σ H x y v u Q I rx ry h hs
  obtain ⟨z,i,c,rfl,rfl,hz,he,q⟩:=h
  obtain ⟨t,rfl⟩:=rx
  obtain ⟨t',rfl⟩:=ry
  obtain ⟨j,h1,h2,h3,h4,h5⟩:=qfK he
  have hl:z.cps.toList.length=z.length:=by simp [Str.length]
  rw [hl] at h1 h4 h5
  have hn:=qdM
  exact tail_any (typeIs_str s z t) slot_str_getitem.lookup (getItem_str (c:=c) (by
    have e1:decide (i < -(2 ^ 63:Int))=false:=decide_eq_false (by omega)
    have e2:decide (i≥2 ^ 63)=false:=decide_eq_false (by omega)
    rw [e1,e2,Bool.or_false]) (by rw [h1];simpa using h2) ⟨.str ⟨#[c]⟩,H,I.tok _,⟨_,rfl⟩,q⟩) hs
theorem qgJ (its:List Value) (n j:Nat) (u:Value):Obj.mapSeq (·.setIfInBounds j u) { cls:=.type "list",data:=.seq its.toArray n }={ cls:=.type "list",data:=.seq (its.set j u).toArray n }:=by
  simp [Obj.mapSeq]
theorem Inv.lst {pins:List (Addr × Obj)} {σ:St} {H:Hp} {s:Shared} {p:Addr} {xs:List V} (I:Inv X pins σ H s) (h:H p=some (.lst xs)) :
    ∃ (its:List Value) (n:Nat),Vals xs its∧s.heap.get? p=some { cls:=.type "list",data:=.seq its.toArray n }∧xs.length≤sizeLine:=by
  obtain ⟨z,its,n,r,e⟩:=I.hok p _ h
  exact ⟨its,n,r,e,z⟩
theorem Inv.lstUpd {pins:List (Addr × Obj)} {σ:St} {H:Hp} {s:Shared} {p:Addr} {xs ys:List V} {its its':List Value} {n n':Nat} {f:Obj→Obj} (I:Inv X pins σ H s) (h:H p=some (.lst xs))
    (ho:s.heap.get? p=some { cls:=.type "list",data:=.seq its.toArray n }) (hf:f { cls:=.type "list",data:=.seq its.toArray n }={ cls:=.type "list",data:=.seq its'.toArray n' }) (r:Vals ys its') (hz:ys.length≤sizeLine) (t:Nat) :
    Inv X pins σ (upd H p (.lst ys)) { s with heap:=s.heap.update p f,toks:=t }:=by
  have e:(s.heap.update p f).get? p=some { cls:=.type "list",data:=.seq its'.toArray n' }:=by
    rw [Heap.get?_update_self f ho (by rw [hf] <;> rfl),hf]
  refine I.write (x:=p) (e:=p) (by rw [h];trivial) (.inl rfl) (fun b u hb q=>(Heap.get?_update_other _ _ (Ne.symm hb)).trans q) ⟨_,e⟩ ?_
  exact ⟨hz,its',n',r,e⟩
def qnz:V→V→V→Hp→(Hp→Prop)→Prop:=fun o i v H Q=>∃ p xs k j,o=.ref p∧i=.int k∧H p=some (.lst xs)∧ixN xs.length k=some j∧Q (upd H p (.lst (xs.set j v)))
theorem qju:qoX X qnz:=by
  intro pins s σ H o i v ov iv u Q I ro ri rv h
  obtain ⟨p,xs,k,j,rfl,rfl,hp,hj,q⟩:=h
  cases ro
  obtain ⟨t,rfl⟩:=ri
  obtain ⟨its,n,r,ho,hz⟩:=I.lst hp
  obtain ⟨h1,h2,h3,h4⟩:=qhV hj
  have hl:=r.length
  have hn:=qdM
  have I':Inv X pins σ (upd H p (.lst (xs.set j v))) { s with heap:=s.heap.update p (Obj.mapSeq (·.setIfInBounds j u)) } :=
    I.lstUpd hp ho (qgJ its n j u) (r.set rv j) (by rw [List.length_set];exact hz) s.toks
  by_cases h0:0≤k
  · have hk:k.toNat=j:=by
      rw [seqIndex_of h0 h4] at h1
      exact Option.some.inj h1
    exact PySem.W.ki_setAt ho h0 (by omega) (by rw [List.size_toArray,← hl];exact h4) (by rw [hk];exact ⟨_,I',q⟩)
  · have hk:(k+(its.toArray.size:Int)).toNat=j:=by
      rw [seqIndex_neg (by omega) h3] at h1
      rw [List.size_toArray,← hl]
      exact Option.some.inj h1
    exact PySem.W.ki_setBack ho (by omega) (by rw [List.size_toArray,← hl];exact h3) (by omega) (by rw [hk];exact ⟨_,I',q⟩)
theorem qeZ (lo hi:Option Int) (n:Nat):(sliceBounds lo hi none n).1=((HT.sIx n 0 lo:Nat):Int)∧(sliceBounds lo hi none n).2.1=((HT.sIx n n hi:Nat):Int)∧(sliceBounds lo hi none n).2.2=1:=by
  refine ⟨?_,?_,rfl⟩
  · cases lo with
    | none=>simp [sliceBounds,HT.sIx]
    | some i =>
      simp only [sliceBounds,HT.sIx,Option.getD_none,show (1:Int)>0 by decide,if_true]
      by_cases h:i<0
      · simp only [h,if_true] <;> omega
      · simp only [h,if_false] <;> omega
  · cases hi with
    | none=>simp [sliceBounds,HT.sIx]
    | some i =>
      simp only [sliceBounds,HT.sIx,Option.getD_none,show (1:Int)>0 by decide,if_true]
      by_cases h:i<0
      · simp only [h,if_true] <;> omega
      · simp only [h,if_false] <;> omega
theorem qex (its:List Value) (lo hi:Option Int):slicePick its.toArray lo hi none=((its.drop (HT.sIx its.length 0 lo)).take (HT.sIx its.length its.length hi - HT.sIx its.length 0 lo)).toArray:=by
  obtain ⟨h1,h2,h3⟩:=qeZ lo hi its.toArray.size
  unfold slicePick
  rw [h1,h2,h3]
  simp only [sliceRange_one,pick_run,List.size_toArray] <;> rfl
def qoP (K:PySem.W.Frag):V→Option Int→Option Int→Hp→VK→Prop:=fun x lo hi H Q=>∃ a xs,x=.ref a∧SqL K H a xs∧∀ p,H p=none→Q (.ref p) (upd H p (.lst (qjQ xs lo hi)))
theorem sl_list:SlR X (qoP X.K):=by
  intro pins s σ H x v vl vu lo hi sl Q I rx hs pl pu h
  obtain ⟨a,xs,rfl,hx,q⟩:=h
  cases rx
  obtain ⟨its,r,ht,hz⟩:=I.list hx
  have hlen:=r.length
  refine ⟨"list",_,slot_list_getitem.lookup,ht.isList.typeIs,?_⟩
  refine wpAny_getItem_list_slice ht.isList hs pl pu .none (by simp) ?_ (by rw [List.size_toArray] <;> omega)
  rw [qex,← hlen]
  refine ⟨.ref s.heap.objs.size,_,I.laid (t':=s.toks) (o:=.lst (qjQ xs lo hi)) (fun b ob q=>Heap.get?_push_of_some _ q) (Nat.le_refl _) ?_,rfl,q _ (I.hok.fresh (Nat.le_refl _))⟩
  exact ⟨Nat.le_trans (qdk xs lo hi) hz,_,0,(r.drop (HT.sIx xs.length 0 lo)).take (HT.sIx xs.length xs.length hi - HT.sIx xs.length 0 lo),Heap.get?_push_size _ rfl⟩
def qd9:V→Bool
  | .non=>true
  | .bl _=>true
  | .int _=>true
  | .str _=>true
  | _=>false
def eqV:V→V→Bool
  | .non,.non=>true
  | .bl a,.bl b=>a == b
  | .bl a,.int b=>(if a then 1 else 0) == b
  | .int a,.bl b=>a == (if b then 1 else 0)
  | .int a,.int b=>a == b
  | .str a,.str b=>a == b
  | _,_=>false
theorem ql1 {A:Around} {s:Shared} {y x:V} {u v:Value} (ry:RelV y u) (rx:RelV x v) (fy:qd9 y=true) (fx:qd9 x=true):SeqAt.EqAt A s u v (eqV y x):=by
  cases y with
  | non =>
    cases ry
    cases x with
    | non=>cases rx;exact SeqAt.EqAt.same _
    | bl b=>cases rx;exact SeqAt.EqAt.none_bool b
    | int b=>obtain ⟨t,rfl⟩:=rx;exact SeqAt.EqAt.none_int b t
    | str b=>obtain ⟨t,rfl⟩:=rx;exact SeqAt.EqAt.none_str b t
    | _=>exact absurd (show false=true from fx) Bool.false_ne_true
  | bl a =>
    cases ry
    cases x with
    | non=>cases rx;exact SeqAt.EqAt.bool_none a
    | bl b=>cases rx;exact SeqAt.EqAt.bool_bool a b
    | int b=>obtain ⟨t,rfl⟩:=rx;exact SeqAt.EqAt.bool_int a b t
    | str b=>obtain ⟨t,rfl⟩:=rx;exact SeqAt.EqAt.bool_str a b t
    | _=>exact absurd (show false=true from fx) Bool.false_ne_true
  | int a =>
    obtain ⟨t',rfl⟩:=ry
    cases x with
    | non=>cases rx;exact SeqAt.EqAt.int_none a t'
    | bl b=>cases rx;exact SeqAt.EqAt.int_bool a t' b
    | int b=>obtain ⟨t,rfl⟩:=rx;exact SeqAt.EqAt.int_int a t' b t
    | str b=>obtain ⟨t,rfl⟩:=rx;exact SeqAt.EqAt.int_str a t' b t
    | _=>exact absurd (show false=true from fx) Bool.false_ne_true
  | str a =>
    obtain ⟨t',rfl⟩:=ry
    cases x with
    | non=>cases rx;exact SeqAt.EqAt.str_none a t'
    | bl b=>cases rx;exact SeqAt.EqAt.str_bool a t' b
    | int b=>obtain ⟨t,rfl⟩:=rx;exact SeqAt.EqAt.str_int a t' b t
    | str b=>obtain ⟨t,rfl⟩:=rx;exact SeqAt.EqAt.str_str a t' b t
    | _=>exact absurd (show false=true from fx) Bool.false_ne_true
  | _=>exact absurd (show false=true from fy) Bool.false_ne_true
def eqU (x:V) (u:Value):Bool:=match u with
  | .none=>eqV .non x
  | .bool b=>eqV (.bl b) x
  | .int i _=>eqV (.int i) x
  | .str z _=>eqV (.str z) x
  | _=>false
theorem qjV {x y:V} {u:Value} (r:RelV y u) (f:qd9 y=true):eqU x u=eqV y x:=by
  cases y with
  | non=>cases r;rfl
  | bl b=>cases r;rfl
  | int i=>obtain ⟨t,rfl⟩:=r;rfl
  | str z=>obtain ⟨t,rfl⟩:=r;rfl
  | _=>exact absurd (show false=true from f) Bool.false_ne_true
theorem qdS {x:V}:∀ {xs:List V} {us:List Value},Vals xs us→xs.all qd9=true→us.any (eqU x)=xs.any fun y=>eqV y x
  | _,_,.nil,_=>rfl
  | y::xs,u::us,.cons r t,f=>by
    rw [List.all_cons,Bool.and_eq_true] at f
    rw [List.any_cons,List.any_cons,qjV r f.1,qdS t f.2]
theorem qcB {A:Around} {s:Shared} {x:V} {v:Value} (rx:RelV x v) (fx:qd9 x=true):∀ {xs:List V} {us:List Value},Vals xs us→xs.all qd9=true→∀ u∈us,SeqAt.EqAt A s u v (eqU x u)
  | _,_,.nil,_=>fun u hu=>by cases hu
  | y::xs,u::us,.cons r t,f=>fun u' hu=>by
    rw [List.all_cons,Bool.and_eq_true] at f
    rcases List.mem_cons.mp hu with rfl | hu
    · rw [qjV r f.1];exact ql1 r rx f.1 fx
    · exact qcB rx fx t f.2 u' hu
def inV (x:V) (xs:List V):Bool:=xs.any fun y=>eqV y x
def rIn (K:PySem.W.Frag) (neg:Bool):R2:=fun x y H Q=>∃ p xs,y=.ref p∧(SqL K H p xs∨SqT K H p xs)∧qd9 x=true∧xs.all qd9=true∧Q (.bl (if neg then !inV x xs else inV x xs)) H
theorem qhj:OpR X (compareOp .In) (rIn X.K false):=by
  intro pins s σ H x y v u Q I rx ry h
  obtain ⟨p,xs,rfl,hq,fx,fs,q⟩:=h
  cases ry
  rcases hq with hq | hq
  · obtain ⟨its,r,pl,hz⟩:=I.list hq
    refine SeqAt.in_listAt (eqU x) pl.isList (fun w hw=>qcB rx fx r fs w (by simpa using hw)) ⟨.bl _,H,I,rfl,?_⟩
    rw [show its.toArray.any (eqU x)=its.any (eqU x) by simp,qdS r fs]
    exact q
  · obtain ⟨its,r,pl,hz⟩:=I.tuple hq
    refine SeqAt.in_tupleAt (eqU x) pl (fun w hw=>qcB rx fx r fs w (by simpa using hw)) ⟨.bl _,H,I,rfl,?_⟩
    rw [show its.toArray.any (eqU x)=its.any (eqU x) by simp,qdS r fs]
    exact q
theorem qeQ:OpR X (compareOp .NotIn) (rIn X.K true):=by
  intro pins s σ H x y v u Q I rx ry h
  obtain ⟨p,xs,rfl,hq,fx,fs,q⟩:=h
  cases ry
  rcases hq with hq | hq
  · obtain ⟨its,r,pl,hz⟩:=I.list hq
    refine SeqAt.notIn_listAt (eqU x) pl.isList (fun w hw=>qcB rx fx r fs w (by simpa using hw)) ⟨.bl _,H,I,rfl,?_⟩
    rw [show its.toArray.any (eqU x)=its.any (eqU x) by simp,qdS r fs]
    exact q
  · obtain ⟨its,r,pl,hz⟩:=I.tuple hq
    refine SeqAt.notIn_tupleAt (eqU x) pl (fun w hw=>qcB rx fx r fs w (by simpa using hw)) ⟨.bl _,H,I,rfl,?_⟩
    rw [show its.toArray.any (eqU x)=its.any (eqU x) by simp,qdS r fs]
    exact q
theorem qbV:qci X (.builtin "len") (fun xs H Q=>∃ p ys,xs=[.ref p]∧(SqL X.K H p ys∨SqT X.K H p ys)∧Q (.int ys.length) H):=by
  intro pins s σ H xs us Q I r h
  obtain ⟨p,ys,rfl,hq,q⟩:=h
  obtain ⟨u,rfl,rx⟩:=qfQ r
  cases rx
  have hn:=qdM
  rcases hq with hq | hq
  · obtain ⟨its,r',pl,hz⟩:=I.list hq
    have hlen:=r'.length
    exact Calls.call_len_list pl.isList (by simp only [List.size_toArray] <;> omega) ⟨.int ys.length,H,I.tok _,⟨s.toks+1,by rw [List.size_toArray,hlen]⟩,q⟩
  · obtain ⟨its,r',pl,hz⟩:=I.tuple hq
    have hlen:=r'.length
    exact len_tuple pl (by simp only [List.size_toArray] <;> omega) ⟨.int ys.length,H,I.tok _,⟨s.toks+1,by rw [List.size_toArray,hlen]⟩,q⟩
theorem qe7:qci X (.builtin "len") (fun xs H Q=>∃ z,xs=[.str z]∧z.length≤sizeLine∧Q (.int z.length) H):=by
  intro pins s σ H xs us Q I r h
  obtain ⟨z,rfl,hz,q⟩:=h
  obtain ⟨u,rfl,t,rfl⟩:=qfQ r
  have hn:=qdM
  exact len_str (by omega) ⟨.int z.length,H,I.tok _,⟨_,rfl⟩,q⟩
theorem qbN:qci X (.type "tuple") (fun xs H Q=>∃ p ys,xs=[.ref p]∧((SqL X.K H p ys∧∀ l,H l=none→Q (.ref l) (upd H l (.tup ys)))∨(SqT X.K H p ys∧Q (.ref p) H))):=by
  intro pins s σ H xs us Q I r h
  obtain ⟨p,ys,rfl,h⟩:=h
  obtain ⟨u,rfl,rx⟩:=qfQ r
  cases rx
  rcases h with ⟨hq,q⟩ | ⟨hq,q⟩
  · obtain ⟨its,r',pl,hz⟩:=I.list hq
    have hlen:=r'.length
    refine call_tuple_list pl.isList (fun h' kp=>?_) (by simp only [List.size_toArray] <;> omega)
    have I1:Inv X pins σ H { s with heap:=h' }:=I.kept (t':=s.toks) kp
    have I2:Inv X pins σ (upd H h'.objs.size (.tup ys)) { s with heap:=h'.push { cls:=.type "tuple",data:=.seq its.toArray } } :=
      I1.laid (t':=s.toks) (fun b o e=>Heap.get?_push_of_some _ e) (Nat.le_refl _) (show ObjOk X.prog X.w _ _ _ (.tup ys) from ⟨hz,its,r',IsTupD.new _ _⟩)
    exact ⟨.ref h'.objs.size,_,I2,rfl,q _ (I1.hok.fresh (Nat.le_refl _))⟩
  · obtain ⟨its,r',pl,hz⟩:=I.tuple hq
    exact call_tuple_same pl ⟨.ref p,H,I,rfl,q⟩
def tyV (K:PySem.W.Frag) (T:String) (x:V) (H:Hp):Prop:=match x with
  | .str _=>T="str"
  | .int _=>T="int"
  | .ref p=>(T="list"∧∃ xs,SqL K H p xs)∨(T="tuple"∧((∃ xs,H p=some (.tup xs))∨∃ o,K.lookup p=some o∧o.cls=.type "tuple"∧o.dict=none)) ∨
      (T="dict"∧((∃ kvs,H p=some (.dK kvs))∨∃ kvs,H p=some (.dT kvs)))∨(T="set"∧∃ S n,H p=some (.set S n))
  | _=>False
theorem qnl {pins:List (Addr × Obj)} {σ:St} {H:Hp} {s:Shared} {T:String} {x:V} {v:Value} (I:Inv X pins σ H s) (r:RelV x v) (ty:tyV X.K T x H) :
    s.TypeIs v T∧∀ a,v=.ref a→∃ ob,s.heap.get? a=some ob∧ob.dict=none:=by
  cases x with
  | str z =>
    obtain ⟨t,rfl⟩:=r
    cases (show T="str" from ty)
    exact ⟨typeIs_str s z t,fun _ e=>nomatch e⟩
  | int i =>
    obtain ⟨t,rfl⟩:=r
    cases (show T="int" from ty)
    exact ⟨typeIs_int s i t,fun _ e=>nomatch e⟩
  | ref p =>
    cases r
    rcases ty with ⟨rfl,xs,hq⟩ | ⟨rfl,⟨xs,hk⟩ | ⟨o,hk,hc,hd⟩⟩ | ⟨rfl,hk⟩ | ⟨rfl,S,n,hk⟩
    · obtain ⟨its,_,pl,_⟩:=I.list hq
      refine ⟨pl.isList.typeIs,fun a e=>?_⟩
      cases e
      obtain ⟨o,n,e,c,hd,_⟩:=pl
      exact ⟨o,e,hd⟩
    · obtain ⟨_,_,_,o,e,⟨c,hd⟩,_⟩:=I.hok p _ hk
      refine ⟨⟨o,e,c⟩,fun a e2=>?_⟩
      cases e2
      exact ⟨o,e,hd⟩
    · refine ⟨⟨o,I.kIn p o hk,hc⟩,fun a e=>?_⟩
      cases e
      exact ⟨o,I.kIn _ o hk,hd⟩
    · have z:∃ o,s.heap.get? p=some o∧o.ExactDict:=by
        rcases hk with ⟨kvs,hk⟩ | ⟨kvs,hk⟩
        · obtain ⟨_,_,_,_,o,_,_,e,ex,_⟩:=I.hok p _ hk
          exact ⟨o,e,ex⟩
        · obtain ⟨_,_,_,_,o,_,_,e,ex,_⟩:=I.hok p _ hk
          exact ⟨o,e,ex⟩
      obtain ⟨o,e,ex⟩:=z
      refine ⟨⟨o,e,ex.1⟩,fun a e2=>?_⟩
      cases e2
      exact ⟨o,e,ex.2.1⟩
    · obtain ⟨o,_,_,_,e,ex,_⟩:=I.hok p _ hk
      refine ⟨⟨o,e,ex.1⟩,fun a e2=>?_⟩
      cases e2
      exact ⟨o,e,ex.2.1⟩
  | _=>exact False.elim ty
def tBM (K:PySem.W.Frag) (T:String) (r:V→List V→Hp→VK→Prop) (to:TE) (t:TA):TE:=fun σ H Q=>to σ H fun x H1=>tyV K T x H1∧t σ H1 fun xs H2=>r x xs H2 Q
variable {o e : Expr} {es : List Expr} {to : TE} {t : TA} {name : Str} {apos cpos : Pos} {T id : String} {r : V → List V → Hp → VK → Prop}
theorem qkZ (pa:PlainAttrs T) (slot:Slot T name id) (hty:typeOf (.builtin id)=pure (.type "method_descriptor")) (hm:MtR X id r) (ho:PE X o to) (ha:PA X (e::es) t)
    (hbase:attributeBase o name X.env (eval o X.env)=eval o X.env:=by rfl)
    (hfew:((backTo cpos (starEach (e::es) X.env)).all (fun x=>!x.1) && (backToKw cpos (keywordEach [] X.env)).all (fun x=>x.1.isSome)
      && decide ((e::es).length+([]:List Keyword).length+(if ([]:List Keyword).isEmpty then 0 else 1)<30))=true:=by rfl)
    (hline:(apos.endLine == cpos.line)=true:=by rfl) (hs:starEach (e::es) X.env=(false,eval e X.env)::starEach es X.env:=by rfl) (hplain:(backTo cpos (starEach es X.env)).any (·.1)=false:=by rfl) :
    PE X (.Call (.Attribute o name apos) (e::es) [] cpos) (tBM X.K T r to t):=by
  intro pins s σ H Q I h
  refine wpAny_Call_method_late hbase hfew hline rfl (thn (ho pins s σ H _ I h) fun v s1 hq0=>?_)
  obtain ⟨x,H1,I1,r1,ty,q1⟩:=hq0
  obtain ⟨h1,h2⟩:=qnl I1 r1 ty
  refine ⟨T,id,pa,slot,hty,h1,h2,?_⟩
  have hA:=ha cpos pins s1 σ H1 _ I1 q1
  rw [hs] at hA ⊢
  refine Calls.callWith_builtin (by show (false || (backTo cpos (starEach es X.env)).any (·.1))=false;rw [hplain] <;> rfl) (Calls.evalArgs_plain ?_)
  exact thn hA fun us s2 hq1=>by obtain ⟨vs,H2,I2,r2,q2⟩:=hq1;exact hm pins s2 σ H2 x vs v us Q I2 r1 r2 q2
end
def MtM (X:Cx) (id:String) (r:V→List V→Hp→VK→Prop):Prop :=
  ∀ (pins:List (Addr × Obj)) (s:Shared) (σ:St) (H:Hp) (x:V) (xs:List V) (v:Value) (us:List Value) (Q:VK),Inv X pins σ H s→RelV x v→Vals xs us→r x xs H Q →
    wpAny (model X.prog X.w) X.A (call (.builtin id) (v::us)) (EP X pins σ Q) X.xe s
theorem Vals.one:∀ {x:V} {us:List Value},Vals [x] us→∃ u,us=[u]∧RelV x u
  | _,_,.cons r .nil=>⟨_,rfl,r⟩
theorem Vals.rep {xs:List V} {us:List Value} (h:Vals xs us):∀ k:Nat,Vals (List.replicate k xs).flatten (List.replicate k us).flatten
  | 0=>.nil
  | k+1=>by
    rw [List.replicate_succ,List.replicate_succ,List.flatten_cons,List.flatten_cons]
    exact Vals.append h (Vals.rep h k)
theorem qdp (its:List Value):∀ (k:Nat) (acc:List Value),
    List.foldl (fun x1 x2=>x1++x2) acc.toArray (List.replicate k its.toArray)=(acc++(List.replicate k its).flatten).toArray
  | 0,acc=>by simp
  | k+1,acc=>by
    have e:acc.toArray++its.toArray=(acc++its).toArray:=by simp
    have e2:(acc++its)++(List.replicate k its).flatten=acc++(List.replicate (k+1) its).flatten:=by
      rw [List.replicate_succ,List.flatten_cons,List.append_assoc]
    rw [← e2,← qdp its k (acc++its),← e,List.replicate_succ,List.foldl_cons]
section
variable {X : Cx} {pins : List (Addr × Obj)} {σ : St} {H : Hp} {s : Shared} {l b : Addr} {xs ys zs : List V}
theorem Inv.lset {its its':List Value} {n:Nat} {f:Array Value→Array Value} {t':Nat} (I:Inv X pins σ H s) (hH:H l=some (.lst xs))
    (e:s.heap.get? l=some { cls:=.type "list",data:=.seq its.toArray n }) (hf:f its.toArray=its'.toArray) (hv:Vals ys its') (hz:ys.length≤sizeLine) :
    Inv X pins σ (upd H l (.lst ys)) { s with heap:=s.heap.update l (Obj.mapSeq f),toks:=t' }:=by
  have q:=PySem.IsL.update e f
  rw [hf] at q
  refine I.write (x:=l) (e:=l) (by rw [hH];exact trivial) (.inl rfl) (fun b' u hb hu=>(Heap.get?_update_other s.heap (Obj.mapSeq f) (Ne.symm hb)).trans hu) ⟨_,q⟩ ?_
  exact ⟨hz,its',_,hv,q⟩
theorem Inv.lnew {its:List Value} {t':Nat} (I:Inv X pins σ H s) (hv:Vals ys its) (hz:ys.length≤sizeLine) :
    Inv X pins σ (upd H s.heap.objs.size (.lst ys)) { s with heap:=s.heap.push { cls:=.type "list",data:=.seq its.toArray },toks:=t' } :=
  I.laid (fun _ _ q=>Heap.get?_push_of_some _ q) (Nat.le_refl _) ⟨hz,its,0,hv,Heap.get?_push_size _ rfl⟩
theorem Inv.fresh (I:Inv X pins σ H s):H s.heap.objs.size=none:=I.hok.fresh (Nat.le_refl _)
theorem Inv.lstM (I:Inv X pins σ H s) (hH:H l=some (.lst xs)):xs.length≤sizeLine∧∃ (its:List Value) (n:Nat),Vals xs its∧xs.length=its.length∧s.heap.get? l=some { cls:=.type "list",data:=.seq its.toArray n }:=by
  obtain ⟨z,its,n,r,e⟩:=I.hok l _ hH
  exact ⟨z,its,n,r,r.length,e⟩
theorem qjx {n:Nat} (h:n≤sizeLine):Builtin.List.listTooLong n=false:=by
  unfold Builtin.List.listTooLong
  exact decide_eq_false (by omega)
end
section
variable {X : Cx}
def qk6:V→List V→Hp→VK→Prop:=fun x vs H Q=>∃ l xs y,x=.ref l∧vs=[y]∧H l=some (.lst xs)∧xs.length<sizeLine∧Q .non (upd H l (.lst (xs++[y])))
theorem qdx:MtM X "list.append" qk6:=by
  intro pins s σ H x vs v us Q I rx rv h
  obtain ⟨l,xs,y,rfl,rfl,hH,hz,q⟩:=h
  cases rx
  obtain ⟨u,rfl,ru⟩:=rv.one
  obtain ⟨z,its,n,r,hl,e⟩:=I.lstM hH
  refine call_meets F.slot_list_append ⟨_,e,rfl⟩ F.entry_list_append (F.args_list_append_2 _ _) (PySem.list_append l its.toArray n u (by rw [List.size_toArray];omega)) ⟨e,?_⟩
  refine ⟨.non,_,I.lset (its':=its++[u]) hH e (by simp) (r.append (.cons ru .nil)) ?_,rfl,q⟩
  rw [List.length_append,List.length_singleton]
  omega
def qpL:R2:=fun x y H Q=>∃ l b xs zs,x=.ref l∧y=.ref b∧H l=some (.lst xs)∧H b=some (.lst zs)∧xs.length+zs.length≤sizeLine∧∀ p,H p=none→Q (.ref p) (upd H p (.lst (xs++zs)))
theorem qlN:OpR X (binaryOp .Add) qpL:=by
  intro pins s σ H x y v u Q I rx ry h
  obtain ⟨l,b,xs,zs,rfl,rfl,hH,hB,hz,q⟩:=h
  cases rx
  cases ry
  obtain ⟨z,its,n,r,hl,e⟩:=I.lstM hH
  obtain ⟨z2,its2,n2,r2,hl2,e2⟩:=I.lstM hB
  refine PySem.P.add_list e e2 ?_ (by rw [List.size_toArray,List.size_toArray];omega)
  have ea:its.toArray++its2.toArray=(its++its2).toArray:=by simp
  rw [ea]
  exact ⟨.ref _,_,I.lnew (t':=s.toks) (r.append r2) (by rw [List.length_append];omega),rfl,q _ I.fresh⟩
def qpc:R2:=fun x y H Q=>∃ l k xs,x=.ref l∧y=.int k∧H l=some (.lst xs)∧-(2 ^ 63)≤k∧k<2 ^ 63∧xs.length*k.toNat≤sizeLine ∧
  ∀ p,H p=none→Q (.ref p) (upd H p (.lst (List.replicate k.toNat xs).flatten))
theorem qfz {α:Type} (xs:List α) (k:Nat):(List.replicate k xs).flatten.length=k*xs.length:=by
  induction k with
  | zero=>simp
  | succ k ih=>rw [List.replicate_succ,List.flatten_cons,List.length_append,ih,Nat.succ_mul,Nat.add_comm]
theorem qmD:OpR X (binaryOp .Mult) qpc:=by
  intro pins s σ H x y v u Q I rx ry h
  obtain ⟨l,k,xs,rfl,rfl,hH,h1,h2,hz,q⟩:=h
  cases rx
  obtain ⟨t,rfl⟩:=ry
  obtain ⟨z,its,n,r,hl,e⟩:=I.lstM hH
  have hlen:its.toArray.size*k.toNat≤sizeLine:=by rw [List.size_toArray,← hl];exact hz
  have hcap:¬ its.toArray.size*k.toNat>(2 ^ 63 - 1) / 8:=by
    have:(sizeLine:Nat)≤(2 ^ 63 - 1) / 8:=by decide
    omega
  have hfit:¬ (!Builtin.List.listFitsIndex k)=true:=by
    rw [fitsIndex_both h1 h2]
    exact Bool.false_ne_true
  have hlong:¬ Builtin.List.listTooLong (its.toArray.size*k.toNat)=true:=by
    rw [qjx hlen]
    exact Bool.false_ne_true
  have hnew:List.foldl (fun x1 x2=>x1++x2) #[] (List.replicate (if its.toArray.isEmpty=true then 0 else k.toNat) its.toArray)=(List.replicate k.toNat its).flatten.toArray:=by
    have f0:∀ m:Nat,List.foldl (fun x1 x2=>x1++x2) #[] (List.replicate m its.toArray)=(List.replicate m its).flatten.toArray:=fun m=>by
      have:=qdp its m []
      rw [List.nil_append] at this
      exact this
    rw [f0]
    cases its with
    | nil=>simp
    | cons a r'=>rw [if_neg (by simp)]
  refine wpAny_binaryOp_repeat_ref (T:="list") (U:="int") (by decide) ⟨_,e,rfl⟩ (fun s'=>typeIs_int s' k t) noFill_list_mul F.fills_int_mul F.slot_int_rmul repeat_list F.slot_int_index.lookup
    (call_meets F.slot_int_rmul (typeIs_int s k t) F.entry_int_rmul (F.args_int_rmul_2 _ _) (int___rmul___int_list k t l its.toArray n)
      ⟨e,rfl,⟨_,e,rfl⟩,call_meets F.slot_list_mul ⟨_,e,rfl⟩ F.entry_list_mul (F.args_list_mul_2 _ _) (AutoListH.list___mul___list_int_3 l its.toArray n k t hfit hcap hlong) ⟨e,?_⟩⟩)
  rw [hnew]
  exact ⟨.ref _,_,I.lnew (t':=s.toks) (r.rep k.toNat) (by rw [qfz,Nat.mul_comm];exact hz),rfl,q _ I.fresh⟩
end
section
variable {prog : Program} {w : World} {A : Around} {E : Value → Shared → Prop} {s : Shared}
end
section
variable {X : Cx}
end
end L2
namespace Att
open PySem PySem.W PySem.Calls PyProof.Rows
theorem qdn {P:Params} {h:Heap}:∀ (ns:List Int) (vs:List Value),WellAll P h vs (ns.map WData.int)→IntsAre vs ns:=by
  intro ns
  induction ns with
  | nil =>
    intro vs w
    rw [List.map_nil] at w
    cases w
    exact .nil
  | cons n ns ih =>
    intro vs w
    rw [List.map_cons] at w
    cases w with
    | cons a b =>
      cases a
      exact .cons _ _ (ih _ b)
theorem qhB {l:OpenLaw} {n:Nat} (hn:l.most=some n) {P:Params} {h:Heap} {args:List WData} {vals:List Value}
    (hpre:l.row.toRowW.claim.pre args=true) (hwl:WellAll P h vals args) :
    ∃ a vs ns,vals=[Value.ref a]∧args=[WData.list (ns.map WData.int)]∧h.get? a=some { cls:=.type "list",data:=.seq vs.toArray }∧IntsAre vs ns∧ns.length≤n:=by
  have hsh:WShape.hasAll [] args [.list .int]=true:=(pre_splitW hpre).1
  have hc:l.pre.holds [] { args:=args }=true:=(pre_splitW hpre).2
  obtain ⟨d,r,rfl,h1,h2⟩:=hasAllW_cons hsh
  obtain rfl:=hasAllW_nil h2
  obtain ⟨xs,rfl,h3⟩:=hasW_list h1
  obtain ⟨ns,rfl⟩:=items_int h3
  have hlen:ns.length≤n:=by
    unfold OpenLaw.pre at hc
    have h4:(WTm.not (.lt (.lit (.int (n:Int))) (.len (.arg 0)))).holds [] { args:=[.list (ns.map .int)] }=true:=by
      have h4:=(holds_andW hc).1
      rw [hn] at h4
      exact h4
    have h5:=condW_of h4 (w_not (w_lt w_lit (w_len_list (w_arg rfl))))
    rw [List.length_map] at h5
    refine Nat.le_of_not_lt fun q=>?_
    have q':(n:Int)<((ns.length:Nat):Int):=by omega
    first
      | (rw [decide_eq_true q'] at h5;exact absurd h5 (by decide))
      | (simp at h5;omega)
  cases hwl with
  | cons w1 w2 =>
    cases w2
    cases w1 with
    | list ho hall=>exact ⟨_,_,ns,rfl,rfl,ho,qdn ns _ hall,hlen⟩
theorem qil (l:OpenLaw) (args:List WData):l.row.toRowW.claim.post args (.bool true) args=true :=
  postW_of (r:=l.row.toRowW) (X:=(true == true))
    (show WShape.has [] (.bool true) .bool=true by first | rfl | decide | simp [WShape.has,WShape.arms,WShape.armsAll])
    (show (WTm.eq .res (.lit (.bool true))).value [] { args:=args,res:=some (.bool true),after:=args }=some (.bool (true == true)) from w_eq_bool (w_res rfl) w_lit) rfl
theorem attach_call {l:OpenLaw} {n:Nat} {q:Program} {loose:List Str} {XP:(Str→Option Value)→Heap→Prop} {YP:World→Heap→Prop} {d:DefRec}
    (hn:l.most=some n) (hdf:d.params.defaults=[])
    (call:∀ (w:World) (s₀ s₁:Shared) (mg mb:Str→Option Value) (fa:Addr) (o:Obj) (pm cd doc:Value) (a:Addr) (vs:List Value) (ns:List Int),
      Ground q loose [] XP w s₀ mg mb s₁.heap→YP w s₁.heap →
      s₁.heap.get? fa=some o→o.data=.func (docDef d.name d.params d.body d.scope pm cd doc)→s₁.heap.CodeRec cd d.name→mg d.name=some (.ref fa) →
      s₁.heap.get? a=some { cls:=.type "list",data:=.seq vs.toArray }→IntsAre vs ns→ns.length≤n→s₁.gens=#[] →
      codeAny (model l.prog w) callerA (.call (.ref fa) ⟨[.ref a],[]⟩) (fun r s'=>r=.ok (.ret (.bool true))∧OldK s₁.heap s'.heap∧s'.os=s₁.os∧AllBare s'.gens) s₁) :
    WalkO q loose XP YP l.row.toRowW d [] (fun f vs=>PySem.call f vs):=by
  intro w s₀ s₁ mg mb G Y fa o pm cd doc dV kV ho hd hcd hD hmg hg args vals as hpre hlay hrd hwl hlo
  obtain rfl:dV=.none:=Dflts.none hD hdf
  obtain rfl:kV=.none:=Dflts.noKw hD
  obtain ⟨a,vs,ns,rfl,rfl,hobj,hints,hlen⟩:=qhB hn hpre hwl
  refine enter_call (codeAny_mono (call w s₀ s₁ mg mb fa o pm cd doc a vs ns G Y ho (fd_plain hd) hcd hmg hobj hints hlen hg) fun r s' hq=>?_)
  obtain ⟨rfl,h2,h3,h4⟩:=hq
  exact ⟨.inl ⟨.bool true,.bool true,[],rfl,fun _=>rfl,.bool true,qil l _,fun _=>⟨List.Pairwise.nil,fun _ hm=>(nomatch hm)⟩⟩,h2,h3,h4⟩
section
variable {prog : Program} {w : World} {A : Around} {E : Value → Shared → Prop} {s : Shared} {K : Frag}
end
end Att
namespace L2
open PySem PySem.Spec PyProof.Rows
theorem qeE:∀ {vs:List Value} {ns:List Int},IntsAre vs ns→Vals (ns.map V.int) vs
  | _,_,.nil=>.nil
  | _,_,.cons n t h=>.cons ⟨t,rfl⟩ (qeE h)
def qn6 (H:Hp):Prop:=∀ b,H b=none∨∃ o xs,H b=some (.frz o (.lst xs))
theorem qjz {P:Program} {w:World} {K:PySem.W.Frag} {mg mb:Str→Option Value} {CX:CXT} {k:Nat} {fa a:Addr} {fd:FuncData} {x:Str} {sp:Sp} {s₁:Shared} {vs:List Value} {ns:List Int}
    (KX:K.In s₁.heap) (hns:s₁.heap.Ns mainGlobals mg) (hb:s₁.heap.Ns builtinsNs mb) (hbb:∀ x:Str,x≠"__name__"→mb x=bootBuiltins x) (hlim:s₁.heap.NoLimit)
    (hbm:∃ bm ob,mg "__builtins__"=some (.ref bm)∧bm≠builtinsNs∧s₁.heap.get? bm=some ob∧ob.cls=.type "module"∧ob.dict=some builtinsNs∧ob.data=.plain) (hse:s₁.heap.NoSeer) (hdg:∃ mc,s₁.heap.Ns cStatics mc∧mc "sys.int_max_str_digits"=none) (hg:s₁.gens=#[])
    (ha:s₁.heap.get? a=some { cls:=.type "list",data:=.seq vs.toArray }) (hi:IntsAre vs ns) (hl:ns.length≤sizeLine) (hr:Room k callerA)
    (F:∀ base:Heap,K.In base→base.Ns mainGlobals mg→FnOk P w K mg base CX k fa fd [x] sp) (hbind:∀ (s:Shared) (u:Value),BindsTo s fd ⟨[u],[]⟩ [(x,u)])
    (hsp:∀ H:Hp,qn6 H→SqL K H a (ns.map V.int)→sp [.ref a] H (fun v _=>v=.bl true) fun _ _ _=>False)
    (hCX:∀ H e s',CX [] H s₁ (fun _ _ _=>False) e s'→False) :
    codeAny (model P w) callerA (.call (.ref fa) ⟨[.ref a],[]⟩) (fun r s'=>r=.ok (.ret (.bool true))∧OldK s₁.heap s'.heap∧s'.os=s₁.os∧AllBare s'.gens) s₁:=by
  have rv:=qeE hi
  have lenV:=hi.length
  have core:∀ H:Hp,qn6 H→SqL K H a (ns.map V.int)→HOk P w H s₁.heap→(∀ b,H b≠none→b=a)→(H a≠none→K.lookup a=none) →
      codeAny (model P w) callerA (.call (.ref fa) ⟨[.ref a],[]⟩) (fun r s'=>r=.ok (.ret (.bool true))∧OldK s₁.heap s'.heap∧s'.os=s₁.os∧AllBare s'.gens) s₁:=by
    intro H hO hS hok hA hK
    have base_of:∀ {b:Addr} {o:Obj},s₁.heap.get? b=some o→H b=none→(qi2 s₁.heap H).get? b=some o:=fun e n=>qiI e n
    have noA:∀ {b:Addr} {o:Obj} {es:Array DictEntry} {ep:Nat},s₁.heap.get? b=some o→o.data=.dict es ep→H b=none:=fun {b o es ep} e d=>by
      cases q:H b with
      | none=>rfl
      | some u =>
        have e':b=a:=hA b (by rw [q];simp)
        subst e'
        rw [ha] at e;cases e
        have d':Data.seq vs.toArray _=Data.dict es ep:=d
        cases d'
    have nsK:∀ {b:Addr} {m:Str→Option Value},s₁.heap.Ns b m→(qi2 s₁.heap H).Ns b m:=fun {b m} hq0=>by obtain ⟨o,es,ep,e,d,r⟩:=hq0;exact ⟨o,es,ep,base_of e (noA e d),d,r⟩
    have hKb:K.In (qi2 s₁.heap H):=fun b o e=>base_of (KX b o e) (by
      cases q:H b with
      | none=>rfl
      | some u =>
        have e':b=a:=hA b (by rw [q];simp)
        subst e'
        rw [hK (by rw [q];simp)] at e;cases e)
    have hM:Mod K mg (qi2 s₁.heap H):=⟨hKb,nsK hns,⟨mb,nsK hb,hbb⟩,let ⟨mc,h1,h2⟩:=hlim;⟨mc,nsK h1,h2⟩,let ⟨bm,ob,b1,b2,b3,b4,b5,b6⟩:=hbm;⟨bm,ob,b1,b2,base_of b3 (by
      cases q:H bm with
      | none=>rfl
      | some u =>
        have e':bm=a:=hA bm (by rw [q];simp)
        rw [e',ha] at b3;cases b3;injection b4 with z;exact absurd z (by decide)),b4,b5,b6⟩,
      ⟨let ⟨mc,h1,h2⟩:=hse.statics;⟨mc,nsK h1,h2⟩,let ⟨mc,h1,h2⟩:=hse.mods;⟨mc,nsK h1,h2⟩,let ⟨mc,h1,h2⟩:=hse.imp;⟨mc,nsK h1,h2⟩,let ⟨m1,bm,ob,n1,b1,b3,b4,b5⟩:=hse.main;⟨m1,bm,ob,nsK n1,b1,base_of b3 (by
      cases q:H bm with
      | none=>rfl
      | some u =>
        have e':bm=a:=hA bm (by rw [q];simp)
        rw [e',ha] at b3;cases b3;injection b4 with z;exact absurd z (by decide)),b4,b5⟩⟩,let ⟨mc,h1,h2⟩:=hdg;⟨mc,nsK h1,h2⟩⟩
    have e0:Env0 P w K mg (qi2 s₁.heap H) callerA [] s₁ H:=⟨rfl,hM,fun b o e=>qlb e,Nat.le_of_eq (qhz _ _),trivial,fun b hb=>absurd (show b∈([]:List Addr) from hb) (by simp),hok,.of_eq hg⟩
    refine codeAny_mono ((F _ hKb (nsK hns)).run callerA [] s₁ H ⟨[.ref a],[]⟩ [.ref a] [.ref a] _ _ hr e0 (hbind s₁ (.ref a)) (.cons rfl .nil) (hsp H hO hS)) fun r s' h=>?_
    cases r with
    | error e=>exact (hCX H e s' h).elim
    | ok fl =>
      cases fl with
      | next=>exact False.elim h
      | brk=>exact False.elim h
      | cont=>exact False.elim h
      | ret u =>
        obtain ⟨v,H',os,bare,un,hok',r',q⟩:=h
        have q':v=.bl true:=q
        subst q'
        obtain rfl:u=Value.bool true:=r'
        refine ⟨rfl,OldK.of_keep fun b o e=>?_,os,bare⟩
        cases q:H b with
        | none=>exact un.keep b o e q (by intro z;exact absurd (show b∈([]:List Addr) from z) (by simp)) (by simp)
        | some u =>
          rcases hO b with z | ⟨ob,xs,z⟩
          · rw [q] at z;cases z
          · have z2:=un.frzs b ob _ z
            obtain ⟨e1,_⟩:=hok b _ z
            obtain ⟨e2,_⟩:=hok' b _ z2
            rw [e] at e1;cases e1
            exact e2
  cases hk:K.lookup a with
  | some o =>
    have e:=KX a o hk
    rw [ha] at e
    cases e
    refine core (fun _=>none) (fun _=>.inl rfl) (.inr ⟨_,vs.toArray,_,hk,rfl,rfl,rfl,by rw [List.size_toArray,lenV];exact hl,by simpa using rv⟩) (fun b u z=>by have z':(none:Option HO)=some u:=z;cases z') (fun b z=>absurd rfl z) fun z=>absurd rfl z
  | none =>
    refine core (fun b=>if b=a then some (.frz { cls:=.type "list",data:=.seq vs.toArray } (.lst (ns.map V.int))) else none) (fun b=>?_) (.inl (.inr ⟨{ cls:=.type "list",data:=.seq vs.toArray },if_pos rfl⟩)) (fun b u z=>?_) (fun b z=>?_) fun _=>hk
    · by_cases hb:b=a
      · exact .inr ⟨_,_,if_pos hb⟩
      · exact .inl (if_neg hb)
    · by_cases hb:b=a
      · have z':=(if_pos hb).symm.trans z
        cases z'
        subst hb
        exact ⟨ha,by rw [List.length_map];exact hl,vs,_,rv,ha⟩
      · have z':=(if_neg hb).symm.trans z
        cases z'
    · by_cases hb:b=a
      · exact hb
      · exact absurd (if_neg hb) z
theorem walk_of {l:PySem.W.OpenLaw} {n k:Nat} {q:Program} {loose:List Str} {XP:(Str→Option Value)→Heap→Prop} {YP:World→Heap→Prop} {d:DefRec} {K:Params→PySem.W.Frag} {CX:World→CXT} {sp:World→Sp} {x:Str}
    (hn:l.most=some n) (hn2:n≤sizeLine) (hdf:d.params.defaults=[]) (hi:importsNone q=true) (hr:Room k callerA)
    (hY:∀ (w:World) (h:Heap),YP w h→(K w.params).In h)
    (F:∀ (w:World) (mg:Str→Option Value) (fa:Addr) (h:Heap),(K w.params).In h→h.Ns mainGlobals mg→mg d.name=some (.ref fa) →
      ∃ fd:FuncData,(∀ (s:Shared) (u:Value),BindsTo s fd ⟨[u],[]⟩ [(x,u)]) ∧
        ∀ base:Heap,(K w.params).In base→base.Ns mainGlobals mg→FnOk l.prog w (K w.params) mg base (CX w) k fa fd [x] (sp w))
    (hsp:∀ (w:World) (H:Hp) (a:Addr) (ns:List Int),ns.length≤n→qn6 H→SqL (K w.params) H a (ns.map V.int)→sp w [.ref a] H (fun v _=>v=.bl true) fun _ _ _=>False)
    (hCX:∀ (w:World) (H:Hp) (s:Shared) (e:Value) (s':Shared),CX w [] H s (fun _ _ _=>False) e s'→False) :
    PySem.W.WalkO q loose XP YP l.row.toRowW d [] (fun f vs=>PySem.call f vs):=by
  refine Att.attach_call hn hdf fun w s₀ s₁ mg mb fa o pm cd doc a vs ns G Y ho hd hcd hmg hobj hints hlen hg=>?_
  have KX:=hY w _ Y
  obtain ⟨fd,hb,hF⟩:=F w mg fa _ KX G.T.g hmg
  exact qjz KX G.T.g G.T.b G.T.builtins G.T.nolimit G.T.bmain (G.T.seer hi) G.T.nodigits hg hobj hints (Nat.le_trans hlen hn2) hr hF hb (fun H hO hS=>hsp w H a ns hlen hO hS) fun H e s'=>hCX w H s₁ e s'
end L2
/- THE LAST THEOREM (shape;LID,My.* are yours):
   My.Adr: a structure of the addresses that your layer names (classes,functions);My.Txt K t: a structure (Prop) of the equations over K;
   My.txt_mk:{K} {implicit addresses ..} (e1:nsIn K mainGlobals "law"=some (some (.ref f))) (e2:K.lookup f=some ⟨oc,od,.func (fnOf "law" "law" params body scope dV kV doc pm an cdv ct),sl⟩) (e3:codeIn K cdv "law"=true) ..:∃ t,My.Txt K t
set_option maxRecDepth 100000 in
set_option maxHeartbeats 0 in
theorem PySem.Challenge.cw_LID_holds : PySem.Challenge.rw_LID.Holds := by
  w_on;o_law;k_head;(case hw=>w_witness2)
  k_fill
  refine L2.walk_of (l:=PySem.Challenge.rw_LID) (n:=63) (k:=40) (x:="script") (CX:=fun w=>..) (sp:=fun _=>My.sp_law) rfl (by decide) rfl ⟨rfl,by decide,by decide⟩ (fun w h Y=>PySem.W.kIn_of Y) ?F ?S ?C
  case F =>
    intro w mg fa h KX G hmg
    have T:∃ t,My.Txt (L2.KOf KX) t:=by
      dsimp only [L2.KOf]                          -- K must stand as «<heap const> w.params» for k_is
      refine' My.txt_mk ?e1 ?e2 ?e3 ..
      (case e1=>PySem.W.k_is)                    -- in the order: a name -> its address -> its object -> its parts
      (case e2=>PySem.W.k_is)
      ..
    obtain ⟨t,T⟩:=T
    have e0:=hmg.symm.trans (PySem.W.mg_of KX G T.law)
    cases e0                                       -- fa is the law's own address
    exact ⟨_,fun s u=>.of_eq rfl,fun base kb nb=>My.law_fn T kb nb⟩     -- if «.of_eq rfl» comes too early: refine' ⟨_,?b,fun base kb nb=>My.law_fn T kb nb⟩;exact fun s u=>.of_eq rfl
  case S=>exact fun w H a ns hl hO hS=>..
  case C=>exact ..
(the tactic k_is has no namespace: write k_is) -/
namespace L2
open PySem PySem.Spec PyProof.Rows
def qef (s:Stmt) (j:Nat):Stmt:=match s with
  | .ClassDef _ _ _ body _ _ _ _ _ _ _=>body.getD j (.Pass ⟨0,0,0,0⟩)
  | _=>.Pass ⟨0,0,0,0⟩
def qbh (s:Stmt):Arguments:=match s with
  | .FunctionDef _ a _ _ _ _ _ _ _ _=>a
  | _=>{ posonlyargs:=[],args:=[],vararg:=none,kwonlyargs:=[],kw_defaults:=[],kwarg:=none,defaults:=[] }
def qaO (s:Stmt):List Stmt:=match s with
  | .FunctionDef _ _ b _ _ _ _ _ _ _=>b
  | _=>[]
def qad (s:Stmt):Scope:=match s with
  | .FunctionDef _ _ _ _ _ _ sc _ _ _=>sc
  | _=>{ kind:=.function,names:=[],isGenerator:=false,isCoroutine:=false }
abbrev CX0:CXT:=fun _ _ _ _ _ _=>False
abbrev E0:XK:=fun _ _ _=>False
theorem qow {X:Cx}:qf8 CX0 X E0:=fun _ _ _ _ _ _ _ h=>h.elim
structure Fun (K:PySem.W.Frag) (x qual:Str) (st:Stmt) (f:Addr) (fd:FuncData):Prop where
  ex:∃ (oc:Value) (od:Option Addr) (kV doc pm:Value) (an:Option Addr) (cdv ct:Value) (osl:Array (Option Value)),
    fd=PySem.W.fnOf x qual (qbh st) (qaO st) (qad st) .none kV doc pm an cdv ct∧K.lookup f=some ⟨oc,od,.func fd,osl⟩∧PySem.W.codeIn K cdv qual=true
  kp:PySem.W.keepIn K (.ref f)=true
section
variable {P : Program} {w : World} {K : PySem.W.Frag} {mg : Str → Option Value} {base : Heap}
theorem Fun.ok {x qual:Str} {st:Stmt} {f:Addr} {fd:FuncData} {N ps:List Str} {k:Nat} {sp:Sp} (F:Fun K x qual st f fd) (S:FnScope N ps (qad st)) (len:∀ vs H Q E,sp vs H Q E→vs.length=ps.length)
    (hbody:∀ (cdv:Value) (A:Around) (outer:List Env) (s:Shared) (H:Hp) (vs:List V) (Q:VK) (E:XK),Room k (A.deeper (envOfC qual (qad st) s.heap.objs.size f cdv))→sp vs H Q E →
      ∃ t,PSs (qg3 CX0 P w K mg base N qual (qad st) f cdv A outer s H E).nox (qaO st) t∧t { nx:=fun _ H'=>Q .non H',rt:=Q } (qbH N vs) H):FnOk P w K mg base CX0 (k+1) f fd ps sp:=by
  obtain ⟨oc,od,kV,doc,pm,an,cdv,ct,osl,rfl,lk,hcd⟩:=F.ex
  refine qi9 lk hcd S len fun A outer s H vs Q E hr hsp=>?_
  obtain ⟨t,h,q⟩:=hbody cdv A outer s H vs Q E hr hsp
  exact ⟨t,h.nox,q⟩
theorem Fun.binds {x qual:Str} {st:Stmt} {f:Addr} {fd:FuncData} {ps:List Str} (F:Fun K x qual st f fd)
    (h:∀ (kV doc pm:Value) (an:Option Addr) (cdv ct:Value) (us:List Value),us.length=ps.length→bindArgs (PySem.W.fnOf x qual (qbh st) (qaO st) (qad st) .none kV doc pm an cdv ct) ⟨us,[]⟩=pure (ps.zip us)):Binds K fd ps []:=by
  obtain ⟨oc,od,kV,doc,pm,an,cdv,ct,osl,rfl,lk,hcd⟩:=F.ex
  exact .all (h kV doc pm an cdv ct)
theorem qmb {x qual:Str} {st:Stmt} {f:Addr} {oc:Value} {od an:Option Addr} {osl:Array (Option Value)} {kV doc pm cdv ct:Value} (l:K.lookup f=some ⟨oc,od,.func (PySem.W.fnOf x qual (qbh st) (qaO st) (qad st) .none kV doc pm an cdv ct),osl⟩)
    (c:PySem.W.codeIn K cdv qual=true) (k:PySem.W.keepIn K (.ref f)=true):Fun K x qual st f (PySem.W.fnOf x qual (qbh st) (qaO st) (qad st) .none kV doc pm an cdv ct):=⟨⟨oc,od,kV,doc,pm,an,cdv,ct,osl,rfl,l,c⟩,k⟩
end
theorem qan {n:Nat} (h:n≤1000):n<sizeLine:=Nat.lt_of_le_of_lt h (by decide)
section
variable {X : Cx}
theorem pv (i:Nat) {x:Str} {pos:Pos} (hN:X.N[i]?=some x:=by rfl) (hv:Vis X.env.scope x:=by first | exact Or.inl rfl | exact Or.inr (Or.inl rfl) | exact Or.inr (Or.inr rfl)) (hd:(x == ("__debug__":Str))=false:=by decide)
    (hcd:(x == ("__classdict__":Str))=false:=by decide):PE X (.Name x pos) (qkM i):=qhu hN hv hd hcd
end
theorem qnr {A B:Prop} (h:B):if false=true then A else B:=by
  rw [if_neg Bool.false_ne_true]
  exact h
theorem qnq {A B:Prop} (h:A):if true=true then A else B:=by
  rw [if_pos rfl]
  exact h
def Same (H H':Hp):Prop:=∀ b o,H b=some o→H' b=some o
theorem Same.refl (H:Hp):Same H H:=fun _ _ h=>h
theorem Same.trans {H H1 H2:Hp} (a:Same H H1) (b:Same H1 H2):Same H H2:=fun c o h=>b c o (a c o h)
theorem Same.free {H H':Hp} (e:Same H H') {l:Addr} (h:H' l=Option.none):H l=Option.none:=by
  cases q:H l with
  | none=>rfl
  | some o =>
    rw [e l o q] at h
    cases h
theorem Same.seq {K:PySem.W.Frag} {H H':Hp} {a:Addr} {xs:List V} (e:Same H H') (h:SqL K H a xs):SqL K H' a xs:=by
  rcases h with (h | ⟨o,h⟩) | h
  · exact .inl (.inl (e _ _ h))
  · exact .inl (.inr ⟨o,e _ _ h⟩)
  · exact .inr h
section
variable {κ : Type} [DecidableEq κ]
def qfE (kvs:List (κ × V)) (k:κ):Option V:=(kvs.find? fun kv=>decide (kv.1=k)).map (·.2)
def qfj (kvs:List (κ × V)) (k:κ) (v:V):List (κ × V) :=
  if (kvs.any fun kv=>decide (kv.1=k))=true then kvs.map (fun kv=>if kv.1=k then (kv.1,v) else kv) else kvs++[(k,v)]
theorem qde {p:κ × V} {r:List (κ × V)} {k:κ} (e:p.1=k):qfE (p::r) k=some p.2:=by simp [qfE,List.find?_cons,e]
theorem qdi {p:κ × V} {r:List (κ × V)} {k:κ} (e:¬ p.1=k):qfE (p::r) k=qfE r k:=by simp [qfE,List.find?_cons,e]
theorem qdh (k:κ):∀ kvs:List (κ × V),(kvs.any fun kv=>decide (kv.1=k))=(qfE kvs k).isSome
  | []=>rfl
  | p::r=>by
    rw [List.any_cons]
    by_cases e:p.1=k
    · simp only [qde e,decide_eq_true e,Bool.true_or,Option.isSome_some]
    · rw [qdi e,decide_eq_false e,Bool.false_or];exact qdh k r
theorem qdK (kvs:List (κ × V)) (k:κ) (v:V):(qfj kvs k v).length≤kvs.length+1:=by
  unfold qfj
  split
  · rw [List.length_map];omega
  · rw [List.length_append,List.length_cons,List.length_nil];omega
theorem RelO.isSome_eq {o:Option V} {u:Option Value} (r:RelO o u):o.isSome=u.isSome:=by
  cases o with
  | none=>cases u with
    | none=>rfl
    | some _=>exact (show False from r).elim
  | some _=>cases u with
    | none=>exact (show False from r).elim
    | some _=>rfl
theorem KV.val {kvs:List (κ × V)} {vs:List (κ × Value)} (r:KV kvs vs) (k:κ):RelO (qfE kvs k) (valueAt vs k):=by
  unfold KV at r
  induction r with
  | nil=>exact True.intro
  | @cons p q ps qs h t ih =>
    obtain ⟨h1,h2⟩:=h
    by_cases e:p.1=k
    · have e':q.1=k:=h1.symm.trans e
      have b:valueAt (q::qs) k=some q.2:=by simp [valueAt,List.find?_cons,e']
      rw [qde e,b];exact h2
    · have e':¬ q.1=k:=fun z=>e (h1.trans z)
      have b:valueAt (q::qs) k=valueAt qs k:=by simp [valueAt,List.find?_cons,e']
      rw [qdi e,b];exact ih
theorem KV.any {kvs:List (κ × V)} {vs:List (κ × Value)} (r:KV kvs vs) (k:κ):(kvs.any fun kv=>decide (kv.1=k))=vs.any fun kv=>decide (kv.1=k):=by
  unfold KV at r
  induction r with
  | nil=>rfl
  | cons h t ih=>rw [List.any_cons,List.any_cons,ih,h.1]
theorem KV.repl {kvs:List (κ × V)} {vs:List (κ × Value)} (r:KV kvs vs) (k:κ) {y:V} {u:Value} (ry:RelV y u) :
    KV (kvs.map fun kv=>if kv.1=k then (kv.1,y) else kv) (vs.map fun kv=>if kv.1=k then (kv.1,u) else kv):=by
  unfold KV at r ⊢
  induction r with
  | nil=>exact .nil
  | @cons p q ps qs h t ih =>
    rw [List.map_cons,List.map_cons]
    refine .cons ?_ ih
    obtain ⟨h1,h2⟩:=h
    by_cases e:p.1=k
    · rw [if_pos e,if_pos (h1.symm.trans e)];exact ⟨h1,ry⟩
    · rw [if_neg e,if_neg (fun z=>e (h1.trans z))];exact ⟨h1,h2⟩
theorem KV.put {kvs:List (κ × V)} {vs:List (κ × Value)} (r:KV kvs vs) (k:κ) {y:V} {u:Value} (ry:RelV y u):KV (qfj kvs k y) (stored vs k u):=by
  unfold qfj stored
  rw [r.any k]
  by_cases e:(vs.any fun kv=>decide (kv.1=k))=true
  · rw [if_pos e,if_pos e];exact r.repl k ry
  · rw [if_neg e,if_neg e];exact Paired.snoc r ⟨rfl,ry⟩
theorem KV.length {kvs:List (κ × V)} {vs:List (κ × Value)} (r:KV kvs vs):kvs.length=vs.length:=Paired.length r
end
theorem qiX {P:Program} {w:World} {k:Key} {u:Value} (r:RelV (kV k) u):(qaA P w).is k u=true:=by
  cases k with
  | inl i=>obtain ⟨t,e⟩:=(show ∃ t,u=Value.int i t from r);subst e;exact qfp P w i t
  | inr x=>obtain ⟨t,e⟩:=(show ∃ t,u=Value.str x t from r);subst e;exact qfG P w x t
theorem qeJ {P:Program} {w:World}:∀ {ks:List Key} {us:List Value},Vals (ks.map kV) us→ItemsAre (qaA P w) ks us
  | [],_,r=>by rw [List.map_nil] at r;cases r;exact .nil
  | k::ks,_,r=>by
    rw [List.map_cons] at r
    cases r with
    | cons h t=>exact .cons (qiX h) (qeJ t)
abbrev KT (H:Hp):List (List Key × V)→List (List Key × Addr × Value)→Prop:=Paired fun p q=>p.1=q.1∧H q.2.1=some (.tup (p.1.map kV))∧RelV p.2 q.2.2
theorem KT.val {H:Hp} {kvs:List (List Key × V)} {xs:List (List Key × Addr × Value)} (r:KT H kvs xs) (k:List Key):RelO (qfE kvs k) ((atKey xs k).map (·.2)):=by
  induction r with
  | nil=>exact True.intro
  | @cons p q ps qs h t ih =>
    obtain ⟨h1,_,h2⟩:=h
    by_cases e:p.1=k
    · have e':q.1=k:=h1.symm.trans e
      have b:atKey (q::qs) k=some q.2:=by simp [atKey,List.find?_cons,e']
      rw [qde e,b];exact h2
    · have e':¬ q.1=k:=fun z=>e (h1.trans z)
      have b:atKey (q::qs) k=atKey qs k:=by simp [atKey,List.find?_cons,e']
      rw [qdi e,b];exact ih
theorem KT.repl {H:Hp} {kvs:List (List Key × V)} {xs:List (List Key × Addr × Value)} (r:KT H kvs xs) (k:List Key) {y:V} {u:Value} (ry:RelV y u) :
    KT H (kvs.map fun kv=>if kv.1=k then (kv.1,y) else kv) (xs.map (putAt k u)):=by
  induction r with
  | nil=>exact .nil
  | @cons p q ps qs h t ih =>
    rw [List.map_cons,List.map_cons]
    refine .cons ?_ ih
    obtain ⟨h1,h2,h3⟩:=h
    unfold putAt
    by_cases e:p.1=k
    · rw [if_pos e,if_pos (h1.symm.trans e)];exact ⟨h1,h2,ry⟩
    · rw [if_neg e,if_neg (fun z=>e (h1.trans z))];exact ⟨h1,h2,h3⟩
theorem KT.put {H:Hp} {kvs:List (List Key × V)} {xs:List (List Key × Addr × Value)} (r:KT H kvs xs) (k:List Key) {b:Addr} {y:V} {u:Value} (hb:H b=some (.tup (k.map kV))) (ry:RelV y u) :
    KT H (qfj kvs k y) (storedH xs k b u):=by
  have e:(kvs.any fun kv=>decide (kv.1=k))=(atKey xs k).isSome:=by
    rw [qdh,(r.val k).isSome_eq,Option.isSome_map]
  unfold qfj storedH
  rw [e]
  by_cases q:(atKey xs k).isSome=true
  · rw [if_pos q,if_pos q];exact r.repl k ry
  · rw [if_neg q,if_neg q];exact Paired.snoc r ⟨rfl,hb,ry⟩
theorem KT.keeps {H H':Hp} {kvs:List (List Key × V)} {xs:List (List Key × Addr × Value)} (r:KT H kvs xs) (ht:∀ b ys,H b=some (.tup ys)→H' b=some (.tup ys)):KT H' kvs xs :=
  Paired.mapP r fun _ _ z=>⟨z.1,ht _ _ z.2.1,z.2.2⟩
section
variable {P : Program} {w : World} {H : Hp} {h : Heap} {a : Addr}
theorem ql9 {u:HO} (ok:HOk P w H h) (e:Rd H a u):ObjOk P w H h a u:=e.ok ok
theorem qmZ {kvs:List (Key × V)} (ok:HOk P w H h) (e:Rd H a (.dK kvs)):kvs.length≤sizeLine∧(a == sysModules)=false∧∃ vs,KV kvs vs∧h.DictOf (qaA P w) a vs :=
  show ObjOk P w H h a (.dK kvs) from ql9 ok e
theorem qoi {kvs:List (Key × V)} (ok:HOk P w H h) (e:H a=some (.dK kvs)):kvs.length≤sizeLine∧(a == sysModules)=false∧∃ vs,KV kvs vs∧h.DictOf (qaA P w) a vs:=qmZ ok (.inl e)
theorem qh5 {ks:List Key} (ok:HOk P w H h) (e:H a=some (.tup (ks.map kV))):(tupleKind (qaA P w)).is h ks a:=by
  obtain ⟨_,its,r,o,h1,⟨h2,_⟩,n,h3⟩:=(show ObjOk P w H h a (.tup (ks.map kV)) from ok a _ e)
  exact ⟨o,its.toArray,n,h1,h2,h3,by simpa using qeJ r⟩
theorem ql7 {kvs:List (List Key × V)} (ok:HOk P w H h) (e:Rd H a (.dT kvs)):kvs.length≤sizeLine∧(a == sysModules)=false ∧
    ∃ xs,KT H kvs xs∧h.DictOfH (tupleKind (qaA P w)) a xs:=by
  obtain ⟨z,y,xs,r,o,es,ep,h1,h2,h3,h4,h5⟩:=(show ObjOk P w H h a (.dT kvs) from ql9 ok e)
  refine ⟨z,y,xs,r,o,es,ep,h1,h2,h3,h4,fun x hx=>?_,h5⟩
  have all:∀ {l:List (List Key × V)} {m:List (List Key × Addr × Value)},KT H l m→∀ x∈m,(tupleKind (qaA P w)).is h x.1 x.2.1:=by
    intro l m q
    induction q with
    | nil=>intro x hx;exact nomatch hx
    | @cons p q ps qs hq t ih =>
      intro x hx
      rcases List.mem_cons.mp hx with e | hx
      · subst e
        exact qh5 ok (by rw [← hq.1];exact hq.2.1)
      · exact ih x hx
  exact all r x hx
theorem qnx {kvs:List (List Key × V)} (ok:HOk P w H h) (e:H a=some (.dT kvs)):kvs.length≤sizeLine∧(a == sysModules)=false ∧
    ∃ xs,KT H kvs xs∧h.DictOfH (tupleKind (qaA P w)) a xs:=ql7 ok (.inl e)
end
def DGet (H:Hp) (a:Addr) (y:V) (r:Option V):Prop :=
  (∃ kvs k,Rd H a (.dK kvs)∧y=kV k∧r=qfE kvs k)∨∃ kvs k b,Rd H a (.dT kvs)∧y=.ref b∧H b=some (.tup (k.map kV))∧r=qfE kvs k
def DPut (H:Hp) (a:Addr) (y v:V) (H':Hp):Prop :=
  (∃ kvs k,H a=some (.dK kvs)∧y=kV k∧kvs.length<sizeLine∧H'=upd H a (.dK (qfj kvs k v))) ∨
  ∃ kvs k b,H a=some (.dT kvs)∧y=.ref b∧H b=some (.tup (k.map kV))∧kvs.length<sizeLine∧H'=upd H a (.dT (qfj kvs k v))
theorem DGet.k {H:Hp} {a:Addr} {kvs:List (Key × V)} {k:Key} (e:H a=some (.dK kvs)):DGet H a (kV k) (qfE kvs k):=.inl ⟨kvs,k,.inl e,rfl,rfl⟩
theorem DPut.k {H:Hp} {a:Addr} {kvs:List (Key × V)} {k:Key} {v:V} (e:H a=some (.dK kvs)) (hl:kvs.length<sizeLine):DPut H a (kV k) v (upd H a (.dK (qfj kvs k v))):=.inl ⟨kvs,k,e,rfl,hl,rfl⟩
section
variable {X : Cx} {pins : List (Addr × Obj)} {σ : St} {H : Hp} {s : Shared} {a : Addr} {y v : V} {u r : Value} {o : Option V} {A : Around} {E : Value → Shared → Prop}
theorem Inv.big (I:Inv X pins σ H s):sysModules<s.heap.objs.size:=by
  have h:mainGlobals<s.heap.objs.size:=(I.mod.glob.keeps I.bk).lt
  exact Nat.lt_trans (by decide) h
theorem qpW {Q:Value→Shared→Prop} (hu:A.units+1<cLine) (I:Inv X pins σ H s) (g:DGet H a y o) (ry:RelV y u) (h:∀ s',Inv X pins σ H s'→Q (.bool o.isSome) s') :
    wpAny (model X.prog X.w) A (compareOp .In u (.ref a)) Q E s:=by
  rcases g with ⟨kvs,k,e,ey,l⟩ | ⟨kvs,k,b,e,ey,eb,l⟩
  · subst ey
    obtain ⟨z,hd,vs,rel,dd⟩:=qmZ I.hok e
    refine wpAny_in_of (qiX ry) hd dd.mapOf ?_
    rw [← (rel.val k).isSome_eq,← l]
    exact h _ (I.tok _)
  · subst ey
    cases (show u=Value.ref b from ry)
    obtain ⟨z,hd,xs,rel,dd⟩:=ql7 I.hok e
    refine wpAny_in_heap (tupleKind_room_in1 hu) (qh5 I.hok eb) hd dd ?_
    have q:=(rel.val k).isSome_eq
    rw [Option.isSome_map] at q
    rw [← q,← l]
    exact h _ (I.tok _)
theorem qhd {h':Heap} {t':Nat} {ob:HO} (I:Inv X pins σ H s) (mu:Mut (H a)) (hs:Heap.SameBut a s.heap h') (he:∃ q,h'.get? a=some q) (new:ObjOk X.prog X.w (upd H a ob) h' a ob) :
    Inv X pins σ (upd H a ob) { s with heap:=h',toks:=t' } :=
  I.write (x:=a) (e:=a) mu (.inl rfl) (fun b q hb z=>(hs.2 b hb).trans z) he new
theorem qmv {P:Program} {w:World} {H':Hp} {h':Heap} {kvs:List (Key × V)} {vs:List (Key × Value)} (z:kvs.length≤sizeLine) (hd:(a == sysModules)=false) (rel:KV kvs vs) (dd:h'.DictOf (qaA P w) a vs) :
    ObjOk P w H' h' a (.dK kvs):=⟨z,hd,vs,rel,dd⟩
theorem qg9 {H':Hp} {Q:Unit→Shared→Prop} (hu:A.units+1<cLine) (I:Inv X pins σ H s) (g:DPut H a y v H') (ry:RelV y u) (rv:RelV v r) (h:∀ s',Inv X pins σ H' s'→Q () s') :
    wpAny (model X.prog X.w) A (setItem (.ref a) u r) Q E s:=by
  rcases g with ⟨kvs,k,e,ey,l,eH⟩ | ⟨kvs,k,b,e,ey,eb,l,eH⟩
  · subst ey eH
    obtain ⟨z,hd,vs,rel,dd⟩:=qoi I.hok e
    have hz:vs.length≤sizeLine:=by rw [← rel.length];exact z
    have hl:(qfj kvs k v).length≤sizeLine:=by have:=qdK kvs k v;omega
    refine wpAny_setItem_pairs (hsz:=hz) (qiX ry) dd fun h' dd' hs=>h _ ?_
    have he:∃ q,h'.get? a=some q:=let ⟨q,_,_,hq,_⟩:=dd';⟨q,hq⟩
    exact qhd I (by rw [e];exact True.intro) hs he (qmv hl hd (rel.put k rv) dd')
  · subst ey eH
    cases (show u=Value.ref b from ry)
    obtain ⟨z,hd,xs,rel,dd⟩:=qnx I.hok e
    have hz:xs.length≤sizeLine:=by rw [← Paired.length rel];exact z
    have hl:(qfj kvs k v).length≤sizeLine:=by have:=qdK kvs k v;omega
    refine wpAny_setItem_heap (hsz:=hz) (tupleKind_room_in1 hu) (qh5 I.hok eb) dd fun h' dd' hs=>h _ ?_
    obtain ⟨q,es,ep,hq,h2,h3,h4,_,h5⟩:=dd'
    refine qhd I (by rw [e];exact True.intro) hs ⟨q,hq⟩ ⟨hl,hd,_,(rel.put k eb rv).keeps fun c ys ec=>?_,q,es,ep,hq,h2,h3,h4,h5⟩
    rw [qal (qnX ec e (fun z=>nomatch z))]
    exact ec
end
section
variable {X : Cx} {pins : List (Addr × Obj)} {σ : St} {H : Hp} {s : Shared} {a : Addr} {kvs : List (Key × V)} {k : Key} {u : Value} {A : Around} {E : Value → Shared → Prop}
end
def qpK (ty td:TE):TE:=fun σ H Q=>ty σ H fun y H1=>td σ H1 fun x H2=>∃ a o,x=.ref a∧DGet H2 a y o∧Q (.bl o.isSome) H2
def qnD (td ty tv:TE):TS:=fun D σ H=>tv σ H fun v H1=>td σ H1 fun x H2=>ty σ H2 fun y H3=>∃ a H4,x=.ref a∧DPut H3 a y v H4∧D.nx σ H4
section
variable {X : Cx} {o i e value : Expr} {pos pos' tpos : Pos} {td ty tv : TE}
theorem qjE (hu:X.A.units+1<cLine) (hi:PE X i ty) (ho:PE X o td):PC X .In i o (qpK ty td):=by
  intro pins s σ H Q I h
  refine thn (hi pins s σ H _ I h) fun iv s1 ⟨y,H1,I1,ry,q1⟩=>thn (ho pins s1 σ H1 _ I1 q1) fun u s2 ⟨x,H2,I2,rx,a,ov,ex,g,q2⟩=>?_
  subst ex
  obtain rfl:u=Value.ref a:=rx
  exact qpW hu I2 g ry fun s3 I3=>⟨.bl ov.isSome,H2,I3,rfl,q2⟩
theorem qhs (hu:X.A.units+1<cLine) (ho:PE X o td) (hi:PE X i ty) (hv:PE X value tv) (hs:swapsWith value (some (.Subscript o i pos')) pos.line X.env=pure false) :
    PS X (.Assign [.Subscript o i pos'] value pos) (qnD td ty tv):=by
  intro pins s σ H D I h
  refine wpAny_Assign_Subscript (thn (hv pins s σ H _ I h) fun r s1 ⟨v,H1,I1,rv,q1⟩=>thn (ho pins s1 σ H1 _ I1 q1) fun u s2 ⟨x,H2,I2,rx,q2⟩=>thn (hi pins s2 σ H2 _ I2 q2) fun iv s3 ⟨y,H3,I3,ry,a,H4,ex,g,q3⟩=>?_) hs
  subst ex
  obtain rfl:u=Value.ref a:=rx
  exact qg9 hu I3 g ry rv fun s4 I4=>⟨σ,H4,I4,q3⟩
end
theorem qjr {P:Program} {w:World} {H:Hp} (h:Heap) (hb:sysModules<h.objs.size):ObjOk P w H (h.push { cls:=.type "dict",data:=.dict #[] }) h.objs.size (.dK []) :=
  ⟨Nat.zero_le _,beq_eq_false_iff_ne.mpr (Ne.symm (Nat.ne_of_lt hb)),[],.nil,Heap.DictOf.new h⟩
def qlE:TE:=fun _ H Q=>∀ p,H p=none→Q (.ref p) (upd H p (.dK []))
section
variable {X : Cx} {pos : Pos}
theorem pe_dnewK:PE X (.Dict [] [] pos) qlE:=fun pins s σ H Q I h =>
  wpAny_Dict_empty ⟨.ref s.heap.objs.size,_,I.laid (a:=s.heap.objs.size) (o:=.dK []) (t':=s.toks) (fun _ _ q=>Heap.get?_push_of_some _ q) (Nat.le_refl _) (qjr s.heap I.big),rfl,h _ (I.hok.fresh (Nat.le_refl _))⟩
end
end L2
set_option maxHeartbeats 4000000
namespace L2
open PySem PySem.Spec PyProof.Rows
theorem qgT {env:Env} (names:List (Str × NameKind)) (hf:∀ x∈names,x.2=.free→∃ c,env.cells.lookup x.1=some c):∀ acc:List (Str × Addr),
    ∃ cl:List (Str × Addr),(forIn names acc (fun (x:Str × NameKind) cs=>if (x.2 == .free)=true then do let a ← cellOf env x.1;pure (ForInStep.yield ((x.1,a)::cs)) else pure (ForInStep.yield cs)):Sem (List (Str × Addr)))=pure cl ∧
      (∀ p∈cl,p∈acc∨env.cells.lookup p.1=some p.2)∧(∀ p∈acc,p∈cl)∧∀ x,(x,NameKind.free)∈names→∃ c,(x,c)∈cl:=by
  induction names with
  | nil=>intro acc;exact ⟨acc,rfl,fun p hp=>.inl hp,fun _ hp=>hp,fun x hx=>by simp at hx⟩
  | cons n r ih =>
    intro acc
    obtain ⟨n,k⟩:=n
    have hr:∀ x∈r,x.2=.free→∃ c,env.cells.lookup x.1=some c:=fun x hx=>hf x (List.mem_cons_of_mem _ hx)
    by_cases hk:k=.free
    · subst hk
      obtain ⟨c,hc⟩:=hf (n,.free) List.mem_cons_self rfl
      obtain ⟨cl,e,h1,h2,h3⟩:=ih hr ((n,c)::acc)
      refine ⟨cl,?_,fun p hp=>?_,fun p hp=>h2 p (List.mem_cons_of_mem _ hp),fun x hx=>?_⟩
      · rw [List.forIn_cons,← e]
        have q:cellOf env n=pure c:=by unfold cellOf;rw [hc]
        simp [q]
      · rcases h1 p hp with z | z
        · rcases List.mem_cons.mp z with rfl | z
          · exact .inr hc
          · exact .inl z
        · exact .inr z
      · rcases List.mem_cons.mp hx with z | z
        · cases z;exact ⟨c,h2 _ List.mem_cons_self⟩
        · exact h3 x z
    · obtain ⟨cl,e,h1,h2,h3⟩:=ih hr acc
      refine ⟨cl,?_,h1,h2,fun x hx=>?_⟩
      · rw [List.forIn_cons,← e]
        have q:(k == NameKind.free)=false:=by simpa using hk
        simp [q]
      · rcases List.mem_cons.mp hx with z | z
        · cases z;exact absurd rfl hk
        · exact h3 x z
theorem qeu {cl:List (Str × Addr)} {cells:List (Str × Addr)} (h:∀ p∈cl,cells.lookup p.1=some p.2):∀ x c,cl.lookup x=some c→cells.lookup x=some c:=fun x c e=>h (x,c) (PySem.mem_of_lookup e)
theorem qgB {cl:List (Str × Addr)} {x:Str} {c:Addr}:(x,c)∈cl→∃ c',cl.lookup x=some c':=by
  induction cl with
  | nil=>intro h;simp at h
  | cons p r ih =>
    intro h
    rw [List.lookup_cons]
    cases e:x == p.1 with
    | true=>exact ⟨_,rfl⟩
    | false =>
      rcases List.mem_cons.mp h with z | z
      · subst z;simp at e
      · exact ih z
theorem qcG {scope:Scope} {env:Env} (hf:∀ x∈scope.names,x.2=.free→∃ c,env.cells.lookup x.1=some c) :
    ∃ cl,closureFor scope env=pure cl∧(∀ x c,cl.lookup x=some c→env.cells.lookup x=some c)∧∀ x,(x,NameKind.free)∈scope.names→∃ c,cl.lookup x=some c:=by
  obtain ⟨cl,e,h1,_,h3⟩:=qgT (env:=env) scope.names hf []
  refine ⟨cl,?_,qeu fun p hp=>(h1 p hp).elim (fun z=>by simp at z) id,fun x hx=>?_⟩
  · unfold closureFor
    simp only
    rw [← e]
    simp
  · obtain ⟨c,hc⟩:=h3 x hx
    exact qgB hc
theorem qcl {env:Env}:∀ {names:List (Str × NameKind)} {x:Str} {k:NameKind},
    (names.map fun (n,k)=>if (k == NameKind.free && env.scope.kind == .function && env.kindOf n == some .cell) then (n,NameKind.cell) else (n,k)).lookup x=some k→(k=.cell∨k=.free)→(x,NameKind.free)∈names∨(x,NameKind.cell)∈names
  | [],_,_,h,_=>by simp at h
  | (n,k)::r,x,kk,h,hk=>by
    have ih:=@qcl env r x kk
    have h:List.lookup x ((if (k == NameKind.free && env.scope.kind == .function && env.kindOf n == some .cell)=true then (n,NameKind.cell) else (n,k))::_)=_:=h
    by_cases hb:(k == NameKind.free && env.scope.kind == .function && env.kindOf n == some .cell)=true
    · rw [if_pos hb] at h
      have kf:k=.free:=by
        simp only [Bool.and_eq_true,beq_iff_eq] at hb
        exact hb.1.1
      rw [List.lookup_cons] at h
      cases e:x == n with
      | true =>
        have:x=n:=by simpa using e
        subst this;subst kf
        exact .inl List.mem_cons_self
      | false =>
        simp only [e] at h
        exact (ih h hk).imp (List.mem_cons_of_mem _) (List.mem_cons_of_mem _)
    · rw [if_neg hb] at h
      rw [List.lookup_cons] at h
      cases e:x == n with
      | true =>
        have kk':k=kk:=by simpa [e] using h
        have:x=n:=by simpa using e
        subst this
        subst kk'
        rcases hk with rfl | rfl
        · exact .inr List.mem_cons_self
        · exact .inl List.mem_cons_self
      | false =>
        simp only [e] at h
        exact (ih h hk).imp (List.mem_cons_of_mem _) (List.mem_cons_of_mem _)
def qaW (X:Cx) (scope:Scope) (N':List Str) (cl:List (Str × Addr)) (C:Addr) (s0:Shared) (H0:Hp) (fp:List Addr):Cx where
  prog:=X.prog
  w:=X.w
  K:=X.K
  mg:=X.mg
  base:=X.base
  A:=X.A
  N:=N'
  s₀:=s0
  H₀:=H0
  env:=compEnvC scope cl C X.env
  outer:=X.stack
  stack:=X.stack
  ex:=fp
  fn:=fun x=>scope.names.lookup x == some .cell
  calm:=X.calm
  pn:=[]
  xe:=fun _ _=>False
def qcK (cap:List (Option Nat)) (σ:St):St:=cap.map fun o=>o.bind fun i=>(σ[i]?).join
structure CompScope (N:List Str) (sc scope:Scope) (N':List Str) (cap:List (Option Nat)):Prop where
  kind:scope.kind=.function
  cel:∀ x∈scope.names,x.2=.cell→scope.names.lookup x.1=some .cell
  names:∀ x∈scope.names,x.2=.local→scope.names.lookup x.1=some .local
  free:∀ x∈scope.names,x.2=.free→sc.names.lookup x.1=some .cell
  fst:∀ x∈scope.names,x.2=.free→scope.names.lookup x.1=some .free
  nd:N'.Nodup
  len:cap.length=N'.length
  at_:∀ p∈cap.zip N',∀ i,p.1=some i→N[i]?=some p.2∧(p.2,NameKind.free)∈scope.names
def qlw (X:Cx) (ifs:List Expr) (t:TT):Prop :=
  ∀ (pins:List (Addr × Obj)) (s:Shared) (σ:St) (H:Hp) (Q:Bool→Hp→Prop),Inv X pins σ H s→t σ H Q →
    wpAny (model X.prog X.w) X.A (forIn ifs true fun c r=>if r=true then do let ok ← isTrue c X.env (eval c X.env);pure (ForInStep.yield ok) else pure (ForInStep.yield r)) (TP X pins σ Q) X.xe s
def qpm:TT:=fun _ H Q=>Q true H
theorem qi3 {X:Cx}:qlw X [] qpm:=fun _ _ _ H _ I h=>wpAny_tests_nil ⟨H,I,h⟩
theorem qi0 {X:Cx} {c:Expr} {t:TT} (h:PT X c t):qlw X [c] t:=fun pins s σ H Q I hw=>wpAny_tests_one (h pins s σ H Q I hw)
def qfI (wi:TI) (cap:List (Option Nat)) (g:TG) (tc:TT) (te:TE):TE:=fun σ H Q=>wi σ H fun J H1=>∀ D,H1 D=none→∃ W:Nat→Nat→St→Hp→Prop,(∃ m,W 0 m (qcK cap σ) (upd H1 D (.lst []))) ∧
  ∀ i m σ' H',W i m σ' H'→(J.stop i H'∧Q (.ref D) H')∨(J.go i H'∧∃ N:St→Hp→Prop,(∀ σ2 H2,N σ2 H2→∃ m',m'<m∧W (i+1) m' σ2 H2) ∧
    ∀ x H2,J.yld i H' x H2→g x σ' H2 fun σ3 H3=>tc σ3 H3 fun b H4=>if b=true then te σ3 H4 fun y H5=>∃ ys,H5 D=some (.lst ys)∧ys.length<sizeLine∧N σ3 (upd H5 D (.lst (ys++[y]))) else N σ3 H4)
theorem qfr {prog:Program} {w:World} {A:Around} {R:Result→Shared→Prop} {s:Shared} {elt target iter:Expr} {ifs:List Expr} {scope:Scope} {pos:Pos} {it acc:Value} {env:Env} (I:Nat→Shared→Prop)
    (turn:∀ n s,I n s→wpAny (model prog w) A (pyNext it) (fun r s₁=>match r with
      | none=>R (.ok .next) s₁
      | some v=>wpAny (model prog w) A (letOwnedTupleGo target it v) (fun _ s₁'=>wpAny (model prog w) A (assign target env v) (fun _ s₂ =>
          wpAny (model prog w) A (forIn ifs true fun c r=>if r=true then do let ok ← isTrue c env (eval c env);pure (ForInStep.yield ok) else pure (ForInStep.yield r)) (fun ok s₃ =>
            if ok=true then wpAny (model prog w) A (eval elt env) (fun x s₄ =>
              wpAny (model prog w) A (call (.builtin "list.append") [acc,x]) (fun _ s₅=>∃ m,m<n∧I m s₅) (fun _ _=>False) s₄) (fun _ _=>False) s₃
            else ∃ m,m<n∧I m s₃) (fun _ _=>False) s₂) (fun _ _=>False) s₁') (fun _ _=>False) s₁) (fun _ _=>False) s)
    (n:Nat) (h:I n s):codeAny (model prog w) A (.compLoop (.ListComp elt [⟨target,iter,ifs,0⟩] scope pos) 0 it acc env) R s:=by
  refine codeAny_loop rfl I (fun n s hI=>?_) n h
  show wpAny _ A ((compTurn (.ListComp elt [⟨target,iter,ifs,0⟩] scope pos) 0 it acc env).onRaise (fun x=>do noteFrame x env;theTreesLotGoes x)) _ _ s
  refine wpAny_noted ?_
  rw [compTurn_list]
  refine wpAny_bind (wpAny_standAt (wpAny_bind (wpAny_mono (turn n s hI) (fun r s₁ h₁=>?_) fun _ _ h'=>h'.elim)))
  cases r with
  | none=>exact wpAny_pure h₁
  | some v =>
    refine wpAny_bind (wpAny_mono h₁ (fun _ s₁' h₁'=>?_) fun _ _ h'=>h'.elim)
    refine wpAny_bind (wpAny_mono h₁' (fun _ s₂ h₂=>wpAny_bind (wpAny_mono h₂ (fun ok s₃ h₃=>?_) fun _ _ h'=>h'.elim)) fun _ _ h'=>h'.elim)
    cases ok with
    | false=>exact wpAny_pure ⟨rfl,h₃⟩
    | true =>
      exact wpAny_bind (wpAny_bind (wpAny_mono h₃ (fun x s₄ h₄=>wpAny_bind (wpAny_mono h₄ (fun _ s₅ h₅=>wpAny_pure (wpAny_pure ⟨rfl,h₅⟩)) fun _ _ h'=>h'.elim)) fun _ _ h'=>h'.elim))
section
variable {X : Cx} {elt tg iter : Expr} {ifs : List Expr} {scope : Scope} {pos : Pos} {N' : List Str} {cap : List (Option Nat)} {wi : TI} {g : TG} {tc : TT} {te : TE}
theorem qbc:∀ (names:List (Str × NameKind)) (n:Nat) (acc:List (Str × Addr)),cellsFrom n names acc=cellsFrom n names []++acc
  | [],_,_=>rfl
  | (x,k)::r,n,acc=>by
    unfold cellsFrom
    split
    · rw [qbc r (n+1) ((x,n)::acc),qbc r (n+1) [(x,n)],List.append_assoc];rfl
    · exact qbc r n acc
theorem qbO:∀ (names:List (Str × NameKind)) (n:Nat) {x:Str} {c:Addr},(x,c)∈cellsFrom n names []→(x,NameKind.cell)∈names
  | [],_,_,_,h=>by simp [cellsFrom] at h
  | (y,k)::r,n,x,c,h=>by
    unfold cellsFrom at h
    split at h
    · rename_i hk
      rw [qbc] at h
      rcases List.mem_append.mp h with h | h
      · exact List.mem_cons_of_mem _ (qbO r _ h)
      · have e:=List.mem_singleton.mp h
        cases e
        have:k=.cell:=by simpa using hk
        subst this
        exact List.mem_cons_self
    · exact List.mem_cons_of_mem _ (qbO r _ h)
theorem qiO {M:Model} {A:Around} {E:Value→Shared→Prop} {s:Shared} {globals:Addr} {cl:List (Str × Addr)} {qual:Str} {outer:Env} {Q:Env→Shared→Prop}
    (hQ:∀ h',h'.Ns s.heap.objs.size (fun _=>none)→(∀ b o,s.heap.get? b=some o→h'.get? b=some o)→CellsOk h' (s.heap.objs.size+1) (cellsFrom (s.heap.objs.size+1) scope.names []) →
      Q { scope:=scope,locals:=s.heap.objs.size,globals:=globals,cells:=cellsFrom (s.heap.objs.size+1) scope.names []++cl,qual:=qual,func:=none,code:=outer.code,frame:=outer.frame,builtins:=outer.builtins } { s with heap:=h' }) :
    wpAny M A (newFunctionEnv scope globals cl [] qual none .none (some outer)) Q E s:=by
  simp only [newFunctionEnv,Option.isSome_some,if_true]
  refine wpAny_bind (wpAny_alloc ?_)
  refine wpAny_bind (wpAny_layCells _ (fun name kind cells=>by cases hkc:kind == NameKind.cell <;> simp [hkc]) _ _ _ _ ?_)
  have ok:=cellsFrom_ok scope.names (s.heap.push { cls:=.type "dict",data:=.dict #[] }) (s.heap.objs.size+1) [] ⟨fun _ _ hm=>(nomatch hm),List.Pairwise.nil⟩ (by rw [Heap.size_push];exact Nat.le_refl _)
  rw [Heap.size_push] at ok
  rw [show ({ s with heap:=s.heap.push { cls:=.type "dict",data:=.dict #[] } }:Shared).heap.objs.size=s.heap.objs.size+1 from Heap.size_push ..,qbc]
  refine wpAny_bind ?_
  rw [List.forIn_nil]
  exact wpAny_pure (wpAny_pure (hQ _ ((Heap.Ns.new s.heap (.type "dict")).keeps (pushCells_keeps _ _)) (fun b o e=>pushCells_keeps _ _ b o (Heap.get?_push_of_some _ e)) ok))
theorem qiR {pins:List (Addr × Obj)} {σ:St} {H:Hp} {s s4:Shared} {cl nw:List (Str × Addr)} {C:Addr} {fp:List Addr} {m:Str→Option Value} (S:CompScope X.N X.env.scope scope N' cap) (I:Inv X pins σ H s)
    (hcl:∀ x c,cl.lookup x=some c→X.env.cells.lookup x=some c) (hfr:∀ x,(x,NameKind.free)∈scope.names→∃ c,cl.lookup x=some c) (hC:s.heap.objs.size≤C) (hos:s4.os=s.os) (hg:s4.gens=s.gens)
    (hk:∀ b o,s.heap.get? b=some o→s4.heap.get? b=some o) (hn:s4.heap.Ns C m) (hfp:∀ b∈fp,qeH X pins H b) (hfz:∀ b∈fp,b<s.heap.objs.size) (hw:CellsOk s4.heap (C+1) nw) (hwm:∀ x c,(x,c)∈nw→(x,NameKind.cell)∈scope.names) (hwl:∀ x,(x,NameKind.cell)∈scope.names→∃ c,nw.lookup x=some c) :
    Inv (qaW X scope N' (nw++cl) C s H fp) [] (qcK cap σ) H s4:=by
  have hlk:∀ x c,(nw++cl).lookup x=some c→((x,c)∈nw∧C<c)∨(nw.lookup x=none∧X.env.cells.lookup x=some c):=fun x c h=>by
    rw [List.lookup_append] at h
    cases e:nw.lookup x with
    | none=>rw [e] at h;exact .inr ⟨rfl,hcl x c (by simpa using h)⟩
    | some c' =>
      rw [e] at h
      have:c'=c:=by simpa using h
      subst this
      exact .inl ⟨PySem.mem_of_lookup e,(hw.empty _ _ (PySem.mem_of_lookup e)).2⟩
  have hold:∀ x c,X.env.cells.lookup x=some c→c<s.heap.objs.size:=fun x c h=>by obtain ⟨v,q⟩:=I.cell x c h;exact q.lt
  have hfr':∀ x,(x,NameKind.free)∈scope.names→∃ c,(nw++cl).lookup x=some c∧X.env.cells.lookup x=some c:=fun x hx=>by
    obtain ⟨c,hc⟩:=hfr x hx
    refine ⟨c,?_,hcl x c hc⟩
    rw [List.lookup_append]
    cases e:nw.lookup x with
    | none=>simpa using hc
    | some c' =>
      have a1:=S.cel _ (hwm x c' (PySem.mem_of_lookup e)) rfl
      have a2:=S.fst _ hx rfl
      have a1:scope.names.lookup x=some .cell:=a1
      have a2:scope.names.lookup x=some .free:=a2
      rw [a1] at a2;cases a2
  refine ⟨⟨I.ok.mod,S.kind,I.ok.glob,I.ok.blt,hC,fun x y c h1 h2=>?_,fun x hx=>?_,fun x c hx h=>?_,I.ok.hd,I.ok.frames,.inl rfl,
      fun b hb=>⟨Nat.ne_of_lt (Nat.lt_of_lt_of_le (hfz b hb) hC),fun x c e=>?_⟩,I.bs,Nat.le_trans I.ok.bsz I.sz,fun b o e hb=>?_,fun b hb hf=>?_,I.stack,I.stkFree⟩,
    hos,by rw [hg];exact I.bare,Un.kept hk,⟨m,hn,fun i x v h1 h2 h3=>?_⟩,fun x c e=>?_,I.hok.fresh hC,fun x c e=>?_,fun p hp=>absurd (show p∈([]:List (Addr × Obj)) from hp) (by simp),I.hok.kept hk,?_⟩
  · rcases hlk x c h1 with ⟨a1,a2⟩ | ⟨_,a2⟩ <;> rcases hlk y c h2 with ⟨b1,b2⟩ | ⟨_,b2⟩
    · exact name_of_addr hw.apart a1 b1
    · exact absurd (hold y c b2) (Nat.not_lt.mpr (Nat.le_trans hC (Nat.le_of_lt a2)))
    · exact absurd (hold x c a2) (Nat.not_lt.mpr (Nat.le_trans hC (Nat.le_of_lt b2)))
    · exact I.ok.inj x y c a2 b2
  · have q:(x,NameKind.free)∈scope.names∨(x,NameKind.cell)∈scope.names:=by
      rcases hx with hx | hx
      · exact qcl hx (.inl rfl)
      · exact qcl hx (.inr rfl)
    rcases q with q | q
    · obtain ⟨c,h,_⟩:=hfr' x q
      exact ⟨c,h⟩
    · obtain ⟨c,h⟩:=hwl x q
      exact ⟨c,by show (nw++cl).lookup x=_;rw [List.lookup_append,h];rfl⟩
  · have hx:(scope.names.lookup x == some .cell)=true:=hx
    have hx:scope.names.lookup x=some .cell:=by simpa using hx
    obtain ⟨c',h'⟩:=hwl x (PySem.mem_of_lookup hx)
    rcases hlk x c h with ⟨_,a2⟩ | ⟨a1,_⟩
    · exact Nat.le_trans hC (Nat.le_of_lt a2)
    · rw [h'] at a1;cases a1
  · rcases hlk x c e with ⟨_,a2⟩ | ⟨_,a2⟩
    · exact fun z=>absurd (hfz b hb) (Nat.not_lt.mpr (Nat.le_trans hC (by rw [← z];exact Nat.le_of_lt a2)))
    · exact (hfp b hb).2.2.2.2.1 x c a2
  · rcases (hfp b hb).2.2.2.1 with z | z
    · exact I.ok.noex b o e z
    · exact absurd (Nat.lt_of_lt_of_le (Heap.lt_size e) (Nat.le_trans I.ok.bsz z)) (Nat.lt_irrefl _)
  · rcases List.mem_cons.mp (I.stkSub b hf) with z | z
    · exact (hfp b hb).2.1 z
    · exact (hfp b hb).2.2.1 z
  · have h2:(cap.map fun o=>o.bind fun i=>(σ[i]?).join)[i]?=some (some v):=h2
    rw [List.getElem?_map] at h2
    cases ec:cap[i]? with
    | none=>rw [ec] at h2;cases h2
    | some o =>
      rw [ec] at h2
      have h2:(o.bind fun i=>(σ[i]?).join)=some v:=by simpa using h2
      cases o with
      | none=>cases h2
      | some j =>
        have h2:(σ[j]?).join=some v:=h2
        have hj:σ[j]?=some (some v):=by
          cases ej:σ[j]? with
          | none=>rw [ej] at h2;cases h2
          | some y=>rw [ej] at h2;exact congrArg some h2
        have hz:(cap.zip N')[i]?=some (some j,x):=by rw [List.getElem?_zip_eq_some];exact ⟨ec,h1⟩
        obtain ⟨q1,q2⟩:=S.at_ _ (List.mem_of_getElem? hz) j rfl
        obtain ⟨mx,hnx,hl⟩:=I.loc
        have kc:=S.free _ q2 rfl
        obtain ⟨u,r,lk⟩:=hl j x v q1 hj (.inr (.inl kc))
        refine ⟨u,r,?_⟩
        rcases lk with ⟨k1,_⟩ | ⟨_,c,e,z⟩
        · have:X.env.scope.names.lookup x=some .local:=k1
          rw [kc] at this;cases this
        · obtain ⟨c',hc',hd'⟩:=hfr' x q2
          rw [e] at hd';cases hd'
          have kx:(compEnvC scope (nw++cl) C X.env).kindOf x=some .cell∨(compEnvC scope (nw++cl) C X.env).kindOf x=some .free∨(compEnvC scope (nw++cl) C X.env).kindOf x=some .local:=by
            rcases h3 with z | z | z
            · exact .inr (.inr z)
            · exact .inl z
            · exact .inr (.inl z)
          rcases kx with kx | kx | kx
          · exact .inr ⟨.inl kx,c,hc',let ⟨o,ho,hd⟩:=z;⟨o,hk c o ho,hd⟩⟩
          · exact .inr ⟨.inr kx,c,hc',let ⟨o,ho,hd⟩:=z;⟨o,hk c o ho,hd⟩⟩
          · exfalso
            have kl:(relabel scope X.env).names.lookup x=some .local:=kx
            have ml:=PySem.mem_of_lookup kl
            obtain ⟨⟨n,k⟩,hm,e2⟩:=List.mem_map.mp ml
            have e2:(if (k == NameKind.free && X.env.scope.kind == .function && X.env.kindOf n == some .cell)=true then (n,NameKind.cell) else (n,k))=(x,NameKind.local):=e2
            split at e2
            · cases e2
            · cases e2
              have a1:=S.names _ hm rfl
              have a3:scope.names.lookup x=some .free:=S.fst _ q2 rfl
              have a1:scope.names.lookup x=some .local:=a1
              rw [a3] at a1;cases a1
  · rcases hlk x c e with ⟨a1,_⟩ | ⟨_,a2⟩
    · exact ⟨none,(hw.empty x c a1).1⟩
    · obtain ⟨v,o,ho,hd⟩:=I.cell x c a2
      exact ⟨v,o,hk c o ho,hd⟩
  · rcases hlk x c e with ⟨_,a2⟩ | ⟨_,a2⟩
    · exact I.hok.fresh (Nat.le_trans hC (Nat.le_of_lt a2))
    · exact I.freeC x c a2
  · show (qcK cap σ).length=N'.length
    unfold qcK
    rw [List.length_map,S.len]
theorem qd7 {pins:List (Addr × Obj)} {σ:St} {H2:Hp} {s2:Shared} {it:Addr} {fp:List Addr} {tn:Nat→Heap→Prop} {J:It} {cl:List (Str × Addr)} {RR:Value→Addr→Result→Shared→Prop} {E:Value→Shared→Prop} (hcalm:X.calm=true) (S:CompScope X.N X.env.scope scope N' cap)
    (hg:∀ (cl:List (Str × Addr)) (C:Addr) (s0:Shared) (H0:Hp),PG (qaW X scope N' cl C s0 H0 fp) tg g) (ht:∀ (cl:List (Str × Addr)) (C:Addr) (s0:Shared) (H0:Hp),qlw (qaW X scope N' cl C s0 H0 fp) ifs tc) (he:∀ (cl:List (Str × Addr)) (C:Addr) (s0:Shared) (H0:Hp),PE (qaW X scope N' cl C s0 H0 fp) elt te)
    (I2:Inv X pins σ H2 s2) (T:Turn X.prog X.w X.K tg J fp it tn) (st2:tn 0 s2.heap) (f2:∀ b∈fp,qeH X pins H2 b)
    (hcl:∀ x c,cl.lookup x=some c→X.env.cells.lookup x=some c) (hfr:∀ x,(x,NameKind.free)∈scope.names→∃ c,cl.lookup x=some c)
    {P:V→Hp→Prop}
    (w:∀ D,H2 D=none→∃ W:Nat→Nat→St→Hp→Prop,(∃ m,W 0 m (qcK cap σ) (upd H2 D (.lst []))) ∧
      ∀ i m σ' H',W i m σ' H'→(J.stop i H'∧P (.ref D) H')∨(J.go i H'∧∃ N:St→Hp→Prop,(∀ σ2 H2,N σ2 H2→∃ m',m'<m∧W (i+1) m' σ2 H2) ∧
        ∀ x H2,J.yld i H' x H2→g x σ' H2 fun σ3 H3=>tc σ3 H3 fun b H4=>if b=true then te σ3 H4 fun y H5=>∃ ys,H5 D=some (.lst ys)∧ys.length<sizeLine∧N σ3 (upd H5 D (.lst (ys++[y]))) else N σ3 H4))
    (hRR:∀ D C H' s' m',X.env.locals≠C→X.s₀.heap.objs.size≤C→(∀ x c,X.env.cells.lookup x=some c→c≠C)→(∀ p∈X.pn++pins,p.1≠C)→H' C=none→s'.heap.Ns C m'→Inv X pins σ H' s'→P (.ref D) H'→RR (.ref D) C (.ok .next) s') :
    wpAny (model X.prog X.w) X.A (newList []) (fun acc s₃=>wpAny (model X.prog X.w) X.A (newFunctionEnv scope X.env.globals cl [] X.env.qual none .none (some X.env)) (fun cenv s₄ =>
      codeAny (model X.prog X.w) X.A (.compStart (.ListComp elt [⟨tg,iter,ifs,0⟩] scope pos) 0 (.ref it) acc { cenv with scope:=relabel scope X.env }) (RR acc cenv.locals) s₄) E s₃) E s2:=by
  refine wpAny_newObj_type ?_ (by show 0≤sizeLine;decide)
  have I3:Inv X pins σ (upd H2 s2.heap.objs.size (.lst [])) { s2 with heap:=s2.heap.push { cls:=.type "list",data:=.seq ([]:List Value).toArray } }:=I2.lnew (t':=s2.toks) .nil (by show 0≤sizeLine;decide)
  have k3:∀ b o,s2.heap.get? b=some o→(s2.heap.push { cls:=.type "list",data:=.seq ([]:List Value).toArray }).get? b=some o:=fun b o e=>Heap.get?_push_of_some _ e
  have z3:(s2.heap.push { cls:=.type "list",data:=.seq ([]:List Value).toArray }).objs.size=s2.heap.objs.size+1:=Heap.size_push ..
  have hD0:H2 s2.heap.objs.size=none:=I2.fresh
  generalize hs3:({ s2 with heap:=s2.heap.push { cls:=.type "list",data:=.seq ([]:List Value).toArray } }:Shared)=s3 at I3 ⊢
  have eh3:s3.heap=s2.heap.push { cls:=.type "list",data:=.seq ([]:List Value).toArray }:=by rw [← hs3]
  have eo3:s3.os=s2.os:=by rw [← hs3]
  generalize hDD:s2.heap.objs.size=D at I3 hD0 z3 ⊢
  rw [← eh3] at k3 z3
  have live:∀ b∈fp,∃ o,s2.heap.get? b=some o∧∀ v,o.data≠.cell v:=fun b hb=>T.obj 0 _ st2 b hb
  have ltD:∀ b∈fp,b<D:=fun b hb=>by obtain ⟨o,e,_⟩:=live b hb;rw [← hDD];exact Heap.lt_size e
  have f3:∀ b∈fp,qeH X pins (upd H2 D (.lst [])) b:=fun b hb=>⟨by rw [qal (Nat.ne_of_lt (ltD b hb))];exact (f2 b hb).1,(f2 b hb).2⟩
  refine qiO fun h4 hn4 k4 ok4=>?_
  generalize hnw:cellsFrom (s3.heap.objs.size+1) scope.names []=nw at ok4 ⊢
  have st4:tn 0 h4:=T.keep 0 _ _ st2 fun b _ o e=>k4 b o (k3 b o e)
  have I4:Inv (qaW X scope N' (nw++cl) s3.heap.objs.size s3 (upd H2 D (.lst [])) fp) [] (qcK cap σ) (upd H2 D (.lst [])) { s3 with heap:=h4 } :=
    qiR S I3 hcl hfr (Nat.le_refl _) rfl rfl k4 hn4 f3 (fun b hb=>by rw [z3];exact Nat.lt_succ_of_lt (ltD b hb)) ok4 (fun x c h=>qbO _ _ (hnw ▸ h)) fun x h=>hnw ▸ qeo (S.cel _ h rfl)
  obtain ⟨W,⟨m0,w0⟩,turn⟩:=w D hD0
  have fpY:∀ {H':Hp},(∀ b∈fp,H' b=none)→∀ b∈fp,qeH (qaW X scope N' (nw++cl) s3.heap.objs.size s3 (upd H2 D (.lst [])) fp) [] H' b:=fun hn b hb =>
    ⟨hn b hb,Nat.ne_of_lt (by show b<s3.heap.objs.size;rw [z3];exact Nat.lt_succ_of_lt (ltD b hb)),fun hf=>I4.ok.exfs b hb hf,.inl hb,fun x c e=>(I4.ok.exf b hb).2 x c e,fun p hp=>absurd (show p∈([]:List (Addr × Obj)) from hp) (by simp)⟩
  have loop:∀ s₃:Shared,s₃={ s3 with heap:=h4 } →
      codeAny (model X.prog X.w) X.A (.compLoop (.ListComp elt [⟨tg,iter,ifs,0⟩] scope pos) 0 (.ref it) (.ref D) (compEnvC scope (nw++cl) s3.heap.objs.size X.env)) (RR (.ref D) s3.heap.objs.size) s₃:=by
    rintro s₃ rfl
    refine qfr (fun n s'=>∃ i σ' H',Inv (qaW X scope N' (nw++cl) s3.heap.objs.size s3 (upd H2 D (.lst [])) fp) [] σ' H' s'∧tn i s'.heap∧(∀ b∈fp,H' b=none)∧W i n σ' H') ?_ m0
      ⟨0,qcK cap σ,upd H2 D (.lst []),I4,st4,fun b hb=>(f3 b hb).1,w0⟩
    rintro n s5 ⟨i,σ5,H5,I5,st5,fr5,w5⟩
    rcases turn i n σ5 H5 w5 with ⟨stop,qn⟩ | ⟨go,N,hN,step⟩
    · refine thn (T.done (qaW X scope N' (nw++cl) s3.heap.objs.size s3 (upd H2 D (.lst [])) fp) rfl rfl rfl hcalm i [] s5 σ5 H5 _ I5 (fpY fr5) st5 stop) fun r s6 hq0=>?_
      obtain ⟨hr,I6⟩:=hq0
      subst hr
      obtain ⟨m6,hn6,_⟩:=I6.loc
      have un:Un (frs X.stack) fp (upd H2 D (.lst [])) H5 s3.heap s6.heap:=I6.base
      refine hRR D s3.heap.objs.size H5 s6 m6 (Nat.ne_of_lt I3.lt) I3.sz (fun x c e=>?_) (fun p hp=>?_) I6.free hn6 ?_ qn
      · obtain ⟨v,q⟩:=I3.cell x c e
        exact Nat.ne_of_lt q.lt
      · exact Nat.ne_of_lt (Heap.lt_size (I3.pin p hp).1)
      · exact I3.call' I6.os un I6.hok I6.bare fun b hb=>⟨(f3 b hb).2.2.2.1,(f3 b hb).2.1,(f3 b hb).2.2.2.2.1,(f3 b hb).2.2.2.2.2⟩
    · refine thn (T.item (qaW X scope N' (nw++cl) s3.heap.objs.size s3 (upd H2 D (.lst [])) fp) rfl rfl rfl hcalm i [] s5 σ5 H5 (fun _ _=>False) I5 (fpY fr5) st5 go) fun r s6 hq1=>?_
      obtain ⟨u,hr,h6⟩:=hq1
      subst hr
      refine thn h6 fun _ s7 hq2=>?_
      obtain ⟨x,H7,I7,r7,y7,st7,fr7⟩:=hq2
      have I7':=I7.pinned (fpY fr7) (T.obj _ _ st7)
      refine thn (hg _ _ _ _ _ s7 σ5 H7 x u _ I7' r7 (step x H7 y7)) fun _ s8 hq3=>?_
      obtain ⟨σ8,H8,I8,q8⟩:=hq3
      refine thn (ht _ _ _ _ _ s8 σ8 H8 _ I8 q8) fun b s9 hq4=>?_
      obtain ⟨H9,I9,q9⟩:=hq4
      have again:∀ {σ9:St} {H9:Hp} {s9:Shared},Inv (qaW X scope N' (nw++cl) s3.heap.objs.size s3 (upd H2 D (.lst [])) fp) ([]++qe2 fp s7.heap) σ9 H9 s9→N σ9 H9→∃ m,m<n∧∃ i σ' H',Inv (qaW X scope N' (nw++cl) s3.heap.objs.size s3 (upd H2 D (.lst [])) fp) [] σ' H' s9∧tn i s9.heap∧(∀ b∈fp,H' b=none)∧W i m σ' H':=fun {σ9 H9 s9} I9 n9=>by
        obtain ⟨m',hm,w9⟩:=hN σ9 H9 n9
        refine ⟨m',hm,i+1,σ9,H9,I9.unpinned,T.keep _ _ _ st7 fun b hb o e=>(I9.pin (b,o) (List.mem_append_right _ (List.mem_append_right _ (qb9 hb e)))).1,fun b hb=>?_,w9⟩
        obtain ⟨o,e,d⟩:=T.obj _ _ st7 b hb
        exact (I9.pin (b,o) (List.mem_append_right _ (List.mem_append_right _ (qb9 hb e)))).2.1
      cases b with
      | false =>
        rw [if_neg (by decide)] at q9 ⊢
        exact again I9 q9
      | true =>
        rw [if_pos rfl] at q9 ⊢
        refine thn (he _ _ _ _ _ s9 σ8 H9 _ I9 q9) fun yv s10 hq5=>?_
        obtain ⟨y,H10,I10,r10,ys,hD10,hz10,q10⟩:=hq5
        refine thn (qdx _ s10 σ8 H10 (.ref D) [y] (.ref D) [yv] (fun _ H'=>N σ8 H') I10 rfl (.cons r10 .nil) ⟨D,ys,y,rfl,rfl,hD10,hz10,q10⟩) fun _ s11 hq6=>?_
        obtain ⟨_,H11,I11,_,q11⟩:=hq6
        exact again I11 q11
  exact codeAny_compStart_list (loop _ rfl) (T.self _ 0 _ _ _ st4 (loop _ rfl))
theorem qis (hcalm:X.calm=true) (S:CompScope X.N X.env.scope scope N' cap) (hi:PI X tg iter wi)
    (hg:∀ (cl:List (Str × Addr)) (fp:List Addr) (C:Addr) (s0:Shared) (H0:Hp),PG (qaW X scope N' cl C s0 H0 fp) tg g) (ht:∀ (cl:List (Str × Addr)) (fp:List Addr) (C:Addr) (s0:Shared) (H0:Hp),qlw (qaW X scope N' cl C s0 H0 fp) ifs tc)
    (he:∀ (cl:List (Str × Addr)) (fp:List Addr) (C:Addr) (s0:Shared) (H0:Hp),PE (qaW X scope N' cl C s0 H0 fp) elt te) (hs:∀ x,foldedSetIterable iter X.env x=pure x:=by intro _;rfl) :
    PE X (.ListComp elt [⟨tg,iter,ifs,0⟩] scope pos) (qfI wi cap g tc te):=by
  intro pins s σ H Q I h
  obtain ⟨cl,ecl,hcl,hfr⟩:=qcG (scope:=scope) (env:=X.env) fun x hx hf=>I.ok.has x.1 (.inl (S.free x hx hf))
  rw [eval_ListComp]
  refine wpAny_comprehension_free (use:=none) rfl hs ecl S.kind S.names (thn (hi pins s σ H _ I h) fun v s1 h1=>thn h1 fun itv s2 h2=>?_)
  obtain ⟨it,fp,tn,J,H2,e,I2,T,st2,f2,w⟩:=h2
  subst e
  refine qd7 (RR:=fun acc C=>compPost (model X.prog X.w) X.A X.xe none (EP X pins σ Q) acc C) hcalm S (fun cl=>hg cl fp) (fun cl=>ht cl fp) (fun cl=>he cl fp) I2 T st2 f2 hcl hfr (P:=Q) w ?_
  intro D C H' s' m' hL hz hcc hpp hC hn I' q
  refine ⟨m',hn,fun h' hs'=>⟨.ref D,H',I'.turned (t':=s'.toks) (fun b o hb e=>(hs'.2 b hb).trans e) hC (Ne.symm hL) (.inr hz) hcc hpp,rfl,q⟩⟩
theorem qj6 {i:Nat} {y:Str} {py spos:Pos} (hcalm:X.calm=true) (hN:X.N.Nodup) (hy:X.N[i]?=some y) (hx:Loc X.env.scope y) (S:CompScope X.N X.env.scope scope N' cap) (hi:PI X tg iter wi)
    (hg:∀ (cl:List (Str × Addr)) (fp:List Addr) (C:Addr) (s0:Shared) (H0:Hp),PG (qaW X scope N' cl C s0 H0 fp) tg g) (ht:∀ (cl:List (Str × Addr)) (fp:List Addr) (C:Addr) (s0:Shared) (H0:Hp),qlw (qaW X scope N' cl C s0 H0 fp) ifs tc)
    (he:∀ (cl:List (Str × Addr)) (fp:List Addr) (C:Addr) (s0:Shared) (H0:Hp),PE (qaW X scope N' cl C s0 H0 fp) elt te) (hsw:swapsWith (.ListComp elt [⟨tg,iter,ifs,0⟩] scope pos) (some (.Name y py)) spos.line X.env=pure true:=by rfl)
    (hs:∀ x,foldedSetIterable iter X.env x=pure x:=by intro _;rfl) (hf:X.fn y=true∨X.env.scope.names.lookup y=some .local:=by first | exact .inl rfl | exact .inr rfl | assumption) :
    PS X (.Assign [.Name y py] (.ListComp elt [⟨tg,iter,ifs,0⟩] scope pos) spos) (qlx (qfI wi cap g tc te) (qfN i)):=by
  intro pins s σ H D I h
  obtain ⟨cl,ecl,hcl,hfr⟩:=qcG (scope:=scope) (env:=X.env) fun x hx hf=>I.ok.has x.1 (.inl (S.free x hx hf))
  rw [exec_Assign_Name_used _ _ _ _ hsw]
  refine wpAny_bind (wpAny_standAt (wpAny_bind ?_))
  show wpAny _ X.A (do let _ ← comprehension (.ListComp elt [⟨tg,iter,ifs,0⟩] scope pos) scope X.env _ (newList []) false (eval iter X.env) (some (assign (.Name y py) X.env))) _ _ s
  refine wpAny_bind (wpAny_mono (wpAny_comprehension_free (use:=some (assign (.Name y py) X.env)) (Q:=fun _ s'=>SP X pins D .next s') rfl hs ecl S.kind S.names
    (thn (hi pins s σ H _ I h) fun v s1 h1=>thn h1 fun itv s2 h2=>?_)) (fun _ s' hq=>wpAny_pure (wpAny_pure hq)) fun _ _ e=>e)
  obtain ⟨it,fp,tn,J,H2,e,I2,T,st2,f2,w⟩:=h2
  subst e
  refine qd7 (RR:=fun acc C=>compPost (model X.prog X.w) X.A X.xe (some (assign (.Name y py) X.env)) (fun _ s'=>SP X pins D .next s') acc C) hcalm S (fun cl=>hg cl fp) (fun cl=>ht cl fp) (fun cl=>he cl fp) I2 T st2 f2 hcl hfr (P:=fun v H'=>D.nx (σ.set i (some v)) H') w ?_
  intro Dd C H' s' m' hL hz hcc hpp hC hn I' q
  show wpAny _ X.A (assign (.Name y py) X.env (.ref Dd)) _ _ s'
  refine wpAny_assign_Name (qdN (v:=.ref Dd) I' hN hy hx rfl (fun s'' I'' hsb=>?_) hf)
  obtain ⟨a,sb,ha⟩:=hsb
  have hCa:C≠a:=by
    rcases ha with z | z
    · rw [z];exact Ne.symm hL
    · exact Ne.symm (hcc y a z)
  refine ⟨m',hn.sameBut sb hCa,fun h' hs'=>?_⟩
  exact ⟨_,H',I''.turned (t':=s''.toks) (fun b o hb e=>(hs'.2 b hb).trans e) hC (Ne.symm hL) (.inr hz) hcc hpp,q⟩
end
open AutoSeq1 (wpAny_loadPart')
theorem Inv.turnedL {X:Cx} {pins:List (Addr × Obj)} {σ:St} {H:Hp} {s:Shared} {h':Heap} {ch:List Addr} {t':Nat} (I:Inv X pins σ H s) (k:∀ b o,b∉ch→s.heap.get? b=some o→h'.get? b=some o) (hf:∀ b∈ch,qeH X pins H b) :
    Inv X pins σ H { s with heap:=h',toks:=t' }:=by
  have nit:∀ b u,H b=some u→b∉ch:=fun b u e z=>by rw [(hf b z).1] at e;cases e
  refine I.step (g':=s.gens) (d':=s.drawn) (ch:=ch) (fun b hb=>⟨(hf b hb).2.2.2.1,(hf b hb).2.1,(hf b hb).2.2.2.2.1,(hf b hb).2.2.2.2.2⟩) (fun b o _ _ hc e _=>k b o hc e) (fun b o _ _ hc e _=>⟨o.slots,k b o hc e⟩) (fun _ _ _ _ n=>n)
    (fun b o hc e=>⟨o,k b o hc e⟩) (fun _ _ e=>e) (fun _ _ _ e=>e) (fun b ps e=>e) (fun m hm=>?_) (fun b u e=>?_) I.bare
  · obtain ⟨o,es,ep,ho,r⟩:=hm
    exact ⟨o,es,ep,k _ o (fun z=>(hf _ z).2.1 rfl) ho,r⟩
  · refine (I.hok b u e).stay (fun c v hc q=>k c v ?_ q) (fun _ q=>q) (fun _ _ q=>q) fun _ _ _ q=>q
    rcases hc with z | z
    · rw [z];exact nit b u e
    · exact nit c _ z
def SqI (b:Bool) (h:Heap) (it a:Addr) (i:Nat):Prop:=match b with | true=>h.IsListIter it a i | false=>h.IsTupleIter it a i
def SqO (b:Bool) (h:Heap) (a:Addr) (its:Array Value):Prop:=match b with | true=>h.IsList a its | false=>h.IsTuple a its
def SqB (K:PySem.W.Frag) (b:Bool) (H:Hp) (a:Addr) (xs:List V):Prop:=match b with | true=>SqL K H a xs | false=>SqT K H a xs
def qbu (b:Bool) (a:Addr):Obj:=match b with
  | true=>{ cls:=.type "list_iterator",data:=.fields #[.ref a,.int 0 0] }
  | false=>{ cls:=.type "tuple_iterator",data:=.fields #[.ref a,.int 0 0] }
theorem SqI.at {b:Bool} {h h':Heap} {it a:Addr} {i:Nat} (x:SqI b h it a i) (k:∀ o,h.get? it=some o→h'.get? it=some o):SqI b h' it a i:=by
  cases b <;> (obtain ⟨o,e,r⟩:=x;exact ⟨o,k o e,r⟩)
theorem SqO.at {b:Bool} {h h':Heap} {a:Addr} {its:Array Value} (x:SqO b h a its) (k:∀ o,h.get? a=some o→h'.get? a=some o):SqO b h' a its:=by
  cases b <;> (obtain ⟨o,e,r⟩:=x;exact ⟨o,k o e,r⟩)
theorem SqI.obj {b:Bool} {h:Heap} {it a:Addr} {i:Nat} (x:SqI b h it a i):∃ o,h.get? it=some o∧∀ v,o.data≠.cell v:=by
  cases b <;> (obtain ⟨o,e,_,d⟩:=x;exact ⟨o,e,fun v z=>by rw [d] at z;cases z⟩)
theorem SqI.lt {b:Bool} {h:Heap} {it a:Addr} {i:Nat} (x:SqI b h it a i):it<h.objs.size:=by obtain ⟨o,e,_⟩:=x.obj;exact Heap.lt_size e
theorem SqO.lt {b:Bool} {h:Heap} {a:Addr} {its:Array Value} (x:SqO b h a its):a<h.objs.size:=by
  cases b <;> (obtain ⟨o,e,_⟩:=x;exact Heap.lt_size e)
theorem Inv.sqb {X:Cx} {pins:List (Addr × Obj)} {σ:St} {H:Hp} {s:Shared} {b:Bool} {a:Addr} {xs:List V} (I:Inv X pins σ H s) (h:SqB X.K b H a xs):∃ its:List Value,Vals xs its∧SqO b s.heap a its.toArray∧xs.length≤sizeLine:=by
  cases b with
  | true=>obtain ⟨its,rv,p,hz⟩:=I.list h;exact ⟨its,rv,p.isList,hz⟩
  | false=>obtain ⟨its,rv,p,hz⟩:=I.tuple h;exact ⟨its,rv,p,hz⟩
theorem Inv.sqb_inj {X:Cx} {pins:List (Addr × Obj)} {σ:St} {H:Hp} {s:Shared} {b:Bool} {a:Addr} {xs ys:List V} (I:Inv X pins σ H s) (h:SqB X.K b H a xs) (h':SqB X.K b H a ys):xs=ys:=by
  cases b with
  | true=>exact I.list_inj h h'
  | false=>exact I.tuple_inj h h'
theorem SqB.same {K:PySem.W.Frag} {b:Bool} {H H':Hp} {a:Addr} {xs:List V} (e:Same H H') (h:SqB K b H a xs):SqB K b H' a xs:=by
  cases b with
  | true=>exact e.seq h
  | false =>
    rcases h with (h | ⟨o,h⟩) | h
    · exact .inl (.inl (e _ _ h))
    · exact .inl (.inr ⟨o,e _ _ h⟩)
    · exact .inr h
section
variable {prog : Program} {w : World} {A : Around} {E : Value → Shared → Prop} {s : Shared}
theorem qew {b:Bool} {a:Addr} {its:Array Value} {Q:Value→Shared→Prop} (h:SqO b s.heap a its) (q:Q (.ref s.heap.objs.size) { s with heap:=s.heap.push (qbu b a) }):wpAny (model prog w) A (pyIter (.ref a)) Q E s:=by
  cases b with
  | true=>exact wpAny_pyIter_list h q
  | false=>exact wpAny_pyIter_tuple h q
theorem qcC {b:Bool} {h:Heap} {it a:Addr} (e:h.get? it=some (qbu b a)):SqI b h it a 0:=by
  cases b <;> exact ⟨_,e,rfl,rfl⟩
theorem qeh {b:Bool} {it a:Addr} {i:Nat} {its:Array Value} {x:Value} {Q:Value→Shared→Prop} (hit:SqI b s.heap it a i) (hl:SqO b s.heap a its) (hx:its[i]?=some x)
    (hQ:∀ h',SqI b h' it a (i+1)→Heap.SameBut it s.heap h'→Q x { s with heap:=h' }):wpAny (model prog w) A (Builtin.SmallTypes.nextOf (.ref it)) Q E s:=by
  cases b with
  | true=>exact wpAny_nextOf_list_item hit hl hx hQ
  | false =>
    have hit:s.heap.IsTupleIter it a i:=hit
    obtain ⟨o,ho,hc,hd⟩:=id hit
    obtain ⟨ol,hol,_,nl,hdl⟩:=hl
    unfold Builtin.SmallTypes.nextOf
    refine wpAny_bind (wpAny_callSpecial?_slot (name:=Str.ofString "__next__") hit.typeIs F.slot_tuple_iterator_next (wpAny_call_entry F.slot_tuple_iterator_next hit.typeIs F.entry_tuple_iterator_next ?_ (F.args_tuple_iterator_next_1 _)))
    show wpAny _ _ (field (.ref it) 0 >>= _) _ _ s
    refine wpAny_bind (wpAny_field ho hd (x:=.ref a) rfl ?_)
    show wpAny _ _ (if (Value.ref a == Value.none)=true then _ else _) _ _ s
    rw [if_neg (show ¬ ((Value.ref a == Value.none)=true) from Bool.false_ne_true)]
    show wpAny _ _ (field (.ref it) 1 >>= _) _ _ s
    refine wpAny_bind (wpAny_field ho hd (x:=.int i 0) rfl ?_)
    show wpAny _ _ (seqItems? (.ref a) >>= _) _ _ s
    refine wpAny_bind (wpAny_seqItems hol hdl ?_)
    simp only [Int.toNat_natCast,hx]
    refine wpAny_bind (wpAny_setField ho hd (by simp) (wpAny_pure ⟨x,rfl,wpAny_pure (hQ _ ?_ (Heap.SameBut.update ..))⟩))
    exact ⟨_,Heap.get?_update_self _ ho (Obj.isFreed_of_fields (Obj.data_mapFields hd _)),(Obj.cls_mapFields ..).trans hc,by rw [Obj.data_mapFields hd];simp [rawInt]⟩
theorem qgh {b:Bool} {it a:Addr} {i:Nat} {its:Array Value} {Q:Value→Shared→Prop} (hh:A.handled=none) (hit:SqI b s.heap it a i) (hl:SqO b s.heap a its) (hx:its[i]?=none)
    (hE:∀ h' e,Heap.ExtBut it s.heap h'→(∃ o,h'.get? e=some o∧o.cls=.type "StopIteration")→E (.ref e) { s with heap:=h' }):wpAny (model prog w) A (Builtin.SmallTypes.nextOf (.ref it)) Q E s:=by
  cases b with
  | true=>exact wpAny_nextOf_list_end hh hit hl hx hE
  | false =>
    have hit:s.heap.IsTupleIter it a i:=hit
    obtain ⟨o,ho,hc,hd⟩:=id hit
    obtain ⟨ol,hol,_,nl,hdl⟩:=hl
    unfold Builtin.SmallTypes.nextOf
    refine wpAny_bind (wpAny_callSpecial?_slot (name:=Str.ofString "__next__") hit.typeIs F.slot_tuple_iterator_next (wpAny_call_entry F.slot_tuple_iterator_next hit.typeIs F.entry_tuple_iterator_next ?_ (F.args_tuple_iterator_next_1 _)))
    show wpAny _ _ (field (.ref it) 0 >>= _) _ _ s
    refine wpAny_bind (wpAny_field ho hd (x:=.ref a) rfl ?_)
    show wpAny _ _ (if (Value.ref a == Value.none)=true then _ else _) _ _ s
    rw [if_neg (show ¬ ((Value.ref a == Value.none)=true) from Bool.false_ne_true)]
    show wpAny _ _ (field (.ref it) 1 >>= _) _ _ s
    refine wpAny_bind (wpAny_field ho hd (x:=.int i 0) rfl ?_)
    show wpAny _ _ (seqItems? (.ref a) >>= _) _ _ s
    refine wpAny_bind (wpAny_seqItems hol hdl ?_)
    simp only [Int.toNat_natCast,hx]
    refine wpAny_bind (wpAny_rule (wpAny_bind (wpAny_setField ho hd (by simp) ?_)))
    show wpAny _ _ (newExc (.type "StopIteration") [] >>= _) _ _ _
    refine wpAny_bind ?_
    simp only [newExc,newTuple]
    refine wpAny_bind (wpAny_newObj_type ?_ (by size_fits))
    refine wpAny_bind (m:=firstArgMember _ _) (wpAny_of_eq (a:=Value.none) (by first | rfl | (simp only [firstArgMember];rfl)) ?_)
    refine wpAny_newObj_type ?_ (by size_fits)
    simp only [raiseNew]
    refine wpAny_bind (wpAny_handled ?_)
    first | rw [show A.in1.handled=none from hh] | rw [hh]
    refine wpAny_bind (wpAny_pure (wpAny_throw ?_))
    exact hE _ _ (((Heap.SameBut.update ..).extBut.push _).push _) ⟨_,Heap.get?_push_size _ rfl,rfl⟩
theorem qjd (hh:A.handled=none) (b:Bool) (it a:Addr) (hne:a≠it) (its:Array Value):Draws prog w A it [it,a] its.size (fun i v=>its[i]?=some v) (fun i h=>SqI b h it a i∧SqO b h a its) where
  live:=fun _ _ st=>let ⟨o,e,_⟩:=st.1.obj;⟨o,e⟩
  frame:=fun _ _ _ st k=>⟨st.1.at fun o e=>k it (by simp) o e,st.2.at fun o e=>k a (by simp) o e⟩
  item:=fun i s Q E hi st hQ=>qeh st.1 st.2 (x:=its[i]) (by simp [hi]) fun h' q sb=>hQ _ h' s.toks (by simp [hi]) ⟨q,st.2.at fun o e=>(sb.2 a hne).trans e⟩ sb
  done:=fun s Q E st hE=>qgh hh st.1 st.2 (by simp) hE
theorem qig (l:Addr) (items:Array Value) (n:Nat) (dct:Option Addr) (sl:Array (Option Value)) :
    Meets (Builtin.«enumerate.__new__» ⟨[.type "enumerate",.ref l],[]⟩) (fun _ R s=>s.heap.get? l=some { cls:=.type "tuple",dict:=dct,data:=.seq items n,slots:=sl } ∧
      R (.ok (.ret (.ref (s.heap.push (qbu false l)).objs.size)))
        { s with heap:=(s.heap.push (qbu false l)).push { cls:=.type "enumerate",data:=.fields #[.none,.bool false,.ref s.heap.objs.size,rawInt 0,.none,.none] } }) :=
  .of_wp fun prog w A R s h=>by
    obtain ⟨hp,g,d,tk,os⟩:=s;obtain ⟨hl,h⟩:=h
    have hsub:=sub_enumerate
    have hL:Heap.IsTuple (Shared.heap ⟨hp,g,d,tk,os⟩) l items:=⟨_,hl,rfl,n,rfl⟩
    wp_walk using wpAny_loadPart' hl
    refine wpAny_stack_any fun st=>wpAny_pure ?_
    split
    · rename_i c _ _ _ _ _
      cases (c == Value.type "enumerate")
      · (wp_walk using wpAny_loadPart' hl,wpAny_pyIter_tuple hL);exact ⟨_,rfl,h⟩
      · (wp_walk using wpAny_loadPart' hl,wpAny_pyIter_tuple hL);exact ⟨_,rfl,h⟩
    · (wp_walk using wpAny_loadPart' hl,wpAny_pyIter_tuple hL);exact ⟨_,rfl,h⟩
theorem qhU {b:Bool} {l:Addr} {items:Array Value} {Q:Value→Shared→Prop} (hL:SqO b s.heap l items)
    (h:∀ h',IsEnum h' (s.heap.objs.size+1) s.heap.objs.size 0 .none→SqI b h' s.heap.objs.size l 0→h'.objs.size=s.heap.objs.size+2→(∀ b o,s.heap.get? b=some o→h'.get? b=some o)→Q (.ref (s.heap.objs.size+1)) { s with heap:=h' }) :
    wpAny (model prog w) A (call (.type "enumerate") [.ref l]) Q E s:=by
  cases b with
  | true=>exact call_enumerate_list hL h
  | false =>
    obtain ⟨⟨c,dct,dt,sl⟩,hl,hc,n,hd⟩:=hL
    replace hc:c=.type "tuple":=hc
    replace hd:dt=.seq items n:=hd
    subst hc hd
    refine callType_new F.called_enumerate (by decide) (F.typeCall_enumerate_1 _) (F.newCall_enumerate_1 _) (fun obj=>F.args_object_init_2 obj _) F.entry_enumerate_new (qig l items n dct sl) ⟨hl,?_⟩
    have hz:(s.heap.push (qbu false l)).objs.size=s.heap.objs.size+1:=Heap.size_push ..
    show _∧_
    rw [hz]
    have he:=Heap.get?_push_size (s.heap.push (qbu false l)) (o:={ cls:=.type "enumerate",data:=.fields #[.none,.bool false,.ref s.heap.objs.size,rawInt 0,.none,.none] }) rfl
    rw [hz] at he
    have hi:(s.heap.push (qbu false l)).get? s.heap.objs.size=some (qbu false l):=Heap.get?_push_size _ rfl
    exact ⟨⟨_,he,rfl⟩,h _ he (qcC (Heap.get?_push_of_some _ hi)) (by rw [Heap.size_push,hz]) fun b o x=>Heap.get?_push_of_some _ (Heap.get?_push_of_some _ x)⟩
theorem qjc {b:Bool} {e it a:Addr} {i:Nat} {j:Int} {its:Array Value} {old:Value} {Q:Option Value→Shared→Prop} (hh:A.handled=none) (he:IsEnum s.heap e it j old) (hit:SqI b s.heap it a i) (hl:SqO b s.heap a its) (hx:its[i]?=none)
    (hQ:∀ h',Heap.ExtBut it s.heap h'→Q none { s with heap:=h' }):wpAny (model prog w) A (pyNext (.ref e)) Q E s:=by
  have hT:s.TypeIs (.ref e) "enumerate":=⟨_,he,rfl⟩
  unfold pyNext
  refine wpAny_bind (wpAny_attempt (wpAny_callSpecial?_slot (name:=Str.ofString "__next__") hT F.slot_enumerate_next (wpAny_call_entry F.slot_enumerate_next hT F.entry_enumerate_next ?_ (F.args_enumerate_next_1 _))))
  show wpAny _ _ (field (.ref e) 2 >>= _) _ _ _
  refine wpAny_bind (wpAny_field he rfl (x:=.ref it) rfl (wpAny_bind (qgh hh hit hl hx fun h' x he' hx'=>?_)))
  obtain ⟨o,ho,hc⟩:=hx'
  exact wpAny_bind (wpAny_isInstance (T:="StopIteration") (b:=true) ⟨o,ho,hc⟩ isSubtype_stop (wpAny_pure (hQ _ he')))
end
def Ite (K:PySem.W.Frag) (b:Bool) (a:Addr):It :=
  ⟨fun i H=>∃ xs x,SqB K b H a xs∧xs[i]?=some x,fun i H x H'=>∃ t y,H t=none∧x=.ref t∧H'=upd H t (.tup [.int i,y])∧∀ xs,SqB K b H a xs→xs[i]?=some y,fun i H=>∃ xs,SqB K b H a xs∧xs.length≤i⟩
theorem qh7 {P:Program} {w:World} {K:PySem.W.Frag} {es:List Expr} {k:Nat} {pos:Pos} (b:Bool) (a e it:Addr) (hei:e≠it):Turn P w K (.Tuple es k pos) (Ite K b a) [e,it] e (fun i h=>(∃ old,IsEnum h e it i old)∧SqI b h it a i) where
  mem:=by simp
  obj:=fun i h st c hc=>by
    obtain ⟨⟨old,he⟩,hs⟩:=st
    rcases List.mem_cons.mp hc with rfl | hc
    · exact ⟨_,he,fun v z=>by have z':Data.fields _=Data.cell v:=z;cases z'⟩
    · rw [List.mem_singleton.mp hc];exact hs.obj
  keep:=fun i h h' st k=>by
    obtain ⟨⟨old,he⟩,hs⟩:=st
    exact ⟨⟨old,k e (by simp) _ he⟩,hs.at fun o q=>k it (by simp) o q⟩
  item:=by
    intro X hP hw hK hc i pins s σ H E I hf st hg
    subst hP hw hK
    obtain ⟨xs,x,hq,hx⟩:=hg
    obtain ⟨⟨old,he⟩,hs⟩:=st
    obtain ⟨its,rv,p,hz⟩:=I.sqb hq
    obtain ⟨u,hu,ru⟩:=rv.get hx
    have hne:a≠it:=fun z=>by
      subst z
      have h1:=p;have h2:=hs
      cases b <;> (obtain ⟨o1,e1,c1,_⟩:=h1;obtain ⟨o2,e2,c2,_⟩:=h2;rw [e1] at e2;cases e2;rw [c1] at c2;exact absurd c2 (by simp))
    have hne2:a≠e:=fun z=>by
      subst z
      have h1:=p
      cases b <;> (obtain ⟨o1,e1,c1,_⟩:=h1;rw [he] at e1;cases e1;exact absurd c1 (by simp))
    have hil:i<its.toArray.size:=by
      have:i<its.length:=(List.getElem?_eq_some_iff.mp hu).1
      simpa using this
    have hh:X.A.in1.handled=none:=I.ok.hd hc
    refine wpAny_pyNext_enum_itemD (qjd hh b it a hne its.toArray) he ⟨hs,p⟩ hil hei (by simp [hei,Ne.symm hne2]) fun y h' tk hP' ho hst hT hsz hk=>?_
    have hy:y=u:=by
      have:its.toArray[i]?=some u:=by simpa using hu
      rw [this] at hP';exact (Option.some.inj hP').symm
    subst hy
    refine ⟨.ref s.heap.objs.size,rfl,wpAny_letOwnedTupleGo_enum ho fun h2 he2 hs2=>?_⟩
    have zn:H s.heap.objs.size=none:=I.fresh
    have I1:Inv X pins σ (upd H s.heap.objs.size (.tup [.int i,x])) { s with heap:=s.heap.push { cls:=.type "tuple",data:=.seq #[.int i tk,y] },toks:=tk } :=
      I.laid (fun c o q=>Heap.get?_push_of_some _ q) (Nat.le_refl _) ⟨by show 2≤sizeLine;decide,[.int i tk,y],.cons ⟨tk,rfl⟩ (.cons ru .nil),_,Heap.get?_push_size _ rfl,⟨rfl,rfl⟩,0,rfl⟩
    have lts:∀ c∈[e,it],c<s.heap.objs.size:=fun c hc=>by
      rcases List.mem_cons.mp hc with rfl | hc
      · exact Heap.lt_size he
      · rw [List.mem_singleton.mp hc];exact hs.lt
    have f1:∀ c∈[e,it],qeH X pins (upd H s.heap.objs.size (.tup [.int i,x])) c:=fun c hc=>⟨by rw [qal (Nat.ne_of_lt (lts c hc))];exact (hf c hc).1,(hf c hc).2⟩
    have I2:=I1.turnedL (h':=h2) (ch:=[e,it]) (t':=tk+1) (fun c o hc q=>?_) f1
    · refine ⟨.ref s.heap.objs.size,_,I2,rfl,⟨s.heap.objs.size,x,zn,rfl,rfl,fun ys hy=>by rw [I.sqb_inj hy hq];exact hx⟩,⟨⟨_,by simpa using he2⟩,hst.1.at fun o q=>(hs2.2 it (Ne.symm hei)).trans q⟩,fun c hc=>(f1 c hc).1⟩
    · have hce:c≠e:=fun z=>hc (by simp [z])
      have hci:c≠it:=fun z=>hc (by simp [z])
      refine (hs2.2 c hce).trans ?_
      rcases Heap.get?_push_cases q with ⟨z,z'⟩ | q'
      · subst z;subst z';exact hT
      · exact hk c o hce hci q'
  done:=by
    intro X hP hw hK hc i pins s σ H E I hf st hg
    subst hP hw hK
    obtain ⟨xs,hq,hx⟩:=hg
    obtain ⟨⟨old,he⟩,hs⟩:=st
    obtain ⟨its,rv,p,hz⟩:=I.sqb hq
    have hl:=rv.length
    refine qjc (I.ok.hd hc) he hs p (by simp;omega) fun h' eb=>⟨rfl,?_⟩
    exact I.turnedL (ch:=[e,it]) (t':=s.toks) (fun c o hc q=>eb c o (fun z=>hc (by simp [z])) q) hf
  self:=fun _ _ _ _ _ st h=>by obtain ⟨⟨old,he⟩,_⟩:=st;exact wpAny_pyIter_enum he h
end L2
namespace L2
open PySem PySem.Spec PyProof.Rows
open AutoSeq1 (wpAny_loadPart')
section
variable {X : Cx}
end
structure ZAp (z TI TO i1 i2:Addr):Prop where
  a1:TI≠z
  a2:TO≠z
  a3:i1≠z
  a4:i2≠z
  a5:TI≠TO
  a6:TI≠i1
  a7:TI≠i2
  a8:TO≠i1
  a9:TO≠i2
  a0:i1≠i2
theorem SqI.but {b:Bool} {h h':Heap} {it a c:Addr} {i:Nat} (x:SqI b h it a i) (s:Heap.SameBut c h h') (n:it≠c):SqI b h' it a i:=x.at fun o e=>(s.2 it n).trans e
theorem SqO.but {b:Bool} {h h':Heap} {a c:Addr} {its:Array Value} (x:SqO b h a its) (s:Heap.SameBut c h h') (n:a≠c):SqO b h' a its:=x.at fun o e=>(s.2 a n).trans e
theorem SqO.ne {b:Bool} {h:Heap} {a c:Addr} {its:Array Value} {o:Obj} (x:SqO b h a its) (e:h.get? c=some o) (n1:o.cls≠.type "list") (n2:o.cls≠.type "tuple"):a≠c:=fun z=>by
  subst z
  cases b <;> (obtain ⟨o',e',c',_⟩:=x;rw [e] at e';cases e')
  · exact n2 c'
  · exact n1 c'
theorem SqO.ne_it {b b':Bool} {h:Heap} {a it l:Addr} {its:Array Value} {i:Nat} (x:SqO b h a its) (y:SqI b' h it l i):a≠it:=by
  cases b' <;> (obtain ⟨o,e,c,_⟩:=y;exact x.ne e (by rw [c];simp) (by rw [c];simp))
section
variable {prog : Program} {w : World} {A : Around} {E : Value → Shared → Prop} {s : Shared}
theorem qjy {b1 b2:Bool} {z TI TO i1 i2 l1 l2:Addr} {k1 k2:Nat} {xs ys:Array Value} {x y a b:Value} {Q:Value→Shared→Prop} (D:ZAp z TI TO i1 i2)
    (hz:IsZip s.heap z TI TO .none) (hTI:IsPair s.heap TI (.ref i1) (.ref i2)) (hTO:IsPair s.heap TO a b) (n1:l1≠TO) (n2:l2≠TO)
    (h1:SqI b1 s.heap i1 l1 k1) (h2:SqI b2 s.heap i2 l2 k2) (hl1:SqO b1 s.heap l1 xs) (hl2:SqO b2 s.heap l2 ys) (hx:xs[k1]?=some x) (hy:ys[k2]?=some y)
    (hQ:∀ h',IsZip h' z TI TO (rawInt s.heap.objs.size)→IsPair h' TO x y→SqI b1 h' i1 l1 (k1+1)→SqI b2 h' i2 l2 (k2+1)→IsPair h' s.heap.objs.size x y→h'.objs.size=s.heap.objs.size+1 →
      (∀ c o,c∉[z,TO,i1,i2]→s.heap.get? c=some o→h'.get? c=some o)→Q (.ref s.heap.objs.size) { s with heap:=h' }) :
    wpAny (model prog w) A (Builtin.«zip.__next__» ⟨[.ref z],[]⟩) (fun fin s'=>∃ v,fin=.done (.ret v)∧Q v s') E s:=by
  have l1z:l1≠z:=hl1.ne hz (by simp) (by simp)
  have l2z:l2≠z:=hl2.ne hz (by simp) (by simp)
  have l2i1:l2≠i1:=hl2.ne_it h1
  show wpAny _ _ (field (.ref z) 2 >>= _) _ _ _
  refine wpAny_bind (wpAny_field hz rfl (x:=.bool false) rfl ?_)
  show wpAny _ _ (field (.ref z) 3 >>= _) _ _ _
  refine wpAny_bind (wpAny_field hz rfl (x:=.ref TI) rfl (wpAny_bind (wpAny_seqItems hTI rfl ?_)))
  show wpAny _ _ (Builtin.SmallTypes.ownedTupleIsFree (.ref z) >>= _) _ _ _
  refine wpAny_bind ?_
  unfold Builtin.SmallTypes.ownedTupleIsFree
  refine wpAny_bind (wpAny_field hz rfl (x:=.none) rfl (wpAny_pure ?_))
  simp only [if_true]
  refine wpAny_bind (wpAny_rule (wpAny_bind (wpAny_field hz rfl (x:=.ref TO) rfl (wpAny_bind (wpAny_setField_rec hz (by simp) fun g1 z1 s1=>?_)))))
  replace z1:IsZip g1 z TI TO .ellipsis:=z1
  refine wpAny_bind ?_
  simp only [List.zipIdx_cons,List.zipIdx_nil,List.forIn_cons,List.forIn_nil]
  refine wpAny_bind (wpAny_bind (wpAny_onRaise ?_))
  show wpAny _ _ (Builtin.SmallTypes.nextOf (.ref i1) >>= _) _ _ _
  refine wpAny_bind (qeh (h1.but s1 D.a3) (hl1.but s1 l1z) hx fun g2 p2 s2=>wpAny_pure ?_)
  have t2:IsPair g2 TO a b:=s2.extBut _ _ D.a8 (s1.extBut _ _ D.a2 hTO)
  refine wpAny_bind (wpAny_seqItems t2 rfl (wpAny_bind (wpAny_updateSeq_pair t2 fun g3 t3 s3=>wpAny_bind (wpAny_letGo (wpAny_pure ?_)))))
  replace t3:IsPair g3 TO x b:=t3
  refine wpAny_bind (wpAny_bind (wpAny_onRaise ?_))
  show wpAny _ _ (Builtin.SmallTypes.nextOf (.ref i2) >>= _) _ _ _
  refine wpAny_bind (qeh (((h2.but s1 D.a4).but s2 D.a0.symm).but s3 D.a9.symm) (((hl2.but s1 l2z).but s2 l2i1).but s3 n2) hy fun g4 p4 s4=>wpAny_pure ?_)
  have t4:IsPair g4 TO x b:=s4.extBut _ _ D.a9 t3
  refine wpAny_bind (wpAny_seqItems t4 rfl (wpAny_bind (wpAny_updateSeq_pair t4 fun g5 t5 s5=>wpAny_bind (wpAny_letGo (wpAny_pure (wpAny_pure ?_))))))
  replace t5:IsPair g5 TO x y:=t5
  refine wpAny_bind (wpAny_seqItems t5 rfl (wpAny_bind (wpAny_newTuple ?_)))
  have sz:g5.objs.size=s.heap.objs.size:=by rw [s5.1,s4.1,s3.1,s2.1,s1.1]
  have z5:IsZip g5 z TI TO .ellipsis:=s5.extBut _ _ D.a2.symm (s4.extBut _ _ D.a4.symm (s3.extBut _ _ D.a2.symm (s2.extBut _ _ D.a3.symm z1)))
  have k5:∀ c o,c∉[z,TO,i1,i2]→s.heap.get? c=some o→g5.get? c=some o:=fun c o hc e=>by
    have c1:c≠z:=fun q=>hc (by simp [q])
    have c2:c≠TO:=fun q=>hc (by simp [q])
    have c3:c≠i1:=fun q=>hc (by simp [q])
    have c4:c≠i2:=fun q=>hc (by simp [q])
    exact s5.extBut _ _ c2 (s4.extBut _ _ c4 (s3.extBut _ _ c2 (s2.extBut _ _ c3 (s1.extBut _ _ c1 e))))
  have q1:SqI b1 g5 i1 l1 (k1+1):=((p2.but s3 D.a8.symm).but s4 D.a0).but s5 D.a8.symm
  have q2:SqI b2 g5 i2 l2 (k2+1):=p4.but s5 D.a9.symm
  show wpAny _ _ (Builtin.SmallTypes.ownedTupleHandOut (.ref z) (.ref g5.objs.size) >>= _) _ _ _
  refine wpAny_bind ?_
  unfold Builtin.SmallTypes.ownedTupleHandOut
  have z6:IsZip (g5.push { cls:=.type "tuple",data:=.seq #[x,y] }) z TI TO .ellipsis:=Heap.get?_push_of_some _ z5
  refine wpAny_bind (wpAny_setField_rec z6 (by simp) fun g7 z7 s7=>?_)
  replace z7:IsZip g7 z TI TO (rawInt g5.objs.size):=z7
  refine wpAny_setField_rec z7 (by simp) fun g8 z8 s8=>?_
  replace z8:IsZip g8 z TI TO (rawInt g5.objs.size):=z8
  have up:∀ c o,c≠z→g5.get? c=some o→g8.get? c=some o:=fun c o c1 e=>s8.extBut _ _ c1 (s7.extBut _ _ c1 (Heap.get?_push_of_some _ e))
  have zl:g5.objs.size≠z:=Nat.ne_of_gt (Heap.lt_size z5)
  have t8:IsPair g8 g5.objs.size x y:=s8.extBut _ _ zl (s7.extBut _ _ zl (Heap.get?_push_size _ rfl))
  have e8:g8.objs.size=g5.objs.size+1:=by rw [s8.1,s7.1,Heap.size_push]
  rw [sz] at z8 t8 e8
  refine wpAny_pure ⟨_,rfl,?_⟩
  show Q (.ref g5.objs.size) _
  rw [sz]
  exact hQ g8 z8 (up _ _ D.a2 t5) (q1.at fun o e=>up _ o D.a3 e) (q2.at fun o e=>up _ o D.a4 e) t8 e8 fun c o hc e=>up c o (fun q=>hc (by simp [q])) (k5 c o hc e)
theorem qkn {b1 b2:Bool} {z TI TO i1 i2 l1 l2:Addr} {k1 k2:Nat} {xs ys:Array Value} {a b:Value} {Q:Fin→Shared→Prop} (hh:A.handled=none) (D:ZAp z TI TO i1 i2)
    (hz:IsZip s.heap z TI TO .none) (hTI:IsPair s.heap TI (.ref i1) (.ref i2)) (hTO:IsPair s.heap TO a b) (n1:l1≠TO) (n2:l2≠TO)
    (h1:SqI b1 s.heap i1 l1 k1) (h2:SqI b2 s.heap i2 l2 k2) (hl1:SqO b1 s.heap l1 xs) (hl2:SqO b2 s.heap l2 ys) (hend:xs[k1]?=none∨ys[k2]?=none)
    (hE:∀ h' e,(∀ c o,c∉[z,TO,i1,i2]→s.heap.get? c=some o→h'.get? c=some o)→(∃ o,h'.get? e=some o∧o.cls=.type "StopIteration")→E (.ref e) { s with heap:=h' }) :
    wpAny (model prog w) A (Builtin.«zip.__next__» ⟨[.ref z],[]⟩) Q E s:=by
  have l1z:l1≠z:=hl1.ne hz (by simp) (by simp)
  have l2z:l2≠z:=hl2.ne hz (by simp) (by simp)
  have l2i1:l2≠i1:=hl2.ne_it h1
  show wpAny _ _ (field (.ref z) 2 >>= _) _ _ _
  refine wpAny_bind (wpAny_field hz rfl (x:=.bool false) rfl ?_)
  show wpAny _ _ (field (.ref z) 3 >>= _) _ _ _
  refine wpAny_bind (wpAny_field hz rfl (x:=.ref TI) rfl (wpAny_bind (wpAny_seqItems hTI rfl ?_)))
  show wpAny _ _ (Builtin.SmallTypes.ownedTupleIsFree (.ref z) >>= _) _ _ _
  refine wpAny_bind ?_
  unfold Builtin.SmallTypes.ownedTupleIsFree
  refine wpAny_bind (wpAny_field hz rfl (x:=.none) rfl (wpAny_pure ?_))
  simp only [if_true]
  refine wpAny_bind (wpAny_rule (wpAny_bind (wpAny_field hz rfl (x:=.ref TO) rfl (wpAny_bind (wpAny_setField_rec hz (by simp) fun g1 z1 s1=>?_)))))
  replace z1:IsZip g1 z TI TO .ellipsis:=z1
  refine wpAny_bind ?_
  simp only [List.zipIdx_cons,List.zipIdx_nil,List.forIn_cons,List.forIn_nil]
  refine wpAny_bind (wpAny_bind (wpAny_onRaise ?_))
  show wpAny _ _ (Builtin.SmallTypes.nextOf (.ref i1) >>= _) _ _ _
  cases hx:xs[k1]? with
  | none =>
    refine wpAny_bind (qgh hh (h1.but s1 D.a3) (hl1.but s1 l1z) hx fun g2 e s2 he=>?_)
    obtain ⟨oe,hoe,hce⟩:=he
    have z2:IsZip g2 z TI TO .ellipsis:=s2 _ _ D.a3.symm z1
    have ez:e≠z:=fun q=>by subst q;rw [z2] at hoe;cases hoe;simp at hce
    refine wpAny_setField_rec z2 (by simp) fun g3 _ s3=>hE g3 e (fun c o hc q=>?_) ⟨oe,s3.extBut _ _ ez hoe,hce⟩
    have c1:c≠z:=fun q=>hc (by simp [q])
    exact s3.extBut _ _ c1 (s2 _ _ (fun q=>hc (by simp [q])) (s1.extBut _ _ c1 q))
  | some x =>
    have hy:ys[k2]?=none:=by
      rcases hend with h | h
      · rw [hx] at h;cases h
      · exact h
    refine wpAny_bind (qeh (h1.but s1 D.a3) (hl1.but s1 l1z) hx fun g2 p2 s2=>wpAny_pure ?_)
    have t2:IsPair g2 TO a b:=s2.extBut _ _ D.a8 (s1.extBut _ _ D.a2 hTO)
    refine wpAny_bind (wpAny_seqItems t2 rfl (wpAny_bind (wpAny_updateSeq_pair t2 fun g3 t3 s3=>wpAny_bind (wpAny_letGo (wpAny_pure ?_)))))
    refine wpAny_bind (wpAny_bind (wpAny_onRaise ?_))
    show wpAny _ _ (Builtin.SmallTypes.nextOf (.ref i2) >>= _) _ _ _
    refine wpAny_bind (qgh hh (((h2.but s1 D.a4).but s2 D.a0.symm).but s3 D.a9.symm) (((hl2.but s1 l2z).but s2 l2i1).but s3 n2) hy fun g4 e s4 he=>?_)
    obtain ⟨oe,hoe,hce⟩:=he
    have z4:IsZip g4 z TI TO .ellipsis:=s4 _ _ D.a4.symm (s3.extBut _ _ D.a2.symm (s2.extBut _ _ D.a3.symm z1))
    have ez:e≠z:=fun q=>by subst q;rw [z4] at hoe;cases hoe;simp at hce
    refine wpAny_setField_rec z4 (by simp) fun g5 _ s5=>hE g5 e (fun c o hc q=>?_) ⟨oe,s5.extBut _ _ ez hoe,hce⟩
    have c1:c≠z:=fun q=>hc (by simp [q])
    exact s5.extBut _ _ c1 (s4 _ _ (fun q=>hc (by simp [q])) (s3.extBut _ _ (fun q=>hc (by simp [q])) (s2.extBut _ _ (fun q=>hc (by simp [q])) (s1.extBut _ _ c1 q))))
theorem qlj (b1 b2:Bool) (l1 l2:Addr) (xs ys:Array Value) :
    Meets (Builtin.«zip.__new__» ⟨[.type "zip",.ref l1,.ref l2],[]⟩) (fun _ R s=>SqO b1 s.heap l1 xs∧SqO b2 s.heap l2 ys ∧
      R (.ok (.ret (.ref (s.heap.objs.size+4)))) { s with heap:=((((s.heap.push (qbu b1 l1)).push (qbu b2 l2)).push { cls:=.type "tuple",data:=.seq #[.ref s.heap.objs.size,.ref (s.heap.objs.size+1)] }).push { cls:=.type "tuple",data:=.seq #[.none,.none] }).push { cls:=.type "zip",data:=.fields #[.none,.bool false,.bool false,.ref (s.heap.objs.size+2),.ref (s.heap.objs.size+3)] } }) :=
  .of_wp fun prog w A R s h=>by
    obtain ⟨hp,g,d,tk,os⟩:=s;obtain ⟨hl1,hl2,h⟩:=h
    have hsub:=sub_zip
    have hL1:SqO b1 (Shared.heap ⟨hp,g,d,tk,os⟩) l1 xs:=hl1
    have hL2:SqO b2 (Shared.heap ⟨hp.push (qbu b1 l1),g,d,tk,os⟩) l2 ys:=SqO.at hl2 fun o e=>Heap.get?_push_of_some _ e
    wp_walk using qew hL1,qew hL2
    have e1:(hp.push (qbu b1 l1)).objs.size=hp.objs.size+1:=Heap.size_push ..
    have e2:((hp.push (qbu b1 l1)).push (qbu b2 l2)).objs.size=hp.objs.size+2:=by rw [Heap.size_push,e1]
    refine ⟨_,rfl,?_⟩
    simp only [Heap.size_push]
    exact h
theorem qiM {b1 b2:Bool} {l1 l2:Addr} {xs ys:Array Value} {Q:Value→Shared→Prop} (hl1:SqO b1 s.heap l1 xs) (hl2:SqO b2 s.heap l2 ys)
    (h:∀ h',IsZip h' (s.heap.objs.size+4) (s.heap.objs.size+2) (s.heap.objs.size+3) .none→IsPair h' (s.heap.objs.size+2) (.ref s.heap.objs.size) (.ref (s.heap.objs.size+1))→IsPair h' (s.heap.objs.size+3) .none .none →
      SqI b1 h' s.heap.objs.size l1 0→SqI b2 h' (s.heap.objs.size+1) l2 0→(∀ c o,s.heap.get? c=some o→h'.get? c=some o)→Q (.ref (s.heap.objs.size+4)) { s with heap:=h' }) :
    wpAny (model prog w) A (call (.type "zip") [.ref l1,.ref l2]) Q E s:=by
  refine callType_new F.called_zip (by decide) (F.typeCall_zip_2 _ _) (F.newCall_zip_2 _ _) (fun obj=>F.args_object_init_3 obj _ _) F.entry_zip_new (qlj b1 b2 l1 l2 xs ys) ⟨hl1,hl2,?_⟩
  have f1:(qbu b1 l1).isFreed=false:=by cases b1 <;> rfl
  have f2:(qbu b2 l2).isFreed=false:=by cases b2 <;> rfl
  have z1:(s.heap.push (qbu b1 l1)).objs.size=s.heap.objs.size+1:=Heap.size_push ..
  have z2:((s.heap.push (qbu b1 l1)).push (qbu b2 l2)).objs.size=s.heap.objs.size+2:=by rw [Heap.size_push,z1]
  generalize hg2:(s.heap.push (qbu b1 l1)).push (qbu b2 l2)=g2 at z2 ⊢
  have e0:g2.get? s.heap.objs.size=some (qbu b1 l1):=by rw [← hg2];exact Heap.get?_push_of_some _ (Heap.get?_push_size _ f1)
  have e1:g2.get? (s.heap.objs.size+1)=some (qbu b2 l2):=by rw [← hg2,← z1];exact Heap.get?_push_size _ f2
  have k2:∀ c o,s.heap.get? c=some o→g2.get? c=some o:=fun c o q=>by rw [← hg2];exact Heap.get?_push_of_some _ (Heap.get?_push_of_some _ q)
  generalize hg3:g2.push { cls:=.type "tuple",data:=.seq #[.ref s.heap.objs.size,.ref (s.heap.objs.size+1)] }=g3
  have z3:g3.objs.size=s.heap.objs.size+3:=by rw [← hg3,Heap.size_push,z2]
  have e2:IsPair g3 (s.heap.objs.size+2) (.ref s.heap.objs.size) (.ref (s.heap.objs.size+1)):=by rw [← hg3,← z2];exact Heap.get?_push_size _ rfl
  have k3:∀ c o,g2.get? c=some o→g3.get? c=some o:=fun c o q=>by rw [← hg3];exact Heap.get?_push_of_some _ q
  generalize hg4:g3.push { cls:=.type "tuple",data:=.seq #[.none,.none] }=g4
  have z4:g4.objs.size=s.heap.objs.size+4:=by rw [← hg4,Heap.size_push,z3]
  have e3:IsPair g4 (s.heap.objs.size+3) .none .none:=by rw [← hg4,← z3];exact Heap.get?_push_size _ rfl
  have k4:∀ c o,g3.get? c=some o→g4.get? c=some o:=fun c o q=>by rw [← hg4];exact Heap.get?_push_of_some _ q
  generalize hg5:g4.push { cls:=.type "zip",data:=.fields #[.none,.bool false,.bool false,.ref (s.heap.objs.size+2),.ref (s.heap.objs.size+3)] }=g5
  have e4:IsZip g5 (s.heap.objs.size+4) (s.heap.objs.size+2) (s.heap.objs.size+3) .none:=by rw [← hg5,← z4];exact Heap.get?_push_size _ rfl
  have k5:∀ c o,g4.get? c=some o→g5.get? c=some o:=fun c o q=>by rw [← hg5];exact Heap.get?_push_of_some _ q
  show _∧_
  exact ⟨⟨_,e4,rfl⟩,h _ e4 (k5 _ _ (k4 _ _ e2)) (k5 _ _ e3) (qcC (k5 _ _ (k4 _ _ (k3 _ _ e0)))) (qcC (k5 _ _ (k4 _ _ (k3 _ _ e1)))) fun c o q=>k5 _ _ (k4 _ _ (k3 _ _ (k2 _ _ q)))⟩
theorem qhr {b1 b2:Bool} {z TI TO i1 i2 l1 l2:Addr} {k1 k2:Nat} {xs ys:Array Value} {x y a b:Value} {Q:Option Value→Shared→Prop} (D:ZAp z TI TO i1 i2)
    (hz:IsZip s.heap z TI TO .none) (hTI:IsPair s.heap TI (.ref i1) (.ref i2)) (hTO:IsPair s.heap TO a b) (n1:l1≠TO) (n2:l2≠TO)
    (h1:SqI b1 s.heap i1 l1 k1) (h2:SqI b2 s.heap i2 l2 k2) (hl1:SqO b1 s.heap l1 xs) (hl2:SqO b2 s.heap l2 ys) (hx:xs[k1]?=some x) (hy:ys[k2]?=some y)
    (hQ:∀ h',IsZip h' z TI TO (rawInt s.heap.objs.size)→IsPair h' TO x y→SqI b1 h' i1 l1 (k1+1)→SqI b2 h' i2 l2 (k2+1)→IsPair h' s.heap.objs.size x y→h'.objs.size=s.heap.objs.size+1 →
      (∀ c o,c∉[z,TO,i1,i2]→s.heap.get? c=some o→h'.get? c=some o)→Q (some (.ref s.heap.objs.size)) { s with heap:=h' }):wpAny (model prog w) A (pyNext (.ref z)) Q E s:=by
  have hT:s.TypeIs (.ref z) "zip":=⟨_,hz,rfl⟩
  unfold pyNext
  exact wpAny_bind (wpAny_attempt (wpAny_callSpecial?_slot (name:=Str.ofString "__next__") hT F.slot_zip_next (wpAny_call_entry F.slot_zip_next hT F.entry_zip_next
    (qjy D hz hTI hTO n1 n2 h1 h2 hl1 hl2 hx hy fun h' c1 c2 c3 c4 c5 c6 c7=>wpAny_pure (hQ h' c1 c2 c3 c4 c5 c6 c7)) (F.args_zip_next_1 _))))
theorem qi7 {b1 b2:Bool} {z TI TO i1 i2 l1 l2:Addr} {k1 k2:Nat} {xs ys:Array Value} {a b:Value} {Q:Option Value→Shared→Prop} (hh:A.handled=none) (D:ZAp z TI TO i1 i2)
    (hz:IsZip s.heap z TI TO .none) (hTI:IsPair s.heap TI (.ref i1) (.ref i2)) (hTO:IsPair s.heap TO a b) (n1:l1≠TO) (n2:l2≠TO)
    (h1:SqI b1 s.heap i1 l1 k1) (h2:SqI b2 s.heap i2 l2 k2) (hl1:SqO b1 s.heap l1 xs) (hl2:SqO b2 s.heap l2 ys) (hend:xs[k1]?=none∨ys[k2]?=none)
    (hQ:∀ h',(∀ c o,c∉[z,TO,i1,i2]→s.heap.get? c=some o→h'.get? c=some o)→Q none { s with heap:=h' }):wpAny (model prog w) A (pyNext (.ref z)) Q E s:=by
  have hT:s.TypeIs (.ref z) "zip":=⟨_,hz,rfl⟩
  unfold pyNext
  refine wpAny_bind (wpAny_attempt (wpAny_callSpecial?_slot (name:=Str.ofString "__next__") hT F.slot_zip_next (wpAny_call_entry F.slot_zip_next hT F.entry_zip_next (qkn hh D hz hTI hTO n1 n2 h1 h2 hl1 hl2 hend fun h' e hk he=>?_) (F.args_zip_next_1 _))))
  obtain ⟨o,ho,hc⟩:=he
  exact wpAny_bind (wpAny_isInstance (T:="StopIteration") (b:=true) ⟨o,ho,hc⟩ isSubtype_stop (wpAny_pure (hQ _ hk)))
end
theorem Inv.sqb_ne {X:Cx} {pins:List (Addr × Obj)} {σ:St} {H:Hp} {s:Shared} {b:Bool} {a c:Addr} {xs:List V} (I:Inv X pins σ H s) (h:SqB X.K b H a xs) (f:qeH X pins H c):a≠c:=fun z=>by
  subst z
  have nk:∀ o,X.K.lookup a=some o→False:=fun o e=>by
    have e':=I.mod.kin a o e
    rcases f.2.2.2.1 with q | q
    · exact I.ok.noex a o e' q
    · exact absurd (Nat.lt_of_lt_of_le (Heap.lt_size e') (Nat.le_trans I.ok.bsz q)) (Nat.lt_irrefl _)
  cases b with
  | true =>
    rcases h with (h | ⟨o,h⟩) | ⟨o,_,_,h,_⟩
    · rw [f.1] at h;cases h
    · rw [f.1] at h;cases h
    · exact nk o h
  | false =>
    rcases h with (h | ⟨o,h⟩) | ⟨o,_,_,h,_⟩
    · rw [f.1] at h;cases h
    · rw [f.1] at h;cases h
    · exact nk o h
def Itz (K:PySem.W.Frag) (b1:Bool) (a1:Addr) (b2:Bool) (a2:Addr):It :=
  ⟨fun i H=>∃ xs ys x y,SqB K b1 H a1 xs∧SqB K b2 H a2 ys∧xs[i]?=some x∧ys[i]?=some y,
   fun i H v H'=>∃ t x y,H t=none∧v=.ref t∧H'=upd H t (.tup [x,y])∧(∀ xs,SqB K b1 H a1 xs→xs[i]?=some x)∧∀ ys,SqB K b2 H a2 ys→ys[i]?=some y,
   fun i H=>∃ xs ys,SqB K b1 H a1 xs∧SqB K b2 H a2 ys∧(xs.length≤i∨ys.length≤i)⟩
theorem qjf {P:Program} {w:World} {K:PySem.W.Frag} {es:List Expr} {k:Nat} {pos:Pos} (b1 b2:Bool) (a1 a2 z TI TO i1 i2:Addr) (D:ZAp z TI TO i1 i2) :
    Turn P w K (.Tuple es k pos) (Itz K b1 a1 b2 a2) [z,TI,TO,i1,i2] z (fun i h=>IsZip h z TI TO .none∧IsPair h TI (.ref i1) (.ref i2)∧(∃ a b,IsPair h TO a b)∧SqI b1 h i1 a1 i∧SqI b2 h i2 a2 i) where
  mem:=by simp
  obj:=fun i h st c hc=>by
    obtain ⟨h1,h2,⟨a,b,h3⟩,h4,h5⟩:=st
    simp only [List.mem_cons,List.not_mem_nil,or_false] at hc
    rcases hc with rfl | rfl | rfl | rfl | rfl
    · exact ⟨_,h1,fun v q=>by have q':Data.fields _=Data.cell v:=q;cases q'⟩
    · exact ⟨_,h2,fun v q=>by have q':Data.seq _ _=Data.cell v:=q;cases q'⟩
    · exact ⟨_,h3,fun v q=>by have q':Data.seq _ _=Data.cell v:=q;cases q'⟩
    · exact h4.obj
    · exact h5.obj
  keep:=fun i h h' st k=>by
    obtain ⟨h1,h2,⟨a,b,h3⟩,h4,h5⟩:=st
    exact ⟨k z (by simp) _ h1,k TI (by simp) _ h2,⟨a,b,k TO (by simp) _ h3⟩,h4.at fun o q=>k i1 (by simp) o q,h5.at fun o q=>k i2 (by simp) o q⟩
  item:=by
    intro X hP hw hK hc i pins s σ H E I hf st hg
    subst hP hw hK
    obtain ⟨xs,ys,x,y,hq1,hq2,hx,hy⟩:=hg
    obtain ⟨h1,h2,⟨a,b,h3⟩,h4,h5⟩:=st
    obtain ⟨its1,rv1,p1,_⟩:=I.sqb hq1
    obtain ⟨its2,rv2,p2,_⟩:=I.sqb hq2
    obtain ⟨u,hu,ru⟩:=rv1.get hx
    obtain ⟨v,hv,rv⟩:=rv2.get hy
    refine qhr D h1 h2 h3 (I.sqb_ne hq1 (hf TO (by simp))) (I.sqb_ne hq2 (hf TO (by simp))) h4 h5 p1 p2 (x:=u) (y:=v) (by simpa using hu) (by simpa using hv) fun h' z1 z2 z3 z4 z5 z6 hk=>?_
    refine ⟨.ref s.heap.objs.size,rfl,wpAny_letOwnedTupleGo_zip z1 fun g2 zz hs2=>?_⟩
    have zn:H s.heap.objs.size=none:=I.fresh
    have I1:Inv X pins σ (upd H s.heap.objs.size (.tup [x,y])) { s with heap:=s.heap.push { cls:=.type "tuple",data:=.seq #[u,v] },toks:=s.toks } :=
      I.laid (fun c o q=>Heap.get?_push_of_some _ q) (Nat.le_refl _) ⟨by show 2≤sizeLine;decide,[u,v],.cons ru (.cons rv .nil),_,Heap.get?_push_size _ rfl,⟨rfl,rfl⟩,0,rfl⟩
    have lts:∀ c∈[z,TI,TO,i1,i2],c<s.heap.objs.size:=fun c hc=>by
      simp only [List.mem_cons,List.not_mem_nil,or_false] at hc
      rcases hc with rfl | rfl | rfl | rfl | rfl
      · exact Heap.lt_size h1
      · exact Heap.lt_size h2
      · exact Heap.lt_size h3
      · exact h4.lt
      · exact h5.lt
    have f1:∀ c∈[z,TI,TO,i1,i2],qeH X pins (upd H s.heap.objs.size (.tup [x,y])) c:=fun c hc=>⟨by rw [qal (Nat.ne_of_lt (lts c hc))];exact (hf c hc).1,(hf c hc).2⟩
    have I2:=I1.turnedL (h':=g2) (ch:=[z,TI,TO,i1,i2]) (t':=s.toks) (fun c o hc q=>?_) f1
    · refine ⟨.ref s.heap.objs.size,_,I2,rfl,⟨s.heap.objs.size,x,y,zn,rfl,rfl,fun xs' hy'=>by rw [I.sqb_inj hy' hq1];exact hx,fun ys' hy'=>by rw [I.sqb_inj hy' hq2];exact hy⟩,
        ⟨zz,hs2.extBut _ _ D.a1 (hk TI _ (by simp [D.a1,D.a5,D.a6,D.a7]) h2),⟨_,_,hs2.extBut _ _ D.a2 z2⟩,z3.but hs2 D.a3,z4.but hs2 D.a4⟩,fun c hc=>(f1 c hc).1⟩
    · have hcz:c≠z:=fun e=>hc (by simp [e])
      refine (hs2.2 c hcz).trans ?_
      rcases Heap.get?_push_cases q with ⟨e,e'⟩ | q'
      · subst e;subst e';exact z5
      · exact hk c o (fun e=>hc (by
          simp only [List.mem_cons,List.not_mem_nil,or_false] at e ⊢
          rcases e with e | e | e | e
          · exact .inl e
          · exact .inr (.inr (.inl e))
          · exact .inr (.inr (.inr (.inl e)))
          · exact .inr (.inr (.inr (.inr e))))) q'
  done:=by
    intro X hP hw hK hc i pins s σ H E I hf st hg
    subst hP hw hK
    obtain ⟨xs,ys,hq1,hq2,hend⟩:=hg
    obtain ⟨h1,h2,⟨a,b,h3⟩,h4,h5⟩:=st
    obtain ⟨its1,rv1,p1,_⟩:=I.sqb hq1
    obtain ⟨its2,rv2,p2,_⟩:=I.sqb hq2
    have l1:=rv1.length
    have l2:=rv2.length
    have he:its1.toArray[i]?=none∨its2.toArray[i]?=none:=by
      rcases hend with q | q
      · exact .inl (by simp;omega)
      · exact .inr (by simp;omega)
    refine qi7 (I.ok.hd hc) D h1 h2 h3 (I.sqb_ne hq1 (hf TO (by simp))) (I.sqb_ne hq2 (hf TO (by simp))) h4 h5 p1 p2 he fun h' hk=>⟨rfl,?_⟩
    refine I.turnedL (ch:=[z,TI,TO,i1,i2]) (t':=s.toks) (fun c o hc q=>hk c o (fun e=>hc ?_) q) hf
    simp only [List.mem_cons,List.not_mem_nil,or_false] at e ⊢
    rcases e with e | e | e | e
    · exact .inl e
    · exact .inr (.inr (.inl e))
    · exact .inr (.inr (.inr (.inl e)))
    · exact .inr (.inr (.inr (.inr e)))
  self:=fun _ _ _ _ _ st h=>wpAny_pyIter_zip st.1 h
theorem zap (n:Nat):ZAp (n+4) (n+2) (n+3) n (n+1) :=
  ⟨(by omega:n+2≠n+4),(by omega:n+3≠n+4),(by omega:n≠n+4),(by omega:n+1≠n+4),(by omega:n+2≠n+3),(by omega:n+2≠n),(by omega:n+2≠n+1),(by omega:n+3≠n),(by omega:n+3≠n+1),(by omega:n≠n+1)⟩
section
variable {X : Cx}
end
end L2
namespace L2
open PySem PySem.Spec PyProof.Rows
section
variable {X : Cx}
theorem qkw:OpR X (binaryOp .Mult) (rI IntMulOk fun i j=>.int (i*j)):=opI fun _ _ _ _ _ _ _ hc q=>mul_int q hc
def CDivB (i j:Int):Prop:=0<j∧j.natAbs.log2<9000
theorem qiJ:OpR X (binaryOp .FloorDiv) (rI CDivB fun i j=>.int (i / j)):=opI fun i j _ _ _ _ _ hc q=>by
  have h1:(0:Int)<j:=hc.1
  exact floordiv_int (by omega) (by rw [Int.fdiv_eq_ediv_of_nonneg i (by omega)];exact q) (.inl (PyProof.noPylong_of_log2 hc.2))
end
theorem qgz {n k:Nat} (hk:0<k) (h:n<2 ^ k):n.log2<k:=by
  rcases Nat.eq_zero_or_pos n with z | z
  · subst z;simpa using hk
  · exact (Nat.log2_lt (Nat.ne_of_gt z)).mpr h
theorem CDivB.of {i j:Int} (h0:0<j) (h:j<2 ^ 9000):CDivB i j:=⟨h0,qgz (by decide) (by
  have e:(j.natAbs:Int)=j:=Int.natAbs_of_nonneg (Int.le_of_lt h0)
  have:(j.natAbs:Int)<((2 ^ 9000:Nat):Int):=by rw [e];exact_mod_cast h
  exact_mod_cast this)⟩
theorem qb4 {a b:Int} (h1:-(2 ^ 64)<a) (h2:a<2 ^ 64):IntMulOk a b:=.of_left (intBits_le_64 h1 h2)
theorem qbX {a b:Int} (h1:-(2 ^ 64)<b) (h2:b<2 ^ 64):IntMulOk a b:=.of_right (intBits_le_64 h1 h2)
section
variable {prog : Program} {w : World} {A : Around} {E : Value → Shared → Prop} {s : Shared}
theorem qfe {it t:Addr} {items:Array Value} (hne:t≠it):∀ (n i:Nat) (s:Shared) (Q:List Value→Shared→Prop),s.heap.IsListIter it t i→s.heap.IsList t items→i+n≤items.size →
    (∀ h',h'.IsListIter it t (i+n)→Heap.SameBut it s.heap h'→Q ((items.toList.drop i).take n) { s with heap:=h' })→wpAny (model prog w) A (draw (.ref it) n) Q E s
  | 0,i,s,Q,hit,_,_,hQ=>by
    show wpAny _ _ (pure []) Q E s
    exact wpAny_pure (by simpa using hQ s.heap hit (Heap.SameBut.refl ..))
  | n+1,i,s,Q,hit,ht,hle,hQ=>by
    have hlt:i<items.size:=by omega
    show wpAny _ _ (pyNext (.ref it) >>= _) Q E s
    refine wpAny_bind (wpAny_pyNext_list_item hit ht (x:=items[i]) (by simp [hlt]) fun g1 hit1 s1=>?_)
    refine wpAny_bind (wpAny_holding (qfe hne n (i+1) _ _ hit1 (ht.extBut s1.extBut hne) (by omega) fun g2 hit2 s2=>wpAny_pure ?_))
    have hd:items.toList.drop i=items[i]::items.toList.drop (i+1):=by simp [List.drop_eq_getElem_cons,hlt]
    have:=hQ g2 (by rw [show i+(n+1)=i+1+n by omega];exact hit2) (s1.trans s2)
    rw [hd,List.take_succ_cons] at this
    exact this
theorem qda {t:Addr} {items:Array Value} {Q:List Value→Shared→Prop} (hh:A.handled=none) (ht:s.heap.IsList t items)
    (hQ:∀ h',Heap.ExtBut s.heap.objs.size s.heap h'→Q items.toList { s with heap:=h' }):wpAny (model prog w) A (unpackItems (.ref t) items.size none) Q E s:=by
  have hlt:t≠s.heap.objs.size:=by obtain ⟨o,ho,_⟩:=ht;exact Nat.ne_of_lt (Heap.lt_size ho)
  unfold unpackItems
  refine wpAny_bind ?_
  unfold notIterableAtAll
  refine wpAny_bind (wpAny_specialOf ht.typeIs slot_list_iter.lookup (wpAny_pure ?_))
  simp only [Bool.false_eq_true,if_false]
  refine wpAny_bind (wpAny_holding (wpAny_pyIter_list ht (wpAny_bind (wpAny_holding (qfe hlt items.size 0 _ _ ⟨_,Heap.get?_push_size _ rfl,rfl,rfl⟩ (ht.push _) (by omega) fun g1 hit1 s1=>?_)))))
  have hall:List.take items.size (List.drop 0 items.toList)=items.toList:=by
    rw [List.drop_zero];exact List.take_of_length_le (by simp)
  rw [hall,if_neg (by simp)]
  have ht1:g1.IsList t items:=(ht.push _).extBut s1.extBut hlt
  refine wpAny_bind (wpAny_holding (wpAny_pyNext_list_end hh hit1 ht1 (by simp) fun g2 e2=>?_))
  simp only [Option.isSome_none,Bool.false_eq_true,if_false]
  exact wpAny_pure (hQ g2 fun b o hb e=>e2 b o hb (s1.extBut b o hb (Heap.get?_push_of_some _ e)))
end
section
variable {X : Cx} {pos : Pos}
def qoo (K:PySem.W.Frag) (n:Nat) (t:TGs):TG:=fun v σ H Q=>∃ a xs,v=.ref a∧SqL K H a xs∧xs.length=n∧t xs σ H Q
theorem qmI {es:List Expr} {k:Nat} {t:TGs} {n:Nat} (hc:X.calm=true) (h:PGs X es t)
    (hn:(assignEach es X.env).length=n:=by rfl) (hst:(assignEach es X.env).findIdx? (·.1)=none:=by rfl):PG X (.Tuple es k pos) (qoo X.K n t):=by
  intro pins s σ H v u Q I r hw
  obtain ⟨a,xs,e1,hq,hl,hw⟩:=hw
  subst e1
  cases r
  obtain ⟨its,rv,ht,hz⟩:=I.list hq
  rw [assign_Tuple]
  refine wpAny_bind (wpAny_standAt ?_)
  unfold unpack
  have e0:(assignEach es X.env).length=its.toArray.size:=by simp [hn,← hl,rv.length]
  rw [e0,hst]
  refine wpAny_bind (wpAny_holding (qda (I.ok.hd hc) ht.isList fun h' hx=>?_))
  have I1:Inv X pins σ H { s with heap:=h' }:=I.kept (t':=s.toks) fun b o e=>hx b o (Nat.ne_of_lt (Heap.lt_size e)) e
  exact h pins _ σ H xs _ Q I1 (by simpa using rv) hw
end
inductive IsiV (K:PySem.W.Frag) (H:Hp):V→String→Bool→Prop where
  | int_int (i):IsiV K H (.int i) "int" true
  | int_bool (i):IsiV K H (.int i) "bool" false
  | int_tuple (i):IsiV K H (.int i) "tuple" false
  | int_str (i):IsiV K H (.int i) "str" false
  | bl_int (b):IsiV K H (.bl b) "int" true
  | bl_bool (b):IsiV K H (.bl b) "bool" true
  | bl_tuple (b):IsiV K H (.bl b) "tuple" false
  | str_str (x):IsiV K H (.str x) "str" true
  | str_tuple (x):IsiV K H (.str x) "tuple" false
  | tup_tuple {a xs}:SqT K H a xs→IsiV K H (.ref a) "tuple" true
  | tup_int {a xs}:SqT K H a xs→IsiV K H (.ref a) "int" false
  | lst_tuple {a xs}:SqL K H a xs→IsiV K H (.ref a) "tuple" false
  | lst_list {a xs}:SqL K H a xs→IsiV K H (.ref a) "list" true
def qo1 (K:PySem.W.Frag):List V→Hp→VK→Prop:=fun vs H Q=>∃ x T b,vs=[x,.ty T]∧IsiV K H x T b∧Q (.bl b) H
theorem qpy {x y:V} {us:List Value} (r:Vals [x,y] us):∃ u v,us=[u,v]∧RelV x u∧RelV y v:=by
  cases r with
  | cons r rr =>
    cases rr with
    | cons r' rr=>cases rr;exact ⟨_,_,rfl,r,r'⟩
theorem qje {X:Cx}:qci X (.builtin "isinstance") (qo1 X.K):=by
  intro pins s σ H xs us Q I r h
  obtain ⟨x,T,b,rfl,hi,q⟩:=h
  obtain ⟨u,v,rfl,ru,rv⟩:=qpy r
  have rv:v=.type T:=rv
  subst rv
  have fin:∀ (c:Bool) (t:Nat),Q (.bl c) H→EP X pins σ Q (.bool c) { s with toks:=t }:=fun c t q=>⟨.bl c,H,I.tok t,rfl,q⟩
  cases hi with
  | int_int i=>obtain ⟨t,rfl⟩:=ru;exact IsiPair.int_int (fin _ s.toks q)
  | int_bool i=>obtain ⟨t,rfl⟩:=ru;exact IsiPair.int_bool (fin _ _ q)
  | int_tuple i=>obtain ⟨t,rfl⟩:=ru;exact IsiPair.int_tuple (fin _ _ q)
  | int_str i=>obtain ⟨t,rfl⟩:=ru;exact IsiPair.int_str (fin _ _ q)
  | bl_int b=>cases ru;exact IsiPair.bool_int (fin _ s.toks q)
  | bl_bool b=>cases ru;exact IsiPair.bool_bool (fin _ s.toks q)
  | bl_tuple b=>cases ru;exact IsiPair.bool_tuple (fin _ _ q)
  | str_str x=>obtain ⟨t,rfl⟩:=ru;exact IsiPair.str_str (fin _ s.toks q)
  | str_tuple x=>obtain ⟨t,rfl⟩:=ru;exact IsiPair.str_tuple (fin _ _ q)
  | tup_tuple h =>
    cases ru
    obtain ⟨its,_,p,_⟩:=I.tuple h
    exact call_isinstance (isinstance_true (Tx:="tuple") F.isi_meta_tuple F.sub_tuple_tuple) ⟨p.typeIs,fin _ s.toks q⟩
  | tup_int h =>
    cases ru
    obtain ⟨its,_,⟨o,e,c,_⟩,_⟩:=I.tuple h
    exact call_isinstance (isinstance_false_tuple (by decide +kernel) F.isi_meta_int F.sub_tuple_int) ⟨⟨o,e,c⟩,fin _ _ q⟩
  | lst_tuple h =>
    cases ru
    obtain ⟨its,_,p,_⟩:=I.list h
    obtain ⟨o,e,c,_⟩:=p.isList
    exact call_isinstance (isinstance_false_list (by decide +kernel) F.isi_meta_tuple F.sub_list_tuple) ⟨⟨o,e,c⟩,fin _ _ q⟩
  | lst_list h =>
    cases ru
    obtain ⟨its,_,p,_⟩:=I.list h
    exact call_isinstance (isinstance_true (Tx:="list") F.isi_meta_list F.sub_list_list) ⟨p.isList.typeIs,fin _ s.toks q⟩
theorem qfV {prog:Program} {w:World} {A:Around} (hh:A.handled=none) (b:Bool) (it a:Addr) (hne:a≠it) (its:Array Value):Walks prog w A it [it,a] [it] its.size (fun i v=>its[i]?=some v) (fun i h=>SqI b h it a i∧SqO b h a its) where
  sub:=fun c hc=>by rw [List.mem_singleton.mp hc];simp
  frame:=fun _ _ _ st k=>⟨st.1.at fun o e=>k it (by simp) o e,st.2.at fun o e=>k a (by simp) o e⟩
  item:=fun i s Q E hi st hQ=>by
    cases b with
    | true=>exact wpAny_pyNext_list_item st.1 st.2 (x:=its[i]) (by simp [hi]) fun h' q sb=>hQ _ h' s.toks (by simp [hi]) ⟨q,SqO.at (b:=true) st.2 fun o e=>(sb.2 a hne).trans e⟩ fun c o hc e=>(sb.2 c fun z=>hc (by simp [z])).trans e
    | false=>exact wpAny_pyNext_tuple_item st.1 st.2 (x:=its[i]) (by simp [hi]) fun h' q sb=>hQ _ h' s.toks (by simp [hi]) ⟨q,SqO.at (b:=false) st.2 fun o e=>(sb.2 a hne).trans e⟩ fun c o hc e=>(sb.2 c fun z=>hc (by simp [z])).trans e
  done:=fun s Q E st hQ=>by
    cases b with
    | true=>exact wpAny_pyNext_list_end hh st.1 st.2 (by simp) fun h' eb=>hQ h' s.toks fun c o hc e=>eb c o (fun z=>hc (by simp [z])) e
    | false=>exact wpAny_pyNext_tuple_end hh st.1 st.2 (by simp) fun h' eb=>hQ h' s.toks fun c o hc e=>eb c o (fun z=>hc (by simp [z])) e
  self:=fun i s Q E st hQ=>by
    cases b with
    | true=>exact wpAny_pyIter_listiter st.1 hQ
    | false=>exact wpAny_pyIter_tupleiter st.1 hQ
theorem qoI {x:V} {us:List Value} (r:Vals [x] us):∃ u,us=[u]∧RelV x u:=by
  cases r with
  | cons r rr=>cases rr;exact ⟨_,rfl,r⟩
def qoS (K:PySem.W.Frag) (b:Bool) (f:List Bool→Bool):List V→Hp→VK→Prop:=fun vs H Q=>∃ (a:Addr) (bs:List Bool),vs=[.ref a]∧SqB K b H a (bs.map V.bl)∧Q (.bl (f bs)) H
theorem qdB {prog:Program} {w:World} {A:Around} {its:Array Value} {bs:List Bool} (rv:Vals (bs.map V.bl) its.toList):TruthOf prog w A (fun i v=>its[i]?=some v) (fun i=>bs.getD i false):=by
  intro i v s Q E e q
  have e':its.toList[i]?=some v:=by simpa using e
  have hi:i<bs.length:=by
    have:=(List.getElem?_eq_some_iff.mp e').1
    have:=rv.length
    rw [List.length_map] at this
    omega
  obtain ⟨v',h1,h2⟩:=rv.get (i:=i) (x:=V.bl (bs.getD i false)) (by simp [hi])
  rw [e'] at h1;cases h1
  have h2:v=.bool (bs.getD i false):=h2
  subst h2
  exact wpAny_truthy_bool q
theorem qhk (bs:List Bool):(List.range bs.length).all (fun i=>bs.getD i false)=bs.all id:=by
  rw [Bool.eq_iff_iff]
  simp only [List.all_eq_true,List.mem_range,id]
  constructor
  · intro h x hx
    obtain ⟨i,hi,rfl⟩:=List.mem_iff_getElem.mp hx
    have:=h i hi
    simpa [hi] using this
  · intro h i hi
    have:=h bs[i] (List.getElem_mem hi)
    simpa [hi] using this
theorem qir (bs:List Bool):(List.range bs.length).any (fun i=>bs.getD i false)=bs.any id:=by
  rw [Bool.eq_iff_iff]
  simp only [List.any_eq_true,List.mem_range,id]
  constructor
  · rintro ⟨i,hi,h⟩
    exact ⟨bs[i],List.getElem_mem hi,by simpa [hi] using h⟩
  · rintro ⟨x,hx,h⟩
    obtain ⟨i,hi,rfl⟩:=List.mem_iff_getElem.mp hx
    exact ⟨i,hi,by simpa [hi] using h⟩
theorem qi1 (b:Bool) {X:Cx} (hc:X.calm=true):qci X (.builtin "all") (qoS X.K b fun bs=>bs.all id):=by
  intro pins s σ H xs us Q I r h
  obtain ⟨a,bs,rfl,hq,q⟩:=h
  obtain ⟨u,rfl,ru⟩:=qoI r
  cases ru
  obtain ⟨its,rv,p,hz⟩:=I.sqb hq
  have hne:a≠s.heap.objs.size:=Nat.ne_of_lt p.lt
  have ln:its.toArray.size=bs.length:=by have:=rv.length;rw [List.length_map] at this;simp [this]
  have W:=qfV (prog:=X.prog) (w:=X.w) (A:=X.A.in1) (I.ok.hd hc) b s.heap.objs.size a hne its.toArray
  refine call_all_walk (qew p ⟨s.heap.objs.size,[s.heap.objs.size,a],[s.heap.objs.size],its.toArray.size,_,_,fun i=>bs.getD i false,rfl,W,⟨qcC (Heap.get?_push_size _ (by cases b <;> rfl)),p.at fun o e=>Heap.get?_push_of_some _ e⟩,qdB (by simpa using rv),fun h' tk hk=>?_⟩)
  rw [ln,qhk]
  refine ⟨.bl (bs.all id),H,I.kept (h':=h') (t':=tk) fun c o e=>hk c o (fun z=>?_) (Heap.get?_push_of_some _ e),rfl,q⟩
  rw [List.mem_singleton.mp z] at e
  exact absurd (Heap.lt_size e) (Nat.lt_irrefl _)
theorem qiE (b:Bool) {X:Cx} (hc:X.calm=true):qci X (.builtin "any") (qoS X.K b fun bs=>bs.any id):=by
  intro pins s σ H xs us Q I r h
  obtain ⟨a,bs,rfl,hq,q⟩:=h
  obtain ⟨u,rfl,ru⟩:=qoI r
  cases ru
  obtain ⟨its,rv,p,hz⟩:=I.sqb hq
  have hne:a≠s.heap.objs.size:=Nat.ne_of_lt p.lt
  have ln:its.toArray.size=bs.length:=by have:=rv.length;rw [List.length_map] at this;simp [this]
  have W:=qfV (prog:=X.prog) (w:=X.w) (A:=X.A.in1) (I.ok.hd hc) b s.heap.objs.size a hne its.toArray
  refine call_any_walk (qew p ⟨s.heap.objs.size,[s.heap.objs.size,a],[s.heap.objs.size],its.toArray.size,_,_,fun i=>bs.getD i false,rfl,W,⟨qcC (Heap.get?_push_size _ (by cases b <;> rfl)),p.at fun o e=>Heap.get?_push_of_some _ e⟩,qdB (by simpa using rv),fun h' tk hk=>?_⟩)
  rw [ln,qir]
  refine ⟨.bl (bs.any id),H,I.kept (h':=h') (t':=tk) fun c o e=>hk c o (fun z=>?_) (Heap.get?_push_of_some _ e),rfl,q⟩
  rw [List.mem_singleton.mp z] at e
  exact absurd (Heap.lt_size e) (Nat.lt_irrefl _)
def qaI (N:List Str) (sc scope:Scope) (N':List Str) (cap:List (Option Nat)):Bool :=
  decide (scope.kind=.function) && scope.names.all (fun x=>decide (x.2=.cell→scope.names.lookup x.1=some .cell)) && scope.names.all (fun x=>decide (x.2=.local→scope.names.lookup x.1=some .local)) &&
    scope.names.all (fun x=>decide (x.2=.free→sc.names.lookup x.1=some .cell∧scope.names.lookup x.1=some .free)) && decide N'.Nodup && decide (cap.length=N'.length) &&
    (cap.zip N').all fun p=>match p.1 with | none=>true | some i=>decide (N[i]?=some p.2∧(p.2,NameKind.free)∈scope.names)
theorem CompScope.ok {N:List Str} {sc scope:Scope} {N':List Str} {cap:List (Option Nat)} (h:qaI N sc scope N' cap=true):CompScope N sc scope N' cap:=by
  unfold qaI at h
  simp only [Bool.and_eq_true,decide_eq_true_eq,List.all_eq_true] at h
  obtain ⟨⟨⟨⟨⟨⟨h1,h2⟩,h3⟩,h4⟩,h5⟩,h6⟩,h7⟩:=h
  refine ⟨h1,h2,h3,fun x hx hf=>(h4 x hx hf).1,fun x hx hf=>(h4 x hx hf).2,h5,h6,fun p hp i hi=>?_⟩
  have:=h7 p hp
  rw [hi] at this
  simpa using this
section
variable {K : PySem.W.Frag} {B : V → St → Hp → (St → Hp → Prop) → Prop} {End : St → Hp → Prop} {σ : St} {H : Hp}
end
theorem qaG {H:Hp} {p:Addr} (h:H p=none) (o:HO):Same H (upd H p o):=fun b u q=>by rw [qal (qas q h)];exact q
theorem qfX {H H':Hp} {p:Addr} (s:Same H H') (h:H p=none) (o:HO):Same H (upd H' p o):=fun b u q=>by rw [qal (qas q h)];exact s b u q
theorem Same.sqt {K:PySem.W.Frag} {H H':Hp} {a:Addr} {xs:List V} (e:Same H H') (h:SqT K H a xs):SqT K H' a xs:=SqB.same (b:=false) e h
theorem qdd {n:Nat} (h:n≤1000):n≤sizeLine:=Nat.le_of_lt (qan h)
theorem dP {p:Prop} [Decidable p] (h:decide p=true):p:=of_decide_eq_true h
theorem qcs {α:Type} {xs:List α} {i:Nat} {x:α} (h:xs[i]?=some x):xs.take (i+1)=xs.take i++[x]:=by
  obtain ⟨hi,e⟩:=List.getElem?_eq_some_iff.mp h
  rw [List.take_succ_eq_append_getElem hi,e]
theorem qao {α:Type} {xs:List α} {i:Nat} {x:α} (h:xs[i]?=some x):i<xs.length:=(List.getElem?_eq_some_iff.mp h).1
theorem qmK {α:Type} {xs:List α} {i:Nat} {x:α} {k:Int} (h:xs[i]?=some x) (e:k=(i:Int)):atI xs k=some x:=by
  subst e
  exact qld h
def qca {α:Type} (xs:List α) (lo hi:Option Int):List α:=(xs.drop (HT.sIx xs.length 0 lo)).take (HT.sIx xs.length xs.length hi - HT.sIx xs.length 0 lo)
theorem qjj {α:Type} {xs:List α} {lo hi:Option Int} {x:α} (h:x∈qca xs lo hi):x∈xs:=List.mem_of_mem_drop (List.mem_of_mem_take h)
theorem qkc {α:Type} (xs:List α) (lo hi:Option Int):(qca xs lo hi).length≤xs.length:=by
  unfold qca
  rw [List.length_take,List.length_drop]
  omega
inductive EqT (K:PySem.W.Frag) (H:Hp):Nat→V→V→Prop where
  | int {d:Nat} (i:Int):EqT K H d (.int i) (.int i)
  | bl {d:Nat} (b:Bool):EqT K H d (.bl b) (.bl b)
  | str {d:Nat} (x:Str):EqT K H d (.str x) (.str x)
  | non {d:Nat}:EqT K H d .non .non
  | sq {d:Nat} (q:Bool) {a b:Addr} {xs ys:List V}:SqB K q H a xs→SqB K q H b ys→xs.length=ys.length→(∀ (i:Nat) (x y:V),xs[i]?=some x→ys[i]?=some y→EqT K H d x y)→EqT K H (d+1) (.ref a) (.ref b)
theorem Vals.get' {xs:List V} {us:List Value} (r:Vals xs us) {j:Nat} (h:j<us.length):∃ x,xs[j]?=some x∧RelV x us[j]:=by
  have hl:=Vals.length r
  have hj:j<xs.length:=by omega
  obtain ⟨u,hu,ru⟩:=Vals.get (i:=j) (x:=xs[j]) r (by simp [hj])
  refine ⟨xs[j],by simp [hj],?_⟩
  rw [List.getElem?_eq_getElem h] at hu
  cases hu
  exact ru
section
variable {prog : Program} {w : World} {A : Around} {E : Value → Shared → Prop} {s : Shared}
theorem qlh {t b:Addr} {vs ws:List Value} {Q:Value→Shared→Prop} (ht:IsTup s.heap t vs.toArray) (hb:IsTup s.heap b ws.toArray) (hv:vs=[]) (h:Q (.ref b) s):wpAny (model prog w) A (binaryOp .Add (.ref t) (.ref b)) Q E s:=by
  obtain ⟨⟨cls,dd,data,sl⟩,ho,hc,n,hd⟩:=id ht
  obtain ⟨⟨cls2,dd2,data2,sl2⟩,ho2,hc2,n2,hd2⟩:=id hb
  simp only at hc hd hc2 hd2
  subst hc hd hc2 hd2
  exact concat_meets ⟨_,ho,rfl⟩ ⟨_,ho2,rfl⟩ noFill_tuple_add seq_tuple_add PySem.F.slot_tuple_add PySem.F.entry_tuple_add (PySem.F.args_tuple_add_2 _ _) (tuple_addW0 t b vs.toArray ws.toArray n n2 dd dd2 sl sl2 (by simp [hv])) ⟨ho,ho2,h⟩
end
section
variable {J : It} {B : V → St → Hp → (St → Hp → Prop) → Prop} {End : St → Hp → Prop} {σ : St} {H : Hp} {D : Addr} {n : Nat} {El : Nat → V → Hp → Prop}
end
section
variable {K : PySem.W.Frag} {B : V → St → Hp → (St → Hp → Prop) → Prop} {End : St → Hp → Prop} {σ : St} {H : Hp} {D a : Addr}
end
section
variable {α : Type} {R R' : V → α → Prop} {vs ws : List V} {rs ss : List α}
end
abbrev Row:=List Int × Int
theorem qiN {α:Type} (xs:List α) (n:Nat):qca xs (some (n:Int)) none=xs.drop n:=by
  unfold qca
  have e1:HT.sIx xs.length xs.length none=xs.length:=rfl
  have e2:HT.sIx xs.length 0 (some (n:Int))=min n xs.length:=HT.sIx_nat _ _ _
  rw [e1,e2]
  rcases Nat.le_total n xs.length with h | h
  · rw [Nat.min_eq_left h,List.take_of_length_le (by rw [List.length_drop];omega)]
  · rw [Nat.min_eq_right h,List.drop_length,List.drop_of_length_le h]
    simp
theorem qkh (xs:List V) (lo hi:Option Int):qjQ xs lo hi=qca xs lo hi:=rfl
section
variable {α : Type} {R : V → α → Prop} {vs : List V} {rs : List α}
end
theorem qkg {n j:Nat} (h:j<n):ixN n (j:Int)=some j:=by
  unfold ixN
  rw [if_pos (by omega),if_pos (by omega),Int.toNat_natCast]
theorem qaC {a0 a1 a2 a3} {rest:List Expr} {env:Env}:starEach (.BinOp a0 a1 a2 a3::rest) env=(false,eval (.BinOp a0 a1 a2 a3) env)::starEach rest env:=rfl
theorem qcU {a0 a1 a2} {rest:List Expr} {env:Env}:starEach (.UnaryOp a0 a1 a2::rest) env=(false,eval (.UnaryOp a0 a1 a2) env)::starEach rest env:=rfl
theorem qag {a0 a1 a2 a3} {rest:List Expr} {env:Env}:starEach (.ListComp a0 a1 a2 a3::rest) env=(false,eval (.ListComp a0 a1 a2 a3) env)::starEach rest env:=rfl
theorem qak {a0 a1 a2 a3} {rest:List Expr} {env:Env}:starEach (.Call a0 a1 a2 a3::rest) env=(false,eval (.Call a0 a1 a2 a3) env)::starEach rest env:=rfl
theorem qae {a0 a1 a2} {rest:List Expr} {env:Env}:starEach (.Constant a0 a1 a2::rest) env=(false,eval (.Constant a0 a1 a2) env)::starEach rest env:=rfl
theorem qcZ {a0 a1 a2} {rest:List Expr} {env:Env}:starEach (.Attribute a0 a1 a2::rest) env=(false,eval (.Attribute a0 a1 a2) env)::starEach rest env:=rfl
theorem qah {a0 a1 a2} {rest:List Expr} {env:Env}:starEach (.Subscript a0 a1 a2::rest) env=(false,eval (.Subscript a0 a1 a2) env)::starEach rest env:=rfl
theorem qaa {a0 a1} {rest:List Expr} {env:Env}:starEach (.Name a0 a1::rest) env=(false,eval (.Name a0 a1) env)::starEach rest env:=rfl
theorem qit {a0 a1} {rest:List Expr} {env:Env}:starEach (.List a0 a1::rest) env=(false,eval (.List a0 a1) env)::starEach rest env:=rfl
theorem qa9 {a0 a1 a2} {rest:List Expr} {env:Env}:starEach (.Tuple a0 a1 a2::rest) env=(false,eval (.Tuple a0 a1 a2) env)::starEach rest env:=rfl
theorem qaf {pos:Pos} {env:Env}:(backTo pos (starEach [] env)).any (·.1)=false:=rfl
theorem qai {pos:Pos} {e:Expr} {es:List Expr} {env:Env} (h:starEach (e::es) env=(false,eval e env)::starEach es env) (hr:(backTo pos (starEach es env)).any (·.1)=false):(backTo pos (starEach (e::es) env)).any (·.1)=false:=by
  rw [h]
  exact hr
theorem qdC {pos : Pos} {e : Expr} {env : Env} (h : starEach [e] env = (false, eval e env) :: starEach [] env) : ((backTo pos (starEach [e] env)).all (fun x => !x.1) && (backToKw pos (keywordEach [] env)).all (fun x => x.1.isSome)
      && decide ([e].length+([]:List Keyword).length+(if ([]:List Keyword).isEmpty then 0 else 1)<30))=true:=by
  rw [h]
  rfl
section
variable {X : Cx} {K : PySem.W.Frag}
theorem qh3 (h:X.K=K):qci X (.builtin "isinstance") (qo1 K):=h ▸ qje
end
end L2
namespace L2
open PySem PySem.Spec PyProof.Rows
section
variable {X : Cx} {K : PySem.W.Frag}
theorem qkL:OpR X (compareOp .IsNot) (fun x y H Q=>∃ a b:Bool,x=.bl a∧y=.bl b∧Q (.bl (!(a == b))) H):=by
  intro pins s σ H x y v u Q I rx ry h
  obtain ⟨a,b,rfl,rfl,q⟩:=h
  cases rx
  cases ry
  exact wpAny_isNot_plain rfl (qjY I q (by cases a <;> cases b <;> rfl))
end
end L2
namespace PySem
open Sem (wp)
open Builtin
open AutoSeq1 (wpAny_loadPart')
theorem qcV:fillsNumberSlot (.type "tuple") "mul"=pure false :=
  fillsNumberSlot_seq (id:="tuple.__mul__") (r:=some (.builtin "tuple.__rmul__")) F.slot_tuple_mul.lookup (by decide +kernel) F.slot_tuple_rmul.lookup (by decide +kernel)
theorem qeB:seqRepeat? (.type "tuple")=pure (some (.builtin "tuple.__mul__")):=by
  unfold seqRepeat?
  rw [seqSlot_of (T:="tuple") (name:="__mul__") (id:="tuple.__mul__") F.slot_tuple_mul.lookup (by decide +kernel),seqSlot_of (T:="tuple") (name:="__rmul__") (id:="tuple.__rmul__") F.slot_tuple_rmul.lookup (by decide +kernel)]
  rfl
theorem qdE (a:Int) (t:Tok) (l:Addr) (items:Array Value) (n:Nat) (dd:Option Addr) (sl:Array (Option Value)) :
    Meets (Builtin.«int.__rmul__» ⟨[.int a t,.ref l],[]⟩) (fun _ R s=>s.heap.get? l=some { cls:=.type "tuple",dict:=dd,data:=.seq items n,slots:=sl }∧R (.ok (.ret Value.notImplemented)) s) :=
  .of_wp fun prog w A R s h=>by obtain ⟨hp,g,d,tk,os⟩:=s;obtain ⟨hl,h⟩:=h;wp_walk;exact ⟨_,rfl,h⟩
theorem qft (l:Addr) (items:Array Value) (n:Nat) (dd:Option Addr) (sl:Array (Option Value)) (u:Tok) :
    Meets (Builtin.«tuple.__mul__» ⟨[.ref l,.int 1 u],[]⟩) (fun _ R s=>s.heap.get? l=some { cls:=.type "tuple",dict:=dd,data:=.seq items n,slots:=sl }∧R (.ok (.ret (Value.ref l))) s) :=
  .of_wp fun prog w A R s h=>by obtain ⟨hp,g,d,tk,os⟩:=s;obtain ⟨hl,h⟩:=h;have f1:=AutoSeq1.idx_int;have f2:=AutoSeq1.sub_tuple_tuple;wp_walk using wpAny_loadPart' hl;exact ⟨_,rfl,h⟩
theorem qfL (l:Addr) (items:Array Value) (n:Nat) (dd:Option Addr) (sl:Array (Option Value)) (k:Int) (u:Tok) (hc0:¬ (decide (k < -(2 ^ 63)) || decide (k≥2 ^ 63))=true) (hc1:¬ (items.isEmpty || k == 1)=true) (hc2:(decide (k≤0) || items.isEmpty)=true) :
    Meets (Builtin.«tuple.__mul__» ⟨[.ref l,.int k u],[]⟩) (fun _ R s=>s.heap.get? l=some { cls:=.type "tuple",dict:=dd,data:=.seq items n,slots:=sl }∧R (.ok (.ret (Value.ref s.heap.objs.size))) { s with heap:=s.heap.push { cls:=Value.type "tuple",data:=Data.seq #[] },toks:=s.toks }) :=
  .of_wp fun prog w A R s h=>by obtain ⟨hp,g,d,tk,os⟩:=s;obtain ⟨hl,h⟩:=h;have f1:=AutoSeq1.idx_int;have f2:=AutoSeq1.sub_tuple_tuple;wp_walk using wpAny_loadPart' hl;refine wpAny_ite_false (decide_eq_false hc0) ?_;wp_walk using wpAny_loadPart' hl;exact ⟨_,rfl,h⟩
theorem qfl (l:Addr) (items:Array Value) (n:Nat) (dd:Option Addr) (sl:Array (Option Value)) (k:Int) (u:Tok) (hc0:¬ (decide (k < -(2 ^ 63)) || decide (k≥2 ^ 63))=true) (hc1:¬ (items.isEmpty || k == 1)=true) (hc2:¬ (decide (k≤0) || items.isEmpty)=true) (hc3:¬ (items.size*k>(2 ^ 63 - 1) / 8)) (hc4:¬ Builtin.Tuple.tupleTooMany (items.size*k)=true) (hsz:(List.foldl (fun x1 x2=>x1++x2) #[] (List.replicate k.toNat items)).size≤sizeLine) :
    Meets (Builtin.«tuple.__mul__» ⟨[.ref l,.int k u],[]⟩) (fun _ R s=>s.heap.get? l=some { cls:=.type "tuple",dict:=dd,data:=.seq items n,slots:=sl }∧R (.ok (.ret (Value.ref s.heap.objs.size))) { s with heap:=s.heap.push { cls:=Value.type "tuple",data:=Data.seq (List.foldl (fun x1 x2=>x1++x2) #[] (List.replicate k.toNat items)) },toks:=s.toks }) :=
  .of_wp fun prog w A R s h=>by obtain ⟨hp,g,d,tk,os⟩:=s;obtain ⟨hl,h⟩:=h;have f1:=AutoSeq1.idx_int;have f2:=AutoSeq1.sub_tuple_tuple;wp_walk using wpAny_loadPart' hl;refine wpAny_ite_false (decide_eq_false hc0) ?_;wp_walk using wpAny_loadPart' hl;refine wpAny_ite_false (decide_eq_false hc3) ?_;wp_walk using wpAny_loadPart' hl;exact ⟨_,rfl,h⟩
end PySem
namespace L2
open PySem PySem.Spec PyProof.Rows
inductive D where
  | int (i:Int) | bl (b:Bool) | str (x:Str) | non | tup (xs:List D) | lst (xs:List D) | fzl (xs:List D) | obj (nm:Str) (fs:List (Str × D)) | map (kvs:List (Key × D)) | exc (nm:Str) (ats:List D)
def qg5 (a C:Addr) (dx:Option Addr):Heap→Prop:=fun h=>∃ o vs,h.get? a=some o∧o.cls=.ref C∧o.dict=dx∧o.data=.fields vs
inductive Rp (K:PySem.W.Frag) (H:Hp):D→V→Prop where
  | int (i:Int):Rp K H (.int i) (.int i)
  | bl (b:Bool):Rp K H (.bl b) (.bl b)
  | str (x:Str):Rp K H (.str x) (.str x)
  | non:Rp K H .non .non
  | tup {a:Addr} {vs:List V} {ds:List D}:H a=some (.tup vs)→vs.length=ds.length→(∀ (i:Nat) (v:V) (d:D),vs[i]?=some v→ds[i]?=some d→Rp K H d v)→Rp K H (.tup ds) (.ref a)
  | lst {a:Addr} {vs:List V} {ds:List D}:H a=some (.lst vs)→vs.length=ds.length→(∀ (i:Nat) (v:V) (d:D),vs[i]?=some v→ds[i]?=some d→Rp K H d v)→Rp K H (.lst ds) (.ref a)
  | fzl {a:Addr} {vs:List V} {ds:List D}:SqL K H a vs→vs.length=ds.length→(∀ (i:Nat) (v:V) (d:D),vs[i]?=some v→ds[i]?=some d→Rp K H d v)→Rp K H (.fzl ds) (.ref a)
  | obj {a C dx:Addr} {nm:Str} {vs:List (Str × V)} {fs:List (Str × D)}:PySem.W.nsIn K mainGlobals nm=some (some (.ref C))→H a=some (.ins C dx vs)→vs.map (·.1)=fs.map (·.1)→(∀ (i:Nat) (v:Str × V) (d:Str × D),vs[i]?=some v→fs[i]?=some d→Rp K H d.2 v.2)→Rp K H (.obj nm fs) (.ref a)
  | map {a:Addr} {ws:List (Key × V)} {kvs:List (Key × D)}:H a=some (.dK ws)→ws.map (·.1)=kvs.map (·.1)→(∀ (i:Nat) (w:Key × V) (d:Key × D),ws[i]?=some w→kvs[i]?=some d→Rp K H d.2 w.2)→Rp K H (.map kvs) (.ref a)
  | exc0 {a C:Addr} {nm:Str}:PySem.W.nsIn K mainGlobals nm=some (some (.ref C))→H a=some (.ext (qg5 a C none))→Rp K H (.exc nm []) (.ref a)
  | exc1 {a C p:Addr} {nm:Str} {v:V} {d:D}:PySem.W.nsIn K mainGlobals nm=some (some (.ref C))→H a=some (.ext (qg5 a C (some p)))→H p=some (.xd [("at",v)])→Rp K H d v→Rp K H (.exc nm [d]) (.ref a)
def RpL (K:PySem.W.Frag) (H:Hp) (ds:List D) (vs:List V):Prop:=vs.length=ds.length∧∀ (i:Nat) (v:V) (d:D),vs[i]?=some v→ds[i]?=some d→Rp K H d v
section
variable {K : PySem.W.Frag} {H H' Φ Φ' Φ1 H1 Φ2 H2 : Hp} {d : D} {v : V} {ds es : List D} {vs ws : List V}
theorem Rp.same (s:Same H H') (h:Rp K H d v):Rp K H' d v:=by
  induction h with
  | int i=>exact .int i
  | bl b=>exact .bl b
  | str x=>exact .str x
  | non=>exact .non
  | tup h1 h2 _ ih=>exact .tup (s _ _ h1) h2 ih
  | lst h1 h2 _ ih=>exact .lst (s _ _ h1) h2 ih
  | fzl h1 h2 _ ih=>exact .fzl (s.seq h1) h2 ih
  | obj h0 h1 h2 _ ih=>exact .obj h0 (s _ _ h1) h2 ih
  | map h1 h2 _ ih=>exact .map (s _ _ h1) h2 ih
  | exc0 h0 h1=>exact .exc0 h0 (s _ _ h1)
  | exc1 h0 h1 h2 _ ih=>exact .exc1 h0 (s _ _ h1) (s _ _ h2) ih
theorem RpL.same (s:Same H H') (h:RpL K H ds vs):RpL K H' ds vs:=⟨h.1,fun i v d hv hd=>(h.2 i v d hv hd).same s⟩
theorem RpL.nil:RpL K H [] []:=⟨rfl,fun i v d hv _=>by simp at hv⟩
theorem RpL.cons (r:Rp K H d v) (h:RpL K H ds vs):RpL K H (d::ds) (v::vs):=⟨by simp [h.1],fun i u e hu he=>by
  cases i with
  | zero=>cases hu;cases he;exact r
  | succ i=>exact h.2 i u e hu he⟩
theorem RpL.append (h:RpL K H ds vs) (h':RpL K H es ws):RpL K H (ds++es) (vs++ws):=by
  refine ⟨by rw [List.length_append,List.length_append,h.1,h'.1],fun i u e hu he=>?_⟩
  rcases Nat.lt_or_ge i vs.length with c | c
  · rw [List.getElem?_append_left c] at hu
    rw [List.getElem?_append_left (by rw [← h.1];exact c)] at he
    exact h.2 i u e hu he
  · rw [List.getElem?_append_right c] at hu
    rw [List.getElem?_append_right (by rw [← h.1];exact c),← h.1] at he
    exact h'.2 _ u e hu he
theorem RpL.one (r:Rp K H d v):RpL K H [d] [v]:=.cons r .nil
theorem RpL.take (h:RpL K H ds vs) (k:Nat):RpL K H (ds.take k) (vs.take k):=⟨by rw [List.length_take,List.length_take,h.1],fun i u e hu he=>by
  rcases Nat.lt_or_ge i k with c | c
  · rw [List.getElem?_take_of_lt c] at hu he
    exact h.2 i u e hu he
  · rw [List.getElem?_take_eq_none c] at hu
    cases hu⟩
theorem RpL.drop (h:RpL K H ds vs) (k:Nat):RpL K H (ds.drop k) (vs.drop k):=⟨by rw [List.length_drop,List.length_drop,h.1],fun i u e hu he=>by
  rw [List.getElem?_drop] at hu he
  exact h.2 _ u e hu he⟩
theorem RpL.set (h:RpL K H ds vs) (r:Rp K H d v) (k:Nat):RpL K H (ds.set k d) (vs.set k v):=⟨by rw [List.length_set,List.length_set,h.1],fun i u e hu he=>by
  by_cases c:k=i
  · subst c
    have hk:k<vs.length:=by have:=qao hu;rwa [List.length_set] at this
    rw [List.getElem?_set_self hk] at hu
    rw [List.getElem?_set_self (by rw [← h.1];exact hk)] at he
    cases hu;cases he
    exact r
  · rw [List.getElem?_set_ne c] at hu he
    exact h.2 i u e hu he⟩
theorem RpL.rep (h:RpL K H ds vs):∀ k:Nat,RpL K H (List.replicate k ds).flatten (List.replicate k vs).flatten
  | 0=>.nil
  | k+1=>by
    rw [List.replicate_succ,List.replicate_succ,List.flatten_cons,List.flatten_cons]
    exact h.append (RpL.rep h k)
theorem RpL.at (h:RpL K H ds vs) {i:Nat} (e:ds[i]?=some d):∃ v,vs[i]?=some v∧Rp K H d v:=by
  have hi:i<vs.length:=by rw [h.1];exact qao e
  exact ⟨vs[i],by simp [hi],h.2 i _ d (by simp [hi]) e⟩
theorem RpL.cut (h:RpL K H ds vs) (lo hi:Option Int):RpL K H (qca ds lo hi) (qjQ vs lo hi):=by
  rw [qkh]
  unfold qca
  rw [h.1]
  exact (h.drop _).take _
theorem RpL.tup {a:Addr} (h:RpL K H ds vs) (s:H a=some (.tup vs)):Rp K H (.tup ds) (.ref a):=.tup s h.1 h.2
theorem RpL.lst {a:Addr} (h:RpL K H ds vs) (s:H a=some (.lst vs)):Rp K H (.lst ds) (.ref a):=.lst s h.1 h.2
theorem RpL.fzl {a:Addr} (h:RpL K H ds vs) (s:SqL K H a vs):Rp K H (.fzl ds) (.ref a):=.fzl s h.1 h.2
theorem RpL.ints (ns:List Int):RpL K H (ns.map D.int) (ns.map V.int):=⟨by simp,fun i v d hv hd=>by
  rw [List.getElem?_map] at hv hd
  cases e:ns[i]? with
  | none=>rw [e] at hv;cases hv
  | some k=>rw [e] at hv hd;cases hv;cases hd;exact .int k⟩
def OwK:HO→Prop | .lst _=>True | .dK _=>True | .dT _=>True | .ins _ _ _=>True | _=>False
structure Gr (Φ H Φ' H':Hp):Prop where
  f:Same Φ Φ'
  h:Same H H'
  s:Same Φ' H'
  o:∀ p (u:HO),H p=some u→Φ p=none→(k:OwK u:=by trivial)→Φ' p=none
theorem Gr.refl (s:Same Φ H):Gr Φ H Φ H:=⟨Same.refl _,Same.refl _,s,fun _ _ _ h _=>h⟩
theorem Gr.trans (a:Gr Φ H Φ1 H1) (b:Gr Φ1 H1 Φ2 H2):Gr Φ H Φ2 H2:=⟨a.f.trans b.f,a.h.trans b.h,b.s,fun p u hp hn k=>b.o p u (a.h p _ hp) (a.o p u hp hn k) k⟩
theorem Gr.join (a:Gr Φ H Φ1 H1) (b:Gr Φ1 H Φ2 H2):Gr Φ H Φ2 H2:=⟨a.f.trans b.f,b.h,b.s,fun p u hp hn k=>b.o p u hp (a.o p u hp hn k) k⟩
theorem qia (s:Same Φ H) {p:Addr} (o:HO):Same (upd Φ p o) (upd H p o):=fun b u e=>by
  by_cases c:b=p
  · subst c;rw [qaj] at e ⊢;exact e
  · rw [qal c] at e ⊢;exact s b u e
theorem Gr.new (s:Same Φ H) {p:Addr} (hp:H p=none) (o:HO):Gr Φ H (upd Φ p o) (upd H p o) :=
  ⟨qaG (s.free hp) o,qaG hp o,qia s o,fun q u hq hn _=>by rw [qal (qas hq hp)];exact hn⟩
theorem Gr.fresh (s:Same Φ H) {p:Addr} (hp:H p=none) (o:HO):Gr Φ H Φ (upd H p o) :=
  ⟨Same.refl _,qaG hp o,fun b u e=>qaG hp o b u (s b u e),fun _ _ _ h _=>h⟩
theorem Gr.freeze (g:Gr Φ H Φ' H') {p:Addr} {o:HO} (h0:H p=none) (hn:Φ' p=none) (hp:H' p=some o):Gr Φ H (upd Φ' p o) H' :=
  ⟨g.f.trans (qaG hn o),g.h,fun b u e=>by
    by_cases c:b=p
    · subst c;rw [qaj] at e;cases e;exact hp
    · rw [qal c] at e;exact g.s b u e,fun q u hq hqn k=>by rw [qal (qas hq h0)];exact g.o q u hq hqn k⟩
theorem Gr.adoptT {p:Addr} {xs:List V} (s:Same Φ H) (h:Same H H') (ho:H' p=some (.tup xs)):∃ Φ',Gr Φ H Φ' H'∧Φ' p=some (.tup xs):=by
  have e1:∀ u,Φ p=some u→u=.tup xs:=fun u e=>by have:=h _ _ (s _ _ e);rw [ho] at this;cases this;rfl
  refine ⟨upd Φ p (.tup xs),⟨fun b u e=>?_,h,fun b u e=>?_,fun b u e n k=>?_⟩,qaj⟩
  · by_cases c:b=p
    · subst c;rw [qaj,e1 u e]
    · rw [qal c];exact e
  · by_cases c:b=p
    · subst c;rw [qaj] at e;cases e;exact ho
    · rw [qal c] at e;exact h _ _ (s _ _ e)
  · by_cases c:b=p
    · subst c
      have:=h _ _ e
      rw [ho] at this
      cases this
      exact k.elim
    · rw [qal c];exact n
def RpQ (K:PySem.W.Frag) (Φ H:Hp) (d:D) (v:V):Prop:=Rp K Φ d v∨∃ a vs ds,d=.lst ds∧v=.ref a∧H a=some (.lst vs)∧RpL K Φ ds vs
theorem RpQ.gr (g:Gr Φ H Φ' H') (h:RpQ K Φ H d v):RpQ K Φ' H' d v:=by
  rcases h with h | ⟨a,vs,ds,e,e2,h1,h2⟩
  · exact .inl (h.same g.f)
  · exact .inr ⟨a,vs,ds,e,e2,g.h _ _ h1,h2.same g.f⟩
theorem RpQ.lst (s:Same Φ H) (h:RpQ K Φ H (.lst ds) v):∃ a vs,v=.ref a∧H a=some (.lst vs)∧RpL K Φ ds vs:=by
  rcases h with h | ⟨a,vs,ds,e,e2,h1,h2⟩
  · cases h with | lst h1 h2 h3=>exact ⟨_,_,rfl,s _ _ h1,h2,h3⟩
  · cases e;exact ⟨a,vs,e2,h1,h2⟩
theorem RpQ.fzl (s:Same Φ H) (h:RpQ K Φ H (.fzl ds) v):∃ a vs,v=.ref a∧SqL K H a vs∧RpL K Φ ds vs:=by
  rcases h with h | ⟨a,vs,ds,e,e2,h1,h2⟩
  · cases h with | fzl h1 h2 h3=>exact ⟨_,_,rfl,s.seq h1,h2,h3⟩
  · cases e
theorem RpQ.tup (s:Same Φ H) (h:RpQ K Φ H (.tup ds) v):∃ a vs,v=.ref a∧SqT K H a vs∧Φ a=some (.tup vs)∧RpL K Φ ds vs:=by
  rcases h with h | ⟨a,vs,ds,e,e2,h1,h2⟩
  · cases h with | tup h1 h2 h3=>exact ⟨_,_,rfl,.of (s _ _ h1),h1,h2,h3⟩
  · cases e
theorem RpQ.int {i:Int} (h:RpQ K Φ H (.int i) v):v=.int i:=by
  rcases h with h | ⟨a,vs,ds,e,_⟩
  · cases h;rfl
  · cases e
theorem RpQ.bl {i:Bool} (h:RpQ K Φ H (.bl i) v):v=.bl i:=by
  rcases h with h | ⟨a,vs,ds,e,_⟩
  · cases h;rfl
  · cases e
theorem RpQ.str {i:Str} (h:RpQ K Φ H (.str i) v):v=.str i:=by
  rcases h with h | ⟨a,vs,ds,e,_⟩
  · cases h;rfl
  · cases e
theorem RpQ.non (h:RpQ K Φ H .non v):v=.non:=by
  rcases h with h | ⟨a,vs,ds,e,_⟩
  · cases h;rfl
  · cases e
def qf4:D→Option (List D)
  | .lst ds=>some ds
  | .tup ds=>some ds
  | .fzl ds=>some ds
  | _=>none
theorem RpQ.seq (s:Same Φ H) (h:RpQ K Φ H d v) (e:qf4 d=some ds):∃ a vs,v=.ref a∧(SqL K H a vs∨SqT K H a vs)∧RpL K Φ ds vs:=by
  cases d with
  | lst ds=>cases e;obtain ⟨a,vs,e,h1,h2⟩:=h.lst s;exact ⟨a,vs,e,.inl (.of h1),h2⟩
  | tup ds=>cases e;obtain ⟨a,vs,e,h1,_,h2⟩:=h.tup s;exact ⟨a,vs,e,.inr h1,h2⟩
  | fzl ds=>cases e;obtain ⟨a,vs,e,h1,h2⟩:=h.fzl s;exact ⟨a,vs,e,.inl h1,h2⟩
  | _=>cases e
theorem Rp.seq (h:Rp K Φ d v) (e:qf4 d=some ds):∃ (b:Bool) (a:Addr) (vs:List V),v=.ref a∧SqB K b Φ a vs∧RpL K Φ ds vs:=by
  cases d with
  | lst ds=>cases e;cases h with | lst h1 h2 h3=>exact ⟨true,_,_,rfl,SqL.of h1,h2,h3⟩
  | tup ds=>cases e;cases h with | tup h1 h2 h3=>exact ⟨false,_,_,rfl,SqT.of h1,h2,h3⟩
  | fzl ds=>cases e;cases h with | fzl h1 h2 h3=>exact ⟨true,_,_,rfl,h1,h2,h3⟩
  | _=>cases e
end
inductive Ow where | lst (xs:List D) | dct (ks:List Key) | dcT (ks:List (List Key))
inductive Sl where | v (d:D) | ob (o:Ow)
abbrev Sl.own (xs:List D):Sl:=.ob (.lst xs)
abbrev Sl.dct (ks:List Key):Sl:=.ob (.dct ks)
abbrev Sl.dcT (ks:List (List Key)):Sl:=.ob (.dcT ks)
def OwR (K:PySem.W.Frag) (Φ:Hp):Ow→HO→Prop
  | .lst ds,.lst vs=>RpL K Φ ds vs
  | .dct ks,.dK kvs=>kvs.map (·.1)=ks
  | .dcT ks,.dT kvs=>kvs.map (·.1)=ks
  | _,_=>False
theorem OwR.k {K:PySem.W.Frag} {Φ:Hp} {o:Ow} {u:HO} (r:OwR K Φ o u):OwK u:=by
  cases o with
  | lst ds =>
    cases u with
    | lst vs=>exact True.intro
    | _=>exact r.elim
  | dct ks =>
    cases u with
    | dK kvs=>exact True.intro
    | _=>exact r.elim
  | dcT ks =>
    cases u with
    | dT kvs=>exact True.intro
    | _=>exact r.elim
theorem OwR.same {K:PySem.W.Frag} {Φ Φ':Hp} {o:Ow} {u:HO} (r:OwR K Φ o u) (s:Same Φ Φ'):OwR K Φ' o u:=by
  cases o with
  | lst ds =>
    cases u with
    | lst vs=>exact (show RpL K Φ ds vs from r).same s
    | _=>exact r.elim
  | dct ks =>
    cases u with
    | dK kvs=>exact r
    | _=>exact r.elim
  | dcT ks =>
    cases u with
    | dT kvs=>exact r
    | _=>exact r.elim
abbrev Rho:=List (Option Sl)
def qnf:FuncBody→Option Pos
  | .stmts b=>(match b.getLast? with
    | some (.Return (some (.Call _ _ kws _)) _)=>kws.findSome? fun k=>(match k.value with | .Lambda _ _ _ pos=>some pos | _=>none)
    | _=>none)
  | _=>none
def qnQ (K:PySem.W.Frag) (x:Str):Option (Addr × Array Value):=match PySem.W.nsIn K mainGlobals x with
  | some (some (.ref f))=>(match K.lookup f with
    | some ⟨_,_,.func fd,_⟩=>(match fd.code with
      | .ref c=>(match K.lookup c with
        | some ⟨_,_,.fields vs,_⟩=>(match (vs[11]?:Option Value),qnf fd.body with
          | some (.ref P),some pos=>some (P,#[rawInt pos.line,rawInt pos.col,.str (fd.qualname++".<locals>."++"<lambda>") 0])
          | _,_=>none)
        | _=>none)
      | _=>none)
    | _=>none)
  | _=>none
def qjL (K:PySem.W.Frag):List (Addr × Array Value):=(["least_grown","greatest_first"]:List Str).filterMap (qnQ K)
def TabF (K:PySem.W.Frag) (Φ:Hp):Prop:=∀ t∈qjL K,Φ t.1=some (.tbl t.2)
theorem TabF.same {K:PySem.W.Frag} {Φ Φ':Hp} (h:TabF K Φ) (s:Same Φ Φ'):TabF K Φ':=fun t ht=>s _ _ (h t ht)
structure EnvD (K:PySem.W.Frag) (H0 Φ H:Hp) (σ:St) (ρ:Rho):Prop where
  fz:Same Φ H
  len:σ.length=ρ.length
  sl:∀ (i:Nat) (d:D),ρ[i]?=some (some (.v d))→∃ v,σ[i]?=some (some v)∧Rp K Φ d v
  ow:∀ (i:Nat) (o:Ow),ρ[i]?=some (some (.ob o))→∃ p u,σ[i]?=some (some (.ref p))∧H0 p=none∧Φ p=none∧H p=some u∧OwR K Φ o u
  ne:∀ (i j:Nat) (o w:Ow) (p:Addr),ρ[i]?=some (some (.ob o))→ρ[j]?=some (some (.ob w))→σ[i]?=some (some (.ref p))→σ[j]?=some (some (.ref p))→i=j
  tb:TabF K Φ
section
variable {K : PySem.W.Frag} {H0 H H' Φ Φ' Φ1 H1 Φ2 H2 : Hp} {σ : St} {ρ : Rho} {d : D} {v : V} {ds es : List D} {vs ws : List V}
theorem EnvD.owl (E:EnvD K H0 Φ H σ ρ) (i:Nat) (ds:List D) (h:ρ[i]?=some (some (.own ds))):∃ p vs,σ[i]?=some (some (.ref p))∧H0 p=none∧Φ p=none∧H p=some (.lst vs)∧RpL K Φ ds vs:=by
  obtain ⟨p,u,e,h0,hn,hp,r⟩:=E.ow i _ h
  cases u with
  | lst vs=>exact ⟨p,vs,e,h0,hn,hp,r⟩
  | _=>exact (show False from r).elim
theorem EnvD.owd (E:EnvD K H0 Φ H σ ρ) (i:Nat) (ks:List Key) (h:ρ[i]?=some (some (.dct ks))):∃ p kvs,σ[i]?=some (some (.ref p))∧H0 p=none∧Φ p=none∧H p=some (.dK kvs)∧kvs.map (·.1)=ks:=by
  obtain ⟨p,u,e,h0,hn,hp,r⟩:=E.ow i _ h
  cases u with
  | dK kvs=>exact ⟨p,kvs,e,h0,hn,hp,r⟩
  | _=>exact (show False from r).elim
theorem EnvD.gr (E:EnvD K H0 Φ H σ ρ) (g:Gr Φ H Φ' H'):EnvD K H0 Φ' H' σ ρ :=
  ⟨g.s,E.len,fun i d h=>let ⟨v,e,r⟩:=E.sl i d h;⟨v,e,r.same g.f⟩,
    fun i ds h=>let ⟨p,vs,e,h0,hn,hp,r⟩:=E.ow i ds h;⟨p,vs,e,h0,g.o p _ hp hn r.k,g.h _ _ hp,r.same g.f⟩,E.ne,E.tb.same g.f⟩
theorem qbk {α:Type} {l:List α} {i j:Nat} {x y:α} (h:(l.set i x)[j]?=some y):(j=i∧i<l.length∧y=x)∨(j≠i∧l[j]?=some y):=by
  by_cases c:i=j
  · subst c
    have hi:i<l.length:=by have:=qao h;rwa [List.length_set] at this
    rw [List.getElem?_set_self hi] at h
    cases h
    exact .inl ⟨rfl,hi,rfl⟩
  · rw [List.getElem?_set_ne c] at h
    exact .inr ⟨fun e=>c e.symm,h⟩
theorem EnvD.set (E:EnvD K H0 Φ H σ ρ) (r:Rp K Φ d v) (i:Nat):EnvD K H0 Φ H (σ.set i (some v)) (ρ.set i (some (.v d))):=by
  have nn:∀ {j:Nat} {x:Option V},j≠i→σ[j]?=some x→(σ.set i (some v))[j]?=some x:=fun c h=>by rw [List.getElem?_set_ne (Ne.symm c)];exact h
  refine ⟨E.fz,by rw [List.length_set,List.length_set,E.len],fun j e h=>?_,fun j ds h=>?_,fun j k ds es p hj hk sj sk=>?_,E.tb⟩
  · rcases qbk h with ⟨rfl,hi,e1⟩ | ⟨c,h⟩
    · cases e1
      exact ⟨v,by rw [List.getElem?_set_self (by rw [E.len];exact hi)],r⟩
    · obtain ⟨u,hu,ru⟩:=E.sl j e h
      exact ⟨u,nn c hu,ru⟩
  · rcases qbk h with ⟨rfl,hi,e1⟩ | ⟨c,h⟩
    · cases e1
    · obtain ⟨p,vs,e,q⟩:=E.ow j ds h
      exact ⟨p,vs,nn c e,q⟩
  · rcases qbk hj with ⟨rfl,_,e1⟩ | ⟨cj,hj⟩
    · cases e1
    rcases qbk hk with ⟨rfl,_,e1⟩ | ⟨ck,hk⟩
    · cases e1
    rw [List.getElem?_set_ne (Ne.symm cj)] at sj
    rw [List.getElem?_set_ne (Ne.symm ck)] at sk
    exact E.ne j k ds es p hj hk sj sk
theorem EnvD.setOb (E:EnvD K H0 Φ H σ ρ) {p:Addr} {o:Ow} {u:HO} (r:OwR K Φ o u) (h0:H0 p=none) (hn:Φ p=none) (hp:H p=some u) (hnew:∀ (j:Nat) (w:Ow),ρ[j]?=some (some (.ob w))→σ[j]?≠some (some (.ref p))) (i:Nat):EnvD K H0 Φ H (σ.set i (some (.ref p))) (ρ.set i (some (.ob o))):=by
  have nn:∀ {j:Nat} {x:Option V},j≠i→σ[j]?=some x→(σ.set i (some (.ref p)))[j]?=some x:=fun c h=>by rw [List.getElem?_set_ne (Ne.symm c)];exact h
  refine ⟨E.fz,by rw [List.length_set,List.length_set,E.len],fun j e h=>?_,fun j ds h=>?_,fun j k ds es q hj hk sj sk=>?_,E.tb⟩
  · rcases qbk h with ⟨rfl,hi,e1⟩ | ⟨c,h⟩
    · cases e1
    · obtain ⟨u,hu,ru⟩:=E.sl j e h
      exact ⟨u,nn c hu,ru⟩
  · rcases qbk h with ⟨rfl,hi,e1⟩ | ⟨c,h⟩
    · cases e1
      exact ⟨p,u,by rw [List.getElem?_set_self (by rw [E.len];exact hi)],h0,hn,hp,r⟩
    · obtain ⟨p,vs,e,q⟩:=E.ow j ds h
      exact ⟨p,vs,nn c e,q⟩
  · rcases qbk hj with ⟨e1,hl,_⟩ | ⟨cj,hj'⟩
    · rcases qbk hk with ⟨e2,_,_⟩ | ⟨ck,hk'⟩
      · rw [e1,e2]
      · rw [e1,List.getElem?_set_self (by rw [E.len];exact hl)] at sj
        cases sj
        rw [List.getElem?_set_ne (Ne.symm ck)] at sk
        exact absurd sk (hnew k _ hk')
    · rw [List.getElem?_set_ne (Ne.symm cj)] at sj
      rcases qbk hk with ⟨e2,hl,_⟩ | ⟨ck,hk'⟩
      · rw [e2,List.getElem?_set_self (by rw [E.len];exact hl)] at sk
        cases sk
        exact absurd sj (hnew j _ hj')
      · rw [List.getElem?_set_ne (Ne.symm ck)] at sk
        exact E.ne j k _ _ q hj' hk' sj sk
theorem EnvD.putOb (E:EnvD K H0 Φ H σ ρ) {i:Nat} {p:Addr} {o o':Ow} {u:HO} (ho:ρ[i]?=some (some (.ob o))) (hs:σ[i]?=some (some (.ref p))) (r:OwR K Φ o' u):EnvD K H0 Φ (upd H p u) σ (ρ.set i (some (.ob o'))):=by
  obtain ⟨p',vs,e,h0,hn,hp,_⟩:=E.ow i _ ho
  rw [hs] at e
  cases e
  have hi:=qao ho
  refine ⟨fun b u e=>?_,by rw [List.length_set,E.len],fun j e h=>?_,fun j fs h=>?_,fun j k fs gs q hj hk sj sk=>?_,E.tb⟩
  · rw [qal (qas e hn)]
    exact E.fz b u e
  · rcases qbk h with ⟨rfl,_,e1⟩ | ⟨c,h⟩
    · cases e1
    · exact E.sl j e h
  · rcases qbk h with ⟨rfl,_,e1⟩ | ⟨c,h⟩
    · cases e1
      exact ⟨p,u,hs,h0,hn,qaj,r⟩
    · obtain ⟨q,us,e,q0,qn,qp,qr⟩:=E.ow j fs h
      refine ⟨q,us,e,q0,qn,?_,qr⟩
      rw [qal fun z=>c (E.ne j i fs o p h ho (by rw [e,z]) hs)]
      exact qp
  · have old:∀ {j:Nat} {fs:Ow},(ρ.set i (some (.ob o')))[j]?=some (some (.ob fs))→∃ gs,ρ[j]?=some (some (.ob gs)):=fun {j fs} h=>by
      rcases qbk h with ⟨rfl,_,_⟩ | ⟨_,h⟩
      · exact ⟨o,ho⟩
      · exact ⟨fs,h⟩
    obtain ⟨fs',hj⟩:=old hj
    obtain ⟨gs',hk⟩:=old hk
    exact E.ne j k fs' gs' q hj hk sj sk
theorem EnvD.setOwn (E:EnvD K H0 Φ H σ ρ) {p:Addr} (r:RpL K Φ ds vs) (h0:H0 p=none) (hn:Φ p=none) (hp:H p=some (.lst vs)) (hnew:∀ (j:Nat) (w:Ow),ρ[j]?=some (some (.ob w))→σ[j]?≠some (some (.ref p))) (i:Nat):EnvD K H0 Φ H (σ.set i (some (.ref p))) (ρ.set i (some (.own ds))):=E.setOb (o:=.lst ds) (u:=.lst vs) r h0 hn hp hnew i
theorem EnvD.put (E:EnvD K H0 Φ H σ ρ) {i:Nat} {p:Addr} (ho:ρ[i]?=some (some (.own ds))) (hs:σ[i]?=some (some (.ref p))) (r:RpL K Φ es ws):EnvD K H0 Φ (upd H p (.lst ws)) σ (ρ.set i (some (.own es))):=E.putOb (o':=.lst es) (u:=.lst ws) ho hs r
def frz (i:Nat) (ρ:Rho):Rho:=match ρ[i]? with | some (some (.ob (.lst ds)))=>ρ.set i (some (.v (.lst ds))) | _=>ρ
theorem EnvD.frz (E:EnvD K H0 Φ H σ ρ) (g:Gr Φ0 H0 Φ H) (i:Nat):∃ Φ',Gr Φ0 H0 Φ' H∧EnvD K H0 Φ' H σ (frz i ρ):=by
  unfold L2.frz
  split
  · next ds ho =>
    obtain ⟨p,vs,e,h0,hn,hp,r⟩:=E.owl i ds ho
    have s1:=qaG hn (.lst vs)
    refine ⟨upd Φ p (.lst vs),g.freeze h0 hn hp,fun b u e=>?_,by rw [List.length_set,E.len],fun j e2 h=>?_,fun j fs h=>?_,fun j k fs gs q hj hk sj sk=>?_,E.tb.same s1⟩
    · by_cases c:b=p
      · subst c;rw [qaj] at e;cases e;exact hp
      · rw [qal c] at e;exact E.fz b u e
    · rcases qbk h with ⟨rfl,_,e1⟩ | ⟨c,h⟩
      · cases e1
        exact ⟨_,e,(r.same s1).lst qaj⟩
      · obtain ⟨u,hu,ru⟩:=E.sl j e2 h
        exact ⟨u,hu,ru.same s1⟩
    · rcases qbk h with ⟨rfl,_,e1⟩ | ⟨c,h⟩
      · cases e1
      · obtain ⟨q,us,e3,q0,qn,qp,qr⟩:=E.ow j fs h
        refine ⟨q,us,e3,q0,?_,qp,qr.same s1⟩
        rw [qal fun z=>c (E.ne j i fs _ p h ho (by rw [e3,z]) e)]
        exact qn
    · rcases qbk hj with ⟨_,_,e1⟩ | ⟨_,hj⟩
      · cases e1
      rcases qbk hk with ⟨_,_,e1⟩ | ⟨_,hk⟩
      · cases e1
      exact E.ne j k fs gs q hj hk sj sk
  · exact ⟨Φ,g,E⟩
theorem EnvD.weak {ρ':Rho} (E:EnvD K H0 Φ H σ ρ) (hl:ρ'.length=ρ.length) (hw:∀ (i:Nat) x,ρ'[i]?=some (some x)→ρ[i]?=some (some x)):EnvD K H0 Φ H σ ρ' :=
  ⟨E.fz,by rw [E.len,hl],fun i d h=>E.sl i d (hw i _ h),fun i ds h=>E.ow i ds (hw i _ h),fun i j ds es p hi hj=>E.ne i j ds es p (hw i _ hi) (hw j _ hj),E.tb⟩
end
def NF {α:Type} (x:α) (R:α→Prop):Prop:=∃ y,x=y∧R y
theorem NF.get {α:Type} {x:α} {R:α→Prop} (h:NF x R):R x:=by
  obtain ⟨_,rfl,h⟩:=h
  exact h
abbrev TD:=Rho→(D→Prop)→Prop
abbrev TDL:=Rho→(List D→Prop)→Prop
abbrev TDB:=Rho→(Bool→Prop)→Prop
def lE (K:PySem.W.Frag) (t:TD):TE:=fun σ H Q=>∃ H0 Φ ρ R,EnvD K H0 Φ H σ ρ∧t ρ R∧∀ d Φ' H' v,R d→Gr Φ H Φ' H'→Rp K Φ' d v→Q v H'
def lQ (K:PySem.W.Frag) (t:TD):TE:=fun σ H Q=>∃ H0 Φ ρ R,EnvD K H0 Φ H σ ρ∧t ρ R∧∀ d Φ' H' v,R d→Gr Φ H Φ' H'→RpQ K Φ' H' d v→Q v H'
def lF (K:PySem.W.Frag) (t:TDL):TE:=fun σ H Q=>∃ H0 Φ ρ R,EnvD K H0 Φ H σ ρ∧t ρ R∧∀ ds Φ' H' p vs,R ds→Gr Φ H Φ' H'→H p=none→Φ' p=none→H' p=some (.lst vs)→RpL K Φ' ds vs→Q (.ref p) H'
def lA (K:PySem.W.Frag) (n:Nat) (t:TDL):TA:=fun σ H Q=>∃ H0 Φ ρ R,EnvD K H0 Φ H σ ρ∧t ρ R∧∀ ds Φ' H' vs,R ds→Gr Φ H Φ' H'→RpL K Φ' ds vs→ds.length=n→Q vs H'
def lT (K:PySem.W.Frag) (t:TDB):TT:=fun σ H Q=>∃ H0 Φ ρ R,EnvD K H0 Φ H σ ρ∧t ρ R∧∀ b Φ' H',R b→Gr Φ H Φ' H'→Q b H'
structure PD (K:PySem.W.Frag) (X:Cx) (e:Expr) (t:TD):Prop where pe:X.K=K→PE X e (lE K t)
structure PQ (K:PySem.W.Frag) (X:Cx) (e:Expr) (t:TD):Prop where pe:X.K=K→PE X e (lQ K t)
structure PF (K:PySem.W.Frag) (X:Cx) (e:Expr) (t:TDL):Prop where pe:X.K=K→PE X e (lF K t)
structure PAD (K:PySem.W.Frag) (X:Cx) (es:List Expr) (t:TDL):Prop where pa:X.K=K→PA X es (lA K es.length t)
structure PTD (K:PySem.W.Frag) (X:Cx) (e:Expr) (t:TDB):Prop where pt:X.K=K→PT X e (lT K t)
structure PWD (K:PySem.W.Frag) (X:Cx) (e:Expr) (t:TDB):Prop where pw:X.K=K→PW X e (lT K t)
theorem PE.imp {X:Cx} {e:Expr} {t t':TE} (h:PE X e t) (k:∀ σ H Q,t' σ H Q→t σ H Q):PE X e t':=fun pins s σ H Q I hw=>h pins s σ H Q I (k σ H Q hw)
theorem PT.imp {X:Cx} {e:Expr} {t t':TT} (h:PT X e t) (k:∀ σ H Q,t' σ H Q→t σ H Q):PT X e t':=fun pins s σ H Q I hw=>h pins s σ H Q I (k σ H Q hw)
theorem PW.imp {X:Cx} {e:Expr} {t t':TT} (h:PW X e t) (k:∀ σ H Q,t' σ H Q→t σ H Q):PW X e t':=fun wh pins s σ H Q I hw=>h wh pins s σ H Q I (k σ H Q hw)
theorem PA.imp {X:Cx} {e:List Expr} {t t':TA} (h:PA X e t) (k:∀ σ H Q,t' σ H Q→t σ H Q):PA X e t':=fun pos pins s σ H Q I hw=>h pos pins s σ H Q I (k σ H Q hw)
theorem PS.imp {X:Cx} {e:Stmt} {t t':TS} (h:PS X e t) (k:∀ D σ H,t' D σ H→t D σ H):PS X e t':=fun pins s σ H D I hw=>h pins s σ H D I (k D σ H hw)
theorem PSs.imp {X:Cx} {e:List Stmt} {t t':TS} (h:PSs X e t) (k:∀ D σ H,t' D σ H→t D σ H):PSs X e t':=fun pins s σ H D I hw=>h pins s σ H D I (k D σ H hw)
section
variable {K : PySem.W.Frag} {X : Cx} {e a b c : Expr} {es : List Expr} {pos : Pos} {t ta tb : TD} {tf : TDL} {tl : TDL} {tt tu : TDB}
theorem PD.q (h:PD K X e t):PQ K X e t:=⟨fun hK=>(h.pe hK).imp fun σ H Q hq0=>by obtain ⟨H0,Φ,ρ,R,E,t,k⟩:=hq0;exact ⟨H0,Φ,ρ,R,E,t,fun d Φ' H' v r g rr=>k d Φ' H' v r g (.inl rr)⟩⟩
def qpj (t:TDL):TD:=fun ρ R=>t ρ fun ds=>R (.lst ds)
theorem PF.d (h:PF K X e tf):PD K X e (qpj tf):=⟨fun hK=>(h.pe hK).imp fun σ H Q hq0=>by obtain ⟨H0,Φ,ρ,R,E,t,k⟩:=hq0;exact ⟨H0,Φ,ρ,_,E,t,fun ds Φ' H' p vs r g h0 hn hp rr =>
  k (.lst ds) _ H' _ r (g.freeze h0 hn hp) ((rr.same (qaG hn _)).lst qaj)⟩⟩
def qoY (i:Nat):TD:=fun ρ R=>match ρ[i]? with | some (some (.v d))=>R d | _=>False
def qcH (i:Nat):TD:=fun ρ R=>match ρ[i]? with | some (some (.v d))=>R d | some (some (.ob (.lst ds)))=>R (.lst ds) | _=>False
theorem dv (i:Nat) {x:Str} (hN:X.N[i]?=some x:=by rfl) (hv:Vis X.env.scope x:=by first | exact Or.inl rfl | exact Or.inr (Or.inl rfl) | exact Or.inr (Or.inr rfl)) (hd:(x == ("__debug__":Str))=false:=by decide)
    (hcd:(x == ("__classdict__":Str))=false:=by decide):PD K X (.Name x pos) (qoY i):=⟨fun _=>(pv i hN hv hd hcd).imp fun σ H Q hq0=>by
  obtain ⟨H0,Φ,ρ,R,E,t,k⟩:=hq0
  unfold qoY at t
  split at t
  · next d h =>
    obtain ⟨v,e,r⟩:=E.sl i d h
    exact ⟨v,e,k d Φ H v t (.refl E.fz) r⟩
  · exact t.elim⟩
theorem dvq (i:Nat) {x:Str} (hN:X.N[i]?=some x:=by rfl) (hv:Vis X.env.scope x:=by first | exact Or.inl rfl | exact Or.inr (Or.inl rfl) | exact Or.inr (Or.inr rfl)) (hd:(x == ("__debug__":Str))=false:=by decide)
    (hcd:(x == ("__classdict__":Str))=false:=by decide):PQ K X (.Name x pos) (qcH i):=⟨fun _=>(pv i hN hv hd hcd).imp fun σ H Q hq0=>by
  obtain ⟨H0,Φ,ρ,R,E,t,k⟩:=hq0
  unfold qcH at t
  split at t
  · next d h =>
    obtain ⟨v,e,r⟩:=E.sl i d h
    exact ⟨v,e,k d Φ H v t (.refl E.fz) (.inl r)⟩
  · next ds h =>
    obtain ⟨p,vs,e,_,_,hp,r⟩:=E.owl i ds h
    exact ⟨_,e,k _ Φ H _ t (.refl E.fz) (.inr ⟨p,vs,ds,rfl,rfl,hp,r⟩)⟩
  · exact t.elim⟩
def dC (d:D):TD:=fun _ R=>R d
theorem qiW {v:V} {d:D} (h:PE X e (tC v)) (r:∀ Φ,Rp K Φ d v):PD K X e (dC d):=⟨fun _=>h.imp fun σ H Q hq0=>by obtain ⟨H0,Φ,ρ,R,E,t,k⟩:=hq0;exact k d Φ H v t (.refl E.fz) (r Φ)⟩
theorem qab {i j}:PD K X (.Constant (.int i) j pos) (dC (.int i)):=qiW qmL fun _=>.int i
theorem qdR {i j}:PD K X (.Constant (.bool i) j pos) (dC (.bl i)):=qiW qou fun _=>.bl i
theorem qgt {i j}:PD K X (.Constant (.str i) j pos) (dC (.str i)):=qiW qlK fun _=>.str i
theorem qbW {j}:PD K X (.Constant .none j pos) (dC .non):=qiW qnn fun _=>.non
abbrev RD2:=D→D→(D→Prop)→Prop
def lR2 (K:PySem.W.Frag) (r:RD2):R2:=fun x y H Q=>∃ Φ dx dy R,Same Φ H∧RpQ K Φ H dx x∧RpQ K Φ H dy y∧r dx dy R∧∀ d Φ' H' v,R d→Gr Φ H Φ' H'→Rp K Φ' d v→Q v H'
structure OpD (K:PySem.W.Frag) (X:Cx) (f:Value→Value→Sem Value) (r:RD2):Prop where o:X.K=K→OpR X f (lR2 K r)
def dOp (r:RD2) (ta tb:TD):TD:=fun ρ R=>ta ρ fun x=>tb ρ fun y=>r x y R
theorem qek {r:RD2} {σ:St} {H:Hp} {Q:VK} (h:lE K (dOp r ta tb) σ H Q):tOp (lR2 K r) (lQ K ta) (lQ K tb) σ H Q:=by
  obtain ⟨H0,Φ,ρ,R,E,t,k⟩:=h
  exact ⟨H0,Φ,ρ,_,E,t,fun dx Φ1 H1 x t1 g1 rx=>⟨H0,Φ1,ρ,_,E.gr g1,t1,fun dy Φ2 H2 y t2 g2 ry=>⟨Φ2,dx,dy,R,g2.s,rx.gr g2,ry,t2,fun d Φ' H' v r g rr=>k d Φ' H' v r ((g1.trans g2).trans g) rr⟩⟩⟩
theorem qaU {op:Operator} {r:RD2} (ho:OpD K X (binaryOp op) r) (ha:PQ K X a ta) (hb:PQ K X b tb):PD K X (.BinOp a op b pos) (dOp r ta tb) :=
  ⟨fun hK=>(qnV (ho.o hK) (ha.pe hK) (hb.pe hK)).imp fun _ _ _=>qek⟩
theorem qdl {op:CmpOp} {r:RD2} (ho:OpD K X (compareOp op) r) (ha:PQ K X a ta) (hb:PQ K X b tb) (hm:behindInMarks op b=false):PD K X (.Compare a [op] [b] pos) (dOp r ta tb) :=
  ⟨fun hK=>(qlk (ho.o hK) (ha.pe hK) (hb.pe hK) hm).imp fun _ _ _=>qek⟩
def qmQ (t:TD):TDB:=fun ρ R=>t ρ fun d=>match d with | .bl b=>R b | _=>False
theorem qh9 {r:RD2} {σ:St} {H:Hp} {Q:Bool→Hp→Prop} (h:lT K (qmQ (dOp r ta tb)) σ H Q):qni (tOp (lR2 K r) (lQ K ta) (lQ K tb)) σ H Q:=by
  obtain ⟨H0,Φ,ρ,R,E,t,k⟩:=h
  refine qek ⟨H0,Φ,ρ,_,E,t,fun d Φ' H' v r g rr=>?_⟩
  cases d with
  | bl b=>cases rr;exact ⟨b,rfl,k b Φ' H' r g⟩
  | _=>exact r.elim
theorem qa6 {op:CmpOp} {r:RD2} (ho:OpD K X (compareOp op) r) (ha:PQ K X a ta) (hb:PQ K X b tb) (hm:behindInMarks op b=false):PTD K X (.Compare a [op] [b] pos) (qmQ (dOp r ta tb)) :=
  ⟨fun hK=>(qk4 (ho.o hK) (ha.pe hK) (hb.pe hK) hm).imp fun _ _ _=>qh9⟩
abbrev RD1:=D→(D→Prop)→Prop
def dUn (r:RD1) (ta:TD):TD:=fun ρ R=>ta ρ fun x=>r x R
def qpe:RD1:=fun x R=>match x with | .int i=>R (.int (-i)) | _=>False
theorem qeb (ha:PQ K X a ta):PD K X (.UnaryOp .USub a pos) (dUn qpe ta):=⟨fun hK=>(qnu qmr (ha.pe hK)).imp fun σ H Q hq0=>by obtain ⟨H0,Φ,ρ,R,E,t,k⟩:=hq0;exact ⟨H0,Φ,ρ,_,E,t,fun dx Φ1 H1 x t1 g1 rx=>by
  cases dx with
  | int i=>exact ⟨i,rx.int,k _ Φ1 H1 _ t1 g1 (.int _)⟩
  | _=>exact t1.elim⟩⟩
def qpY:RD1:=fun x R=>match x with | .bl i=>R (.bl (!i)) | _=>False
theorem qmY (ha:PQ K X a ta):PD K X (.UnaryOp .Not a pos) (dUn qpY ta):=⟨fun hK=>(qmy (ha.pe hK)).imp fun σ H Q hq0=>by obtain ⟨H0,Φ,ρ,R,E,t,k⟩:=hq0;exact ⟨H0,Φ,ρ,_,E,t,fun dx Φ1 H1 x t1 g1 rx=>by
  cases dx with
  | bl i=>exact ⟨i,rx.bl,k _ Φ1 H1 _ t1 g1 (.bl _)⟩
  | _=>exact t1.elim⟩⟩
def qoG:D→(Bool→Prop)→Prop:=fun d R=>match d with
  | .int i=>R (i != 0) | .bl b=>R b | .non=>R false | .str x=>x.length≤sizeLine∧R ((x.length:Int) != 0) | .lst ds=>R (!ds.isEmpty) | .tup ds=>R (!ds.isEmpty) | .fzl ds=>R (!ds.isEmpty) | .obj _ _=>False | .map _=>False | .exc _ _=>False
theorem qcN {Φ:Hp} {ds:List D} {vs:List V} (h:RpL K Φ ds vs):(!ds.isEmpty)=!vs.isEmpty:=by
  have:=h.1
  cases ds <;> cases vs <;> simp_all
theorem qml {Φ H:Hp} {d:D} {v:V} {R:Bool→Prop} (s:Same Φ H) (h:RpQ K Φ H d v) (t:qoG d R):∃ k,qn5 K v H k∧R k:=by
  cases d with
  | int i=>rw [h.int];exact ⟨_,rfl,t⟩
  | bl i=>rw [h.bl];exact ⟨_,rfl,t⟩
  | non=>rw [h.non];exact ⟨_,rfl,t⟩
  | str i=>rw [h.str];exact ⟨_,⟨t.1,rfl⟩,t.2⟩
  | lst ds=>obtain ⟨a,vs,rfl,h1,h2⟩:=h.lst s;exact ⟨_,.inl ⟨vs,.of h1,rfl⟩,by rw [← qcN h2];exact t⟩
  | tup ds=>obtain ⟨a,vs,rfl,h1,_,h2⟩:=h.tup s;exact ⟨_,.inr (.inl ⟨vs,h1,rfl⟩),by rw [← qcN h2];exact t⟩
  | fzl ds=>obtain ⟨a,vs,rfl,h1,h2⟩:=h.fzl s;exact ⟨_,.inl ⟨vs,h1,rfl⟩,by rw [← qcN h2];exact t⟩
  | obj C fs=>exact t.elim
  | map kvs=>exact t.elim
  | exc _ _=>exact t.elim
def qlI (t:TD):TDB:=fun ρ R=>t ρ fun d=>qoG d R
theorem qbz (ha:PQ K X a ta) (he:∀ whole,isTrue a X.env whole=(do let v ← whole;standAt a.pos;holding [v] (truthy v))):PTD K X a (qlI ta) :=
  ⟨fun hK=>(qiK (ha.pe hK) he).imp fun σ H Q hq0=>by obtain ⟨H0,Φ,ρ,R,E,t,k⟩:=hq0;exact ⟨H0,Φ,ρ,_,E,t,fun d Φ1 H1 v t1 g1 rv=>by
    obtain ⟨b,h1,h2⟩:=qml g1.s rv t1
    rw [hK]
    exact ⟨b,h1,k b Φ1 H1 h2 g1⟩⟩⟩
def qpd (t u:TDB):TDB:=fun ρ R=>t ρ fun c=>(c=true→u ρ R)∧(c=false→R false)
def zOr (t u:TDB):TDB:=fun ρ R=>t ρ fun c=>(c=true→R true)∧(c=false→u ρ R)
def qnP (t:TDB):TDB:=fun ρ R=>t ρ fun c=>R (!c)
theorem PWD.td (h:PWD K X e tt):PTD K X e tt:=⟨fun hK=>(h.pw hK).pt⟩
theorem qhn (ha:PTD K X a tt):PWD K X (.BoolOp .And [a] pos) tt:=⟨fun hK=>qk3 (ha.pt hK)⟩
theorem qdH (ha:PTD K X a tt):PWD K X (.BoolOp .Or [a] pos) tt:=⟨fun hK=>qmE (ha.pt hK)⟩
theorem qkl (ha:PTD K X a tt) (hb:PWD K X (.BoolOp .And (b::es) pos) tu):PWD K X (.BoolOp .And (a::b::es) pos) (qpd tt tu) :=
  ⟨fun hK=>(qmT (ha.pt hK) (hb.pw hK)).imp fun σ H Q hq0=>by obtain ⟨H0,Φ,ρ,R,E,t,k⟩:=hq0;exact ⟨H0,Φ,ρ,_,E,t,fun c Φ1 H1 r g=>by
    cases c with
    | true=>rw [if_pos rfl];exact ⟨H0,Φ1,ρ,R,E.gr g,r.1 rfl,fun b Φ' H' rb g'=>k b Φ' H' rb (g.trans g')⟩
    | false=>rw [if_neg (by decide)];exact k _ Φ1 H1 (r.2 rfl) g⟩⟩
theorem qhx (ha:PTD K X a tt) (hb:PWD K X (.BoolOp .Or (b::es) pos) tu):PWD K X (.BoolOp .Or (a::b::es) pos) (zOr tt tu) :=
  ⟨fun hK=>(qnU (ha.pt hK) (hb.pw hK)).imp fun σ H Q hq0=>by obtain ⟨H0,Φ,ρ,R,E,t,k⟩:=hq0;exact ⟨H0,Φ,ρ,_,E,t,fun c Φ1 H1 r g=>by
    cases c with
    | true=>rw [if_pos rfl];exact k _ Φ1 H1 (r.1 rfl) g
    | false=>rw [if_neg (by decide)];exact ⟨H0,Φ1,ρ,R,E.gr g,r.2 rfl,fun b Φ' H' rb g'=>k b Φ' H' rb (g.trans g')⟩⟩⟩
theorem qe9 (ha:PTD K X a tt):PTD K X (.UnaryOp .Not a pos) (qnP tt) :=
  ⟨fun hK=>(qlB (ha.pt hK)).imp fun σ H Q hq0=>by obtain ⟨H0,Φ,ρ,R,E,t,k⟩:=hq0;exact ⟨H0,Φ,ρ,_,E,t,fun c Φ1 H1 r g=>k _ Φ1 H1 r g⟩⟩
def qoN (t u:TD):TD:=fun ρ R=>t ρ fun c=>match c with | .bl c=>(c=true→u ρ R)∧(c=false→R (.bl false)) | _=>False
theorem qii {op} (h:PD K X a ta):PD K X (.BoolOp op [a] pos) ta:=⟨fun hK=>qm8 (h.pe hK)⟩
theorem qgY (ha:PD K X a ta) (hb:PD K X (.BoolOp .And (b::es) pos) tb):PD K X (.BoolOp .And (a::b::es) pos) (qoN ta tb) :=
  ⟨fun hK=>(qlA (ha.pe hK) (hb.pe hK)).imp fun σ H Q hq0=>by obtain ⟨H0,Φ,ρ,R,E,t,k⟩:=hq0;exact ⟨H0,Φ,ρ,_,E,t,fun c Φ1 H1 v r g rv=>by
    cases c with
    | bl c =>
      cases rv
      refine ⟨c,rfl,?_⟩
      cases c with
      | true=>rw [if_pos rfl];exact ⟨H0,Φ1,ρ,R,E.gr g,r.1 rfl,fun b Φ' H' v rb g' rr=>k b Φ' H' v rb (g.trans g') rr⟩
      | false=>rw [if_neg (by decide)];exact k _ Φ1 H1 _ (r.2 rfl) g (.bl _)
    | _=>exact r.elim⟩⟩
def qoJ:TDL:=fun _ R=>R []
def qmR (t:TD) (u:TDL):TDL:=fun ρ R=>t ρ fun d=>u ρ fun ds=>R (d::ds)
theorem qap:PAD K X [] qoJ:=⟨fun _=>pa_nil.imp fun σ H Q hq0=>by obtain ⟨H0,Φ,ρ,R,E,t,k⟩:=hq0;exact k [] Φ H [] t (.refl E.fz) .nil rfl⟩
theorem qac (ha:PD K X e t) (hr:PAD K X es tl) (hs:starEach (e::es) X.env=(false,eval e X.env)::starEach es X.env):PAD K X (e::es) (qmR t tl) :=
  ⟨fun hK=>(qaZ (ha.pe hK) (hr.pa hK) hs).imp fun σ H Q hq0=>by obtain ⟨H0,Φ,ρ,R,E,t,k⟩:=hq0;exact ⟨H0,Φ,ρ,_,E,t,fun d Φ1 H1 v r g rv=>⟨H0,Φ1,ρ,_,E.gr g,r,fun ds Φ2 H2 vs r2 g2 rl hl =>
    k _ Φ2 H2 _ r2 (g.trans g2) (.cons (rv.same g2.f) rl) (by rw [List.length_cons,List.length_cons,hl])⟩⟩⟩
def qo7 (t:TDL):TD:=fun ρ R=>t ρ fun ds=>R (.tup ds)
def qpN (t:TDL):TDL:=t
theorem qjF {n:Nat} (h:Nat.ble n 1000=true):n≤sizeLine:=Nat.le_trans (Nat.le_of_ble_eq_true h) (by decide)
theorem qbS {x1} (h:PAD K X es tl) (hes:Nat.ble es.length 1000=true:=by rfl):PD K X (.Tuple es x1 pos) (qo7 tl) :=
  ⟨fun hK=>(qna (h.pa hK)).imp fun σ H Q hq0=>by obtain ⟨H0,Φ,ρ,R,E,t,k⟩:=hq0;exact ⟨H0,Φ,ρ,_,E,t,fun ds Φ1 H1 vs r g rl hl=>⟨by rw [rl.1,hl];exact qjF hes,fun p hp =>
    k _ _ _ _ r (g.trans (.new g.s hp _)) ((rl.same (qaG (g.s.free hp) _)).tup qaj)⟩⟩⟩
theorem qbw (h:PAD K X es tl) (hes:Nat.ble es.length 1000=true:=by rfl):PF K X (.List es pos) (qpN tl) :=
  ⟨fun hK=>(qmX (h.pa hK)).imp fun σ H Q hq0=>by obtain ⟨H0,Φ,ρ,R,E,t,k⟩:=hq0;exact ⟨H0,Φ,ρ,_,E,t,fun ds Φ1 H1 vs r g rl hl=>⟨by rw [rl.1,hl];exact qjF hes,fun p hp =>
    k _ _ _ p vs r (g.trans (.fresh g.s hp _)) (g.h.free hp) (g.s.free hp) qaj rl⟩⟩⟩
end
end L2
namespace L2
open PySem PySem.Spec PyProof.Rows PySem.Builtin PySem.Builtin.Str
section
variable {K : PySem.W.Frag} {X : Cx}
def qmH (z:Str) (lo hi:Option Int):Str:=⟨(qca z.cps.toList lo hi).toArray⟩
theorem qkY (z:Str) (lo hi:Option Int):Txt.slice z lo hi=qmH z lo hi:=by
  have key:strSliceIndices lo hi 1 z.length=(List.range (HT.sIx z.length z.length hi - HT.sIx z.length 0 lo)).map fun k=>HT.sIx z.length 0 lo+k:=by
    have h1:∀ (i:Int) (d:Nat),max 0 (min (if i<0 then i+(z.length:Int) else i) (z.length:Int))=(HT.sIx z.length d (some i):Int):=fun i d=>by
      show max 0 (min (if i<0 then i+(z.length:Int) else i) (z.length:Int))=((if i<0 then (i+(z.length:Int)).toNat else min i.toNat z.length:Nat):Int)
      split <;> omega
    have e0:strSliceIndices lo hi 1 z.length=sliceRange (HT.sIx z.length 0 lo:Int) (HT.sIx z.length z.length hi:Int) 1:=by
      cases lo <;> cases hi <;> simp only [strSliceIndices,show (1:Int)>0 by decide,if_true,h1 _ 0,h1 _ z.length] <;> rfl
    rw [e0]
    unfold sliceRange
    simp only [show (1:Int)>0 by decide,if_true]
    have ec:(if (HT.sIx z.length 0 lo:Int)<(HT.sIx z.length z.length hi:Int) then ((HT.sIx z.length z.length hi:Int) - (HT.sIx z.length 0 lo:Int)+1 - 1) / 1 else 0).toNat=HT.sIx z.length z.length hi - HT.sIx z.length 0 lo:=by
      split
      · rw [Int.ediv_one];omega
      · omega
    rw [ec]
    refine List.map_congr_left fun k _=>?_
    omega
  have hb:HT.sIx z.length z.length hi≤z.length:=by
    cases hi with
    | none=>exact Nat.le_refl _
    | some i =>
      show (if i<0 then (i+(z.length:Int)).toNat else min i.toNat z.length)≤z.length
      split <;> omega
  have hb0:HT.sIx z.length 0 lo≤z.length:=by
    cases lo with
    | none=>exact Nat.zero_le _
    | some i =>
      show (if i<0 then (i+(z.length:Int)).toNat else min i.toNat z.length)≤z.length
      split <;> omega
  have pick:(strSliceIndices lo hi 1 z.length).filterMap (z.cps[·]?)=qca z.cps.toList lo hi:=by
    rw [key]
    unfold qca
    have el:z.cps.toList.length=z.length:=by rw [Array.length_toList];rfl
    rw [el]
    generalize HT.sIx z.length 0 lo=a
    generalize hbb:HT.sIx z.length z.length hi=b at hb
    refine List.ext_getElem? fun j=>?_
    rw [List.filterMap_map]
    have:∀ m,m≤b - a→((List.range m).filterMap ((fun x=>z.cps[x]?) ∘ fun k=>a+k))=(z.cps.toList.drop a).take m:=by
      intro m
      induction m with
      | zero=>intro _;simp
      | succ m ih =>
        intro hm
        rw [List.range_succ,List.filterMap_append,ih (by omega)]
        have hlt:a+m<z.cps.size:=by unfold Str.length at hb;omega
        have e1:z.cps.toList.drop a=z.cps.toList.drop a:=rfl
        have hl:m<(z.cps.toList.drop a).length:=by rw [List.length_drop,el];unfold Str.length;omega
        rw [List.take_add_one,List.getElem?_drop]
        congr 1
        simp [hlt]
    rw [this _ (Nat.le_refl _)]
  unfold Txt.slice qmH
  split
  · next h =>
    have hl:(strSliceIndices lo hi 1 z.length).length=z.length:=by simpa using h
    have el:z.cps.toList.length=z.length:=by rw [Array.length_toList];rfl
    have:qca z.cps.toList lo hi=z.cps.toList:=by
      rw [key,List.length_map,List.length_range] at hl
      unfold qca
      rw [el]
      have:HT.sIx z.length 0 lo=0:=by omega
      rw [this,List.drop_zero,List.take_of_length_le (by rw [el];omega)]
    rw [this]
  · rw [pick]
def qoZ:V→Option Int→Option Int→Hp→VK→Prop:=fun x lo hi H Q=>∃ z,x=.str z∧z.length≤sizeLine∧Q (.str (qmH z lo hi)) H
theorem qhS {v:Value} {o:Option Int} (h:IsPart v o):∃ p:Option (Int × Tok),v=partValue p∧p.map (·.1)=o:=by
  cases h with
  | none=>exact ⟨none,rfl,rfl⟩
  | int i t=>exact ⟨some (i,t),rfl,rfl⟩
theorem qmA:SlR X qoZ:=by
  intro pins s σ H x v vl vu lo hi sl Q I rx hs pl pu h
  obtain ⟨z,rfl,hz,q⟩:=h
  obtain ⟨t,rfl⟩:=rx
  obtain ⟨p1,rfl,rfl⟩:=qhS pl
  obtain ⟨p2,rfl,rfl⟩:=qhS pu
  refine ⟨"str",_,F.slot_str_getitem.lookup,typeIs_str _ _ _,?_⟩
  have hs':s.heap.IsSlice sl p1 p2 none:=by
    obtain ⟨o,ho,h1,h2⟩:=hs
    exact ⟨o,ho,h1,h2⟩
  refine wpAny_getItem_str_slice (l:=p1) (u:=p2) (st:=none) hs' rfl (post_val_or_str ⟨?_,fun t' k=>?_⟩)
  · exact Nat.le_trans (Txt.slice_le z _ _) hz
  · refine ⟨.str (qmH z (p1.map (·.1)) (p2.map (·.1))),H,?_,⟨t',?_⟩,q⟩
    · exact I.tok _
    · rw [← qkY];rfl
def qik (z:Str) (n:Nat):Str:=⟨((List.replicate n z.cps.toList).flatten).toArray⟩
theorem qjo (z:Str):qik z 1=z:=by
  unfold qik
  simp
theorem qf1:∀ (n:Nat) (x acc:Array Nat),(List.replicate n x).foldl (·++·) acc=acc++((List.replicate n x.toList).flatten).toArray
  | 0,x,acc=>by simp
  | n+1,x,acc=>by
    rw [List.replicate_succ,List.foldl_cons,qf1 n x (acc++x),List.replicate_succ,List.flatten_cons]
    apply Array.ext'
    simp
theorem qjl (z:Str) (n:Nat):(qik z n).length=z.length*n:=by
  unfold qik Str.length
  simp [Nat.mul_comm]
def qn9:R2:=fun x y H Q=>∃ z k,x=.str z∧y=.int k∧-(2 ^ 62)≤k∧k<2 ^ 62∧z.length*k.toNat≤sizeLine∧z.length≤sizeLine∧Q (.str (qik z k.toNat)) H
theorem qkW:OpR X (binaryOp .Mult) qn9:=by
  intro pins s σ H x y v u Q I rx ry h
  obtain ⟨z,k,rfl,rfl,h1,h2,h3,h4,q⟩:=h
  obtain ⟨t,rfl⟩:=rx
  obtain ⟨t',rfl⟩:=ry
  refine P.mul_str (by rw [decide_eq_false (by omega),decide_eq_false (by omega)];rfl) (fun c1 c2=>?_) (fun c1 c2=>?_) ?_
  · intro hc
    have hk:0<k:=by omega
    have h5:((z.length:Int))*k≤2 ^ 24:=by
      have:((z.length*k.toNat:Nat):Int)≤(sizeLine:Int):=Int.ofNat_le.mpr h3
      rw [Int.natCast_mul,Int.toNat_of_nonneg (by omega)] at this
      exact this
    have h6:(z.length:Int)≤(2 ^ 63 - 1) / k:=(Int.le_ediv_iff_mul_le hk).mpr (Int.le_trans h5 (by decide))
    omega
  · unfold tooLong
    exact decide_eq_false (by omega)
  · by_cases c:k<1
    · rw [if_pos c]
      have e:k.toNat=0:=by omega
      rw [e] at q
      exact ⟨by decide,.str Str.empty,H,I.tok _,⟨_,rfl⟩,q⟩
    · rw [if_neg c]
      by_cases c2:(k == 1 || z.length == 0)=true
      · rw [if_pos c2]
        have e:qik z k.toNat=z:=by
          rw [Bool.or_eq_true] at c2
          rcases c2 with c2 | c2
          · have:=eq_of_beq c2
            subst this
            exact qjo z
          · have hz:z.cps.toList=[]:=by
              have:=eq_of_beq c2
              unfold Str.length at this
              exact List.length_eq_zero_iff.mp (by rw [Array.length_toList];exact this)
            unfold qik
            rw [hz]
            have hz2:z.cps=#[]:=by
              apply Array.ext'
              rw [hz]
            apply Str.ext'
            rw [hz2]
            simp
        rw [e] at q
        exact ⟨.str z,H,I,⟨t,rfl⟩,q⟩
      · rw [if_neg c2]
        have e:(⟨(List.replicate k.toNat z.cps).foldl (·++·) #[]⟩:Str)=qik z k.toNat:=by
          rw [qf1]
          unfold qik
          simp
        rw [e]
        refine ⟨by rw [qjl];exact h3,.str (qik z k.toNat),H,I.tok _,⟨_,rfl⟩,q⟩
end
def qor:R2:=fun x y H Q=>∃ a b xs ys,x=.ref a∧y=.ref b∧H a=some (.tup xs)∧H b=some (.tup ys)∧xs.length+ys.length≤sizeLine∧∀ p H',Same H H'→H' p=some (.tup (xs++ys))→Q (.ref p) H'
theorem qlu {X:Cx}:OpR X (binaryOp .Add) qor:=by
  intro pins s σ H x y v u Q I rx ry h
  obtain ⟨a,b,xs,ys,rfl,rfl,ha,hb,hz,q⟩:=h
  by_cases hx:xs=[]
  · subst hx
    cases rx
    cases ry
    obtain ⟨its,r1,p1,_⟩:=I.tuple (SqT.of ha)
    obtain ⟨its2,r2,p2,_⟩:=I.tuple (SqT.of hb)
    exact qlh p1 p2 (r1.nil_iff.mpr rfl) ⟨.ref b,H,I,rfl,q b H (Same.refl H) hb⟩
  · refine qkf pins s σ H _ _ v u Q I rx ry ⟨a,b,xs,ys,rfl,rfl,SqT.of ha,SqT.of hb,hx,hz,fun e=>?_,fun _ p hp=>q p _ (qaG hp _) qaj⟩
    subst e
    exact q a H (Same.refl H) (by rw [List.append_nil];exact ha)
def qnW:R2:=fun x y H Q=>∃ (a:Addr) (k:Int) (xs:List V),x=.ref a∧y=.int k∧H a=some (.tup xs)∧xs≠[]∧0≤k∧k≤1000∧k.toNat*xs.length≤1000∧∀ p H',Same H H'→H' p=some (.tup (List.replicate k.toNat xs).flatten)→Q (.ref p) H'
theorem qj5 {X:Cx}:OpR X (binaryOp .Mult) qnW:=by
  intro pins s σ H x y v u Q I rx ry h
  obtain ⟨a,k,xs,rfl,rfl,ha,hx,h0,h1,hz,q⟩:=h
  cases rx
  obtain ⟨t,rfl⟩:=ry
  obtain ⟨its,r,p1,_⟩:=I.tuple (SqT.of ha)
  have hne:its≠[]:=fun z=>hx (r.nil_iff.mp z)
  have hl:=r.length
  have hits:its.toArray.isEmpty=false:=by cases its with | nil=>exact absurd rfl hne | cons _ _=>rfl
  obtain ⟨⟨cls,dd,data,sl⟩,ho,hc,n,hd⟩:=id p1
  simp only at hc hd
  subst hc hd
  refine wpAny_binaryOp_repeat_ref (T:="tuple") (U:="int") (by decide) ⟨_,ho,rfl⟩ (fun s'=>typeIs_int s' k t) qcV F.fills_int_mul F.slot_int_rmul qeB F.slot_int_index.lookup
    (call_meets F.slot_int_rmul (typeIs_int s k t) F.entry_int_rmul (F.args_int_rmul_2 _ _) (qdE k t a its.toArray n dd sl)
      ⟨ho,rfl,⟨_,ho,rfl⟩,?_⟩)
  have hnew:List.foldl (fun x1 x2=>x1++x2) #[] (List.replicate k.toNat its.toArray)=(List.replicate k.toNat its).flatten.toArray:=by
    have:=qdp its k.toNat []
    rw [List.nil_append] at this
    exact this
  have hc0:¬ (decide (k < -(2 ^ 63)) || decide (k≥2 ^ 63))=true:=by
    rw [decide_eq_false (by omega),decide_eq_false (by omega)]
    exact Bool.false_ne_true
  by_cases c1:k=1
  · subst c1
    refine call_meets F.slot_tuple_mul ⟨_,ho,rfl⟩ F.entry_tuple_mul (F.args_tuple_mul_2 _ _) (qft a its.toArray n dd sl t) ⟨ho,?_⟩
    refine ⟨.ref a,H,I,rfl,q a H (Same.refl H) ?_⟩
    show H a=some (.tup (List.replicate 1 xs).flatten)
    rw [List.replicate_one,List.flatten_cons,List.flatten_nil,List.append_nil]
    exact ha
  · have hc1:¬ (its.toArray.isEmpty || k == 1)=true:=by
      rw [hits,beq_eq_false_iff_ne.mpr c1]
      exact Bool.false_ne_true
    have lay:∀ ys:List V,∀ us:List Value,ys.length≤sizeLine→Vals ys us→EP X pins σ Q (.ref s.heap.objs.size) { s with heap:=s.heap.push { cls:=Value.type "tuple",data:=Data.seq us.toArray },toks:=s.toks }∨¬ (∀ p H',Same H H'→H' p=some (.tup ys)→Q (.ref p) H'):=fun ys us hzz rr=>by
      by_cases qq:∀ p H',Same H H'→H' p=some (.tup ys)→Q (.ref p) H'
      · refine .inl ⟨.ref s.heap.objs.size,_,I.laid (t':=s.toks) (o:=.tup ys) (fun b ob z=>Heap.get?_push_of_some _ z) (Nat.le_refl _) ?_,rfl,qq _ _ (qaG (I.hok.fresh (Nat.le_refl _)) _) qaj⟩
        exact ⟨hzz,_,rr,IsTupD.new _ _⟩
      · exact .inr qq
    by_cases c0:k=0
    · subst c0
      refine call_meets F.slot_tuple_mul ⟨_,ho,rfl⟩ F.entry_tuple_mul (F.args_tuple_mul_2 _ _) (qfL a its.toArray n dd sl 0 t hc0 hc1 rfl) ⟨ho,?_⟩
      rcases lay [] [] (Nat.zero_le _) .nil with z | z
      · exact z
      · exact absurd q z
    · have hc2:¬ (decide (k≤0) || its.toArray.isEmpty)=true:=by
        rw [hits,decide_eq_false (by omega)]
        exact Bool.false_ne_true
      have hlen:its.length*k.toNat≤1000:=by rw [← hl,Nat.mul_comm];exact hz
      have hlenI:(its.toArray.size:Int)*k≤1000:=by
        rw [List.size_toArray]
        have e:k=((k.toNat:Nat):Int):=by omega
        rw [e]
        exact_mod_cast hlen
      have hs:(1000:Int)≤((sizeLine:Nat):Int):=by exact_mod_cast qdd (Nat.le_refl 1000)
      have hflat:(List.replicate k.toNat its).flatten.length≤1000:=by rw [qfz,Nat.mul_comm];exact hlen
      refine call_meets F.slot_tuple_mul ⟨_,ho,rfl⟩ F.entry_tuple_mul (F.args_tuple_mul_2 _ _) (qfl a its.toArray n dd sl k t hc0 hc1 hc2 (by omega) (by unfold Builtin.Tuple.tupleTooMany;rw [decide_eq_false (by omega)];exact Bool.false_ne_true) (by rw [hnew,List.size_toArray];exact qdd hflat)) ⟨ho,?_⟩
      rw [hnew]
      rcases lay (List.replicate k.toNat xs).flatten (List.replicate k.toNat its).flatten (by rw [qfz];exact qdd hz) (r.rep k.toNat) with z | z
      · exact z
      · exact absurd q z
end L2
namespace L2
open PySem PySem.Spec PyProof.Rows
section
variable {K : PySem.W.Frag} {X : Cx} {e a b c : Expr} {es : List Expr} {pos : Pos} {t ta tb : TD} {tf : TDL} {tl : TDL} {tt tu : TDB}
def qo4:RD2:=fun x y R=>match x,y with
  | .int i,.int j=>R (.int (i+j))
  | .str i,.str j=>i.length+j.length≤sizeLine∧R (.str (i++j))
  | .lst xs,.lst ys=>xs.length+ys.length≤sizeLine∧NF (xs++ys) fun zs=>R (.lst zs)
  | .tup xs,.tup ys=>xs.length+ys.length≤sizeLine∧NF (xs++ys) fun zs=>R (.tup zs)
  | _,_=>False
theorem qa2:OpD K X (binaryOp .Add) qo4:=⟨fun hK pins s σ H x y v u Q I rx ry hq0=>by
  obtain ⟨Φ,dx,dy,R,sm,hx,hy,h,k⟩:=hq0
  cases dx with
  | int i =>
    cases dy with
    | int j=>cases hx.int;cases hy.int;exact qnc pins s σ H _ _ v u Q I rx ry ⟨i,j,rfl,rfl,k _ Φ H _ h (.refl sm) (.int _)⟩
    | _=>exact h.elim
  | str i =>
    cases dy with
    | str j=>cases hx.str;cases hy.str;exact qgR pins s σ H _ _ v u Q I rx ry ⟨i,j,rfl,rfl,h.1,k _ Φ H _ h.2 (.refl sm) (.str _)⟩
    | _=>exact h.elim
  | lst xs =>
    cases dy with
    | lst ys =>
      obtain ⟨a,vs,rfl,h1,h2⟩:=hx.lst sm
      obtain ⟨b,ws,rfl,h3,h4⟩:=hy.lst sm
      exact qlN pins s σ H _ _ v u Q I rx ry ⟨a,b,vs,ws,rfl,rfl,h1,h3,by rw [h2.1,h4.1];exact h.1,fun p hp=>k _ _ _ _ h.2.get (.new sm hp _) (((h2.append h4).same (qaG (sm.free hp) _)).lst qaj)⟩
    | _=>exact h.elim
  | tup xs =>
    cases dy with
    | tup ys =>
      obtain ⟨a,vs,rfl,h1,h1',h2⟩:=hx.tup sm
      obtain ⟨b,ws,rfl,h3,h3',h4⟩:=hy.tup sm
      exact qlu pins s σ H _ _ v u Q I rx ry ⟨a,b,vs,ws,rfl,rfl,sm _ _ h1',sm _ _ h3',by rw [h2.1,h4.1];exact h.1,fun p H' s' q=>by
        obtain ⟨Φ',g,q'⟩:=Gr.adoptT sm s' q
        exact k _ Φ' H' _ h.2.get g (((h2.append h4).same g.f).tup q')⟩
    | _=>exact h.elim
  | _=>exact h.elim⟩
def zI (C:Int→Int→Prop) (g:Int→Int→D):RD2:=fun x y R=>match x,y with | .int i,.int j=>C i j∧R (g i j) | _,_=>False
def zI0 (g:Int→Int→D):RD2:=fun x y R=>match x,y with | .int i,.int j=>R (g i j) | _,_=>False
theorem qkJ {f:Value→Value→Sem Value} {C:Int→Int→Prop} {g:Int→Int→Int} (h:OpR X f (rI C fun i j=>.int (g i j))):OpD K X f (zI C fun i j=>.int (g i j)) :=
  ⟨fun hK pins s σ H x y v u Q I rx ry hq0=>by
    obtain ⟨Φ,dx,dy,R,sm,hx,hy,q,k⟩:=hq0
    cases dx with
    | int i =>
      cases dy with
      | int j=>cases hx.int;cases hy.int;exact h pins s σ H _ _ v u Q I rx ry ⟨i,j,rfl,rfl,q.1,k _ Φ H _ q.2 (.refl sm) (.int _)⟩
      | _=>exact q.elim
    | _=>exact q.elim⟩
theorem qlz {f:Value→Value→Sem Value} {g:Int→Int→Int} (h:OpR X f (rI0 fun i j=>.int (g i j))):OpD K X f (zI0 fun i j=>.int (g i j)) :=
  ⟨fun hK pins s σ H x y v u Q I rx ry hq0=>by
    obtain ⟨Φ,dx,dy,R,sm,hx,hy,q,k⟩:=hq0
    cases dx with
    | int i =>
      cases dy with
      | int j=>cases hx.int;cases hy.int;exact h pins s σ H _ _ v u Q I rx ry ⟨i,j,rfl,rfl,k _ Φ H _ q (.refl sm) (.int _)⟩
      | _=>exact q.elim
    | _=>exact q.elim⟩
theorem qjI {f:Value→Value→Sem Value} {g:Int→Int→Bool} (h:OpR X f (rI0 fun i j=>.bl (g i j))):OpD K X f (zI0 fun i j=>.bl (g i j)) :=
  ⟨fun hK pins s σ H x y v u Q I rx ry hq0=>by
    obtain ⟨Φ,dx,dy,R,sm,hx,hy,q,k⟩:=hq0
    cases dx with
    | int i =>
      cases dy with
      | int j=>cases hx.int;cases hy.int;exact h pins s σ H _ _ v u Q I rx ry ⟨i,j,rfl,rfl,k _ Φ H _ q (.refl sm) (.bl _)⟩
      | _=>exact q.elim
    | _=>exact q.elim⟩
theorem qfb:OpD K X (binaryOp .Sub) (zI0 fun i j=>.int (i - j)):=qlz qm4
theorem qjG:OpD K X (binaryOp .FloorDiv) (zI CDivB fun i j=>.int (i / j)):=qkJ qiJ
theorem qc6:OpD K X (binaryOp .Mod) (zI (fun _ j=>0<j) fun i j=>.int (i % j)):=qkJ qmG
theorem qnb:OpD K X (binaryOp .Pow) (zI qoW fun i j=>.int (i ^ j.toNat)):=qkJ qlO
theorem qj4:OpD K X (compareOp .Lt) (zI0 fun i j=>.bl (decide (i<j))):=qjI qnE
theorem qkx:OpD K X (compareOp .Gt) (zI0 fun i j=>.bl (decide (j<i))):=qjI qof
def qpF:RD2:=fun x y R=>match x,y with
  | .int i,.int j=>IntMulOk i j∧R (.int (i*j))
  | .lst xs,.int k=>(-(2 ^ 63)≤k∧k<2 ^ 63∧xs.length*k.toNat≤sizeLine)∧NF (List.replicate k.toNat xs).flatten fun zs=>R (.lst zs)
  | .tup xs,.int k=>(xs≠[]∧0≤k∧k≤1000∧k.toNat*xs.length≤1000)∧NF (List.replicate k.toNat xs).flatten fun zs=>R (.tup zs)
  | .str z,.int k=>(-(2 ^ 62)≤k∧k<2 ^ 62∧z.length*k.toNat≤sizeLine∧z.length≤sizeLine)∧NF (qik z k.toNat) fun y=>R (.str y)
  | _,_=>False
theorem qbJ:OpD K X (binaryOp .Mult) qpF:=⟨fun hK pins s σ H x y v u Q I rx ry hq0=>by
  obtain ⟨Φ,dx,dy,R,sm,hx,hy,h,k⟩:=hq0
  cases dx with
  | int i =>
    cases dy with
    | int j=>cases hx.int;cases hy.int;exact qkw pins s σ H _ _ v u Q I rx ry ⟨i,j,rfl,rfl,h.1,k _ Φ H _ h.2 (.refl sm) (.int _)⟩
    | _=>exact h.elim
  | lst xs =>
    cases dy with
    | int j =>
      obtain ⟨a,vs,rfl,h1,h2⟩:=hx.lst sm
      cases hy.int
      exact qmD pins s σ H _ _ v u Q I rx ry ⟨a,j,vs,rfl,rfl,h1,h.1.1,h.1.2.1,by rw [h2.1];exact h.1.2.2,fun p hp=>k _ _ _ _ h.2.get (.new sm hp _) (((h2.rep _).same (qaG (sm.free hp) _)).lst qaj)⟩
    | _=>exact h.elim
  | tup xs =>
    cases dy with
    | int j =>
      obtain ⟨a,vs,rfl,h1,h1',h2⟩:=hx.tup sm
      cases hy.int
      have hne:vs≠[]:=fun e=>h.1.1 (List.length_eq_zero_iff.mp (by rw [← h2.1,e];rfl))
      exact qj5 pins s σ H _ _ v u Q I rx ry ⟨a,j,vs,rfl,rfl,sm _ _ h1',hne,h.1.2.1,h.1.2.2.1,by rw [h2.1];exact h.1.2.2.2,fun p H' s' q=>by
        obtain ⟨Φ',g,q'⟩:=Gr.adoptT sm s' q
        exact k _ Φ' H' _ h.2.get g (((h2.rep _).same g.f).tup q')⟩
    | _=>exact h.elim
  | str z =>
    cases dy with
    | int j =>
      cases hx.str
      cases hy.int
      exact qkW pins s σ H _ _ v u Q I rx ry ⟨z,j,rfl,rfl,h.1.1,h.1.2.1,h.1.2.2.1,h.1.2.2.2,k _ Φ H _ h.2.get (.refl sm) (.str _)⟩
    | _=>exact h.elim
  | _=>exact h.elim⟩
end
def cmL (f:D→D→Option Bool):List D→List D→Option Bool
  | [],[]=>some true
  | x::xs,y::ys=>(f x y).bind fun b=>(cmL f xs ys).map (b && ·)
  | _,_=>some false
def cmB:Nat→D→D→Option Bool
  | _,.int i,.int j=>some (i == j)
  | _,.bl i,.bl j=>some (i == j)
  | _,.str i,.str j=>some (i == j)
  | _,.non,.non=>some true
  | n+1,.tup xs,.tup ys=>cmL (cmB n) xs ys
  | n+1,.lst xs,.lst ys=>if xs.length=ys.length then cmL (cmB n) xs ys else some false
  | _,_,_=>none
theorem qdy {f:D→D→Option Bool}:∀ {xs ys:List D} {b:Bool},cmL f xs ys=some b→∃ g:Nat→Bool,(∀ (j:Nat) (x y:D),xs[j]?=some x→ys[j]?=some y→f x y=some (g j))∧b=((List.range (min xs.length ys.length)).all g && xs.length == ys.length)
  | [],[],b,h=>by cases h;exact ⟨fun _=>true,fun j x y hx=>by simp at hx,by simp⟩
  | [],_::_,b,h=>by cases h;exact ⟨fun _=>true,fun j x y hx=>by simp at hx,by simp⟩
  | _::_,[],b,h=>by cases h;exact ⟨fun _=>true,fun j x y _ hy=>by simp at hy,by simp⟩
  | x::xs,y::ys,b,h=>by
    unfold cmL at h
    cases e:f x y with
    | none=>rw [e] at h;cases h
    | some c =>
      cases e2:cmL f xs ys with
      | none=>rw [e,e2] at h;cases h
      | some c2 =>
        rw [e,e2] at h
        cases h
        obtain ⟨g,h1,h2⟩:=qdy e2
        refine ⟨fun j=>match j with | 0=>c | j+1=>g j,fun j u v hu hv=>?_,?_⟩
        · cases j with
          | zero=>cases hu;cases hv;exact e
          | succ j=>exact h1 j u v hu hv
        · have em:min (x::xs).length (y::ys).length=min xs.length ys.length+1:=by simp only [List.length_cons];omega
          have el:((x::xs).length == (y::ys).length)=(xs.length == ys.length):=by simp
          rw [em,el,List.range_succ_eq_map,List.all_cons,List.all_map,h2,Bool.and_assoc]
          rfl
section
variable {K : PySem.W.Frag} {X : Cx} {pins : List (Addr × Obj)} {σ : St} {Φ H : Hp} {s : Shared}
theorem qmg {n:Nat} {g:Nat→Bool} (h:∀ j,j<n→g j=true):(List.range n).all g=true:=by
  rw [List.all_eq_true]
  intro j hj
  exact h j (List.mem_range.mp hj)
theorem qaF {α:Type} {xs:List α} {j:Nat} (h:j<xs.length):xs[j]?=some xs[j]:=by simp [h]
theorem qhv (hK:X.K=K) (I:Inv X pins σ H s) (sm:Same Φ H):∀ (n:Nat) {d e:D} {b:Bool} {v:V},cmB n d e=some b→Rp K Φ d v→Rp K Φ e v→b=true:=by
  intro n
  induction n with
  | zero =>
    intro d e b v h r1 r2
    cases r1 with
    | int i=>cases r2;have h':some (i == i)=some b:=h;cases h';simp
    | bl i=>cases r2;have h':some (i == i)=some b:=h;cases h';simp
    | str i=>cases r2;have h':some (i == i)=some b:=h;cases h';simp
    | non=>cases r2;cases h;rfl
    | tup _ _ _=>cases r2 <;> cases h
    | lst _ _ _=>cases r2 <;> cases h
    | fzl _ _ _=>cases r2 <;> cases h
    | obj _ _ _ _=>cases r2 <;> cases h
    | map _ _ _=>cases r2 <;> cases h
    | exc0 _ _=>cases r2 <;> cases h
    | exc1 _ _ _ _=>cases r2 <;> cases h
  | succ n ih =>
    intro d e b v h r1 r2
    cases r1 with
    | int i=>cases r2;have h':some (i == i)=some b:=h;cases h';simp
    | bl i=>cases r2;have h':some (i == i)=some b:=h;cases h';simp
    | str i=>cases r2;have h':some (i == i)=some b:=h;cases h';simp
    | non=>cases r2;cases h;rfl
    | @tup a vs xs h1 h2 h3=>cases r2 with
      | @tup _ ws ys k1 k2 k3 =>
        have hvw:vs=ws:=I.tuple_inj (.of (sm _ _ h1)) (.of (sm _ _ k1))
        subst hvw
        obtain ⟨g,hg,hb⟩:=qdy (show cmL (cmB n) xs ys=some b from h)
        rw [hb,qmg fun j hj=>?_]
        · simp;omega
        · have j0:j<vs.length:=by omega
          have j1:j<xs.length:=by omega
          have j2:j<ys.length:=by omega
          exact ih (hg j _ _ (qaF j1) (qaF j2)) (h3 j _ _ (qaF j0) (qaF j1)) (k3 j _ _ (qaF j0) (qaF j2))
      | _=>cases h
    | @lst a vs xs h1 h2 h3=>cases r2 with
      | @lst _ ws ys k1 k2 k3 =>
        have hvw:vs=ws:=by rw [h1] at k1;cases k1;rfl
        subst hvw
        have h':(if xs.length=ys.length then cmL (cmB n) xs ys else some false)=some b:=h
        rw [if_pos (by omega)] at h'
        obtain ⟨g,hg,hb⟩:=qdy h'
        rw [hb,qmg fun j hj=>?_]
        · simp;omega
        · have j0:j<vs.length:=by omega
          have j1:j<xs.length:=by omega
          have j2:j<ys.length:=by omega
          exact ih (hg j _ _ (qaF j1) (qaF j2)) (h3 j _ _ (qaF j0) (qaF j1)) (k3 j _ _ (qaF j0) (qaF j2))
      | _=>cases h
    | fzl _ _ _=>cases r2 <;> cases h
    | obj _ _ _ _=>cases r2 <;> cases h
    | map _ _ _=>cases r2 <;> cases h
    | exc0 _ _=>cases r2 <;> cases h
    | exc1 _ _ _ _=>cases r2 <;> cases h
open PySem.SeqAt in
theorem qhG {n:Nat} {d e:D} {b:Bool} {x y:V} (h:cmB n d e=some b) (rx:Rp K Φ d x) (ry:Rp K Φ e y) (hf:(∀ a,x≠.ref a)) {A:Around} {u v:Value} (ru:RelV x u) (rv:RelV y v):EqAt A s u v b∧RcAt A s u v b∧RcNeAt A s u v (!b):=by
  cases rx with
  | int i=>cases ry with
    | int j =>
      obtain ⟨t,rfl⟩:=ru;obtain ⟨t',rfl⟩:=rv
      have h':some (i == j)=some b:=by cases n <;> exact h
      cases h'
      exact ⟨EqAt.int_int i t j t',RcAt.int_int i t j t',RcNeAt.int_int i t j t'⟩
    | _=>cases n <;> cases h
  | bl i=>cases ry with
    | bl j =>
      cases ru;cases rv
      have h':some (i == j)=some b:=by cases n <;> exact h
      cases h'
      exact ⟨EqAt.bool_bool i j,RcAt.bool_bool i j,RcNeAt.bool_bool i j⟩
    | _=>cases n <;> cases h
  | str i=>cases ry with
    | str j =>
      obtain ⟨t,rfl⟩:=ru;obtain ⟨t',rfl⟩:=rv
      have h':some (i == j)=some b:=by cases n <;> exact h
      cases h'
      exact ⟨EqAt.str_str i t j t',RcAt.str_str i t j t',RcNeAt.str_str i t j t'⟩
    | _=>cases n <;> cases h
  | non=>cases ry with
    | non =>
      cases ru;cases rv
      have h':some true=some b:=by cases n <;> exact h
      cases h'
      exact ⟨EqAt.same _,RcAt.none_none,RcNeAt.none_none⟩
    | _=>cases n <;> cases h
  | tup _ _ _=>exact absurd rfl (hf _)
  | lst _ _ _=>exact absurd rfl (hf _)
  | fzl _ _ _=>exact absurd rfl (hf _)
  | obj _ _ _ _=>exact absurd rfl (hf _)
  | map _ _ _=>exact absurd rfl (hf _)
  | exc0 _ _=>exact absurd rfl (hf _)
  | exc1 _ _ _ _=>exact absurd rfl (hf _)
open PySem.SeqAt in
theorem qjK (hK:X.K=K) (I:Inv X pins σ H s) (sm:Same Φ H):∀ (n:Nat) {d e:D} {b:Bool} {x y:V},cmB n d e=some b→Rp K Φ d x→Rp K Φ e y →
    ∀ (A:Around) (u v:Value),A.units+n<cLine→RelV x u→RelV y v→EqAt A s u v b∧RcAt A s u v b∧RcNeAt A s u v (!b):=by
  intro n
  induction n with
  | zero =>
    intro d e b x y h rx ry A u v hu ru rv
    refine qhG h rx ry (fun a ea=>?_) ru rv
    subst ea
    cases rx <;> cases ry <;> cases h
  | succ n ih =>
    intro d e b x y h rx ry A u v hu ru rv
    by_cases hf:∀ a,x≠.ref a
    · exact qhG h rx ry hf ru rv
    have hu':A.units<cLine:=by omega
    cases rx with
    | int i=>exact absurd (fun a e=>nomatch e) hf
    | bl i=>exact absurd (fun a e=>nomatch e) hf
    | str i=>exact absurd (fun a e=>nomatch e) hf
    | non=>exact absurd (fun a e=>nomatch e) hf
    | @tup a vs xs h1 h2 h3=>cases ry with
      | @tup c ws ys k1 k2 k3 =>
        cases ru;cases rv
        obtain ⟨g,hg,hb⟩:=qdy (show cmL (cmB n) xs ys=some b from h)
        obtain ⟨its,r1,p1,_⟩:=I.sqb (b:=false) (show SqT X.K H a vs from .of (sm _ _ h1))
        obtain ⟨its',r2,p2,_⟩:=I.sqb (b:=false) (show SqT X.K H c ws from .of (sm _ _ k1))
        have l1:=Vals.length r1
        have l2:=Vals.length r2
        have he:∀ j (j1:j<its.toArray.size) (j2:j<its'.toArray.size),EqAt A.in1 s its.toArray[j] its'.toArray[j] (g j):=by
          intro j j1 j2
          simp only [List.size_toArray] at j1 j2
          obtain ⟨x,hx,rx⟩:=Vals.get' r1 j1
          obtain ⟨y,hy,ry⟩:=Vals.get' r2 j2
          have i1:j<xs.length:=by omega
          have i2:j<ys.length:=by omega
          exact (ih (hg j _ _ (qaF i1) (qaF i2)) (h3 j x _ hx (qaF i1)) (k3 j y _ hy (qaF i2)) A.in1 _ _ (by show A.units+1+n<cLine;omega) rx ry).1
        have R:=RcAt.tuples (e:=g) p1 p2 hu' he
        have R':=RcNeAt.tuples (e:=g) p1 p2 hu' he
        have et:((List.range (min its.toArray.size its'.toArray.size)).all g && its.toArray.size == its'.toArray.size)=b:=by
          rw [hb]
          simp only [List.size_toArray]
          rw [← l1,← l2,h2,k2]
        rw [et] at R R'
        refine ⟨?_,R,R'⟩
        by_cases hab:a=c
        · subst hab
          rw [qhv hK I sm (n+1) h (.tup h1 h2 h3) (.tup k1 k2 k3)];exact EqAt.same _
        · exact EqAt.of_refs hab R
      | _=>cases h
    | @lst a vs xs h1 h2 h3=>cases ry with
      | @lst c ws ys k1 k2 k3 =>
        cases ru;cases rv
        have h':(if xs.length=ys.length then cmL (cmB n) xs ys else some false)=some b:=h
        obtain ⟨its,r1,p1,_⟩:=I.sqb (b:=true) (show SqL X.K H a vs from SqL.of (sm _ _ h1))
        obtain ⟨its',r2,p2,_⟩:=I.sqb (b:=true) (show SqL X.K H c ws from SqL.of (sm _ _ k1))
        have l1:=Vals.length r1
        have l2:=Vals.length r2
        have fin:RcAt A s (.ref a) (.ref c) b∧RcNeAt A s (.ref a) (.ref c) (!b):=by
          by_cases hl:xs.length=ys.length
          · rw [if_pos hl] at h'
            obtain ⟨g,hg,hb⟩:=qdy h'
            have he:∀ j (j1:j<its.toArray.size) (j2:j<its'.toArray.size),EqAt A.in1 s its.toArray[j] its'.toArray[j] (g j):=by
              intro j j1 j2
              simp only [List.size_toArray] at j1 j2
              obtain ⟨x,hx,rx⟩:=Vals.get' r1 j1
              obtain ⟨y,hy,ry⟩:=Vals.get' r2 j2
              have i1:j<xs.length:=by omega
              have i2:j<ys.length:=by omega
              exact (ih (hg j _ _ (qaF i1) (qaF i2)) (h3 j x _ hx (qaF i1)) (k3 j y _ hy (qaF i2)) A.in1 _ _ (by show A.units+1+n<cLine;omega) rx ry).1
            have hsz:its.toArray.size=its'.toArray.size:=by simp;omega
            have R:=RcAt.lists (e:=g) p1 p2 hsz hu' he
            have R':=RcNeAt.lists (e:=g) p1 p2 hsz hu' he
            have et:(List.range its.toArray.size).all g=b:=by
              have e1:min xs.length ys.length=its.length:=by omega
              have e2:(xs.length == ys.length)=true:=by simp [hl]
              rw [hb,e1,e2,Bool.and_true,List.size_toArray]
            rw [et] at R R'
            exact ⟨R,R'⟩
          · rw [if_neg hl] at h'
            cases h'
            have hsz:(its.toArray.size != its'.toArray.size)=true:=by simp;omega
            exact ⟨RcAt.lists_lengths p1 p2 hsz hu',RcNeAt.lists_lengths p1 p2 hsz hu'⟩
        refine ⟨?_,fin.1,fin.2⟩
        by_cases hab:a=c
        · subst hab
          rw [qhv hK I sm (n+1) h (.lst h1 h2 h3) (.lst k1 k2 k3)];exact EqAt.same _
        · exact EqAt.of_refs hab fin.1
      | _=>cases h
    | fzl _ _ _=>cases ry <;> cases h
    | obj _ _ _ _=>cases ry <;> cases h
    | map _ _ _=>cases ry <;> cases h
    | exc0 _ _=>cases ry <;> cases h
    | exc1 _ _ _ _=>cases ry <;> cases h
end
def zEq:RD2:=fun x y R=>match cmB 40 x y with | some b=>R (.bl b) | none=>False
def zNe:RD2:=fun x y R=>match cmB 40 x y with | some b=>R (.bl (!b)) | none=>False
section
variable {K : PySem.W.Frag} {X : Cx}
theorem RpQ.any {Φ H:Hp} {d:D} {v:V} (h:RpQ K Φ H d v) (s:Same Φ H):Rp K H d v:=by
  rcases h with h | ⟨a,vs,ds,e,e2,h1,h2⟩
  · exact h.same s
  · subst e e2;exact (h2.same s).lst h1
theorem qiz (hu:X.A.units+64<cLine):OpD K X (compareOp .Eq) zEq:=⟨fun hK pins s σ H x y u v Q I rx ry hq0=>by
  obtain ⟨Φ,dx,dy,R,sm,hx,hy,h,k⟩:=hq0
  unfold zEq at h
  split at h
  · next b hb=>exact (qjK hK I (Same.refl H) 40 hb (hx.any sm) (hy.any sm) X.A u v (by omega) rx ry).2.1 X.prog X.w _ _ ⟨.bl b,H,I,rfl,k _ Φ H _ h (.refl sm) (.bl b)⟩
  · exact h.elim⟩
theorem qm5 (hu:X.A.units+64<cLine):OpD K X (compareOp .NotEq) zNe:=⟨fun hK pins s σ H x y u v Q I rx ry hq0=>by
  obtain ⟨Φ,dx,dy,R,sm,hx,hy,h,k⟩:=hq0
  unfold zNe at h
  split at h
  · next b hb=>exact (qjK hK I (Same.refl H) 40 hb (hx.any sm) (hy.any sm) X.A u v (by omega) rx ry).2.2 X.prog X.w _ _ ⟨.bl (!b),H,I,rfl,k _ Φ H _ h (.refl sm) (.bl _)⟩
  · exact h.elim⟩
def qlo:D→Bool
  | .non=>true
  | _=>false
def zIs (neg:Bool):RD2:=fun x y R=>match y with | .non=>R (.bl (qlo x != neg)) | .bl b=>(match x with | .bl a=>R (.bl ((a == b) != neg)) | _=>False) | _=>False
theorem qkj {Φ H:Hp} {d:D} {v:V} (h:RpQ K Φ H d v):decide (v=V.non)=qlo d:=by
  cases d with
  | int i=>rw [h.int];rfl
  | bl i=>rw [h.bl];rfl
  | str i=>rw [h.str];rfl
  | non=>rw [h.non];rfl
  | tup ds => rcases h with h | ⟨a, vs, ds, e, _⟩
              · cases h;rfl
              · cases e
  | lst ds => rcases h with h | ⟨a, vs, ds, e, e2, _⟩
              · cases h;rfl
              · rw [e2];rfl
  | fzl ds => rcases h with h | ⟨a, vs, ds, e, _⟩
              · cases h;rfl
              · cases e
  | obj C fs => rcases h with h | ⟨a, vs, ds, e, _⟩
                · cases h;rfl
                · cases e
  | map kvs => rcases h with h | ⟨a, vs, ds, e, _⟩
               · cases h;rfl
               · cases e
  | exc _ _ => rcases h with h | ⟨a, vs, ds, e, _⟩
               · cases h <;> rfl
               · cases e
theorem qcT:OpD K X (compareOp .IsNot) (zIs true):=⟨fun hK pins s σ H x y u v Q I rx ry hq0=>by
  obtain ⟨Φ,dx,dy,R,sm,hx,hy,h,k⟩:=hq0
  cases dy with
  | non =>
    cases hy.non
    refine qkp pins s σ H _ _ u v Q I rx ry ⟨rfl,?_⟩
    rw [qkj hx]
    have h':R (.bl (qlo dx != true)):=h
    rw [Bool.bne_true] at h'
    exact k _ Φ H _ h' (.refl sm) (.bl _)
  | bl b =>
    cases hy.bl
    cases dx with
    | bl a =>
      cases hx.bl
      have h':R (.bl ((a == b) != true)):=h
      rw [Bool.bne_true] at h'
      exact qkL pins s σ H _ _ u v Q I rx ry ⟨a,b,rfl,rfl,k _ Φ H _ h' (.refl sm) (.bl _)⟩
    | _=>exact h.elim
  | _=>exact h.elim⟩
end
end L2
namespace HT
open PySem PySem.Spec PyProof.Rows
theorem getItem_tuple_all {prog:Program} {w:World} {A:Around} {E:Value→Shared→Prop} {s:Shared} {t sl:Addr} {items:Array Value} {vl vu:Value} {lo hi:Option Int} {Q:Value→Shared→Prop} (ht:IsTup s.heap t items) (hs:s.heap.IsSliceOf sl vl vu .none) (pl:IsPart vl lo) (pu:IsPart vu hi)
    (hw:sIx items.size 0 lo=0∧sIx items.size items.size hi=items.size) (h:Q (.ref t) s):wpAny (model prog w) A (getItem (.ref t) (.ref sl)) Q E s:=by
  obtain ⟨os,hos,hcs,hds⟩:=id hs
  have hTs:s.TypeIs (.ref sl) "slice":=⟨os,hos,hcs⟩
  unfold getItem
  try with_reducible refine wpAny_holding ?_
  first | refine wpAny_bind (wpAny_pure ?_) | skip
  refine wpAny_bind (wpAny_sequenceKey ht.typeIs (by decide) ?_)
  refine wpAny_bind (wpAny_callSpecial?_slot (name:=Str.ofString "__getitem__") ht.typeIs PyProof.Rows.slot_tuple_getitem
    (wpAny_call_entry PyProof.Rows.slot_tuple_getitem ht.typeIs entry_tuple_getitem ?_ (args_tuple_getitem _ _)))
  show wpAny _ _ (Builtin.Tuple.tupleItemsOf (.ref t) >>= _) _ _ s
  refine wpAny_bind (tupleItemsOf_ ht ?_)
  refine wpAny_bind (wpAny_typeOf hTs ?_)
  rw [if_pos (by decide)]
  refine wpAny_bind (qbR hs pl pu ?_)
  have hyes:(((sIx items.size 0 lo:Nat):Int) == 0 && (1:Int) == 1 && (sIx items.size items.size hi - sIx items.size 0 lo) == items.size)=true:=by
    rw [hw.1,hw.2]
    simp
  show wpAny _ _ (if (((sIx items.size 0 lo:Nat):Int) == 0 && (1:Int) == 1 && (sIx items.size items.size hi - sIx items.size 0 lo) == items.size)=true then _ else _) _ _ s
  rw [if_pos hyes]
  refine wpAny_bind (show wpAny _ _ (typeOf (.ref t) >>= fun c=>pure (c == .type "tuple")) _ _ s from wpAny_bind (wpAny_typeOf ht.typeIs (wpAny_pure ?_)))
  rw [if_pos (by decide)]
  exact wpAny_bind (wpAny_rule (wpAny_pure ⟨_,rfl,wpAny_pure h⟩))
end HT
namespace L2
open PySem PySem.Spec PyProof.Rows
section
variable {K : PySem.W.Frag} {X : Cx} {e a b c : Expr} {es : List Expr} {pos p2 : Pos} {t ta tb : TD} {tf : TDL} {tl : TDL} {tt tu : TDB}
def zIx:RD2:=fun x y R=>match y with
  | .int i=>(match x with
    | .lst ds=>∃ d,atI ds i=some d∧R d
    | .tup ds=>∃ d,atI ds i=some d∧R d
    | .fzl ds=>∃ d,atI ds i=some d∧R d
    | .str z=>z.length≤sizeLine∧∃ c,atI z.cps.toList i=some c∧R (.str ⟨#[c]⟩)
    | _=>False)
  | _=>False
theorem qkv {Φ:Hp} {ds:List D} {vs:List V} {d:D} {i:Int} (h:RpL K Φ ds vs) (e:atI ds i=some d):∃ v,atI vs i=some v∧Rp K Φ d v:=by
  unfold atI at e ⊢
  rw [h.1]
  cases hj:ixN ds.length i with
  | none=>rw [hj] at e;cases e
  | some j =>
    rw [hj,Option.bind_some] at e
    rw [Option.bind_some]
    exact h.at e
theorem qpt (hK:X.K=K):IxR X (lR2 K zIx):=by
  intro value slice pins s σ H x y v u Q I rx ry ⟨Φ,dx,dy,R,sm,hx,hy,h,k⟩ hs
  cases dy with
  | int i =>
    cases hy.int
    cases dx with
    | lst ds =>
      obtain ⟨d,h1,h2⟩:=h
      obtain ⟨a,vs,rfl,q1,q2⟩:=hx.lst sm
      obtain ⟨w,hw,rw'⟩:=qkv q2 h1
      exact qie value slice pins s σ H _ _ v u Q I rx ry ⟨a,vs,i,w,rfl,rfl,.of q1,hw,k _ Φ H _ h2 (.refl sm) rw'⟩ hs
    | tup ds =>
      obtain ⟨d,h1,h2⟩:=h
      obtain ⟨a,vs,rfl,q1,_,q2⟩:=hx.tup sm
      obtain ⟨w,hw,rw'⟩:=qkv q2 h1
      exact qmV value slice pins s σ H _ _ v u Q I rx ry ⟨a,vs,i,w,rfl,rfl,hK ▸ q1,hw,k _ Φ H _ h2 (.refl sm) rw'⟩ hs
    | fzl ds =>
      obtain ⟨d,h1,h2⟩:=h
      obtain ⟨a,vs,rfl,q1,q2⟩:=hx.fzl sm
      obtain ⟨w,hw,rw'⟩:=qkv q2 h1
      exact qie value slice pins s σ H _ _ v u Q I rx ry ⟨a,vs,i,w,rfl,rfl,hK ▸ q1,hw,k _ Φ H _ h2 (.refl sm) rw'⟩ hs
    | str z =>
      obtain ⟨h0,c,h1,h2⟩:=h
      cases hx.str
      exact ql6 value slice pins s σ H _ _ v u Q I rx ry ⟨z,i,c,rfl,rfl,h0,h1,k _ Φ H _ h2 (.refl sm) (.str _)⟩ hs
    | _=>exact h.elim
  | _=>exact h.elim
theorem qaS (ha:PQ K X a ta) (hb:PQ K X b tb) (hs:qg7 b):PD K X (.Subscript a b pos) (dOp zIx ta tb) :=
  ⟨fun hK=>(qnJ (qpt hK) (ha.pe hK) (hb.pe hK) hs).imp fun _ _ _=>qek⟩
abbrev TOD:=Rho→(Option Int→Prop)→Prop
def lO (K:PySem.W.Frag) (t:TOD):TO:=fun σ H Q=>∃ H0 Φ ρ R,EnvD K H0 Φ H σ ρ∧t ρ R∧∀ o Φ' H',R o→Gr Φ H Φ' H'→Q o H'
structure POD (K:PySem.W.Frag) (X:Cx) (e:Option Expr) (t:TOD):Prop where po:X.K=K→PO X e (lO K t)
def qoE:TOD:=fun _ R=>R none
def qn8 (t:TD):TOD:=fun ρ R=>t ρ fun d=>match d with | .int i=>R (some i) | _=>False
theorem PO.imp {o:Option Expr} {t t':TO} (h:PO X o t) (k:∀ σ H Q,t' σ H Q→t σ H Q):PO X o t':=fun pins s σ H Q I hw=>h pins s σ H Q I (k σ H Q hw)
theorem qdA:POD K X none qoE:=⟨fun _=>po_none.imp fun σ H Q hq0=>by obtain ⟨H0,Φ,ρ,R,E,t,k⟩:=hq0;exact k none Φ H t (.refl E.fz)⟩
theorem qa8 (h:PQ K X e t):POD K X (some e) (qn8 t):=⟨fun hK=>(qkO (h.pe hK)).imp fun σ H Q hq0=>by obtain ⟨H0,Φ,ρ,R,E,t,k⟩:=hq0;exact ⟨H0,Φ,ρ,_,E,t,fun d Φ1 H1 v r g rv=>by
  cases d with
  | int i=>exact ⟨i,rv.int,k _ Φ1 H1 r g⟩
  | _=>exact r.elim⟩⟩
variable {lo hi : Option Expr} {to tp : TOD}
def qoK (K:PySem.W.Frag):V→Option Int→Option Int→Hp→VK→Prop:=fun x lo hi H Q=>∃ a xs,x=.ref a∧SqT K H a xs∧(HT.sIx xs.length 0 lo=0∧HT.sIx xs.length xs.length hi=xs.length)∧Q (.ref a) H
theorem sl_all:SlR X (qoK X.K):=by
  intro pins s σ H x v vl vu lo hi sl Q I rx hs pl pu h
  obtain ⟨a,xs,rfl,hx,hw,q⟩:=h
  cases rx
  obtain ⟨its,r,ht,hz⟩:=I.tuple hx
  have hlen:its.toArray.size=xs.length:=by rw [List.size_toArray];exact r.length.symm
  refine ⟨"tuple",_,PyProof.Rows.slot_tuple_getitem.lookup,ht.typeIs,?_⟩
  exact HT.getItem_tuple_all ht hs pl pu (by rw [hlen];exact hw) ⟨.ref a,H,I,rfl,q⟩
theorem qk0 {α:Type} {xs:List α} {l h:Option Int} (hw:HT.sIx xs.length 0 l=0∧HT.sIx xs.length xs.length h=xs.length):qca xs l h=xs:=by
  unfold qca
  rw [hw.1,hw.2,List.drop_zero,Nat.sub_zero,List.take_length]
def zSl (x:D) (l h:Option Int) (R:D→Prop):Prop:=match x with
  | .lst ds=>NF (qca ds l h) fun zs=>R (.lst zs)
  | .fzl ds=>NF (qca ds l h) fun zs=>R (.lst zs)
  | .tup ds=>NF (qca ds l h) fun zs=>R (.tup zs)
  | .str z=>z.length≤sizeLine∧NF (qmH z l h) fun y=>R (.str y)
  | _=>False
def dSl (t:TD) (to tp:TOD):TD:=fun ρ R=>t ρ fun x=>to ρ fun l=>tp ρ fun h=>zSl x l h R
theorem qgX (ha:PQ K X a ta) (hl:POD K X lo to) (hh:POD K X hi tp):PD K X (.Subscript a (.Slice lo hi none p2) pos) (dSl ta to tp) :=
  ⟨fun hK=>(qiV (hK ▸ sl_list.or (sl_tup.or (sl_all.or qmA)):SlR X (fun x lo hi H Q=>qoP K x lo hi H Q∨qo2 K x lo hi H Q∨qoK K x lo hi H Q∨qoZ x lo hi H Q)) (ha.pe hK) (hl.po hK) (hh.po hK)).imp fun σ H Q hq0=>by obtain ⟨H0,Φ,ρ,R,E,t,k⟩:=hq0;exact
    ⟨H0,Φ,ρ,_,E,t,fun dx Φ1 H1 x t1 g1 rx=>⟨H0,Φ1,ρ,_,E.gr g1,t1,fun l Φ2 H2 t2 g2=>⟨H0,Φ2,ρ,_,(E.gr g1).gr g2,t2,fun h Φ3 H3 t3 g3=>by
      have g:=(g1.trans g2).trans g3
      have rx3:=rx.gr (g2.trans g3)
      cases dx with
      | lst ds =>
        obtain ⟨a,vs,rfl,q1,q2⟩:=rx3.lst g.s
        exact .inl ⟨a,vs,rfl,.of q1,fun p hp=>k _ _ _ _ t3.get (g.trans (.new g.s hp _)) (((q2.cut l h).same (qaG (g.s.free hp) _)).lst qaj)⟩
      | fzl ds =>
        obtain ⟨a,vs,rfl,q1,q2⟩:=rx3.fzl g.s
        exact .inl ⟨a,vs,rfl,q1,fun p hp=>k _ _ _ _ t3.get (g.trans (.new g.s hp _)) (((q2.cut l h).same (qaG (g.s.free hp) _)).lst qaj)⟩
      | tup ds =>
        obtain ⟨a,vs,rfl,q1,q0,q2⟩:=rx3.tup g.s
        by_cases hw:HT.sIx vs.length 0 l=0∧HT.sIx vs.length vs.length h=vs.length
        · refine .inr (.inr (.inl ⟨a,vs,rfl,q1,hw,?_⟩))
          have e:qca ds l h=ds:=qk0 (by rw [← q2.1];exact hw)
          have t4:=t3.get
          rw [e] at t4
          exact k _ _ _ _ t4 g (q2.tup q0)
        · exact .inr (.inl ⟨a,vs,rfl,q1,hw,fun p hp=>k _ _ _ _ t3.get (g.trans (.new g.s hp _)) (((q2.cut l h).same (qaG (g.s.free hp) _)).tup qaj)⟩)
      | str z =>
        cases rx3.str
        exact .inr (.inr (.inr ⟨z,rfl,t3.1,k _ _ _ _ t3.2.get g (.str _)⟩))
      | _=>exact t3.elim⟩⟩⟩⟩
abbrev SpD:=List D→(D→Prop)→Prop
def lSp (K:PySem.W.Frag) (sp:SpD):Sp:=fun vs H Q _=>∃ Φ ds R,Same Φ H∧TabF K Φ∧RpL K Φ ds vs∧sp ds R∧∀ d Φ' H' v,R d→Gr Φ H Φ' H'→Rp K Φ' d v→Q v H'
def qhp (sp:SpD) (t:TDL):TD:=fun ρ R=>t ρ fun ds=>sp ds R
variable {CX : CXT} {k : Nat} {f : Addr} {fd : FuncData} {ps : List Str} {sp : SpD} {x : Str} {p : Pos} {E : XK}
theorem qlU (F:FnOk X.prog X.w X.K X.mg X.base CX k f fd ps (lSp K sp)) (hr:Room k X.A) (hg:Gl X x) (hm:X.mg x=some (.ref f)) (hk:PySem.W.keepIn X.K (.ref f)=true) (hb:Binds X.K fd ps []) (hx:qf8 CX X E)
    (ha:PAD K X (e::es) tl) (he:starEach (e::es) X.env=(false,eval e X.env)::starEach es X.env) (hpl:(backTo pos (starEach es X.env)).any (·.1)=false) (hdb:(x == ("__debug__":Str))=false:=by decide) :
    PD K X (.Call (.Name x p) (e::es) [] pos) (qhp sp tl) :=
  ⟨fun hK=>(qkq F hr hg hm hk hb .nil hx (ha.pa hK) hdb he hpl).imp fun σ H Q hq0=>by obtain ⟨H0,Φ,ρ,R,E,t,k⟩:=hq0;exact ⟨H0,Φ,ρ,_,E,t,fun ds Φ1 H1 vs r g rl _=>⟨Φ1,ds,R,g.s,E.tb.same g.f,by rw [List.append_nil];exact rl,r,fun d Φ' H' v rd g' rv=>k d Φ' H' v rd (g.trans g') rv⟩⟩⟩
def qnt (K:PySem.W.Frag) (Φ H:Hp) (ds:List D) (vs:List V):Prop:=vs.length=ds.length∧∀ (i:Nat) (v:V) (d:D),vs[i]?=some v→ds[i]?=some d→RpQ K Φ H d v
def lAQ (K:PySem.W.Frag) (t:TDL):TA:=fun σ H Q=>∃ H0 Φ ρ R,EnvD K H0 Φ H σ ρ∧t ρ R∧∀ ds Φ' H' vs,R ds→Gr Φ H Φ' H'→qnt K Φ' H' ds vs→Q vs H'
structure PAQ (K:PySem.W.Frag) (X:Cx) (es:List Expr) (t:TDL):Prop where pa:X.K=K→PA X es (lAQ K t)
theorem qaq:PAQ K X [] qoJ:=⟨fun _=>pa_nil.imp fun σ H Q hq0=>by obtain ⟨H0,Φ,ρ,R,E,t,k⟩:=hq0;exact k [] Φ H [] t (.refl E.fz) ⟨rfl,fun i v d hv _=>by simp at hv⟩⟩
theorem qam (ha:PQ K X e t) (hr:PAQ K X es tl) (hs:starEach (e::es) X.env=(false,eval e X.env)::starEach es X.env):PAQ K X (e::es) (qmR t tl) :=
  ⟨fun hK=>(qaZ (ha.pe hK) (hr.pa hK) hs).imp fun σ H Q hq0=>by obtain ⟨H0,Φ,ρ,R,E,t,k⟩:=hq0;exact ⟨H0,Φ,ρ,_,E,t,fun d Φ1 H1 v r g rv=>⟨H0,Φ1,ρ,_,E.gr g,r,fun ds Φ2 H2 vs r2 g2 rl =>
    k _ Φ2 H2 _ r2 (g.trans g2) ⟨by simp [rl.1],fun i u d hu hd=>by
      cases i with
      | zero=>cases hu;cases hd;exact rv.gr g2
      | succ i=>exact rl.2 i u d hu hd⟩⟩⟩⟩
def lC (K:PySem.W.Frag) (r:SpD):List V→Hp→VK→Prop:=fun vs H Q=>∃ Φ ds R,Same Φ H∧qnt K Φ H ds vs∧r ds R∧∀ d Φ' H' v,R d→Gr Φ H Φ' H'→Rp K Φ' d v→Q v H'
structure CallD (K:PySem.W.Frag) (X:Cx) (f:Value) (r:SpD):Prop where c:X.K=K→qci X f (lC K r)
theorem qau {id:String} {r:SpD} (hc:CallD K X (.builtin id) r) (hg:Gl X x) (hm:X.mg x=none) (hv:bootBuiltins x=some (.builtin id)) (ha:PAQ K X (e::es) tl)
    (he:starEach (e::es) X.env=(false,eval e X.env)::starEach es X.env) (hpl:(backTo pos (starEach es X.env)).any (·.1)=false) (hn:x≠"__name__":=by decide) (hdb:(x == ("__debug__":Str))=false:=by decide):PD K X (.Call (.Name x p) (e::es) [] pos) (qhp r tl) :=
  ⟨fun hK=>(qcz (hc.c hK) hg hm hv (ha.pa hK) hn hdb he hpl).imp fun σ H Q hq0=>by obtain ⟨H0,Φ,ρ,R,E,t,k⟩:=hq0;exact ⟨H0,Φ,ρ,_,E,t,fun ds Φ1 H1 vs r g rl=>⟨Φ1,ds,R,g.s,rl,r,fun d Φ' H' v rd g' rv=>k d Φ' H' v rd (g.trans g') rv⟩⟩⟩
theorem qaM {T:String} {r:SpD} (hc:CallD K X (.type T) r) (hg:Gl X x) (hm:X.mg x=none) (hv:bootBuiltins x=some (.type T)) (ha:PAQ K X (e::es) tl)
    (he:starEach (e::es) X.env=(false,eval e X.env)::starEach es X.env) (hpl:(backTo pos (starEach es X.env)).any (·.1)=false) (hn:x≠"__name__":=by decide) (hdb:(x == ("__debug__":Str))=false:=by decide):PD K X (.Call (.Name x p) (e::es) [] pos) (qhp r tl) :=
  ⟨fun hK=>(qe1 (hc.c hK) hg hm hv (ha.pa hK) hn hdb he hpl).imp fun σ H Q hq0=>by obtain ⟨H0,Φ,ρ,R,E,t,k⟩:=hq0;exact ⟨H0,Φ,ρ,_,E,t,fun ds Φ1 H1 vs r g rl=>⟨Φ1,ds,R,g.s,rl,r,fun d Φ' H' v rd g' rv=>k d Φ' H' v rd (g.trans g') rv⟩⟩⟩
theorem qcg {Φ H:Hp} {d:D} {vs:List V} (h:qnt K Φ H [d] vs):∃ v,vs=[v]∧RpQ K Φ H d v:=by
  obtain ⟨h1,h2⟩:=h
  match vs,h1,h2 with
  | [v],_,h2=>exact ⟨v,rfl,h2 0 v d rfl rfl⟩
theorem qlX {Φ H:Hp} {d e:D} {vs:List V} (h:qnt K Φ H [d,e] vs):∃ v w,vs=[v,w]∧RpQ K Φ H d v∧RpQ K Φ H e w:=by
  obtain ⟨h1,h2⟩:=h
  match vs,h1,h2 with
  | [v,w],_,h2=>exact ⟨v,w,rfl,h2 0 v d rfl rfl,h2 1 w e rfl rfl⟩
def qpB:SpD:=fun ds R=>match ds with | [.lst xs]=>R (.int xs.length) | [.tup xs]=>R (.int xs.length) | [.fzl xs]=>R (.int xs.length) | [.str z]=>z.length≤sizeLine∧R (.int z.length) | _=>False
theorem qbp:CallD K X (.builtin "len") qpB:=⟨fun hK pins s σ H xs us Q I rr hq0=>by
  obtain ⟨Φ,ds,R,sm,hl,h,k⟩:=hq0
  match ds,h with
  | [.lst xs],h =>
    obtain ⟨v,rfl,r⟩:=qcg hl
    obtain ⟨a,vs,rfl,q1,q2⟩:=r.lst sm
    exact qbV pins s σ H _ us Q I rr ⟨a,vs,rfl,.inl (.of q1),by rw [q2.1];exact k _ Φ H _ h (.refl sm) (.int _)⟩
  | [.tup xs],h =>
    obtain ⟨v,rfl,r⟩:=qcg hl
    obtain ⟨a,vs,rfl,q1,_,q2⟩:=r.tup sm
    exact qbV pins s σ H _ us Q I rr ⟨a,vs,rfl,.inr (hK ▸ q1),by rw [q2.1];exact k _ Φ H _ h (.refl sm) (.int _)⟩
  | [.fzl xs],h =>
    obtain ⟨v,rfl,r⟩:=qcg hl
    obtain ⟨a,vs,rfl,q1,q2⟩:=r.fzl sm
    exact qbV pins s σ H _ us Q I rr ⟨a,vs,rfl,.inl (hK ▸ q1),by rw [q2.1];exact k _ Φ H _ h (.refl sm) (.int _)⟩
  | [.str z],h =>
    obtain ⟨v,rfl,r⟩:=qcg hl
    cases r.str
    exact qe7 pins s σ H _ us Q I rr ⟨z,rfl,h.1,k _ Φ H _ h.2 (.refl sm) (.int _)⟩⟩
def qpu:SpD:=fun ds R=>match ds with | [.int i]=>R (.int (if i<0 then -i else i)) | _=>False
theorem qob:CallD K X (.builtin "abs") qpu:=⟨fun hK pins s σ H xs us Q I rr hq0=>by
  obtain ⟨Φ,ds,R,sm,hl,h,k⟩:=hq0
  match ds,h with
  | [.int i],h =>
    obtain ⟨v,rfl,r⟩:=qcg hl
    cases r.int
    exact qi5 pins s σ H _ us Q I rr ⟨i,rfl,k _ Φ H _ h (.refl sm) (.int _)⟩⟩
def qnw:SpD:=fun ds R=>match ds with | [.int i,.int j]=>R (.int (if j>i then j else i)) | _=>False
theorem qm0 (hc:X.calm=true):CallD K X (.builtin "max") qnw:=⟨fun hK pins s σ H xs us Q I rr hq0=>by
  obtain ⟨Φ,ds,R,sm,hl,h,k⟩:=hq0
  match ds,h with
  | [.int i,.int j],h =>
    obtain ⟨v,w,rfl,r1,r2⟩:=qlX hl
    cases r1.int
    cases r2.int
    exact qh6 hc pins s σ H _ us Q I rr ⟨i,j,rfl,k _ Φ H _ h (.refl sm) (.int _)⟩⟩
theorem qkH {Φ:Hp} {ns:List Int} {vs:List V} (h:RpL K Φ (ns.map D.int) vs):vs=ns.map V.int:=by
  refine List.ext_getElem? fun i=>?_
  rw [List.getElem?_map]
  cases e:ns[i]? with
  | none =>
    have:=List.getElem?_eq_none_iff.mp e
    rw [List.getElem?_eq_none (by rw [h.1,List.length_map];exact this)]
    rfl
  | some n =>
    obtain ⟨v,hv,r⟩:=h.at (i:=i) (d:=.int n) (by rw [List.getElem?_map,e];rfl)
    cases r
    rw [hv]
    rfl
theorem qgn {Φ:Hp} {bs:List Bool} {vs:List V} (h:RpL K Φ (bs.map D.bl) vs):vs=bs.map V.bl:=by
  refine List.ext_getElem? fun i=>?_
  rw [List.getElem?_map]
  cases e:bs[i]? with
  | none =>
    have:=List.getElem?_eq_none_iff.mp e
    rw [List.getElem?_eq_none (by rw [h.1,List.length_map];exact this)]
    rfl
  | some n =>
    obtain ⟨v,hv,r⟩:=h.at (i:=i) (d:=.bl n) (by rw [List.getElem?_map,e];rfl)
    cases r
    rw [hv]
    rfl
theorem RpQ.sqb {Φ H:Hp} {d:D} {v:V} {ds:List D} (s:Same Φ H) (h:RpQ K Φ H d v) (e:qf4 d=some ds):∃ (q:Bool) (a:Addr) (vs:List V),v=.ref a∧SqB K q H a vs∧RpL K Φ ds vs:=by
  obtain ⟨a,vs,e1,h1,h2⟩:=h.seq s e
  rcases h1 with h1 | h1
  · exact ⟨true,a,vs,e1,h1,h2⟩
  · exact ⟨false,a,vs,e1,h1,h2⟩
def qo3 (f:List Bool→Bool):SpD:=fun ds R=>match ds with | [d]=>∃ bs:List Bool,qf4 d=some (bs.map D.bl)∧R (.bl (f bs)) | _=>False
theorem qlR (hc:X.calm=true):CallD K X (.builtin "all") (qo3 fun bs=>bs.all id):=⟨fun hK pins s σ H xs us Q I rr hq0=>by
  obtain ⟨Φ,ds,R,sm,hl,h,k⟩:=hq0
  match ds,h with
  | [d],⟨ns,e,h⟩ =>
    obtain ⟨v,rfl,r⟩:=qcg hl
    obtain ⟨q,a,vs,rfl,q1,q2⟩:=r.sqb sm e
    rw [qgn q2] at q1
    exact qi1 q hc pins s σ H _ us Q I rr ⟨a,ns,rfl,hK ▸ q1,k _ Φ H _ h (.refl sm) (.bl _)⟩⟩
theorem qgQ (hc:X.calm=true):CallD K X (.builtin "any") (qo3 fun bs=>bs.any id):=⟨fun hK pins s σ H xs us Q I rr hq0=>by
  obtain ⟨Φ,ds,R,sm,hl,h,k⟩:=hq0
  match ds,h with
  | [d],⟨ns,e,h⟩ =>
    obtain ⟨v,rfl,r⟩:=qcg hl
    obtain ⟨q,a,vs,rfl,q1,q2⟩:=r.sqb sm e
    rw [qgn q2] at q1
    exact qiE q hc pins s σ H _ us Q I rr ⟨a,ns,rfl,hK ▸ q1,k _ Φ H _ h (.refl sm) (.bl _)⟩⟩
def qlW:SpD:=fun ds R=>match ds with | [.lst xs]=>R (.tup xs) | [.tup xs]=>R (.tup xs) | [.fzl xs]=>R (.tup xs) | _=>False
theorem qaT:CallD K X (.type "tuple") qlW:=⟨fun hK pins s σ H xs us Q I rr hq0=>by
  obtain ⟨Φ,ds,R,sm,hl,h,k⟩:=hq0
  match ds,h with
  | [.lst xs],h =>
    obtain ⟨v,rfl,r⟩:=qcg hl
    obtain ⟨a,vs,rfl,q1,q2⟩:=r.lst sm
    exact qbN pins s σ H _ us Q I rr ⟨a,vs,rfl,.inl ⟨.of q1,fun p hp=>k _ _ _ _ h (.new sm hp _) ((q2.same (qaG (sm.free hp) _)).tup qaj)⟩⟩
  | [.fzl xs],h =>
    obtain ⟨v,rfl,r⟩:=qcg hl
    obtain ⟨a,vs,rfl,q1,q2⟩:=r.fzl sm
    exact qbN pins s σ H _ us Q I rr ⟨a,vs,rfl,.inl ⟨hK ▸ q1,fun p hp=>k _ _ _ _ h (.new sm hp _) ((q2.same (qaG (sm.free hp) _)).tup qaj)⟩⟩
  | [.tup xs],h =>
    obtain ⟨v,rfl,r⟩:=qcg hl
    obtain ⟨a,vs,rfl,q1,q3,q2⟩:=r.tup sm
    exact qbN pins s σ H _ us Q I rr ⟨a,vs,rfl,.inr ⟨hK ▸ q1,k _ Φ H _ h (.refl sm) (q2.tup q3)⟩⟩⟩
def qmw (d:D) (T:String):Option Bool:=match d with
  | .int _=>if T="int" then some true else if T="bool" then some false else if T="tuple" then some false else if T="str" then some false else none
  | .bl _=>if T="int" then some true else if T="bool" then some true else if T="tuple" then some false else none
  | .str _=>if T="str" then some true else if T="tuple" then some false else none
  | .tup _=>if T="tuple" then some true else if T="int" then some false else none
  | .lst _=>if T="tuple" then some false else if T="list" then some true else none
  | _=>none
end
structure SteadyD (K:PySem.W.Frag) (J:It) (Φ:Hp) (ds:List D):Prop where
  go:∀ i H,Same Φ H→i<ds.length→J.go i H
  yl:∀ i Φ2 H x H2 d,Same Φ Φ2→Same Φ2 H→ds[i]?=some d→J.yld i H x H2→∃ Φ3,Gr Φ2 H Φ3 H2∧Rp K Φ3 d x
  stop:∀ H,Same Φ H→J.stop ds.length H
section
variable {K : PySem.W.Frag} {Φ : Hp} {ds es : List D} {vs ws : List V} {a : Addr}
theorem qeI (h:SqL K Φ a vs) (r:RpL K Φ ds vs):SteadyD K (Itl K a) Φ ds :=
  ⟨fun i H s hi=>⟨vs,vs[i]'(by rw [r.1];exact hi),s.seq h,qaF _⟩,fun i Φ2 H x H2 d s2 s hd y=>by
    obtain ⟨e,y⟩:=y
    subst e
    exact ⟨Φ2,.refl s,(r.2 i x d (y vs ((s2.trans s).seq h)) hd).same s2⟩,fun H s=>⟨vs,s.seq h,by rw [r.1];exact Nat.le_refl _⟩⟩
theorem qfF (h:SqT K Φ a vs) (r:RpL K Φ ds vs):SteadyD K (Itt K a) Φ ds :=
  ⟨fun i H s hi=>⟨vs,vs[i]'(by rw [r.1];exact hi),s.sqt h,qaF _⟩,fun i Φ2 H x H2 d s2 s hd y=>by
    obtain ⟨e,y⟩:=y
    subst e
    exact ⟨Φ2,.refl s,(r.2 i x d (y vs ((s2.trans s).sqt h)) hd).same s2⟩,fun H s=>⟨vs,s.sqt h,by rw [r.1];exact Nat.le_refl _⟩⟩
def qcv (lo:Int) (n:Nat):List D:=(List.range n).map fun i=>D.int (lo+(i:Nat))
theorem qb6 (lo:Int) (n:Nat):(qcv lo n).length=n:=by unfold qcv;simp
theorem qe4 {lo:Int} {n i:Nat} {d:D} (h:(qcv lo n)[i]?=some d):i<n∧d=.int (lo+(i:Nat)):=by
  have hi:i<n:=by have:=qao h;rwa [qb6] at this
  unfold qcv at h
  rw [List.getElem?_map,List.getElem?_range hi] at h
  cases h
  exact ⟨hi,rfl⟩
theorem qeg {lo:Int} {n:Nat}:SteadyD K (Itr lo n) Φ (qcv lo n) :=
  ⟨fun i H s hi=>by rw [qb6] at hi;exact hi,fun i Φ2 H x H2 d s2 s hd y=>by
    obtain ⟨e,y⟩:=y
    subst e y
    rw [(qe4 hd).2]
    exact ⟨Φ2,.refl s,.int _⟩,fun H s=>by rw [qb6];exact Nat.le_refl n⟩
def qez (ds:List D):List D:=ds.zipIdx.map fun p=>.tup [.int (p.2:Nat),p.1]
theorem qbT (ds:List D):(qez ds).length=ds.length:=by unfold qez;simp
theorem qcF {i:Nat} {d:D} (h:(qez ds)[i]?=some d):∃ e,ds[i]?=some e∧d=.tup [.int (i:Nat),e]:=by
  unfold qez at h
  rw [List.getElem?_map,List.getElem?_zipIdx] at h
  cases e:ds[i]? with
  | none=>rw [e] at h;cases h
  | some x=>rw [e] at h;cases h;exact ⟨x,rfl,by simp⟩
theorem Rp.pair {H:Hp} {t:Addr} {d e:D} {x y:V} (h:H t=some (.tup [x,y])) (r1:Rp K H d x) (r2:Rp K H e y):Rp K H (.tup [d,e]) (.ref t):=(RpL.cons r1 (.one r2)).tup h
theorem qe8 {b:Bool} (h:SqB K b Φ a vs) (r:RpL K Φ ds vs):SteadyD K (Ite K b a) Φ (qez ds) :=
  ⟨fun i H s hi=>by rw [qbT] at hi;exact ⟨vs,vs[i]'(by rw [r.1];exact hi),SqB.same s h,qaF _⟩,fun i Φ2 H x H2 d s2 s hd y=>by
    obtain ⟨t,v,hn,e,e',y⟩:=y
    subst e e'
    obtain ⟨e,he,rfl⟩:=qcF hd
    have rv:=(r.2 i v e (y vs (SqB.same (s2.trans s) h)) he).same (s2.trans (qaG (s.free hn) (.tup [.int i,v])))
    exact ⟨_,.new s hn _,.pair qaj (.int _) rv⟩,fun H s=>by rw [qbT];exact ⟨vs,SqB.same s h,by rw [r.1];exact Nat.le_refl _⟩⟩
def qhF (ds es:List D):List D:=List.zipWith (fun x y=>.tup [x,y]) ds es
theorem qgw (ds es:List D):(qhF ds es).length=min ds.length es.length:=by unfold qhF;simp
theorem qkd {i:Nat} {d:D} (h:(qhF ds es)[i]?=some d):∃ x y,ds[i]?=some x∧es[i]?=some y∧d=.tup [x,y]:=by
  unfold qhF at h
  rw [List.getElem?_zipWith] at h
  cases e:ds[i]? with
  | none=>rw [e] at h;cases h
  | some x =>
    cases e2:es[i]? with
    | none=>rw [e,e2] at h;cases h
    | some y=>rw [e,e2] at h;cases h;exact ⟨x,y,rfl,rfl,rfl⟩
theorem qfq {b1 b2:Bool} {a1 a2:Addr} (h1:SqB K b1 Φ a1 vs) (h2:SqB K b2 Φ a2 ws) (r1:RpL K Φ ds vs) (r2:RpL K Φ es ws):SteadyD K (Itz K b1 a1 b2 a2) Φ (qhF ds es) :=
  ⟨fun i H s hi=>by
    rw [qgw] at hi
    have i1:i<vs.length:=by rw [r1.1];omega
    have i2:i<ws.length:=by rw [r2.1];omega
    exact ⟨vs,ws,vs[i],ws[i],SqB.same s h1,SqB.same s h2,qaF i1,qaF i2⟩,fun i Φ2 H x H2 d s2 s hd y=>by
    obtain ⟨t,u,v,hn,e,e',y1,y2⟩:=y
    subst e e'
    obtain ⟨p,q,hp,hq,rfl⟩:=qkd hd
    have sn:=s2.trans (qaG (s.free hn) (.tup [u,v]))
    exact ⟨_,.new s hn _,.pair qaj ((r1.2 i u p (y1 vs (SqB.same (s2.trans s) h1)) hp).same sn) ((r2.2 i v q (y2 ws (SqB.same (s2.trans s) h2)) hq).same sn)⟩,fun H s=>by
    rw [qgw]
    exact ⟨vs,ws,SqB.same s h1,SqB.same s h2,by rw [r1.1,r2.1];omega⟩⟩
end
def lI (K:PySem.W.Frag) (t:TDL):TI:=fun σ H R'=>∃ H0 Φ ρ R,EnvD K H0 Φ H σ ρ∧t ρ R∧∀ ds Φ' H' J,R ds→Gr Φ H Φ' H'→SteadyD K J Φ' ds→R' J H'
structure PID (K:PySem.W.Frag) (X:Cx) (tg e:Expr) (t:TDL):Prop where pi:X.K=K→PI X tg e (lI K t)
theorem PI.imp {X:Cx} {tg e:Expr} {t t':TI} (h:PI X tg e t) (k:∀ σ H R,t' σ H R→t σ H R):PI X tg e t':=fun pins s σ H R I hw=>h pins s σ H R I (k σ H R hw)
section
variable {K : PySem.W.Frag} {X : Cx} {tg e a b : Expr} {es : List Expr} {pos p tp : Pos} {t ta tb : TD} {tl : TDL}
theorem qf6 {es:List Expr} {k:Nat} {t:TGs} {n:Nat} (hK:X.K=K) (hc:X.calm=true) (h:PGs X es t) (hn:(assignEach es X.env).length=n) (hst:(assignEach es X.env).findIdx? (·.1)=none):PG X (.Tuple es k pos) (qn4 K n t):=hK ▸ qms hc h hn hst
theorem qfW {es:List Expr} {k:Nat} {t:TGs} {n:Nat} (hK:X.K=K) (hc:X.calm=true) (h:PGs X es t) (hn:(assignEach es X.env).length=n) (hst:(assignEach es X.env).findIdx? (·.1)=none):PG X (.Tuple es k pos) (qoo K n t):=hK ▸ qmI hc h hn hst
def qkV (t:TDL):TDL:=fun ρ R=>t ρ fun ds=>match ds with | [.int j]=>(-(2 ^ 62)≤j∧j<2 ^ 62)∧R (qcv 0 j.toNat) | _=>False
theorem RpL.one_inv {Φ:Hp} {d:D} {vs:List V} (h:RpL K Φ [d] vs):∃ v,vs=[v]∧Rp K Φ d v:=by
  obtain ⟨h1,h2⟩:=h
  match vs,h1,h2 with
  | [v],_,h2=>exact ⟨v,rfl,h2 0 v d rfl rfl⟩
theorem RpL.two_inv {Φ:Hp} {d e:D} {vs:List V} (h:RpL K Φ [d,e] vs):∃ v w,vs=[v,w]∧Rp K Φ d v∧Rp K Φ e w:=by
  obtain ⟨h1,h2⟩:=h
  match vs,h1,h2 with
  | [v,w],_,h2=>exact ⟨v,w,rfl,h2 0 v d rfl rfl,h2 1 w e rfl rfl⟩
theorem qgx (hg:Gl X "range") (hm:X.mg "range"=none) (ha:PAD K X [a] tl) (hs:starEach [a] X.env=[(false,eval a X.env)]:=by rfl):PID K X tg (.Call (.Name "range" p) [a] [] pos) (qkV tl) :=
  ⟨fun hK=>(qhR hg hm (ha.pa hK) hs).imp fun σ H R' hq0=>by obtain ⟨H0,Φ,ρ,R,E,t,k⟩:=hq0;exact ⟨H0,Φ,ρ,_,E,t,fun ds Φ1 H1 vs r g rv _=>by
    match ds,r with
    | [.int j],r =>
      obtain ⟨v,rfl,r1⟩:=rv.one_inv
      cases r1
      exact ⟨j,rfl,r.1.1,r.1.2,k _ Φ1 H1 _ r.2 g qeg⟩⟩⟩
end
abbrev TGD:=D→Rho→(Rho→Prop)→Prop
abbrev qgP:=List D→Rho→(Rho→Prop)→Prop
def lG (K:PySem.W.Frag) (g:TGD):TG:=fun v σ H Q=>∃ H0 Φ ρ d R,EnvD K H0 Φ H σ ρ∧Rp K Φ d v∧g d ρ R∧∀ ρ' σ',R ρ'→EnvD K H0 Φ H σ' ρ'→Q σ' H
def lGs (K:PySem.W.Frag) (g:qgP):TGs:=fun vs σ H Q=>∃ H0 Φ ρ ds R,EnvD K H0 Φ H σ ρ∧RpL K Φ ds vs∧g ds ρ R∧∀ ρ' σ',R ρ'→EnvD K H0 Φ H σ' ρ'→Q σ' H
structure PGD (K:PySem.W.Frag) (X:Cx) (e:Expr) (g:TGD):Prop where pg:X.K=K→PG X e (lG K g)
structure PGDs (K:PySem.W.Frag) (X:Cx) (es:List Expr) (g:qgP):Prop where pg:X.K=K→PGs X es (lGs K g)
theorem PG.imp {X:Cx} {e:Expr} {t t':TG} (h:PG X e t) (k:∀ v σ H Q,t' v σ H Q→t v σ H Q):PG X e t':=fun pins s σ H v u Q I r hw=>h pins s σ H v u Q I r (k v σ H Q hw)
theorem PGs.imp {X:Cx} {e:List Expr} {t t':TGs} (h:PGs X e t) (k:∀ v σ H Q,t' v σ H Q→t v σ H Q):PGs X e t':=fun pins s σ H v u Q I r hw=>h pins s σ H v u Q I r (k v σ H Q hw)
section
variable {K : PySem.W.Frag} {X : Cx} {e : Expr} {es : List Expr} {pos : Pos} {g : TGD} {gs : qgP}
def qog (i:Nat):TGD:=fun d ρ R=>R (ρ.set i (some (.v d)))
theorem qat {i:Nat} {x:Str} (hN:X.N.Nodup) (hi:X.N[i]?=some x) (hx:Loc X.env.scope x) (hf:X.fn x=true∨X.env.scope.names.lookup x=some .local:=by first | exact .inl rfl | exact .inr rfl | assumption):PGD K X (.Name x pos) (qog i) :=
  ⟨fun _=>(qih hN hi hx hf).imp fun v σ H Q hq0=>by obtain ⟨H0,Φ,ρ,d,R,E,r,g,k⟩:=hq0;exact k _ _ g (E.set r i)⟩
def qls:qgP:=fun ds ρ R=>match ds with | []=>R ρ | _=>False
def qgj (t:TGD) (u:qgP):qgP:=fun ds ρ R=>match ds with | d::r=>t d ρ fun ρ'=>u r ρ' R | []=>False
theorem qdr:PGDs K X [] qls:=⟨fun _=>pgs_nil.imp fun v σ H Q hq0=>by
  obtain ⟨H0,Φ,ρ,ds,R,E,r,g,k⟩:=hq0
  cases ds with
  | nil=>exact ⟨List.length_eq_zero_iff.mp r.1,k _ _ g E⟩
  | cons=>exact g.elim⟩
theorem qaY (h1:PGD K X e g) (h2:PGDs K X es gs) (hs:(assignEach (e::es) X.env).map (·.2)=assign e X.env::(assignEach es X.env).map (·.2):=by rfl):PGDs K X (e::es) (qgj g gs) :=
  ⟨fun hK=>(qgg (h1.pg hK) (h2.pg hK) hs).imp fun vs σ H Q hq0=>by
    obtain ⟨H0,Φ,ρ,ds,R,E,r,g,k⟩:=hq0
    cases ds with
    | nil=>exact g.elim
    | cons d ds =>
      cases vs with
      | nil=>exact absurd r.1 (by simp)
      | cons v vs =>
        refine ⟨v,vs,rfl,H0,Φ,ρ,d,_,E,r.2 0 v d rfl rfl,g,fun ρ' σ' g' E'=>⟨H0,Φ,ρ',ds,R,E',⟨by have:=r.1;simpa using this,fun i u f hu hf=>r.2 (i+1) u f hu hf⟩,g',k⟩⟩⟩
end
def qgy (cap:List (Option Nat)) (ρ:Rho):Rho:=cap.map fun o=>o.bind fun i=>(ρ[i]?).join
theorem qhm {α:Type} {o:Option (Option α)} {x:α} (h:o.join=some x):o=some (some x):=by
  cases o with
  | none=>cases h
  | some o=>cases o with
    | none=>cases h
    | some y=>cases h;rfl
theorem qd2 {α:Type} {cap:List (Option Nat)} {l:List (Option α)} {i:Nat} {x:α} (h:(cap.map fun o=>o.bind fun i=>(l[i]?).join)[i]?=some (some x)):∃ j,cap[i]?=some (some j)∧l[j]?=some (some x):=by
  rw [List.getElem?_map] at h
  cases e:cap[i]? with
  | none=>rw [e] at h;cases h
  | some o =>
    rw [e] at h
    cases o with
    | none=>cases h
    | some j=>exact ⟨j,rfl,qhm (by simpa using h)⟩
theorem EnvD.cap {K:PySem.W.Frag} {H0 Φ H:Hp} {σ:St} {ρ:Rho} {cap:List (Option Nat)} (E:EnvD K H0 Φ H σ ρ) (inj:∀ i j k:Nat,cap[i]?=some (some k)→cap[j]?=some (some k)→i=j):EnvD K H0 Φ H (qcK cap σ) (qgy cap ρ):=by
  have st:∀ {i j:Nat} {v:V},cap[i]?=some (some j)→σ[j]?=some (some v)→(qcK cap σ)[i]?=some (some v):=fun hc hs=>by
    unfold qcK
    rw [List.getElem?_map,hc]
    simp [hs]
  have ts:∀ {i j:Nat} {v:V},cap[i]?=some (some j)→(qcK cap σ)[i]?=some (some v)→σ[j]?=some (some v):=fun hc hs=>by
    obtain ⟨j',h1,h2⟩:=qd2 hs
    rw [hc] at h1
    cases h1
    exact h2
  refine ⟨E.fz,by unfold qcK qgy;simp,fun i d h=>?_,fun i ds h=>?_,fun i j ds es p hi hj si sj=>?_,E.tb⟩
  · obtain ⟨j,h1,h2⟩:=qd2 h
    obtain ⟨v,e,r⟩:=E.sl j d h2
    exact ⟨v,st h1 e,r⟩
  · obtain ⟨j,h1,h2⟩:=qd2 h
    obtain ⟨p,vs,e,q⟩:=E.ow j ds h2
    exact ⟨p,vs,st h1 e,q⟩
  · obtain ⟨i',h1,h2⟩:=qd2 hi
    obtain ⟨j',h3,h4⟩:=qd2 hj
    have:=E.ne i' j' ds es p h2 h4 (ts h1 si) (ts h3 sj)
    subst this
    exact inj i j i' h1 h3
structure GK (k:Nat) (g:TGD):Prop where p:∀ d ρ R,g d ρ R→g d ρ fun ρ1=>ρ1.length=ρ.length∧ρ1.drop k=ρ.drop k∧R ρ1
structure GKs (k:Nat) (g:qgP):Prop where p:∀ ds ρ R,g ds ρ R→g ds ρ fun ρ1=>ρ1.length=ρ.length∧ρ1.drop k=ρ.drop k∧R ρ1
theorem qmP {k i:Nat} (h:i<k):GK k (qog i):=⟨fun d ρ R r=>⟨by simp,by rw [List.drop_set_of_lt h],r⟩⟩
theorem ql3 {k:Nat}:GKs k qls:=⟨fun ds ρ R r=>by
  cases ds with
  | nil=>exact ⟨rfl,rfl,r⟩
  | cons=>exact r⟩
theorem qfn {t:TGD} {u:qgP} (ht:∀ d ρ R R',(∀ x,R x→R' x)→t d ρ R→t d ρ R') (hu:∀ d ρ R R',(∀ x,R x→R' x)→u d ρ R→u d ρ R'):∀ d ρ R R',(∀ x,R x→R' x)→qgj t u d ρ R→qgj t u d ρ R':=by
  intro ds ρ R R' h r
  cases ds with
  | nil=>exact r
  | cons d ds=>exact ht d ρ _ _ (fun x hx=>hu ds x _ _ h hx) r
structure GM (k:Nat) (g:TGD):Prop where
  k:GK k g
  m:∀ d ρ R R',(∀ x,R x→R' x)→g d ρ R→g d ρ R'
structure GMs (k:Nat) (g:qgP):Prop where
  k:GKs k g
  m:∀ d ρ R R',(∀ x,R x→R' x)→g d ρ R→g d ρ R'
theorem qaJ {k i:Nat} (h:i<k):GM k (qog i):=⟨qmP h,fun d ρ R R' h r=>h _ r⟩
theorem qmO {k:Nat}:GMs k qls:=⟨ql3,fun ds ρ R R' h r=>by
  cases ds with
  | nil=>exact h _ r
  | cons=>exact r⟩
theorem qhy {k:Nat} {t:TGD} {u:qgP} (h1:GM k t) (h2:GMs k u):GMs k (qgj t u):=⟨⟨fun ds ρ R r=>by
  cases ds with
  | nil=>exact r
  | cons d ds =>
    have r1:t d ρ fun ρ'=>u ds ρ' R:=r
    refine h1.m _ _ _ _ (fun ρ1 q=>?_) (h1.k.p d ρ _ r1)
    exact h2.m _ _ _ _ (fun ρ2 q2=>⟨q2.1.trans q.1,q2.2.1.trans q.2.1,q2.2.2⟩) (h2.k.p ds ρ1 R q.2.2)⟩,qfn h1.m h2.m⟩
def qk9:TDB:=fun _ R=>R true
structure PIfD (K:PySem.W.Frag) (X:Cx) (ifs:List Expr) (t:TDB):Prop where p:X.K=K→qlw X ifs (lT K t)
theorem qjP {K:PySem.W.Frag} {X:Cx}:PIfD K X [] qk9:=⟨fun _ pins s σ H Q I hq0=>by obtain ⟨H0,Φ,ρ,R,E,t,k⟩:=hq0;exact qi3 pins s σ H Q I (k true Φ H t (.refl E.fz))⟩
theorem qjH {K:PySem.W.Frag} {X:Cx} {c:Expr} {t:TDB} (h:PTD K X c t):PIfD K X [c] t:=⟨fun hK=>qi0 (h.pt hK)⟩
theorem EnvD.side {K:PySem.W.Frag} {H0 Φ H:Hp} {σ:St} {ρ:Rho} {p:Addr} {o u:HO} (E:EnvD K H0 Φ H σ ρ) (h0:H0 p=some u) (hn:Φ p=none):EnvD K H0 Φ (upd H p o) σ ρ :=
  ⟨fun b w e=>by rw [qal (qas e hn)];exact E.fz b w e,E.len,E.sl,fun i ds h=>by
    obtain ⟨q,vs,e,q0,qn,qp,qr⟩:=E.ow i ds h
    exact ⟨q,vs,e,q0,qn,by rw [qal fun z=>by rw [z,h0] at q0;cases q0];exact qp,qr⟩,E.ne,E.tb⟩
theorem EnvD.base {K:PySem.W.Frag} {H0 Φ H:Hp} {σ:St} {ρ:Rho} {p:Addr} {u:HO} (E:EnvD K H0 Φ H σ ρ) (hp:H p=none):EnvD K (upd H0 p u) Φ H σ ρ :=
  ⟨E.fz,E.len,E.sl,fun i ds h=>by
    obtain ⟨q,vs,e,q0,qn,qp,qr⟩:=E.ow i ds h
    exact ⟨q,vs,e,by rw [qal (qas qp hp)];exact q0,qn,qp,qr⟩,E.ne,E.tb⟩
def ql8 (ti:TDL) (cap:List (Option Nat)) (g:TGD) (tc:TDB) (te:TD):TDL:=fun ρ R=>ti ρ fun ds=>ds.length<sizeLine∧∃ P:Nat→Option D→Prop,
  (∀ i d,ds[i]?=some d→g d (qgy cap ρ) fun ρ1=>tc ρ1 fun b=>(b=true→te ρ1 fun y=>P i (some y))∧(b=false→P i none))∧∀ ys:List (Option D),ys.length=ds.length→(∀ i y,ys[i]?=some y→P i y)→R (ys.filterMap id)
theorem qk1 (ys:List (Option D)) (y:D):(ys++[some y]).filterMap id=ys.filterMap id++[y]:=by simp
theorem qiD (ys:List (Option D)):(ys++[none]).filterMap id=ys.filterMap id:=by simp
theorem qlD (ys:List (Option D)):(ys.filterMap id).length≤ys.length:=List.length_filterMap_le _ _
theorem qgd {α:Type} {ys:List α} {y:α} {P:Nat→α→Prop} {n:Nat} (hl:ys.length=n) (h:∀ i z,ys[i]?=some z→P i z) (hy:P n y):∀ i z,(ys++[y])[i]?=some z→P i z:=by
  intro i z hz
  rcases Nat.lt_or_ge i ys.length with c | c
  · rw [List.getElem?_append_left c] at hz
    exact h i z hz
  · rw [List.getElem?_append_right c] at hz
    have h0:i - ys.length=0:=by
      rcases Nat.eq_zero_or_pos (i - ys.length) with e | e
      · exact e
      · rw [List.getElem?_eq_none (by simp only [List.length_cons,List.length_nil];omega)] at hz;cases hz
    rw [h0] at hz
    cases hz
    have:i=n:=by omega
    subst this
    exact hy
def qdX (k:Nat) (cap:List (Option Nat)):Bool:=(cap.take k).all (·.isNone) && decide ((cap.filterMap id).Nodup)
theorem qhD {k:Nat} {cap:List (Option Nat)} (h:qdX k cap=true) {i:Nat} (hi:i<k) {o:Option Nat} (e:cap[i]?=some o):o=none:=by
  unfold qdX at h
  rw [Bool.and_eq_true] at h
  have:=List.all_eq_true.mp h.1 o (List.mem_of_getElem? (i:=i) (by rw [List.getElem?_take_of_lt hi];exact e))
  cases o with
  | none=>rfl
  | some _=>cases this
theorem qhc {k:Nat} {cap:List (Option Nat)} (h:qdX k cap=true):∀ i j n:Nat,cap[i]?=some (some n)→cap[j]?=some (some n)→i=j:=by
  unfold qdX at h
  rw [Bool.and_eq_true] at h
  have nd:=of_decide_eq_true h.2
  clear h
  induction cap with
  | nil=>intro i j n hi;simp at hi
  | cons o cap ih =>
    intro i j n hi hj
    have nd':(cap.filterMap id).Nodup:=by
      cases o with
      | none=>simpa using nd
      | some m => have e : (some m :: cap).filterMap id = m :: cap.filterMap id := rfl
                  rw [e] at nd;exact (List.nodup_cons.mp nd).2
    have one:∀ {i:Nat},o=some n→cap[i]?=some (some n)→False:=fun {i} ho hi'=>by
      subst ho
      have e:(some n::cap).filterMap id=n::cap.filterMap id:=rfl
      rw [e] at nd
      exact (List.nodup_cons.mp nd).1 (List.mem_filterMap.mpr ⟨some n,List.mem_of_getElem? hi',rfl⟩)
    cases i with
    | zero=>cases j with
      | zero=>rfl
      | succ j=>exact (one (by simpa using hi) (by simpa using hj)).elim
    | succ i=>cases j with
      | zero=>exact (one (by simpa using hj) (by simpa using hi)).elim
      | succ j=>exact congrArg Nat.succ (ih nd' i j n (by simpa using hi) (by simpa using hj))
section
variable {K : PySem.W.Frag} {X : Cx} {tg iter elt : Expr} {ifs : List Expr} {scope : Scope} {pos : Pos} {N' : List Str} {cap : List (Option Nat)} {ti : TDL} {g : TGD} {tc : TDB} {te : TD}
theorem qff {k:Nat} (hcap:qdX k cap=true) (hk:GM k g) {σ:St} {H:Hp} {Q:VK} {H0 Φ:Hp} {ρ:Rho} {R W:List D→Prop} (E:EnvD K H0 Φ H σ ρ) (t:ti ρ W)
    (conv:∀ ds,W ds→ds.length<sizeLine∧∃ P:Nat→Option D→Prop,(∀ i d,ds[i]?=some d→g d (qgy cap ρ) fun ρ1=>tc ρ1 fun b=>(b=true→te ρ1 fun y=>P i (some y))∧(b=false→P i none))∧∀ ys:List (Option D),ys.length=ds.length→(∀ i y,ys[i]?=some y→P i y)→R (ys.filterMap id))
    (kk:∀ ds Φ' H' p vs,R ds→Gr Φ H Φ' H'→H p=none→Φ' p=none→H' p=some (.lst vs)→RpL K Φ' ds vs→Q (.ref p) H'):qfI (lI K ti) cap (lG K g) (lT K tc) (lE K te) σ H Q:=by
  refine ⟨H0,Φ,ρ,W,E,t,fun ds Φ1 H1 J hW g1 S Dd hD=>?_⟩
  obtain ⟨hlen,P,hp,hr⟩:=conv ds hW
  have E1:=E.gr g1
  have hDΦ:Φ1 Dd=none:=g1.s.free hD
  have C0:EnvD K (upd H0 Dd (.lst [])) Φ1 (upd H1 Dd (.lst [])) (qcK cap σ) (qgy cap ρ):=((E1.base (u:=.lst []) hD).side (o:=.lst []) qaj hDΦ).cap (qhc hcap)
  refine ⟨fun i m σ' H'=>m=ds.length - i∧i≤ds.length∧∃ (Φ':Hp) (vs:List V) (ys:List (Option D)),EnvD K (upd H0 Dd (.lst [])) Φ' H' σ' (qgy cap ρ)∧Gr Φ1 H1 Φ' H'∧Φ' Dd=none∧H' Dd=some (.lst vs)∧RpL K Φ' (ys.filterMap id) vs∧ys.length=i∧∀ j y,ys[j]?=some y→P j y,⟨ds.length,by simp,Nat.zero_le _,Φ1,[],[],C0,.fresh g1.s hD _,hDΦ,qaj,.nil,rfl,fun j y hj=>by simp at hj⟩,?_⟩
  rintro i m σ' H' ⟨rfl,hi,Φ',vs,ys,Ei,gi,hDi,hDl,hrl,hyl,hy⟩
  by_cases hlt:i<ds.length
  · refine .inr ⟨S.go i H' (gi.f.trans gi.s) hlt,fun σ2 H2=>∃ (Φ':Hp) (vs:List V) (ys:List (Option D)),EnvD K (upd H0 Dd (.lst [])) Φ' H2 σ2 (qgy cap ρ)∧Gr Φ1 H1 Φ' H2∧Φ' Dd=none∧H2 Dd=some (.lst vs)∧RpL K Φ' (ys.filterMap id) vs∧ys.length=i+1∧∀ j y,ys[j]?=some y→P j y,fun σ2 H2 h2=>⟨ds.length - (i+1),by omega,rfl,hlt,h2⟩,fun x H2 y=>?_⟩
    obtain ⟨Φ3,g3,rx⟩:=S.yl i Φ' H' x H2 _ gi.f gi.s (qaF hlt) y
    have E3:=Ei.gr g3
    refine ⟨_,Φ3,qgy cap ρ,_,_,E3,rx,hk.k.p _ _ _ (hp i _ (qaF hlt)),fun ρ1 σ3 hq0 E4=>?_⟩
    obtain ⟨hl1,hd1,t1⟩:=hq0
    have wk:∀ (j:Nat) x,(qgy cap ρ)[j]?=some (some x)→ρ1[j]?=some (some x):=fun j x hj=>by
      rcases Nat.lt_or_ge j k with c | c
      · obtain ⟨n,h1,_⟩:=qd2 hj
        cases qhD hcap c h1
      · have e1:(qgy cap ρ)[j]?=((qgy cap ρ).drop k)[j - k]?:=by rw [List.getElem?_drop];congr 1;omega
        have e2:ρ1[j]?=(ρ1.drop k)[j - k]?:=by rw [List.getElem?_drop];congr 1;omega
        rw [e2,hd1,← e1]
        exact hj
    have hD3:Φ3 Dd=none:=g3.o _ _ hDl hDi
    refine ⟨_,Φ3,ρ1,_,E4,t1,fun b Φ4 H4 rb g4=>?_⟩
    have E5:=(E4.gr g4)
    have hDl4:=g4.h _ _ (g3.h _ _ hDl)
    have hD4:Φ4 Dd=none:=g4.o _ _ (g3.h _ _ hDl) hD3
    cases b with
    | false =>
      refine qnr ?_
      refine ⟨Φ4,vs,ys++[none],E5.weak hl1.symm wk,(gi.trans g3).trans g4,hD4,hDl4,?_,by rw [List.length_append,hyl];rfl,qgd hyl hy (rb.2 rfl)⟩
      rw [qiD]
      exact (hrl.same g3.f).same g4.f
    | true =>
      refine qnq ?_
      refine ⟨_,Φ4,ρ1,_,E5,rb.1 rfl,fun d Φ5 H5 v rd g5 rv=>?_⟩
      have E6:=E5.gr g5
      have hDl5:=g5.h _ _ hDl4
      have hD5:Φ5 Dd=none:=g5.o _ _ hDl4 hD4
      have gg:=((gi.trans g3).trans g4).trans g5
      refine ⟨vs,hDl5,?_,Φ5,vs++[v],ys++[some d],(E6.weak hl1.symm wk).side qaj hD5,?_,hD5,qaj,?_,by rw [List.length_append,hyl];rfl,qgd hyl hy rd⟩
      · have:=qlD ys
        rw [hrl.1]
        omega
      · exact ⟨gg.f,qfX gg.h hD _,fun b u e=>by rw [qal (qas e hD5)];exact gg.s b u e,fun p u hp hn k=>gg.o p u hp hn k⟩
      · rw [qk1]
        exact (((hrl.same g3.f).same g4.f).same g5.f).append (.one rv)
  · have e:i=ds.length:=by omega
    subst e
    exact .inl ⟨S.stop H' (gi.f.trans gi.s),kk _ Φ' H' Dd vs (hr ys hyl hy) (g1.trans gi) (g1.h.free hD) hDi hDl hrl⟩
theorem qhW {k:Nat} (hcap:qdX k cap=true) (hk:GM k g) {σ:St} {H:Hp} {Q:VK} (h:lF K (ql8 ti cap g tc te) σ H Q):qfI (lI K ti) cap (lG K g) (lT K tc) (lE K te) σ H Q:=by
  obtain ⟨H0,Φ,ρ,R,E,t,kk⟩:=h
  exact qff hcap hk E t (fun ds h=>h) kk
theorem qjD {k:Nat} (hcalm:X.calm=true) (S:CompScope X.N X.env.scope scope N' cap) (hcap:qdX k cap=true) (hk:GM k g) (hi:PID K X tg iter ti)
    (hg:∀ (cl:List (Str × Addr)) (fp:List Addr) (C:Addr) (s0:Shared) (H0:Hp),PGD K (qaW X scope N' cl C s0 H0 fp) tg g) (ht:∀ (cl:List (Str × Addr)) (fp:List Addr) (C:Addr) (s0:Shared) (H0:Hp),PIfD K (qaW X scope N' cl C s0 H0 fp) ifs tc)
    (he:∀ (cl:List (Str × Addr)) (fp:List Addr) (C:Addr) (s0:Shared) (H0:Hp),PD K (qaW X scope N' cl C s0 H0 fp) elt te) (hs:∀ x,foldedSetIterable iter X.env x=pure x:=by intro _;rfl):PF K X (.ListComp elt [⟨tg,iter,ifs,0⟩] scope pos) (ql8 ti cap g tc te) :=
  ⟨fun hK=>(qis hcalm S (hi.pi hK) (fun cl fp C s0 H0=>(hg cl fp C s0 H0).pg hK) (fun cl fp C s0 H0=>(ht cl fp C s0 H0).p hK) (fun cl fp C s0 H0=>(he cl fp C s0 H0).pe hK) hs).imp fun _ _ _=>qhW hcap hk⟩
def qh1 (ti:TDL) (cap:List (Option Nat)) (g:TGD) (te:TD):TDL:=fun ρ R=>ti ρ fun ds=>ds.length<sizeLine∧∃ P:Nat→D→Prop,
  (∀ i d,ds[i]?=some d→g d (qgy cap ρ) fun ρ1=>te ρ1 (P i))∧∀ ys:List D,ys.length=ds.length→(∀ i y,ys[i]?=some y→P i y)→R ys
def qpD (P:Nat→D→Prop):Nat→Option D→Prop:=fun i o=>match o with | some y=>P i y | none=>False
theorem qfZ {P:Nat→D→Prop}:∀ (ys:List (Option D)),(∀ (i:Nat) y,ys[i]?=some y→∃ z,y=some z)→∃ zs:List D,ys=zs.map some
  | [],_=>⟨[],rfl⟩
  | y::ys,h=>by
    obtain ⟨z,rfl⟩:=h 0 y rfl
    obtain ⟨zs,rfl⟩:=qfZ (P:=P) ys fun i y hy=>h (i+1) y hy
    exact ⟨z::zs,rfl⟩
theorem qgZ {ds:List D} {ρ:Rho} {R:List D→Prop} (h:ds.length<sizeLine∧∃ P:Nat→D→Prop,(∀ i d,ds[i]?=some d→g d (qgy cap ρ) fun ρ1=>te ρ1 (P i))∧∀ ys:List D,ys.length=ds.length→(∀ i y,ys[i]?=some y→P i y)→R ys) {k:Nat} (hk:GM k g) :
    ds.length<sizeLine∧∃ P:Nat→Option D→Prop,(∀ i d,ds[i]?=some d→g d (qgy cap ρ) fun ρ1=>qk9 ρ1 fun b=>(b=true→te ρ1 fun y=>P i (some y))∧(b=false→P i none))∧∀ ys:List (Option D),ys.length=ds.length→(∀ i y,ys[i]?=some y→P i y)→R (ys.filterMap id):=by
  obtain ⟨h0,P,h1,h2⟩:=h
  refine ⟨h0,qpD P,fun i d hd=>hk.m _ _ _ _ (fun ρ1 q=>⟨fun _=>q,fun e=>by cases e⟩) (h1 i d hd),fun ys hl hy=>?_⟩
  obtain ⟨zs,rfl⟩:=qfZ (P:=P) ys fun i y e=>by
    have:=hy i y e
    cases y with
    | none=>exact this.elim
    | some z=>exact ⟨z,rfl⟩
  rw [List.filterMap_map]
  have e:zs.filterMap (id ∘ some)=zs:=by simp
  rw [e]
  refine h2 zs (by simpa using hl) fun i y e=>?_
  exact hy i (some y) (by rw [List.getElem?_map,e];rfl)
theorem qd8 {k:Nat} (hcap:qdX k cap=true) (hk:GM k g) {σ:St} {H:Hp} {Q:VK} (h:lF K (qh1 ti cap g te) σ H Q):qfI (lI K ti) cap (lG K g) (lT K qk9) (lE K te) σ H Q:=by
  obtain ⟨H0,Φ,ρ,R,E,t,kk⟩:=h
  exact qff hcap hk E t (fun ds h=>qgZ h hk) kk
theorem qaB {k:Nat} (hcalm:X.calm=true) (S:CompScope X.N X.env.scope scope N' cap) (hcap:qdX k cap=true) (hk:GM k g) (hi:PID K X tg iter ti)
    (hg:∀ (cl:List (Str × Addr)) (fp:List Addr) (C:Addr) (s0:Shared) (H0:Hp),PGD K (qaW X scope N' cl C s0 H0 fp) tg g)
    (he:∀ (cl:List (Str × Addr)) (fp:List Addr) (C:Addr) (s0:Shared) (H0:Hp),PD K (qaW X scope N' cl C s0 H0 fp) elt te) (hs:∀ x,foldedSetIterable iter X.env x=pure x:=by intro _;rfl):PF K X (.ListComp elt [⟨tg,iter,[],0⟩] scope pos) (qh1 ti cap g te) :=
  ⟨fun hK=>(qis hcalm S (hi.pi hK) (fun cl fp C s0 H0=>(hg cl fp C s0 H0).pg hK) (fun cl fp C s0 H0=>(qjP (K:=K)).p hK) (fun cl fp C s0 H0=>(he cl fp C s0 H0).pe hK) hs).imp fun _ _ _=>qd8 hcap hk⟩
end
structure EndsD where
  nx:Rho→Prop
  rt:D→Prop
  bk:Rho→Prop:=fun _=>False
  ct:Rho→Prop:=fun _=>False
abbrev TSD:=EndsD→Rho→Prop
def EnK (K:PySem.W.Frag) (Φ0 H0:Hp) (P:Rho→Prop) (Q:St→Hp→Prop):Prop:=∀ ρ' Φ' H' σ',P ρ'→Gr Φ0 H0 Φ' H'→EnvD K H0 Φ' H' σ' ρ'→Q σ' H'
structure EndOk (K:PySem.W.Frag) (Φ0 H0:Hp) (De:EndsD) (E:Ends):Prop where
  nx:EnK K Φ0 H0 De.nx E.nx
  rt:∀ d Φ' H' v,De.rt d→Gr Φ0 H0 Φ' H'→Rp K Φ' d v→E.rt v H'
  bk:EnK K Φ0 H0 De.bk E.bk
  ct:EnK K Φ0 H0 De.ct E.ct
def lS (K:PySem.W.Frag) (t:TSD):TS:=fun E σ H=>∃ Φ0 H0 Φ ρ De,Gr Φ0 H0 Φ H∧EnvD K H0 Φ H σ ρ∧t De ρ∧EndOk K Φ0 H0 De E
structure PSD (K:PySem.W.Frag) (X:Cx) (st:Stmt) (t:TSD):Prop where ps:X.K=K→PS X st (lS K t)
structure PSsD (K:PySem.W.Frag) (X:Cx) (st:List Stmt) (t:TSD):Prop where ps:X.K=K→PSs X st (lS K t)
section
variable {K : PySem.W.Frag} {X : Cx} {st : Stmt} {rest : List Stmt} {t u : TSD} {e a : Expr} {te : TD} {tf : TDL} {pos : Pos} {tt : TDB}
def qox:TSD:=fun De ρ=>De.nx ρ
def qpT (t u:TSD):TSD:=fun De ρ=>t { De with nx:=u De } ρ
def qpO (t u:TSD):TSD:=fun De ρ=>∃ I:Rho→Prop,t { De with nx:=I } ρ∧∀ ρ',I ρ'→u De ρ'
theorem qbg:PSsD K X [] qox:=⟨fun _=>pss_nil.imp fun E σ H hq0=>by obtain ⟨Φ0,H0,Φ,ρ,De,g,V,t,k⟩:=hq0;exact k.nx ρ Φ H σ t g V⟩
theorem qar (h1:PSD K X st t) (h2:PSsD K X rest u):PSsD K X (st::rest) (qpT t u):=⟨fun hK=>(qdf (h1.ps hK) (h2.ps hK)).imp fun E σ H hq0=>by obtain ⟨Φ0,H0,Φ,ρ,De,g,V,t,k⟩:=hq0;exact
  ⟨Φ0,H0,Φ,ρ,_,g,V,t,⟨fun ρ' Φ' H' σ' t' g' V'=>⟨Φ0,H0,Φ',ρ',De,g',V',t',k⟩,k.rt,k.bk,k.ct⟩⟩⟩
theorem qbq (h1:PSD K X st t) (h2:PSsD K X rest u):PSsD K X (st::rest) (qpO t u):=⟨fun hK=>(qdf (h1.ps hK) (h2.ps hK)).imp fun E σ H hq0=>by obtain ⟨Φ0,H0,Φ,ρ,De,g,V,⟨I,t,c⟩,k⟩:=hq0;exact
  ⟨Φ0,H0,Φ,ρ,_,g,V,t,⟨fun ρ' Φ' H' σ' t' g' V'=>⟨Φ0,H0,Φ',ρ',De,g',V',c ρ' t',k⟩,k.rt,k.bk,k.ct⟩⟩⟩
theorem qaz (h1:PSD K X st t):PSsD K X [st] t:=⟨fun hK=>qfS (h1.ps hK)⟩
def qpJ (i:Nat) (t:TSD):TSD:=fun De ρ=>t De (frz i ρ)
theorem qg2 (i:Nat) (h:PSsD K X rest t):PSsD K X rest (qpJ i t):=⟨fun hK=>(h.ps hK).imp fun E σ H hq0=>by
  obtain ⟨Φ0,H0,Φ,ρ,De,g,V,t,k⟩:=hq0
  obtain ⟨Φ',g',V'⟩:=V.frz g i
  exact ⟨Φ0,H0,Φ',L2.frz i ρ,De,g',V',t,k⟩⟩
def qm2:TSD:=fun _ _=>False
theorem qfC:PSD K X st qm2:=⟨fun _=>ps_never.imp fun E σ H hq0=>by obtain ⟨Φ0,H0,Φ,ρ,De,g,V,t,k⟩:=hq0;exact t⟩
def qoO (i:Nat) (te:TD):TSD:=fun De ρ=>te ρ fun d=>De.nx (ρ.set i (some (.v d)))
theorem qjb {i:Nat} {E:Ends} {σ:St} {H:Hp} (h:lS K (qoO i te) E σ H):qlx (lE K te) (qfN i) E σ H:=by
  obtain ⟨Φ0,H0,Φ,ρ,De,g,V,t,k⟩:=h
  exact ⟨H0,Φ,ρ,_,V,t,fun d Φ1 H1 v r g1 rv=>k.nx _ Φ1 H1 _ r (g.trans g1) ((V.gr g1).set rv i)⟩
theorem qaP {i:Nat} {x:Str} {pos':Pos} (hN:X.N.Nodup) (hi:X.N[i]?=some x) (hx:Loc X.env.scope x) (he:PD K X e te) (hs:swapsWith e (some (.Name x pos')) pos.line X.env=pure false:=by rfl) (hf:X.fn x=true∨X.env.scope.names.lookup x=some .local:=by first | exact .inl rfl | exact .inr rfl | assumption) :
    PSD K X (.Assign [.Name x pos'] e pos) (qoO i te):=⟨fun hK=>(qgi hN hi hx (he.pe hK) hs hf).imp fun _ _ _=>qjb⟩
def qnp (i:Nat) (tf:TDL):TSD:=fun De ρ=>tf ρ fun ds=>De.nx (ρ.set i (some (.own ds)))
theorem qe3 {i:Nat} {E:Ends} {σ:St} {H:Hp} (h:lS K (qnp i tf) E σ H):lF K tf σ H fun v H'=>qfN i v σ H' E.nx:=by
  obtain ⟨Φ0,H0,Φ,ρ,De,g,V,t,k⟩:=h
  refine ⟨H0,Φ,ρ,_,V,t,fun ds Φ1 H1 p vs r g1 hp hn hl rl=>k.nx _ Φ1 H1 _ r (g.trans g1) ((V.gr g1).setOwn rl (g.h.free hp) hn hl (fun j es hj z=>?_) i)⟩
  obtain ⟨q,ws,e,_,_,hq,_⟩:=V.ow j _ hj
  rw [e] at z
  cases z
  rw [hp] at hq
  cases hq
theorem qiY {i:Nat} {x:Str} {pos':Pos} (hN:X.N.Nodup) (hi:X.N[i]?=some x) (hx:Loc X.env.scope x) (he:PF K X e tf) (hs:swapsWith e (some (.Name x pos')) pos.line X.env=pure false:=by rfl) (hf:X.fn x=true∨X.env.scope.names.lookup x=some .local:=by first | exact .inl rfl | exact .inr rfl | assumption) :
    PSD K X (.Assign [.Name x pos'] e pos) (qnp i tf):=⟨fun hK=>(qgi hN hi hx (he.pe hK) hs hf).imp fun _ _ _ h=>qe3 h⟩
def qos (te:TD):TSD:=fun De ρ=>te ρ fun _=>De.nx ρ
theorem qc2 (he:PD K X e te) (hs:swapsWith e none pos.line X.env=pure false:=by rfl):PSD K X (.Expr e pos) (qos te) :=
  ⟨fun hK=>(qev (he.pe hK) hs).imp fun E σ H hq0=>by obtain ⟨Φ0,H0,Φ,ρ,De,g,V,t,k⟩:=hq0;exact ⟨H0,Φ,ρ,_,V,t,fun d Φ1 H1 v r g1 rv=>k.nx _ Φ1 H1 σ r (g.trans g1) (V.gr g1)⟩⟩
def qps (te:TD):TSD:=fun De ρ=>te ρ De.rt
theorem qa7 (he:PD K X e te):PSD K X (.Return (some e) pos) (qps te) :=
  ⟨fun hK=>(qjW (he.pe hK)).imp fun E σ H hq0=>by obtain ⟨Φ0,H0,Φ,ρ,De,g,V,t,k⟩:=hq0;exact ⟨H0,Φ,ρ,_,V,t,fun d Φ1 H1 v r g1 rv=>k.rt d Φ1 H1 v r (g.trans g1) rv⟩⟩
def sIf (c:TDB) (t u:TSD):TSD:=fun De ρ=>c ρ fun b=>(b=true→t De ρ)∧(b=false→u De ρ)
theorem qcp {c:Expr} {a b:List Stmt} (hc:PTD K X c tt) (ha:PSsD K X a t) (hb:PSsD K X b u):PSD K X (.If c a b pos) (sIf tt t u) :=
  ⟨fun hK=>(qmN (hc.pt hK) (ha.ps hK) (hb.ps hK)).imp fun E σ H hq0=>by obtain ⟨Φ0,H0,Φ,ρ,De,g,V,t,k⟩:=hq0;exact ⟨H0,Φ,ρ,_,V,t,fun c Φ1 H1 r g1=>by
    cases c with
    | true=>refine qnq ?_;exact ⟨Φ0,H0,Φ1,ρ,De,g.trans g1,V.gr g1,r.1 rfl,k⟩
    | false=>refine qnr ?_;exact ⟨Φ0,H0,Φ1,ρ,De,g.trans g1,V.gr g1,r.2 rfl,k⟩⟩⟩
def qpv (te:TD) (g:TGD):TSD:=fun De ρ=>te ρ fun d=>g d ρ De.nx
theorem qmF {tg:Expr} {gd:TGD} (he:PD K X e te) (hg:PGD K X tg gd) (hs:swapsWithSole [tg] e pos.line X.env=pure false:=by rfl) (hw:swappedStores [tg] e X.env=pure none:=by rfl)
    (h1:(assignEach [tg] X.env).map (·.2)=[assign tg X.env]:=by rfl):PSD K X (.Assign [tg] e pos) (qpv te gd) :=
  ⟨fun hK=>(qjT (he.pe hK) (hg.pg hK) hs hw h1).imp fun E σ H hq0=>by obtain ⟨Φ0,H0,Φ,ρ,De,g,V,t,k⟩:=hq0;exact ⟨H0,Φ,ρ,_,V,t,fun d Φ1 H1 v r g1 rv=>⟨H0,Φ1,ρ,d,_,V.gr g1,rv,r,fun ρ' σ' r' V'=>k.nx ρ' Φ1 H1 σ' r' (g.trans g1) V'⟩⟩⟩
def qlT (c:TDB) (tb:TSD):TSD:=fun De ρ=>∃ I:Nat→Rho→Prop,(∃ m,I m ρ)∧∀ m ρ',I m ρ'→c ρ' fun b=>(b=true→tb { De with nx:=fun ρ2=>∃ m',m'<m∧I m' ρ2,ct:=fun ρ2=>∃ m',m'<m∧I m' ρ2,bk:=De.nx } ρ')∧(b=false→De.nx ρ')
theorem qln {c:Expr} {body:List Stmt} {tb:TSD} (hp:PassesOwn (model X.prog X.w) X.A X.env X.xe) (hc:PTD K X c tt) (hb:PSsD K X body tb):PSD K X (.While c body [] pos) (qlT tt tb) :=
  ⟨fun hK=>(qjh hp (hc.pt hK) (hb.ps hK)).imp fun E σ H hq0=>by
    obtain ⟨Φ0,H0,Φ,ρ,De,g,V,⟨I,⟨m,h0⟩,hw⟩,k⟩:=hq0
    refine ⟨fun m σ H=>∃ Φ' ρ',Gr Φ0 H0 Φ' H∧EnvD K H0 Φ' H σ ρ'∧I m ρ',⟨m,Φ,ρ,g,V,h0⟩,?_⟩
    rintro m σ' H' ⟨Φ',ρ',g',V',hi⟩
    refine ⟨H0,Φ',ρ',_,V',hw m ρ' hi,fun b Φ1 H1 r g1=>?_⟩
    cases b with
    | false=>refine qnr ?_;exact k.nx ρ' Φ1 H1 σ' (r.2 rfl) (g'.trans g1) (V'.gr g1)
    | true =>
      refine qnq ?_
      refine ⟨fun σ2 H2=>∃ m',m'<m∧∃ Φ' ρ',Gr Φ0 H0 Φ' H2∧EnvD K H0 Φ' H2 σ2 ρ'∧I m' ρ',fun σ2 H2 h=>h,Φ0,H0,Φ1,ρ',_,g'.trans g1,V'.gr g1,r.1 rfl,⟨?_,k.rt,k.nx,?_⟩⟩
      · rintro ρ2 Φ2 H2 σ2 ⟨m',hm,hi'⟩ g2 V2
        exact ⟨m',hm,Φ2,ρ2,g2,V2,hi'⟩
      · rintro ρ2 Φ2 H2 σ2 ⟨m',hm,hi'⟩ g2 V2
        exact ⟨m',hm,Φ2,ρ2,g2,V2,hi'⟩⟩
def qpH (ti:TDL) (gd:TGD) (tb:TSD):TSD:=fun De ρ=>ti ρ fun ds=>∃ I:Nat→Rho→Prop,I 0 ρ∧(∀ i d ρ',ds[i]?=some d→I i ρ'→gd d ρ' fun ρ2=>tb { De with nx:=I (i+1),ct:=I (i+1),bk:=De.nx } ρ2)∧∀ ρ',I ds.length ρ'→De.nx ρ'
theorem qfB {tg iter:Expr} {body:List Stmt} {ti:TDL} {gd:TGD} {tb:TSD} (hp:PassesOwn (model X.prog X.w) X.A X.env X.xe) (hc:X.calm=true) (hi:PID K X tg iter ti) (hg:PGD K X tg gd) (hb:PSsD K X body tb)
    (hs:∀ x,foldedSetIterable iter X.env x=pure x:=by intro _;rfl):PSD K X (.For tg iter body [] pos) (qpH ti gd tb) :=
  ⟨fun hK=>(qjZ hp hc (hi.pi hK) (hg.pg hK) (hb.ps hK) hs).imp fun E σ H hq0=>by
    obtain ⟨Φ0,H0,Φ,ρ,De,g,V,t,k⟩:=hq0
    refine ⟨H0,Φ,ρ,_,V,t,fun ds Φ1 H1 J hq1 g1 S=>?_⟩
    obtain ⟨I,h0,hst,hend⟩:=hq1
    refine ⟨fun i m σ H'=>m=ds.length - i∧i≤ds.length∧∃ Φ' ρ',Gr Φ0 H0 Φ' H'∧Same Φ1 Φ'∧EnvD K H0 Φ' H' σ ρ'∧I i ρ',⟨ds.length,by simp,Nat.zero_le _,Φ1,ρ,g.trans g1,Same.refl _,V.gr g1,h0⟩,?_⟩
    rintro i m σ' H' ⟨rfl,hi,Φ',ρ',g',s',V',hI⟩
    by_cases hlt:i<ds.length
    · refine .inr ⟨S.go i H' (s'.trans V'.fz) hlt,fun σ2 H2=>∃ Φ' ρ',Gr Φ0 H0 Φ' H2∧Same Φ1 Φ'∧EnvD K H0 Φ' H2 σ2 ρ'∧I (i+1) ρ',fun σ2 H2 h2=>⟨ds.length - (i+1),by omega,rfl,hlt,h2⟩,fun x H2 y=>?_⟩
      obtain ⟨Φ3,g3,rx⟩:=S.yl i Φ' H' x H2 _ s' V'.fz (qaF hlt) y
      refine ⟨H0,Φ3,ρ',_,_,V'.gr g3,rx,hst i _ ρ' (qaF hlt) hI,fun ρ2 σ3 t2 V3=>?_⟩
      refine ⟨Φ3,H0,Φ3,ρ2,_,?_,V3,t2,⟨?_,?_,?_,?_⟩⟩
      · exact ⟨Same.refl _,(g'.trans g3).h,g3.s,fun p u hp hn _=>hn⟩
      · intro ρ4 Φ4 H4 σ4 t4 g4 V4
        exact ⟨Φ4,ρ4,(g'.trans g3).join g4,(s'.trans g3.f).trans g4.f,V4,t4⟩
      · intro d Φ4 H4 v r g4 rv
        exact k.rt d Φ4 H4 v r ((g'.trans g3).join g4) rv
      · intro ρ4 Φ4 H4 σ4 t4 g4 V4
        exact k.nx ρ4 Φ4 H4 σ4 t4 ((g'.trans g3).join g4) V4
      · intro ρ4 Φ4 H4 σ4 t4 g4 V4
        exact ⟨Φ4,ρ4,(g'.trans g3).join g4,(s'.trans g3.f).trans g4.f,V4,t4⟩
    · have e:i=ds.length:=by omega
      subst e
      exact .inl ⟨S.stop H' (s'.trans V'.fz),k.nx ρ' Φ' H' σ' (hend ρ' hI) g' V'⟩⟩
end
section
variable {K : PySem.W.Frag} {X : Cx} {tg iter elt e a : Expr} {ifs : List Expr} {scope : Scope} {pos py spos : Pos} {N' : List Str} {cap : List (Option Nat)} {ti : TDL} {g : TGD} {tc : TDB} {te ta tb : TD} {i : Nat} {y : Str}
theorem qe5 {tf:TDL} {E:Ends} {σ:St} {H:Hp} (lift:∀ {σ:St} {H:Hp} {Q:VK},lF K tf σ H Q→qfI (lI K ti) cap (lG K g) (lT K tc) (lE K te) σ H Q) (h:lS K (qnp i tf) E σ H):qlx (qfI (lI K ti) cap (lG K g) (lT K tc) (lE K te)) (qfN i) E σ H:=lift (qe3 h)
theorem qi6 {k:Nat} (hcalm:X.calm=true) (hN:X.N.Nodup) (hy:X.N[i]?=some y) (hx:Loc X.env.scope y) (S:CompScope X.N X.env.scope scope N' cap) (hcap:qdX k cap=true) (hk:GM k g) (hi:PID K X tg iter ti)
    (hg:∀ (cl:List (Str × Addr)) (fp:List Addr) (C:Addr) (s0:Shared) (H0:Hp),PGD K (qaW X scope N' cl C s0 H0 fp) tg g)
    (he:∀ (cl:List (Str × Addr)) (fp:List Addr) (C:Addr) (s0:Shared) (H0:Hp),PD K (qaW X scope N' cl C s0 H0 fp) elt te) (hsw:swapsWith (.ListComp elt [⟨tg,iter,[],0⟩] scope pos) (some (.Name y py)) spos.line X.env=pure true:=by rfl)
    (hs:∀ x,foldedSetIterable iter X.env x=pure x:=by intro _;rfl) (hf:X.fn y=true∨X.env.scope.names.lookup y=some .local:=by first | exact .inl rfl | exact .inr rfl | assumption) :
    PSD K X (.Assign [.Name y py] (.ListComp elt [⟨tg,iter,[],0⟩] scope pos) spos) (qnp i (qh1 ti cap g te)) :=
  ⟨fun hK=>(qj6 hcalm hN hy hx S (hi.pi hK) (fun cl fp C s0 H0=>(hg cl fp C s0 H0).pg hK) (fun cl fp C s0 H0=>(qjP (K:=K)).p hK) (fun cl fp C s0 H0=>(he cl fp C s0 H0).pe hK) hsw hs hf).imp fun _ _ _ h=>qe5 (fun q=>qd8 hcap hk q) h⟩
theorem qhL {Φ0 H0 Φ H:Hp} {p:Addr} {o:HO} (g:Gr Φ0 H0 Φ H) (h0:H0 p=none) (hn:Φ p=none):Gr Φ0 H0 Φ (upd H p o) :=
  ⟨g.f,qfX g.h h0 _,fun b u e=>by rw [qal (qas e hn)];exact g.s b u e,fun p u hp hn k=>g.o p u hp hn k⟩
def qhX (i:Nat) (te:TD):TSD:=fun De ρ=>match ρ[i]? with | some (some (.ob (.lst ds)))=>te ρ fun d=>ds.length<sizeLine∧NF (ds++[d]) fun es=>De.nx (ρ.set i (some (.own es))) | _=>False
theorem qcr {apos cpos npos:Pos} {x:Str} (i:Nat) (he:PD K X e te) (hfew:((backTo cpos (starEach [e] X.env)).all (fun x=>!x.1) && (backToKw cpos (keywordEach [] X.env)).all (fun x=>x.1.isSome) && decide (([e]:List Expr).length+([]:List Keyword).length+(if ([]:List Keyword).isEmpty then 0 else 1)<30))=true)
    (hse:starEach [e] X.env=(false,eval e X.env)::starEach [] X.env) (hN:X.N[i]?=some x:=by rfl) (hv:Vis X.env.scope x:=by first | exact Or.inl rfl | exact Or.inr (Or.inl rfl) | exact Or.inr (Or.inr rfl)) (hd:(x == ("__debug__":Str))=false:=by decide) (hcd:(x == ("__classdict__":Str))=false:=by decide)
    (hbase:attributeBase (.Name x npos) "append" X.env (eval (.Name x npos) X.env)=eval (.Name x npos) X.env:=by rfl) (hline:(apos.endLine == cpos.line)=true:=by rfl) (hs:swapsWith (.Call (.Attribute (.Name x npos) "append" apos) [e] [] cpos) none pos.line X.env=pure false:=by rfl) :
    PSD K X (.Expr (.Call (.Attribute (.Name x npos) "append" apos) [e] [] cpos) pos) (qhX i te) :=
  ⟨fun hK=>(qev (qkZ PySem.F.plainAttrs_list PySem.F.slot_list_append PySem.F.type_list_append qdx (pv i hN hv hd hcd) (qaZ (he.pe hK) pa_nil hse) hbase hfew hline hse qaf) hs).imp fun E σ H hq0=>by
    obtain ⟨Φ0,H0,Φ,ρ,De,g,V,t,k⟩:=hq0
    unfold qhX at t
    split at t
    · next ds ho =>
      obtain ⟨p,vs,e1,h0,hn,hp,rl⟩:=V.owl i ds ho
      refine ⟨_,e1,.inl ⟨rfl,vs,SqL.of hp⟩,H0,Φ,ρ,_,V,t,fun d Φ1 H1 v r g1 rv=>?_⟩
      have hp1:=g1.h _ _ hp
      have hn1:=g1.o _ _ hp hn
      refine ⟨p,vs,v,rfl,rfl,hp1,by rw [rl.1];exact r.1,k.nx _ Φ1 _ σ r.2.get (qhL (g.trans g1) h0 hn1) ((V.gr g1).put ho e1 ((rl.same g1.f).append (.one rv)))⟩
    · exact t.elim⟩
def qpn (i:Nat) (te tk:TD):TSD:=fun De ρ=>te ρ fun d=>match ρ[i]? with | some (some (.ob (.lst ds)))=>tk ρ fun kk=>(match kk with | .int n=>∃ j,ixN ds.length n=some j∧NF (ds.set j d) fun es=>De.nx (ρ.set i (some (.own es))) | _=>False) | _=>False
theorem qoz {b:Expr} {tk:TD} {npos spos:Pos} {x:Str} (i:Nat) (he:PD K X e te) (hk:PQ K X b tk) (hN:X.N[i]?=some x:=by rfl) (hv:Vis X.env.scope x:=by first | exact Or.inl rfl | exact Or.inr (Or.inl rfl) | exact Or.inr (Or.inr rfl)) (hd:(x == ("__debug__":Str))=false:=by decide) (hcd:(x == ("__classdict__":Str))=false:=by decide)
    (ha:∀ v,assign (.Subscript (.Name x npos) b spos) X.env v=(do
      let ov ← holding [v] (eval (.Name x npos) X.env)
      let iv ← holding [v,ov] (eval b X.env)
      standAt spos
      holding [v,ov,iv] (setItem ov iv v)
      release [v,ov,iv] []):=by intro _;rfl)
    (hs:swapsWithSole [.Subscript (.Name x npos) b spos] e pos.line X.env=pure false:=by rfl) (hw:swappedStores [.Subscript (.Name x npos) b spos] e X.env=pure none:=by rfl)
    (h1:(assignEach [.Subscript (.Name x npos) b spos] X.env).map (·.2)=[assign (.Subscript (.Name x npos) b spos) X.env]:=by rfl) :
    PSD K X (.Assign [.Subscript (.Name x npos) b spos] e pos) (qpn i te tk) :=
  ⟨fun hK=>(qjT (he.pe hK) (qmC (pv i hN hv hd hcd) (hk.pe hK) qju ha) hs hw h1).imp fun E σ H hq0=>by obtain ⟨Φ0,H0,Φ,ρ,De,g,V,t,k⟩:=hq0;exact ⟨H0,Φ,ρ,_,V,t,fun d Φ1 H1 v r g1 rv=>by
    have V1:=V.gr g1
    split at r
    · next ds ho =>
      obtain ⟨p,vs,e1,h0,hn,hp,rl⟩:=V1.owl i ds ho
      refine ⟨_,e1,H0,Φ1,ρ,_,V1,r,fun kk Φ2 H2 w r2 g2 rw2=>?_⟩
      cases kk with
      | int n =>
        obtain ⟨j,hj,r2⟩:=r2
        exact ⟨p,vs,n,j,rfl,rw2.int,g2.h _ _ hp,by rw [rl.1];exact hj,k.nx _ Φ2 _ σ r2.get (qhL ((g.trans g1).trans g2) h0 (g2.o _ _ hp hn)) ((V1.gr g2).put ho e1 ((rl.same g2.f).set (rv.same g2.f) j))⟩
      | _=>exact r2.elim
    · exact r.elim⟩⟩
end
def qc3 (N:List Str) (ds:List D):Rho:=ds.map (fun d=>some (.v d))++List.replicate (N.length - ds.length) none
theorem qeN {K:PySem.W.Frag} {Φ H:Hp} {N:List Str} {ds:List D} {vs:List V} (sm:Same Φ H) (tb:TabF K Φ) (r:RpL K Φ ds vs):EnvD K H Φ H (qbH N vs) (qc3 N ds):=by
  have own:∀ {i:Nat} {x:Sl},(qc3 N ds)[i]?=some (some x)→∃ d,ds[i]?=some d∧x=.v d:=fun {i x} h=>by
    unfold qc3 at h
    rcases Nat.lt_or_ge i (ds.map fun d=>some (Sl.v d)).length with c | c
    · rw [List.getElem?_append_left c,List.getElem?_map] at h
      cases e:ds[i]? with
      | none=>rw [e] at h;cases h
      | some d=>rw [e] at h;cases h;exact ⟨d,rfl,rfl⟩
    · rw [List.getElem?_append_right c,List.getElem?_replicate] at h
      split at h
      · cases h
      · cases h
  refine ⟨sm,by unfold qbH qc3;simp [r.1],fun i d h=>?_,fun i es h=>?_,fun i j es fs p h=>?_,tb⟩
  · obtain ⟨d',h1,h2⟩:=own h
    cases h2
    obtain ⟨v,hv,rv⟩:=r.at h1
    refine ⟨v,?_,rv⟩
    unfold qbH
    rw [List.getElem?_append_left (by rw [List.length_map];exact qao hv),List.getElem?_map,hv]
    rfl
  · obtain ⟨d',h1,h2⟩:=own h
    cases h2
  · obtain ⟨d',h1,h2⟩:=own h
    cases h2
section
variable {P : Program} {w : World} {K : PySem.W.Frag} {mg : Str → Option Value} {base : Heap}
theorem Fun.okD {x qual:Str} {st:Stmt} {f:Addr} {fd:FuncData} {N ps:List Str} {k:Nat} {sp:SpD} (F:Fun K x qual st f fd) (S:FnScope N ps (qad st)) (len:∀ ds R,sp ds R→ds.length=ps.length)
    (hbody:∀ (cdv:Value) (A:Around) (outer:List Env) (s:Shared) (H:Hp) (E:XK) (ds:List D) (R:D→Prop),Room k (A.deeper (envOfC qual (qad st) s.heap.objs.size f cdv))→sp ds R →
      ∃ t,PSsD K (qg3 CX0 P w K mg base N qual (qad st) f cdv A outer s H E).nox (qaO st) t∧t { nx:=fun _=>R .non,rt:=R } (qc3 N ds)):FnOk P w K mg base CX0 (k+1) f fd ps (lSp K sp):=by
  refine F.ok S (fun vs H Q E ⟨Φ,ds,R,sm,tb,rl,h,_⟩=>by rw [rl.1];exact len ds R h) (fun cdv A outer s H vs Q E hr ⟨Φ,ds,R,sm,tb,rl,h,kk⟩=>?_)
  obtain ⟨t,ht,hq⟩:=hbody cdv A outer s H E ds R hr h
  exact ⟨lS K t,ht.ps rfl,Φ,H,Φ,qc3 N ds,_,.refl sm,qeN sm tb rl,hq,⟨fun ρ' Φ' H' σ' r g V=>kk .non Φ' H' .non r g .non,kk,fun _ _ _ _ h=>h.elim,fun _ _ _ _ h=>h.elim⟩⟩
end
def Itb (K:PySem.W.Frag) (b:Bool) (a:Addr):It:=match b with | true=>Itl K a | false=>Itt K a
section
variable {K : PySem.W.Frag} {X : Cx} {tg e a b : Expr} {es : List Expr} {pos p tp : Pos} {t ta tb : TD} {tl : TDL}
theorem qlJ {l:Expr} {tl:TE} (hK:X.K=K) (hl:PE X l tl):PI X tg l (fun σ H R=>tl σ H fun x H1=>∃ q a,x=.ref a∧(∃ xs,SqB K q H1 a xs)∧R (Itb K q a) H1):=by
  subst hK
  intro pins s σ H R I h
  refine thn (hl pins s σ H _ I h) fun v s1 hq0=>?_
  obtain ⟨x,H1,I1,r1,q1⟩:=hq0
  obtain ⟨bb,a,e,⟨xs,hq⟩,q⟩:=q1
  subst e
  cases r1
  have fp:∀ b∈[s1.heap.objs.size],qeH X pins H1 b:=fun b hb=>by
    have e:b=s1.heap.objs.size:=by simpa using hb
    subst e
    exact I1.fpOk (Nat.le_refl _) (I1.hok.fresh (Nat.le_refl _))
  cases bb with
  | true =>
    obtain ⟨its,rv,p,hz⟩:=I1.list hq
    refine wpAny_pyIter_list p.isList ?_
    exact ⟨s1.heap.objs.size,[s1.heap.objs.size],_,_,H1,rfl,I1.kept (t':=s1.toks) fun b o e=>Heap.get?_push_of_some _ e,qg8 a _,⟨_,Heap.get?_push_size _ rfl,rfl,rfl⟩,fp,q⟩
  | false =>
    obtain ⟨its,rv,p,hz⟩:=I1.tuple hq
    refine wpAny_pyIter_tuple (show s1.heap.IsTuple a its.toArray from p) ?_
    exact ⟨s1.heap.objs.size,[s1.heap.objs.size],_,_,H1,rfl,I1.kept (t':=s1.toks) fun b o e=>Heap.get?_push_of_some _ e,qgE a _,⟨_,Heap.get?_push_size _ rfl,rfl,rfl⟩,fp,q⟩
theorem qfk {Φ:Hp} {ds:List D} {vs:List V} {a:Addr} {q:Bool} (h:SqB K q Φ a vs) (r:RpL K Φ ds vs):SteadyD K (Itb K q a) Φ ds:=by
  cases q with
  | true=>exact qeI h r
  | false=>exact qfF h r
def qoQ (t:TD):TDL:=fun ρ R=>t ρ fun d=>match d with | .lst ds=>R ds | .tup ds=>R ds | .fzl ds=>R ds | _=>False
theorem qkE {d:D} {R:List D→Prop} (h:match d with | .lst ds=>R ds | .tup ds=>R ds | .fzl ds=>R ds | _=>False):∃ ds,qf4 d=some ds∧R ds:=by
  cases d with
  | lst ds=>exact ⟨ds,rfl,h⟩
  | tup ds=>exact ⟨ds,rfl,h⟩
  | fzl ds=>exact ⟨ds,rfl,h⟩
  | _=>exact h.elim
theorem qa0 (h:PD K X e t):PID K X tg e (qoQ t):=⟨fun hK=>(qlJ hK (h.pe hK)).imp fun σ H R' hq0=>by obtain ⟨H0,Φ,ρ,R,E,t,k⟩:=hq0;exact ⟨H0,Φ,ρ,_,E,t,fun d Φ1 H1 v r g rv=>by
  obtain ⟨ds,e1,r⟩:=qkE r
  obtain ⟨q,a,vs,rfl,h1,h2⟩:=rv.seq e1
  exact ⟨q,a,rfl,⟨vs,SqB.same g.s h1⟩,k _ Φ1 H1 _ r g (qfk h1 h2)⟩⟩⟩
theorem qja {a:Expr} {ta:TA} {es:List Expr} {k:Nat} (hK:X.K=K) (hg:Gl X "enumerate") (hm:X.mg "enumerate"=none) (ha:PA X [a] ta) (hs:starEach [a] X.env=[(false,eval a X.env)]) :
    PI X (.Tuple es k tp) (.Call (.Name "enumerate" p) [a] [] pos) (fun σ H R=>ta σ H fun vs H1=>∃ b a xs,vs=[.ref a]∧SqB K b H1 a xs∧R (Ite K b a) H1):=by
  subst hK
  intro pins s σ H R I h
  refine Call_ (qdq I hg hm boot_enumerate (PyProof.Rows.callWith_type1 (thn (ha pos pins s σ H _ I h) fun us s1 hq0=>?_) hs rfl))
  obtain ⟨vs,H1,I1,r1,q1⟩:=hq0
  obtain ⟨b,l,xs,e,hq,q⟩:=q1
  subst e
  cases r1 with
  | cons r rr =>
    cases rr
    cases r
    obtain ⟨its,rv,p,hz⟩:=I1.sqb hq
    refine qhU p fun h' he hi hsz hk=>wpAny_pyIter_enum he ?_
    have I2:Inv X pins σ H1 { s1 with heap:=h' }:=I1.kept (t':=s1.toks) hk
    have fr:∀ c,s1.heap.objs.size≤c→qeH X pins H1 c:=fun c hc=>I1.fpOk hc (I1.hok.fresh hc)
    exact ⟨s1.heap.objs.size+1,[s1.heap.objs.size+1,s1.heap.objs.size],_,_,H1,rfl,I2,qh7 b l _ _ (Nat.succ_ne_self _),⟨⟨_,he⟩,hi⟩,fun c hc=>by
      rcases List.mem_cons.mp hc with rfl | hc
      · exact fr _ (Nat.le_succ _)
      · rw [List.mem_singleton.mp hc];exact fr _ (Nat.le_refl _),q⟩
theorem qkb {a b:Expr} {ta:TA} {es:List Expr} {k:Nat} (hK:X.K=K) (hg:Gl X "zip") (hm:X.mg "zip"=none) (ha:PA X [a,b] ta) (hs:starEach [a,b] X.env=[(false,eval a X.env),(false,eval b X.env)]) (hs2:starEach [b] X.env=[(false,eval b X.env)]) :
    PI X (.Tuple es k tp) (.Call (.Name "zip" p) [a,b] [] pos) (fun σ H R=>ta σ H fun vs H1=>∃ b1 b2 a1 a2 xs ys,vs=[.ref a1,.ref a2]∧SqB K b1 H1 a1 xs∧SqB K b2 H1 a2 ys∧R (Itz K b1 a1 b2 a2) H1):=by
  subst hK
  intro pins s σ H R I h
  refine Call_ (qdq I hg hm boot_zip (PyProof.Rows.callWith_type1 (thn (ha pos pins s σ H _ I h) fun us s1 ⟨vs,H1,I1,r1,q1⟩=>?_) (by rw [hs,hs2]) (by rw [hs2];rfl)))
  obtain ⟨b1,b2,l1,l2,xs,ys,e,hq1,hq2,q⟩:=q1
  subst e
  cases r1 with
  | cons r rr =>
    cases rr with
    | cons r' rr =>
      cases rr
      cases r
      cases r'
      obtain ⟨its1,rv1,p1,_⟩:=I1.sqb hq1
      obtain ⟨its2,rv2,p2,_⟩:=I1.sqb hq2
      refine qiM p1 p2 fun h' z1 z2 z3 z4 z5 hk=>wpAny_pyIter_zip z1 ?_
      have I2:Inv X pins σ H1 { s1 with heap:=h' }:=I1.kept (t':=s1.toks) hk
      have fr:∀ c,s1.heap.objs.size≤c→qeH X pins H1 c:=fun c hc=>I1.fpOk hc (I1.hok.fresh hc)
      generalize s1.heap.objs.size=n at *
      refine ⟨n+4,[n+4,n+2,n+3,n,n+1],_,_,H1,rfl,I2,qjf b1 b2 l1 l2 (n+4) (n+2) (n+3) n (n+1) (zap n),⟨z1,z2,⟨_,_,z3⟩,z4,z5⟩,fun c hc=>fr c ?_,q⟩
      simp only [List.mem_cons,List.not_mem_nil,or_false] at hc
      rcases hc with rfl | rfl | rfl | rfl | rfl
      · exact Nat.le_add_right _ _
      · exact Nat.le_add_right _ _
      · exact Nat.le_add_right _ _
      · exact Nat.le_refl _
      · exact Nat.le_add_right _ _
def qm9 (t:TDL):TDL:=fun ρ R=>t ρ fun ds=>match ds with | [.lst xs]=>R (qez xs) | [.tup xs]=>R (qez xs) | [.fzl xs]=>R (qez xs) | _=>False
theorem qdo {ets:List Expr} {ek:Nat} (hg:Gl X "enumerate") (hm:X.mg "enumerate"=none) (ha:PAD K X [a] tl) (hs:starEach [a] X.env=[(false,eval a X.env)]:=by rfl):PID K X (.Tuple ets ek tp) (.Call (.Name "enumerate" p) [a] [] pos) (qm9 tl) :=
  ⟨fun hK=>(qja hK hg hm (ha.pa hK) hs).imp fun σ H R' hq0=>by obtain ⟨H0,Φ,ρ,R,E,t,k⟩:=hq0;exact ⟨H0,Φ,ρ,_,E,t,fun ds Φ1 H1 vs r g rv _=>by
    have fin:∀ {d:D} {xs:List D},RpL K Φ1 [d] vs→qf4 d=some xs→R (qez xs)→∃ b a xs,vs=[.ref a]∧SqB K b H1 a xs∧R' (Ite K b a) H1:=fun {d xs} rv hx r=>by
      obtain ⟨v,rfl,r1⟩:=rv.one_inv
      obtain ⟨q,a,ws,rfl,h1,h2⟩:=r1.seq hx
      exact ⟨q,a,ws,rfl,SqB.same g.s h1,k _ Φ1 H1 _ r g (qe8 h1 h2)⟩
    match ds,r with
    | [.lst xs],r=>exact fin rv rfl r
    | [.tup xs],r=>exact fin rv rfl r
    | [.fzl xs],r=>exact fin rv rfl r⟩⟩
def qn3 (t:TDL):TDL:=fun ρ R=>t ρ fun ds=>match ds with | [d,e]=>∃ xs ys,qf4 d=some xs∧qf4 e=some ys∧R (qhF xs ys) | _=>False
theorem qmj {ets:List Expr} {ek:Nat} (hg:Gl X "zip") (hm:X.mg "zip"=none) (ha:PAD K X [a,b] tl) (hs:starEach [a,b] X.env=[(false,eval a X.env),(false,eval b X.env)]:=by rfl) (hs2:starEach [b] X.env=[(false,eval b X.env)]:=by rfl):PID K X (.Tuple ets ek tp) (.Call (.Name "zip" p) [a,b] [] pos) (qn3 tl) :=
  ⟨fun hK=>(qkb hK hg hm (ha.pa hK) hs hs2).imp fun σ H R' hq0=>by obtain ⟨H0,Φ,ρ,R,E,t,k⟩:=hq0;exact ⟨H0,Φ,ρ,_,E,t,fun ds Φ1 H1 vs r g rv _=>by
    match ds,r with
    | [d,e],⟨xs,ys,hx,hy,r⟩ =>
      obtain ⟨v,w,rfl,r1,r2⟩:=rv.two_inv
      obtain ⟨q1,a1,ws,rfl,h1,h2⟩:=r1.seq hx
      obtain ⟨q2,a2,us,rfl,h3,h4⟩:=r2.seq hy
      exact ⟨q1,q2,a1,a2,ws,us,rfl,SqB.same g.s h1,SqB.same g.s h3,k _ Φ1 H1 _ r g (qfq h1 h3 h2 h4)⟩⟩⟩
variable {gs : qgP}
def qmW (n:Nat) (t:qgP):TGD:=fun d ρ R=>match d with | .tup ds=>ds.length=n∧t ds ρ R | .lst ds=>ds.length=n∧t ds ρ R | _=>False
theorem PG.or {tg:Expr} {t t':TG} (h:PG X tg t) (h':PG X tg t'):PG X tg (fun v σ H Q=>t v σ H Q∨t' v σ H Q):=by
  intro pins s σ H v u Q I r hw
  rcases hw with hw | hw
  · exact h pins s σ H v u Q I r hw
  · exact h' pins s σ H v u Q I r hw
theorem qfw {k n:Nat} (hc:X.calm=true) (h:PGDs K X es gs) (hn:(assignEach es X.env).length=n:=by rfl) (hst:(assignEach es X.env).findIdx? (·.1)=none:=by rfl):PGD K X (.Tuple es k pos) (qmW n gs) :=
  ⟨fun hK=>((qf6 hK hc (h.pg hK) hn hst).or (qfW hK hc (h.pg hK) hn hst)).imp fun v σ H Q hq0=>by
    obtain ⟨H0,Φ,ρ,d,R,E,r,g,k⟩:=hq0
    cases d with
    | tup ds=>cases r with | tup h1 h2 h3=>exact .inl ⟨_,_,rfl,.of (E.fz _ _ h1),by rw [h2];exact g.1,H0,Φ,ρ,ds,R,E,⟨h2,h3⟩,g.2,k⟩
    | lst ds=>cases r with | lst h1 h2 h3=>exact .inr ⟨_,_,rfl,.of (E.fz _ _ h1),by rw [h2];exact g.1,H0,Φ,ρ,ds,R,E,⟨h2,h3⟩,g.2,k⟩
    | _=>exact g.elim⟩
theorem qmd {k n:Nat} {t:qgP} (h:GMs k t):GM k (qmW n t):=⟨⟨fun d ρ R r=>by
  cases d with
  | tup ds=>exact ⟨r.1,h.k.p ds ρ R r.2⟩
  | lst ds=>exact ⟨r.1,h.k.p ds ρ R r.2⟩
  | _=>exact r⟩,fun d ρ R R' hr r=>by
  cases d with
  | tup ds=>exact ⟨r.1,h.m ds ρ R R' hr r.2⟩
  | lst ds=>exact ⟨r.1,h.m ds ρ R R' hr r.2⟩
  | _=>exact r⟩
theorem qmt {Φ H:Hp} {d:D} {v:V} {T:String} {r:Bool} (s:Same Φ H) (h:RpQ K Φ H d v) (e:qmw d T=some r):IsiV K H v T r:=by
  have sp:∀ {c:Prop} [Decidable c] {x:Bool} {y:Option Bool},(if c then some x else y)=some r→(c∧x=r)∨y=some r:=fun {c _ x y} h=>by
    by_cases hc:c
    · rw [if_pos hc] at h;cases h;exact .inl ⟨hc,rfl⟩
    · rw [if_neg hc] at h;exact .inr h
  cases d with
  | int i =>
    cases h.int
    rcases sp e with ⟨rfl,rfl⟩ | e
    · exact .int_int _
    rcases sp e with ⟨rfl,rfl⟩ | e
    · exact .int_bool _
    rcases sp e with ⟨rfl,rfl⟩ | e
    · exact .int_tuple _
    rcases sp e with ⟨rfl,rfl⟩ | e
    · exact .int_str _
    cases e
  | bl i =>
    cases h.bl
    rcases sp e with ⟨rfl,rfl⟩ | e
    · exact .bl_int _
    rcases sp e with ⟨rfl,rfl⟩ | e
    · exact .bl_bool _
    rcases sp e with ⟨rfl,rfl⟩ | e
    · exact .bl_tuple _
    cases e
  | str i =>
    cases h.str
    rcases sp e with ⟨rfl,rfl⟩ | e
    · exact .str_str _
    rcases sp e with ⟨rfl,rfl⟩ | e
    · exact .str_tuple _
    cases e
  | non=>cases e
  | tup ds =>
    obtain ⟨a,vs,rfl,h1,_,h2⟩:=h.tup s
    rcases sp e with ⟨rfl,rfl⟩ | e
    · exact .tup_tuple h1
    rcases sp e with ⟨rfl,rfl⟩ | e
    · exact .tup_int h1
    cases e
  | lst ds =>
    obtain ⟨a,vs,rfl,h1,h2⟩:=h.lst s
    rcases sp e with ⟨rfl,rfl⟩ | e
    · exact .lst_tuple (.of h1)
    rcases sp e with ⟨rfl,rfl⟩ | e
    · exact .lst_list (.of h1)
    cases e
  | fzl ds=>cases e
  | obj C fs=>cases e
  | map kvs=>cases e
  | exc _ _=>cases e
def qpq (T:String) (t:TD):TD:=fun ρ R=>t ρ fun d=>∃ r,qmw d T=some r∧R (.bl r)
theorem qh8 {T:String} {tx:Str} {p2:Pos} (hg:Gl X "isinstance") (hm:X.mg "isinstance"=none) (ha:PQ K X a t) (hT:PE X (.Name tx p2) (tC (.ty T)))
    (he:starEach [a,.Name tx p2] X.env=(false,eval a X.env)::starEach [.Name tx p2] X.env) (he2:starEach [.Name tx p2] X.env=(false,eval (.Name tx p2) X.env)::starEach [] X.env):PD K X (.Call (.Name "isinstance" p) [a,.Name tx p2] [] pos) (qpq T t) :=
  ⟨fun hK=>(qcz (qh3 hK) hg hm boot_isinstance (qaZ (ha.pe hK) (qaZ hT pa_nil he2) he) (by decide) (by decide) he (qai he2 qaf)).imp fun σ H Q hq0=>by obtain ⟨H0,Φ,ρ,R,E,t,k⟩:=hq0;exact ⟨H0,Φ,ρ,_,E,t,fun d Φ1 H1 v r g rv=>by
    obtain ⟨rr,hr,r⟩:=r
    exact ⟨v,T,rr,rfl,qmt g.s rv hr,k _ Φ1 H1 _ r g (.bl _)⟩⟩⟩
theorem qlL (i:Int):qmw (.int i) "int"=some true:=rfl
theorem qlV (i:Int):qmw (.int i) "bool"=some false:=rfl
theorem qhl (xs:List D):qmw (.tup xs) "tuple"=some true:=rfl
end
theorem qbm {α:Type} {f:α→D} {ns:List α} {i:Nat} {x:D} (h:(ns.map f)[i]?=some x):∃ k,x=f k∧ns[i]?=some k:=by
  rw [List.getElem?_map] at h
  cases e:ns[i]? with
  | none=>rw [e] at h;cases h
  | some k=>rw [e] at h;cases h;exact ⟨k,rfl,rfl⟩
theorem qjm {ns:List Int} {i:Nat} {x:D} (h:(ns.map D.int)[i]?=some x):∃ k,x=.int k∧ns[i]?=some k:=qbm h
theorem qcE {α:Type} {f:α→D} {ns:List α} {i:Nat} {n:α} {k:Int} (h:ns[i]?=some n) (e:k=(i:Int)):atI (ns.map f) k=some (f n):=qmK (by rw [List.getElem?_map,h];rfl) e
theorem qlm {ns:List Int} {k:Int} (h0:0≤k) (h:k<(ns.length:Int)):∃ v:Int,atI (ns.map D.int) k=some (.int v):=by
  have hk:k.toNat<ns.length:=by omega
  exact ⟨_,qcE (qaF hk) (by omega)⟩
def qjU:SpD:=fun ds R=>∃ ns:List Int,ds=[.fzl (ns.map D.int)]∧ns.length≤63∧R (.bl true)
def qmz (K:PySem.W.Frag):Sp:=fun vs H Q _=>∃ (a:Addr) (ns:List Int),vs=[.ref a]∧SqL K H a (ns.map V.int)∧ns.length≤63∧TabF K H∧∀ H',Q (.bl true) H'
theorem qjs {K:PySem.W.Frag}:∀ vs H Q E,qmz K vs H Q E→lSp K qjU vs H Q E:=by
  rintro vs H Q E ⟨a,ns,rfl,hS,hl,tb,q⟩
  refine ⟨H,[.fzl (ns.map D.int)],fun d=>d=.bl true,Same.refl _,tb,.one ((RpL.ints ns).fzl hS),⟨ns,rfl,hl,rfl⟩,fun d Φ' H' v r g rv=>?_⟩
  subst r
  cases rv
  exact q _
def qiL (r:Row):D:=.tup [.tup (r.1.map D.int),.int r.2]
section
variable {K : PySem.W.Frag} {H H' Φ : Hp} {v : V} {vs : List V}
end
theorem qdg {α β:Type} (f:α→β) (xs:List α) (lo hi:Option Int):qca (xs.map f) lo hi=(qca xs lo hi).map f:=by
  unfold qca
  rw [List.length_map,List.map_take,List.map_drop]
theorem qkF (k:Nat) (zs:List Int):(List.replicate k (zs.map D.int)).flatten=((List.replicate k zs).flatten).map D.int:=by
  induction k with
  | zero=>rfl
  | succ k ih=>rw [List.replicate_succ,List.flatten_cons,ih,List.replicate_succ,List.flatten_cons,List.map_append]
theorem qib (k:Nat) (z:Int):(List.replicate k [D.int z]).flatten=(List.replicate k z).map D.int:=by
  induction k with
  | zero=>rfl
  | succ k ih=>rw [List.replicate_succ,List.flatten_cons,ih];rfl
section
variable {g : TGD} {te : TD} {ρ : Rho} {R : List D → Prop}
theorem qjB {ds:List D} (ws:List D) (hw:ws.length=ds.length) (hlen:ds.length<sizeLine) (Q:Nat→D→Prop) (hQ:∀ i y,Q i y→ws[i]?=some y) (hb:∀ i d,ds[i]?=some d→g d ρ fun ρ1=>te ρ1 (Q i)) (k:R ws) :
    ds.length<sizeLine∧∃ P:Nat→D→Prop,(∀ i d,ds[i]?=some d→g d ρ fun ρ1=>te ρ1 (P i))∧∀ ys:List D,ys.length=ds.length→(∀ i y,ys[i]?=some y→P i y)→R ys:=by
  refine ⟨hlen,Q,hb,fun ys hl hy=>?_⟩
  have:ys=ws:=by
    refine List.ext_getElem? fun i=>?_
    rcases Nat.lt_or_ge i ys.length with c | c
    · rw [qaF c,hQ i _ (hy i _ (qaF c))]
    · rw [List.getElem?_eq_none c,List.getElem?_eq_none (by omega)]
  rw [this]
  exact k
theorem qaw {α:Type} {f:α→D} {xs:List α} (h:α→D) (hlen:xs.length<sizeLine) (hb:∀ x∈xs,g (f x) ρ fun ρ1=>te ρ1 fun y=>y=h x) (k:R (xs.map h)) :
    (xs.map f).length<sizeLine∧∃ P:Nat→D→Prop,(∀ i d,(xs.map f)[i]?=some d→g d ρ fun ρ1=>te ρ1 (P i))∧∀ ys:List D,ys.length=(xs.map f).length→(∀ i y,ys[i]?=some y→P i y)→R ys:=by
  refine qjB (xs.map h) (by simp) (by rw [List.length_map];exact hlen) (fun i=>match xs[i]? with | some x=>fun y=>y=h x | none=>fun _=>False) (fun i y q=>?_) (fun i d hd=>?_) k
  · rw [List.getElem?_map]
    cases e:xs[i]? with
    | none=>rw [e] at q;exact q.elim
    | some x=>rw [e] at q;rw [q];rfl
  · obtain ⟨x,rfl,hx⟩:=qbm hd
    have e:(match xs[i]? with | some x=>fun y=>y=h x | none=>fun _=>False:D→Prop)=fun y=>y=h x:=by rw [hx]
    rw [e]
    exact hb x (List.mem_of_getElem? hx)
theorem qfO {lo:Int} {n:Nat} (h:Nat→D) (hlen:n<sizeLine) (hb:∀ i,i<n→g (.int (lo+(i:Nat))) ρ fun ρ1=>te ρ1 fun y=>y=h i) (k:R ((List.range n).map h)) :
    (qcv lo n).length<sizeLine∧∃ P:Nat→D→Prop,(∀ i d,(qcv lo n)[i]?=some d→g d ρ fun ρ1=>te ρ1 (P i))∧∀ ys:List D,ys.length=(qcv lo n).length→(∀ i y,ys[i]?=some y→P i y)→R ys :=
  qaw (f:=fun i:Nat=>D.int (lo+(i:Nat))) (xs:=List.range n) h (by rw [List.length_range];exact hlen) (fun x hx=>hb x (List.mem_range.mp hx)) k
theorem qki {α β:Type} (f:α→D) (h:β→D) (xs:List α) (ys:List β):qhF (xs.map f) (ys.map h)=(List.zip xs ys).map fun p=>.tup [f p.1,h p.2]:=by
  unfold qhF
  rw [List.zipWith_map,List.map_zip_eq_zipWith]
  rfl
theorem qhw {α β:Type} {f:α→D} {h:β→D} {xs:List α} {ys:List β} (w:α→β→D) (hlen:xs.length<sizeLine) (hb:∀ x∈xs,∀ y∈ys,g (.tup [f x,h y]) ρ fun ρ1=>te ρ1 fun z=>z=w x y) (k:R (List.zipWith w xs ys)) :
    (qhF (xs.map f) (ys.map h)).length<sizeLine∧∃ P:Nat→D→Prop,(∀ i d,(qhF (xs.map f) (ys.map h))[i]?=some d→g d ρ fun ρ1=>te ρ1 (P i))∧∀ zs:List D,zs.length=(qhF (xs.map f) (ys.map h)).length→(∀ i y,zs[i]?=some y→P i y)→R zs:=by
  rw [qki]
  refine qaw (fun p:α × β=>w p.1 p.2) ?_ (fun p hp=>hb p.1 (List.of_mem_zip hp).1 p.2 (List.of_mem_zip hp).2) ?_
  · rw [List.length_zip];omega
  · rw [List.map_zip_eq_zipWith];exact k
end
end L2
namespace L2
theorem ff {p:Prop} (h:false=true):p:=by cases h
theorem tf {p:Prop} (h:true=false):p:=by cases h
end L2
namespace L2
theorem qc0 {α:Type} {xs:List α} {p:α→Bool} {b:Bool} (h:(fun bs:List Bool=>bs.any id) (xs.map p)=b):xs.any p=b:=by
  have h':(xs.map p).any id=b:=h
  rw [List.any_map] at h'
  exact h'
end L2
namespace L2
theorem qfA {α:Type} (f:α→D) (es:List α) (d:α):es.map f++[f d]=(es++[d]).map f:=by simp
theorem qnZ {α:Type} (f:α→D) (es fs:List α):es.map f++fs.map f=(es++fs).map f:=by simp
end L2
namespace L2
open PySem PySem.Spec PyProof.Rows
section
variable {g : TGD} {te : TD} {ρ : Rho} {R : List D → Prop}
theorem qcy {α:Type} {f:α→D} {xs:List α} (h:α→Int) (hlen:xs.length<sizeLine) (hb:∀ x∈xs,g (f x) ρ fun ρ1=>te ρ1 fun y=>y=.int (h x)) (k:R ((xs.map h).map D.int)) :
    (xs.map f).length<sizeLine∧∃ P:Nat→D→Prop,(∀ i d,(xs.map f)[i]?=some d→g d ρ fun ρ1=>te ρ1 (P i))∧∀ ys:List D,ys.length=(xs.map f).length→(∀ i y,ys[i]?=some y→P i y)→R ys :=
  qaw (fun x=>D.int (h x)) hlen hb (by rw [List.map_map] at k;exact k)
end
theorem qjO {α:Type} {f:α→D} {P:α→Prop}:∀ {ys:List D},(∀ (i:Nat) y,ys[i]?=some y→∃ x,P x∧y=f x)→∃ xs:List α,ys=xs.map f∧∀ x∈xs,P x
  | [],_=>⟨[],rfl,fun x hx=>absurd hx List.not_mem_nil⟩
  | y::ys,h=>by
    obtain ⟨x,hx,rfl⟩:=h 0 y rfl
    obtain ⟨xs,rfl,hxs⟩:=qjO (ys:=ys) fun i y hy=>h (i+1) y hy
    exact ⟨x::xs,rfl,fun z hz=>by
      rcases List.mem_cons.mp hz with rfl | hz
      · exact hx
      · exact hxs z hz⟩
section
variable {K : PySem.W.Frag} {X : Cx} {pins : List (Addr × Obj)} {σ : St} {Φ H : Hp} {s : Shared}
end
section
variable {K : PySem.W.Frag} {X : Cx} {a b : Expr} {ta tb : TD} {apos cpos : Pos}
end
section
variable {K : PySem.W.Frag} {X : Cx} {e b : Expr} {te tk : TD} {pos spos npos : Pos} {x : Str}
end
section
variable {K : PySem.W.Frag} {X : Cx} {e a st : Expr} {pos p2 : Pos} {te : TE}
end
section
variable {K : PySem.W.Frag} {X : Cx} {a st : Expr} {pos p2 : Pos} {ta : TD} {to : TOD}
end
section
variable {K : PySem.W.Frag} {Φ Φ0 Φ1 H H0 H1 : Hp} {p : Addr} {d : D} {v : V} {ds : List D} {vs : List V}
end
section
variable {K : PySem.W.Frag} {X : Cx} {e : Expr} {te : TD} {pos pos' : Pos}
end
section
variable {K : PySem.W.Frag} {X : Cx} {Φ H : Hp} {a e : Expr} {es : List Expr} {ta : TD} {tl : TDL} {C : Addr} {fl : Str} {pos p : Pos}
variable {CX : CXT} {k : Nat} {f : Addr} {fd : FuncData} {ps ns : List Str} {x : Str} {E : XK}
end
section
variable {prog : Program} {w : World} {A : Around} {E : Value → Shared → Prop} {s : Shared}
end
section
variable {K : PySem.W.Frag} {X : Cx} {a : Expr} {pos p p2 pos2 : Pos} {tl : TDL}
end
section
variable {X : Cx} {A : Around} {scope : Scope} {p : Str} {r : List Str} {cap : List (Option Nat)} {cl : List (Str × Addr)} {f c' : Addr} {qual name : Str} {cd pm ctv : Value} {pins : List (Addr × Obj)} {σ : St} {H : Hp} {s s1 : Shared} {v : V} {u : Value} {params : Arguments} {body : Expr} {te : TE} {Q : VK} {E : Value → Shared → Prop}
end
section
variable {X : Cx} {A : Around} {pins : List (Addr × Obj)} {σ : St} {H : Hp} {s : Shared} {params : Arguments} {body : Expr} {scope : Scope} {pos : Pos} {c P : Addr} {t0 : Tok} {Q : Value → Shared → Prop} {E : Value → Shared → Prop}
end
section
variable {X : Cx} {pins : List (Addr × Obj)} {σ : St} {H : Hp} {xs : List V} {l S I f : Addr} {fob : Obj} {kf : Nat → Int} {G : Hp → Prop} {R : Result → Shared → Prop} {kw : List (Str × Value)}
end
section
variable {X : Cx} {pins : List (Addr × Obj)} {σ : St} {H : Hp} {xs : List V} {l f : Addr} {fob : Obj} {kf : Nat → Int} {G : Hp → Prop} {s : Shared} {Q : Value → Shared → Prop} {E : Value → Shared → Prop}
end
section
variable {K : PySem.W.Frag} {X : Cx} {l body : Expr} {tl tb : TD} {scope : Scope} {p : Str} {r : List Str} {cap : List (Option Nat)} {params : Arguments} {np pos lp kp1 kp2 kp3 : Pos} {c P : Addr} {j : Nat}
end
section
variable {P : Program} {w : World} {K : PySem.W.Frag} {mg : Str → Option Value} {base : Heap}
theorem Fun.okL {x qual:Str} {st:Stmt} {f:Addr} {fd:FuncData} {N ps:List Str} {k:Nat} {sp:Sp} (F:Fun K x qual st f fd) (S:FnScope N ps (qad st)) (len:∀ vs H Q E,sp vs H Q E→vs.length=ps.length)
    (hbody:∀ (cdv:Value) (A:Around) (outer:List Env) (s:Shared) (H:Hp) (vs:List V) (Q:VK) (E:XK),fd.code=cdv→Room k (A.deeper (envOfC qual (qad st) s.heap.objs.size f cdv))→sp vs H Q E →
      ∃ t,PSs (qg3 CX0 P w K mg base N qual (qad st) f cdv A outer s H E).nox (qaO st) t∧t { nx:=fun _ H'=>Q .non H',rt:=Q } (qbH N vs) H):FnOk P w K mg base CX0 (k+1) f fd ps sp:=by
  obtain ⟨oc,od,kV,doc,pm,an,cdv,ct,osl,rfl,lk,hcd⟩:=F.ex
  refine qi9 lk hcd S len fun A outer s H vs Q E hr hsp=>?_
  obtain ⟨t,h,q⟩:=hbody cdv A outer s H vs Q E rfl hr hsp
  exact ⟨t,h.nox,q⟩
end
end L2
namespace L2
open PySem PySem.W PyProof.Rows
section
variable {key : Nat → Int} {N : Nat} {p : Array Nat}
variable (hk : ∀ i j, i < N → j < N → key i = key j → i = j)
include hk
end
end L2
namespace L2
open PySem PySem.Spec PySem.W PyProof.Rows PySem.Calls
section
variable {prog : Program} {w : World} {A : Around} {E : Value → Shared → Prop} {s : Shared} {h₀ : Heap} {L a : Addr} {m : Str → Option Value} {news : List (Addr × Obj)} {vs : List Value}
end
end L2
namespace L2
open PySem PySem.Spec PySem.W PyProof.Rows PySem.Calls
section
variable {K : PySem.W.Frag} {X : Cx}
end
end L2
namespace L2
open PySem PySem.Spec PyProof.Rows
section
variable {X : Cx}
end
section
variable {K : PySem.W.Frag} {X : Cx} {e e2 : Expr} {te te2 : TD} {pos : Pos}
end
def qgM:Key→D
  | .inl i=>.int i
  | .inr s=>.str s
theorem qeP {K:PySem.W.Frag} {Φ:Hp} {k:Key} {v:V} (r:Rp K Φ (qgM k) v):v=kV k:=by
  cases k with
  | inl i=>cases r;rfl
  | inr s=>cases r;rfl
theorem qhi {K:PySem.W.Frag} {Φ H:Hp} {k:Key} {v:V} (r:RpQ K Φ H (qgM k) v):v=kV k:=by
  cases k with
  | inl i=>exact RpQ.int r
  | inr s=>exact RpQ.str r
theorem qei {K:PySem.W.Frag} {Φ:Hp} {ks:List Key} {vs:List V} (r:RpL K Φ (ks.map qgM) vs):vs=ks.map kV:=by
  refine List.ext_getElem? fun i=>?_
  rw [List.getElem?_map]
  cases h:ks[i]? with
  | none =>
    have h1:=List.getElem?_eq_none_iff.mp h
    exact List.getElem?_eq_none (by rw [r.1,List.length_map];exact h1)
  | some k =>
    obtain ⟨v,hv,rv⟩:=r.at (i:=i) (d:=qgM k) (by rw [List.getElem?_map,h];rfl)
    rw [hv,qeP rv]
    rfl
def qeD (k:Key) (ks:List Key):Bool:=ks.any fun j=>decide (j=k)
theorem qgk (k:Key) (ks:List Key):qeD k ks=true↔k∈ks:=by
  unfold qeD
  rw [List.any_eq_true]
  exact ⟨fun ⟨j,h1,h2⟩=>of_decide_eq_true h2 ▸ h1,fun h=>⟨k,h,decide_eq_true rfl⟩⟩
theorem qdj (k:Key):qd9 (kV k)=true:=by cases k <;> rfl
theorem qkR (j k:Key):eqV (kV j) (kV k)=decide (j=k):=by
  cases j with
  | inl a =>
    cases k with
    | inl b=>show (a == b)=_;by_cases h:a=b <;> simp [h]
    | inr b=>show false=_;simp
  | inr a =>
    cases k with
    | inl b=>show false=_;simp
    | inr b=>show (a == b)=_;by_cases h:a=b <;> simp [h]
theorem qgp (k:Key) (ks:List Key):inV (kV k) (ks.map kV)=qeD k ks:=by
  unfold inV qeD
  rw [List.any_map]
  exact List.any_congr rfl fun j=>qkR j k
def zIn (neg:Bool):RD2:=fun dx dy R=>∃ (k:Key) (ks:List Key),dx=qgM k∧qf4 dy=some (ks.map qgM)∧R (.bl (neg != qeD k ks))
section
variable {K : PySem.W.Frag} {X : Cx}
theorem qol:OpD K X (compareOp .In) (zIn false):=⟨fun hK pins s σ H x y u v Q I rx ry hq0=>by
  obtain ⟨Φ,dx,dy,R,sm,hx,hy,⟨k,ks,rfl,e,h⟩,kk⟩:=hq0
  cases qhi hx
  obtain ⟨a,vs,rfl,q,rl⟩:=hy.seq sm e
  cases qei rl
  refine qhj pins s σ H _ _ u v Q I rx ry ⟨a,_,rfl,by rw [hK];exact q,qdj k,?_,?_⟩
  · rw [List.all_eq_true]
    intro z hz
    obtain ⟨j,_,rfl⟩:=List.mem_map.mp hz
    exact qdj j
  · have e2:(if false=true then !inV (kV k) (ks.map kV) else inV (kV k) (ks.map kV))=(false != qeD k ks):=by rw [qgp];simp
    rw [e2]
    exact kk _ Φ H _ h (.refl sm) (.bl _)⟩
theorem qfo:OpD K X (compareOp .NotIn) (zIn true):=⟨fun hK pins s σ H x y u v Q I rx ry hq0=>by
  obtain ⟨Φ,dx,dy,R,sm,hx,hy,⟨k,ks,rfl,e,h⟩,kk⟩:=hq0
  cases qhi hx
  obtain ⟨a,vs,rfl,q,rl⟩:=hy.seq sm e
  cases qei rl
  refine qeQ pins s σ H _ _ u v Q I rx ry ⟨a,_,rfl,by rw [hK];exact q,qdj k,?_,?_⟩
  · rw [List.all_eq_true]
    intro z hz
    obtain ⟨j,_,rfl⟩:=List.mem_map.mp hz
    exact qdj j
  · have e2:(if true=true then !inV (kV k) (ks.map kV) else inV (kV k) (ks.map kV))=(true != qeD k ks):=by rw [qgp];simp
    rw [e2]
    exact kk _ Φ H _ h (.refl sm) (.bl _)⟩
end
section
variable {K : PySem.W.Frag} {X : Cx} {e ev : Expr} {te tv : TD} {pos : Pos}
def qoC (i:Nat):TSD:=fun De ρ=>De.nx (ρ.set i (some (.dct [])))
theorem qmk {i:Nat} {x:Str} {pos' dpos:Pos} (hN:X.N.Nodup) (hi:X.N[i]?=some x) (hx:Loc X.env.scope x) (hs:swapsWith (.Dict [] [] dpos) (some (.Name x pos')) pos.line X.env=pure false:=by rfl) (hf:X.fn x=true∨X.env.scope.names.lookup x=some .local:=by first | exact .inl rfl | exact .inr rfl | assumption) :
    PSD K X (.Assign [.Name x pos'] (.Dict [] [] dpos) pos) (qoC i):=⟨fun hK=>(qgi hN hi hx pe_dnewK hs hf).imp fun E σ H hq0=>by
  obtain ⟨Φ0,H0,Φ,ρ,De,g,V,t,k⟩:=hq0
  intro p hp
  have g1:Gr Φ H Φ (upd H p (.dK [])):=Gr.fresh V.fz hp _
  refine k.nx _ Φ _ _ t (g.trans g1) ((V.gr g1).setOb (o:=.dct []) (u:=.dK []) rfl (g.h.free hp) (V.fz.free hp) qaj (fun j w hj z=>?_) i)
  obtain ⟨q,ws,e,_,_,hq,_⟩:=V.ow j _ hj
  rw [e] at z
  cases z
  rw [hp] at hq
  cases hq⟩
theorem qga (k:Key) (kvs:List (Key × V)):(qfE kvs k).isSome=qeD k (kvs.map (·.1)):=by
  rw [← qdh]
  unfold qeD
  rw [List.any_map]
  rfl
def qoR (neg:Bool) (i:Nat) (te:TD):TDB:=fun ρ R=>match ρ[i]? with
  | some (some (.ob (.dct ks)))=>te ρ fun d=>∃ k,d=qgM k∧R (neg != qeD k ks)
  | _=>False
theorem qnL {npos:Pos} {x:Str} (i:Nat) (hu:X.A.units+64<cLine) (he:PD K X e te) (hN:X.N[i]?=some x:=by rfl) (hv:Vis X.env.scope x:=by first | exact Or.inl rfl | exact Or.inr (Or.inl rfl) | exact Or.inr (Or.inr rfl)) (hd:(x == ("__debug__":Str))=false:=by decide) (hcd:(x == ("__classdict__":Str))=false:=by decide)
    (hm:behindInMarks .In (.Name x npos)=false:=by rfl):PTD K X (.Compare e [.In] [.Name x npos] pos) (qoR false i te) :=
  ⟨fun hK=>(qjS (qjE (by omega) (he.pe hK) (pv i hN hv hd hcd)) hm).imp fun σ H Q hq0=>by
    obtain ⟨H0,Φ,ρ,R,E,t,k⟩:=hq0
    unfold qoR at t
    split at t
    · next ks ho =>
      refine ⟨H0,Φ,ρ,_,E,t,fun d Φ1 H1 v r g1 rv=>?_⟩
      obtain ⟨kk,rfl,r⟩:=r
      cases qeP rv
      obtain ⟨p,kvs,e1,h0,hn,hp,rl⟩:=(E.gr g1).owd i ks ho
      refine ⟨_,e1,p,_,rfl,.k hp,_,rfl,?_⟩
      rw [qga,rl]
      have e2:qeD kk ks=(false != qeD kk ks):=by simp
      rw [e2]
      exact k _ Φ1 H1 r g1
    · exact t.elim⟩
theorem qji (k:Key) (v:V) (kvs:List (Key × V)):(qfj kvs k v).map (·.1)=if qeD k (kvs.map (·.1))=true then kvs.map (·.1) else kvs.map (·.1)++[k]:=by
  unfold qfj
  have h:=qga k kvs
  rw [← qdh] at h
  rw [h]
  by_cases c:qeD k (kvs.map (·.1))=true
  · rw [if_pos c,if_pos c,List.map_map]
    refine List.map_congr_left fun p _=>?_
    show (if p.1=k then (p.1,v) else p).1=p.1
    split <;> rfl
  · rw [if_neg c,if_neg c,List.map_append]
    rfl
def qjJ (i:Nat) (te tv:TD):TSD:=fun De ρ=>match ρ[i]? with
  | some (some (.ob (.dct ks)))=>tv ρ fun _=>te ρ fun d=>∃ k,d=qgM k∧ks.length<sizeLine∧NF (if qeD k ks=true then ks else ks++[k]) fun ls=>De.nx (ρ.set i (some (.dct ls)))
  | _=>False
theorem qnm {npos spos:Pos} {x:Str} (i:Nat) (hu:X.A.units+64<cLine) (he:PD K X e te) (hw:PD K X ev tv) (hN:X.N[i]?=some x:=by rfl) (hv:Vis X.env.scope x:=by first | exact Or.inl rfl | exact Or.inr (Or.inl rfl) | exact Or.inr (Or.inr rfl)) (hd:(x == ("__debug__":Str))=false:=by decide) (hcd:(x == ("__classdict__":Str))=false:=by decide)
    (hs:swapsWith ev (some (.Subscript (.Name x npos) e spos)) pos.line X.env=pure false:=by rfl):PSD K X (.Assign [.Subscript (.Name x npos) e spos] ev pos) (qjJ i te tv) :=
  ⟨fun hK=>(qhs (by omega) (pv i hN hv hd hcd) (he.pe hK) (hw.pe hK) hs).imp fun E σ H hq0=>by
    obtain ⟨Φ0,H0,Φ,ρ,De,g,V,t,k⟩:=hq0
    unfold qjJ at t
    split at t
    · next ks ho =>
      refine ⟨H0,Φ,ρ,_,V,t,fun d0 Φ1 H1 v0 r0 g1 rv0=>?_⟩
      have V1:=V.gr g1
      obtain ⟨p,kvs,e1,h0,hn,hp,rl⟩:=V1.owd i ks ho
      refine ⟨_,e1,H0,Φ1,ρ,_,V1,r0,fun d Φ2 H2 v r g2 rv=>?_⟩
      obtain ⟨kk,rfl,hl,r⟩:=r
      cases qeP rv
      have hp2:=g2.h _ _ hp
      have hn2:=g2.o _ _ hp hn
      refine ⟨p,_,rfl,.k hp2 (by rw [← List.length_map (f:=(·.1)),rl];exact hl),k.nx _ Φ2 _ σ r.get (qhL ((g.trans g1).trans g2) h0 hn2) ((V1.gr g2).putOb (o':=.dct _) ho e1 ?_)⟩
      show (qfj kvs kk v0).map (·.1)=_
      rw [qji,rl]
    · exact t.elim⟩
end
theorem qfh:∀ {zs:List Str} {us:List Value},Vals (zs.map V.str) us→∃ l:List (Str × Tok),us=strValues l∧l.map (·.1)=zs
  | [],_,h=>by
    rw [List.map_nil] at h
    cases h
    exact ⟨[],rfl,rfl⟩
  | z::zs,_,h=>by
    rw [List.map_cons] at h
    cases h with
    | cons r t =>
      obtain ⟨tk,rfl⟩:=r
      obtain ⟨l,rfl,e⟩:=qfh t
      exact ⟨(z,tk)::l,rfl,by rw [List.map_cons,e]⟩
def qnA (K:PySem.W.Frag):V→List V→Hp→VK→Prop:=fun x vs H Q=>∃ (sep:Str) (p:Addr) (zs:List Str) (B:Nat),x=.str sep∧vs=[.ref p]∧SqL K H p (zs.map V.str)∧(∀ z∈zs,z.length≤B)∧zs.length*B+zs.length*sep.length≤16777216∧∀ z:Str,z.length≤zs.length*B+zs.length*sep.length→Q (.str z) H
section
variable {X : Cx}
theorem qkr:MtR X "str.join" (qnA X.K):=by
  intro pins s σ H x vs v us Q I rx rv h
  obtain ⟨sep,p,zs,B,rfl,rfl,hq,hB,hf,q⟩:=h
  obtain ⟨t,rfl⟩:=rx
  obtain ⟨u,rfl,ru⟩:=rv.one
  cases ru
  obtain ⟨its,r,pl,hz⟩:=I.list hq
  obtain ⟨l,rfl,e⟩:=qfh r
  have tl:Builtin.Str.tooLong ((l.map (·.1)).toArray.foldl (·+·.length+sep.length) 0)=false:=StrLaws.joinFits (sep:=sep) (texts:=l.map (·.1)) (B:=B) (by rw [e];exact hB) (by rw [e];exact hf)
  refine call_meets F.slot_str_join (typeIs_str s sep t) F.entry_str_join (F.args_str_join_2 _ _) (meets_str_join_list sep t p l tl) ⟨pl.isList,?_⟩
  have gl:(Builtin.Str.glued sep (l.map (·.1))).length≤zs.length*B+zs.length*sep.length:=by
    rw [PySem.size_glued,e]
    have h1:=StrLaws.sumLen_le zs hB
    have h2:(zs.length - 1)*sep.length≤zs.length*sep.length:=Nat.mul_le_mul_right _ (by omega)
    omega
  have big:∀ lv:List (Str × Tok),lv=l→(∀ y,lv≠[y])→(joinMade sep lv).post (fun v s'=>EP X pins σ Q v s') s:=fun lv el hne=>by
    have e1:joinMade sep lv=.str (Builtin.Str.glued sep (lv.map (·.1))):=by
      unfold joinMade
      split
      · next y=>exact absurd rfl (hne y)
      · rfl
    rw [e1,el]
    refine ⟨by have:=sizeLine_eq;omega,.str _,H,I.tok _,⟨_,rfl⟩,q _ gl⟩
  by_cases c:∃ y,l=[y]
  · obtain ⟨y,rfl⟩:=c
    show EP X pins σ Q (.str y.1 y.2) s
    refine ⟨.str y.1,H,I,⟨_,rfl⟩,q _ ?_⟩
    have e1:zs=[y.1]:=by rw [← e];rfl
    have:=hB y.1 (by rw [e1];simp)
    rw [e1,List.length_singleton]
    omega
  · exact big l rfl fun y hy=>c ⟨y,hy⟩
end
section
variable {K : PySem.W.Frag} {X : Cx} {a b : Expr} {ta tb : TD} {apos cpos : Pos}
def qny (ta tb:TD):TD:=fun ρ R=>ta ρ fun x=>∃ sep,x=.str sep∧tb ρ fun y=>∃ (zs:List Str) (B:Nat),y=.lst (zs.map D.str)∧(∀ z∈zs,z.length≤B)∧zs.length*B+zs.length*sep.length≤16777216∧∀ z:Str,z.length≤zs.length*B+zs.length*sep.length→R (.str z)
theorem qiC {Φ:Hp} {zs:List Str} {vs:List V} (r:RpL K Φ (zs.map D.str) vs):vs=zs.map V.str:=by
  refine List.ext_getElem? fun i=>?_
  rw [List.getElem?_map]
  cases h:zs[i]? with
  | none =>
    have h1:=List.getElem?_eq_none_iff.mp h
    exact List.getElem?_eq_none (by rw [r.1,List.length_map];exact h1)
  | some z =>
    obtain ⟨v,hv,rv⟩:=r.at (i:=i) (d:=.str z) (by rw [List.getElem?_map,h];rfl)
    rw [hv]
    cases rv
    rfl
theorem qmB (ha:PQ K X a ta) (hb:PD K X b tb) (hfew:((backTo cpos (starEach [b] X.env)).all (fun x=>!x.1) && (backToKw cpos (keywordEach [] X.env)).all (fun x=>x.1.isSome) && decide (([b]:List Expr).length+([]:List Keyword).length+(if ([]:List Keyword).isEmpty then 0 else 1)<30))=true)
    (hse:starEach [b] X.env=(false,eval b X.env)::starEach [] X.env) (hbase:attributeBase a "join" X.env (eval a X.env)=eval a X.env:=by rfl) (hline:(apos.endLine == cpos.line)=true:=by rfl):PD K X (.Call (.Attribute a "join" apos) [b] [] cpos) (qny ta tb) :=
  ⟨fun hK=>(qkZ PySem.F.plainAttrs_str PySem.F.slot_str_join PySem.F.type_str_join qkr (ha.pe hK) (qaZ (hb.pe hK) pa_nil hse) hbase hfew hline hse qaf).imp fun σ H Q hq0=>by
    obtain ⟨H0,Φ,ρ,R,E,t,k⟩:=hq0
    refine ⟨H0,Φ,ρ,_,E,t,fun dx Φ1 H1 x t1 g1 rx=>?_⟩
    obtain ⟨sep,rfl,t1⟩:=t1
    cases rx.str
    refine ⟨rfl,H0,Φ1,ρ,_,E.gr g1,t1,fun dy Φ2 H2 y t2 g2 ry=>?_⟩
    obtain ⟨zs,B,rfl,hB,hf,q⟩:=t2
    obtain ⟨p,vs,rfl,hp,rl⟩:=(RpQ.lst g2.s (.inl ry))
    cases qiC rl
    exact ⟨sep,p,zs,B,rfl,rfl,SqL.of hp,hB,hf,fun z hz=>k _ Φ2 H2 _ (q z hz) (g1.trans g2) (.str z)⟩⟩
def qnv (d:D):TD:=fun _ R=>R d
theorem qet {x:Str} {i:Int} {tk:Tok} {pos:Pos} (hg:Gl X x) (hm:X.mg x=some (.int i tk)) (hd:(x == ("__debug__":Str))=false:=by decide):PD K X (.Name x pos) (qnv (.int i)) :=
  ⟨fun hK=>(qhH (v:=.int i) hg hm ⟨tk,rfl⟩ hd).imp fun σ H Q hq0=>by
    obtain ⟨H0,Φ,ρ,R,E,t,k⟩:=hq0
    exact k _ Φ H _ t (.refl E.fz) (.int i)⟩
end
end L2
namespace L2
open PySem PySem.Spec PySem.W PyProof.Rows PySem.Calls
section
variable {K : PySem.W.Frag} {X : Cx}
end
end L2
namespace L2
open PySem PySem.Spec PyProof.Rows
section
variable {K : PySem.W.Frag} {X : Cx} {e ev : Expr} {te tv : TD} {tk : TDK} {pos p : Pos}
end
section
variable {K : PySem.W.Frag} {X : Cx} {a : Expr} {pos p p2 pos2 : Pos} {tl : TDL}
end
section
variable {K : PySem.W.Frag} {X : Cx} {e : Expr} {es : List Expr} {pos p : Pos} {tl : TDL} {te : TD} {tf : TDL} {sp : SpD} {CX : CXT} {k : Nat} {f : Addr} {fd : FuncData} {ps : List Str} {x : Str} {E : XK}
end
structure Cl (P:Program) (w:World) (K:PySem.W.Frag) (mg:Str→Option Value) (base:Heap) (n:Nat) (x:Str) (ps:List Str) (z:SpD):Prop where
  ex:∃ (f:Addr) (fd:FuncData),FnOk P w K mg base CX0 n f fd ps (lSp K z)∧Binds K fd ps []∧PySem.W.keepIn K (.ref f)=true∧mg x=some (.ref f)
section
variable {P : Program} {w : World} {K : PySem.W.Frag} {mg : Str → Option Value} {base : Heap} {n m : Nat} {x : Str} {ps : List Str} {z : SpD} {X : Cx} {e : Expr} {es : List Expr} {pos p : Pos} {tl : TDL} {st : Stmt} {f : Addr} {fd : FuncData} {h : Heap}
theorem Cl.mono (C:Cl P w K mg base n x ps z) (k:n≤m):Cl P w K mg base m x ps z:=by
  obtain ⟨f,fd,F,r⟩:=C.ex
  exact ⟨f,fd,F.mono k,r⟩
theorem Cl.of (F:Fun K x x st f fd) (b:Binds K fd ps []) (m:mg x=some (.ref f)) (H:FnOk P w K mg base CX0 n f fd ps (lSp K z)):Cl P w K mg base n x ps z:=⟨f,fd,H,b,F.kp,m⟩
theorem qaD (C:Cl X.prog X.w K X.mg X.base n x ps z) (hr:Room n X.A) (hg:Gl X x)
    (ha:PAD K X (e::es) tl) (he:starEach (e::es) X.env=(false,eval e X.env)::starEach es X.env) (hpl:(backTo pos (starEach es X.env)).any (·.1)=false) (hdb:(x == ("__debug__":Str))=false:=by decide) :
    PD K X (.Call (.Name x p) (e::es) [] pos) (qhp z tl):=⟨fun hK=>by
  subst hK
  obtain ⟨f,fd,F,b,k,m⟩:=C.ex
  exact (qlU F hr hg m k b qow ha he hpl hdb).pe rfl⟩
def dE (P:Params) (x:Str) (n:Nat) (v:Value):DictEntry:=⟨PyData.keyHash P x,.str x n,v⟩
def cO (n:Str) (a:Nat) (q:Str) (b c:Nat) (l m:Int) (k:Int) (r:Nat) (g:Int) (t:Nat) (x y:Value) (z:Nat) (i:Int) (d:Nat):Obj:=⟨.type "code",none,.fields #[.str n a,.str q b,.str "/claim/cut.py" c,.int l 0,.int m 0,.int 0 0,.int 0 0,.int k 0,.ref r,.bool true,.int g 0,.ref t,.none,x,y,.ref z,.int i 0,.int l 0,.str "/claim/cut.py" d],#[]⟩
def fO (s:Stmt) (n q m:Str) (i c:Nat):Obj:=⟨.type "function",none,.func (PySem.W.fnOf n q (qbh s) (qaO s) (qad s) .none .none .none (.str m i) none (.ref c) .none),#[]⟩
def Has (K:PySem.W.Frag) (s:Stmt) (x:Str):Prop:=∃ f m i c,PySem.W.nsIn K mainGlobals x=some (some (.ref f))∧K.lookup f=some (fO s x x m i c)∧PySem.W.codeIn K (.ref c) x=true
theorem Has.of {s:Stmt} {m:Str} {i c:Nat} (a:PySem.W.nsIn K mainGlobals x=some (some (.ref f))) (l:K.lookup f=some (fO s x x m i c)) (k:PySem.W.codeIn K (.ref c) x=true):Has K s x:=⟨f,m,i,c,a,l,k⟩
theorem Has.fn (a:Has K st x) (X:K.In h) (G:h.Ns mainGlobals mg):∃ f fd,Fun K x x st f fd∧mg x=some (.ref f)∧∃ m i c,fd=PySem.W.fnOf x x (qbh st) (qaO st) (qad st) .none .none .none (.str m i) none (.ref c) .none:=by
  obtain ⟨f,m,i,c,a,l,k⟩:=a
  exact ⟨f,_,qmb l k (by unfold PySem.W.keepIn;simp only [l];rfl),PySem.W.mg_of X G a,m,i,c,rfl⟩
theorem Fun.cl (F:Fun K x x st f fd) (m:mg x=some (.ref f)) (H:FnOk P w K mg base CX0 n f fd ps (lSp K z))
    (b:∀ (kV doc pm:Value) (an:Option Addr) (cdv ct:Value) (us:List Value),us.length=ps.length→bindArgs (PySem.W.fnOf x x (qbh st) (qaO st) (qad st) .none kV doc pm an cdv ct) ⟨us,[]⟩=pure (ps.zip us)):Cl P w K mg base n x ps z:=.of F (F.binds b) m H
end
section
variable {K : PySem.W.Frag} {X : Cx} {n : Nat} {x : Str} {ps : List Str} {z : SpD} {e : Expr} {es : List Expr} {pos p : Pos} {tl : TDL}
end
section
variable {prog : Program} {w : World} {A : Around} {E : Value → Shared → Prop} {s : Shared}
end
section
variable {P : Program} {w : World} {H : Hp} {h h' : Heap} {a : Addr} {o : HO} {fs ex : List Addr}
theorem HOk.know (x:HOk P w H h) (hn:H a=none) (new:ObjOk P w (upd H a o) h a o):HOk P w (upd H a o) h:=fun b u e=>by
  by_cases hb:b=a
  · subst hb;rw [qaj] at e;cases e;exact new
  · rw [qal hb] at e
    exact (x b u e).stay (fun c v _ q=>q) (fun c q=>by rw [qal (qas q hn)];exact q) (fun c xs q=>by rw [qal (qas q hn)];exact q) fun c ob w' q=>by rw [qal (qas q hn)];exact q
end
section
variable {X : Cx} {a b : Expr} {p p2 pos pos2 : Pos}
end
section
variable {K : PySem.W.Frag} {X : Cx} {a b : Expr} {p p2 pos pos2 : Pos} {tl : TDL}
end
end L2
namespace L2
open PySem PySem.Spec PySem.W PyProof.Rows PySem.Calls
section
variable {K : PySem.W.Frag} {X : Cx}
end
section
variable {X : Cx} {pins : List (Addr × Obj)} {σ : St} {H : Hp} {xs : List V} {l f : Addr} {fob : Obj} {kf : Nat → Int} {G : Hp → Prop} {s : Shared} {Q : Value → Shared → Prop} {E : Value → Shared → Prop}
end
end L2
namespace L2
open PySem PySem.Spec PyProof.Rows
section
variable {K : PySem.W.Frag} {X : Cx} {l body : Expr} {tl tb : TD} {scope : Scope} {p : Str} {r : List Str} {cap : List (Option Nat)} {params : Arguments} {np pos lp kp1 kp2 kp3 : Pos} {c P : Addr} {j : Nat}
end
inductive Fl where | v (d:D) | l (xs:List D) | al (p:Addr)
inductive Om where | lst (xs:List D) | map (kvs:List (Key × D)) | mpT (kvs:List (List Key × D)) | obj (nm:Str) (fs:List (Str × Fl)) | ptr | tl (ps:List (Addr × Option (List D)))
def Om.solid:Om→Bool
  | .ptr=>false
  | .tl _=>false
  | _=>true
inductive Sm where | v (d:D) | ob (a:Option Addr) (o:Om)
abbrev Sm.own (xs:List D):Sm:=.ob none (.lst xs)
abbrev qaV:=List (Option Sm)
def KvR {κ:Type} (K:PySem.W.Frag) (Φ:Hp) (a:κ × D) (b:κ × V):Prop:=a.1=b.1∧Rp K Φ a.2 b.2
inductive FlsR (K:PySem.W.Frag) (Φ H:Hp):List (Str × Fl)→List (Str × V)→List Addr→Prop where
  | nil:FlsR K Φ H [] [] []
  | v {f:Str} {d:D} {v:V} {fs:List (Str × Fl)} {vs:List (Str × V)} {qs:List Addr}:Rp K Φ d v→FlsR K Φ H fs vs qs→FlsR K Φ H ((f,.v d)::fs) ((f,v)::vs) qs
  | l {f:Str} {ds:List D} {ws:List V} {q:Addr} {fs:List (Str × Fl)} {vs:List (Str × V)} {qs:List Addr}:H q=some (.lst ws)→RpL K Φ ds ws→FlsR K Φ H fs vs qs→FlsR K Φ H ((f,.l ds)::fs) ((f,.ref q)::vs) (q::qs)
  | al {f:Str} {p:Addr} {fs:List (Str × Fl)} {vs:List (Str × V)} {qs:List Addr}:FlsR K Φ H fs vs qs→FlsR K Φ H ((f,.al p)::fs) ((f,.ref p)::vs) qs
inductive TlS (K:PySem.W.Frag) (Φ H:Hp):List (Addr × Option (List D))→List Addr→Prop where
  | nil:TlS K Φ H [] []
  | ptr {q:Addr} {ps:List (Addr × Option (List D))} {F:List Addr}:TlS K Φ H ps F→TlS K Φ H ((q,none)::ps) F
  | own {q:Addr} {ds:List D} {ws:List V} {ps:List (Addr × Option (List D))} {F:List Addr}:H q=some (.lst ws)→RpL K Φ ds ws→TlS K Φ H ps F→TlS K Φ H ((q,some ds)::ps) (q::F)
inductive OmS (K:PySem.W.Frag) (Φ H:Hp):Om→Addr→List Addr→Prop where
  | lst {ds:List D} {vs:List V} {p:Addr}:H p=some (.lst vs)→RpL K Φ ds vs→OmS K Φ H (.lst ds) p [p]
  | map {kvs:List (Key × D)} {ws:List (Key × V)} {p:Addr}:H p=some (.dK ws)→Paired (KvR K Φ) kvs ws→OmS K Φ H (.map kvs) p [p]
  | mpT {kvs:List (List Key × D)} {ws:List (List Key × V)} {p:Addr}:H p=some (.dT ws)→Paired (KvR K Φ) kvs ws→OmS K Φ H (.mpT kvs) p [p]
  | obj {nm:Str} {fs:List (Str × Fl)} {C dx:Addr} {vs:List (Str × V)} {p:Addr} {qs:List Addr}:PySem.W.nsIn K mainGlobals nm=some (some (.ref C))→H p=some (.ins C dx vs)→FlsR K Φ H fs vs qs→(p::qs).Nodup→OmS K Φ H (.obj nm fs) p (p::qs)
  | ptr {p:Addr}:OmS K Φ H .ptr p []
  | tl {ps:List (Addr × Option (List D))} {p:Addr} {F:List Addr}:Φ p=some (.tup (ps.map fun q=>V.ref q.1))→TlS K Φ H ps F→F.Nodup→OmS K Φ H (.tl ps) p F
section
variable {K : PySem.W.Frag} {H0 H H' Φ Φ' Φ0 : Hp} {fs : List (Str × Fl)} {vs : List (Str × V)} {qs F F' : List Addr} {o o' : Om} {p : Addr}
theorem qcP {α β:Type} {F G:α→β→Prop} (h:∀ x y,F x y→G x y):∀ {l:List α} {m:List β},Paired F l m→Paired G l m
  | _,_,.nil=>.nil
  | _,_,.cons r t=>.cons (h _ _ r) (qcP h t)
theorem FlsR.keep (s:Same Φ Φ') (h:FlsR K Φ H fs vs qs) (k:∀ b∈qs,∀ u,H b=some u→H' b=some u):FlsR K Φ' H' fs vs qs:=by
  induction h with
  | nil=>exact .nil
  | v r _ ih=>exact .v (r.same s) (ih k)
  | l h1 h2 _ ih=>exact .l (k _ List.mem_cons_self _ h1) (h2.same s) (ih fun b hb=>k b (List.mem_cons_of_mem _ hb))
  | al _ ih=>exact .al (ih k)
theorem FlsR.at (h:FlsR K Φ H fs vs qs):∀ b∈qs,∃ ws,H b=some (.lst ws):=by
  induction h with
  | nil=>intro b hb;cases hb
  | v r _ ih=>exact ih
  | l h1 h2 _ ih =>
    intro b hb
    rcases List.mem_cons.mp hb with rfl | hb
    · exact ⟨_,h1⟩
    · exact ih b hb
  | al _ ih=>exact ih
theorem TlS.keep {ps:List (Addr × Option (List D))} (s:Same Φ Φ') (h:TlS K Φ H ps F) (k:∀ b∈F,∀ u,H b=some u→H' b=some u):TlS K Φ' H' ps F:=by
  induction h with
  | nil=>exact .nil
  | ptr _ ih=>exact .ptr (ih k)
  | own h1 h2 _ ih=>exact .own (k _ List.mem_cons_self _ h1) (h2.same s) (ih fun b hb=>k b (List.mem_cons_of_mem _ hb))
theorem TlS.at {ps:List (Addr × Option (List D))} (h:TlS K Φ H ps F):∀ b∈F,∃ ws,H b=some (.lst ws):=by
  induction h with
  | nil=>intro b hb;cases hb
  | ptr _ ih=>exact ih
  | own h1 h2 _ ih =>
    intro b hb
    rcases List.mem_cons.mp hb with rfl | hb
    · exact ⟨_,h1⟩
    · exact ih b hb
theorem OmS.keep (s:Same Φ Φ') (h:OmS K Φ H o p F) (k:∀ b∈F,∀ u,H b=some u→H' b=some u):OmS K Φ' H' o p F:=by
  cases h with
  | lst h1 h2=>exact .lst (k _ List.mem_cons_self _ h1) (h2.same s)
  | map h1 h2=>exact .map (k _ List.mem_cons_self _ h1) (qcP (fun _ _ r=>⟨r.1,r.2.same s⟩) h2)
  | mpT h1 h2=>exact .mpT (k _ List.mem_cons_self _ h1) (qcP (fun _ _ r=>⟨r.1,r.2.same s⟩) h2)
  | obj h0 h1 h2 h3=>exact .obj h0 (k _ List.mem_cons_self _ h1) (h2.keep s fun b hb=>k b (List.mem_cons_of_mem _ hb)) h3
  | ptr=>exact .ptr
  | tl h1 h2 h3=>exact .tl (s _ _ h1) (h2.keep s k) h3
theorem OmS.mem (h:OmS K Φ H o p F) (hs:o.solid=true:=by rfl):p∈F:=by cases h <;> first | exact List.mem_cons_self | cases hs
theorem OmS.at (h:OmS K Φ H o p F):∀ b∈F,∃ u,H b=some u∧OwK u:=by
  intro b hb
  cases h with
  | lst h1 h2=>rw [List.mem_singleton.mp hb];exact ⟨_,h1,trivial⟩
  | map h1 h2=>rw [List.mem_singleton.mp hb];exact ⟨_,h1,trivial⟩
  | mpT h1 h2=>rw [List.mem_singleton.mp hb];exact ⟨_,h1,trivial⟩
  | obj h0 h1 h2 h3 =>
    rcases List.mem_cons.mp hb with rfl | hb
    · exact ⟨_,h1,trivial⟩
    · obtain ⟨ws,hw⟩:=h2.at b hb
      exact ⟨_,hw,trivial⟩
  | ptr=>cases hb
  | tl h1 h2 h3 =>
    obtain ⟨ws,hw⟩:=h2.at b hb
    exact ⟨_,hw,trivial⟩
theorem OmS.lst_inv {ds:List D} (h:OmS K Φ H (.lst ds) p F):F=[p]∧∃ vs,H p=some (.lst vs)∧RpL K Φ ds vs:=by
  cases h with
  | lst h1 h2=>exact ⟨rfl,_,h1,h2⟩
theorem OmS.map_inv {kvs:List (Key × D)} (h:OmS K Φ H (.map kvs) p F):F=[p]∧∃ ws,H p=some (.dK ws)∧Paired (KvR K Φ) kvs ws:=by
  cases h with
  | map h1 h2=>exact ⟨rfl,_,h1,h2⟩
theorem OmS.mpT_inv {kvs:List (List Key × D)} (h:OmS K Φ H (.mpT kvs) p F):F=[p]∧∃ ws,H p=some (.dT ws)∧Paired (KvR K Φ) kvs ws:=by
  cases h with
  | mpT h1 h2=>exact ⟨rfl,_,h1,h2⟩
theorem OmS.gr (g:Gr Φ H Φ' H') (h:OmS K Φ H o p F):OmS K Φ' H' o p F:=h.keep g.f fun b _ u e=>g.h b u e
end
structure EnvM' (K:PySem.W.Frag) (H0 Φ H:Hp) (σ:St) (ρ:qaV) (fp:Nat→List Addr):Prop where
  fz:Same Φ H
  len:σ.length=ρ.length
  sl:∀ (i:Nat) (d:D),ρ[i]?=some (some (.v d))→∃ v,σ[i]?=some (some v)∧Rp K Φ d v
  ow:∀ (i:Nat) (a:Option Addr) (o:Om),ρ[i]?=some (some (.ob a o))→∃ p,σ[i]?=some (some (.ref p))∧(∀ q,a=some q→q=p)∧OmS K Φ H o p (fp i)
  no:∀ (i:Nat) (a:Option Addr) (o:Om),ρ[i]?=some (some (.ob a o))→∀ b∈fp i,H0 b=none∧Φ b=none
  dj:∀ (i j:Nat) (a a':Option Addr) (o o':Om),ρ[i]?=some (some (.ob a o))→ρ[j]?=some (some (.ob a' o'))→i≠j→∀ b∈fp i,b∉fp j
  tb:TabF K Φ
def EnvM (K:PySem.W.Frag) (H0 Φ H:Hp) (σ:St) (ρ:qaV):Prop:=∃ fp,EnvM' K H0 Φ H σ ρ fp
section
variable {K : PySem.W.Frag} {H0 H H' Φ Φ' Φ0 : Hp} {σ σ2 : St} {ρ ρ2 : qaV} {fp : Nat → List Addr} {F F' : List Addr} {o o' : Om} {p : Addr} {d : D} {v : V} {i : Nat} {a : Option Addr}
theorem EnvM.fz (E:EnvM K H0 Φ H σ ρ):Same Φ H:=let ⟨_,E⟩:=E;E.fz
theorem EnvM.tb (E:EnvM K H0 Φ H σ ρ):TabF K Φ:=let ⟨_,E⟩:=E;E.tb
theorem EnvM.len (E:EnvM K H0 Φ H σ ρ):σ.length=ρ.length:=let ⟨_,E⟩:=E;E.len
theorem EnvM.sl (E:EnvM K H0 Φ H σ ρ) (h:ρ[i]?=some (some (.v d))):∃ v,σ[i]?=some (some v)∧Rp K Φ d v:=let ⟨_,E⟩:=E;E.sl i d h
theorem EnvM'.gr (E:EnvM' K H0 Φ H σ ρ fp) (g:Gr Φ H Φ' H'):EnvM' K H0 Φ' H' σ ρ fp :=
  ⟨g.s,E.len,fun i d h=>let ⟨v,e,r⟩:=E.sl i d h;⟨v,e,r.same g.f⟩,fun i a o h=>let ⟨p,e,ha,r⟩:=E.ow i a o h;⟨p,e,ha,r.gr g⟩,
    fun i a o h b hb=>by
      obtain ⟨p,_,_,r⟩:=E.ow i a o h
      obtain ⟨u,hu,k⟩:=r.at b hb
      exact ⟨(E.no i a o h b hb).1,g.o b u hu (E.no i a o h b hb).2 k⟩,E.dj,E.tb.same g.f⟩
theorem EnvM.gr (E:EnvM K H0 Φ H σ ρ) (g:Gr Φ H Φ' H'):EnvM K H0 Φ' H' σ ρ:=let ⟨fp,E⟩:=E;⟨fp,E.gr g⟩
theorem EnvM.re (m:Nat→Nat) (E:EnvM K H0 Φ H σ ρ) (hl:σ2.length=ρ2.length) (h:∀ (i:Nat) (x:Sm),ρ2[i]?=some (some x)→ρ[m i]?=some (some x)∧σ2[i]?=σ[m i]?)
    (inj:∀ (i j:Nat) (a a':Option Addr) (o o':Om),ρ2[i]?=some (some (.ob a o))→ρ2[j]?=some (some (.ob a' o'))→m i=m j→i=j):EnvM K H0 Φ H σ2 ρ2:=by
  obtain ⟨fp,E⟩:=E
  refine ⟨fun i=>fp (m i),E.fz,hl,fun i d hd=>?_,fun i a o ho=>?_,fun i a o ho=>E.no _ a o (h i _ ho).1,fun i j a a' o o' hi hj c=>E.dj _ _ a a' o o' (h i _ hi).1 (h j _ hj).1 fun e=>c (inj i j a a' o o' hi hj e),E.tb⟩
  · obtain ⟨v,e,r⟩:=E.sl _ d (h i _ hd).1
    exact ⟨v,by rw [(h i _ hd).2];exact e,r⟩
  · obtain ⟨p,e,r⟩:=E.ow _ a o (h i _ ho).1
    exact ⟨p,by rw [(h i _ ho).2];exact e,r⟩
theorem EnvM.take {τ:St} {κ:qaV} (E:EnvM K H0 Φ H (σ++τ) (ρ++κ)) (hl:ρ.length=σ.length):EnvM K H0 Φ H σ ρ :=
  E.re id hl.symm (fun i x hx=>by
    have hi:=qao hx
    exact ⟨by rw [id,List.getElem?_append_left hi];exact hx,by rw [id,List.getElem?_append_left (by omega)]⟩) fun i j _ _ _ _ _ _ e=>e
theorem EnvM'.take {τ:St} {κ:qaV} (E:EnvM' K H0 Φ H (σ++τ) (ρ++κ) fp) (hl:ρ.length=σ.length):EnvM' K H0 Φ H σ ρ fp:=by
  have up:∀ {i:Nat} {x:Sm},ρ[i]?=some (some x)→(ρ++κ)[i]?=some (some x):=fun h=>by rw [List.getElem?_append_left (qao h)];exact h
  have dn:∀ {i:Nat} {x:Sm} {y:Option V},ρ[i]?=some (some x)→(σ++τ)[i]?=some y→σ[i]?=some y:=fun h e=>by rwa [List.getElem?_append_left (by rw [← hl];exact qao h)] at e
  exact ⟨E.fz,hl.symm,fun i d h=>let ⟨v,e,r⟩:=E.sl i d (up h);⟨v,dn h e,r⟩,fun i a o h=>let ⟨p,e,r⟩:=E.ow i a o (up h);⟨p,dn h e,r⟩,fun i a o h=>E.no i a o (up h),fun i j a a' o o' hi hj=>E.dj i j a a' o o' (up hi) (up hj),E.tb⟩
theorem EnvM.store {v:V} {x:Sm} (E:EnvM K H0 Φ H (σ++[some v]) (ρ++[some x])) (i:Nat):EnvM K H0 Φ H (σ.set i (some v)) (ρ.set i (some x)):=by
  have hl:σ.length=ρ.length:=by have:=E.len;simpa using this
  refine E.re (fun j=>if j=i then ρ.length else j) (by rw [List.length_set,List.length_set,hl]) (fun j y hj=>?_) fun j k a a' o o' hj hk e=>?_
  · by_cases c:j=i
    · subst c
      have hlt:j<ρ.length:=by have:=qao hj;rwa [List.length_set] at this
      rw [List.getElem?_set_self hlt] at hj
      cases hj
      rw [if_pos rfl,List.getElem?_set_self (by omega),List.getElem?_append_right (Nat.le_refl _),List.getElem?_append_right (by omega),Nat.sub_self,hl,Nat.sub_self]
      exact ⟨rfl,rfl⟩
    · rw [List.getElem?_set_ne (Ne.symm c)] at hj
      have hlt:=qao hj
      rw [if_neg c,List.getElem?_set_ne (Ne.symm c),List.getElem?_append_left hlt,List.getElem?_append_left (by omega)]
      exact ⟨hj,rfl⟩
  · have hj1:j<ρ.length:=by have:=qao hj;rwa [List.length_set] at this
    have hk1:k<ρ.length:=by have:=qao hk;rwa [List.length_set] at this
    have e:(if j=i then ρ.length else j)=(if k=i then ρ.length else k):=e
    split at e <;> split at e <;> omega
theorem EnvM.snocV (E:EnvM K H0 Φ H σ ρ) (r:Rp K Φ d v):EnvM K H0 Φ H (σ++[some v]) (ρ++[some (.v d)]):=by
  obtain ⟨fp,E⟩:=E
  have old:∀ {i:Nat} {a:Option Addr} {o:Om},(ρ++[some (Sm.v d)])[i]?=some (some (.ob a o))→ρ[i]?=some (some (.ob a o)):=fun {i a o} h=>by
    rcases Nat.lt_or_ge i ρ.length with c | c
    · rwa [List.getElem?_append_left c] at h
    · rw [List.getElem?_append_right c] at h
      cases e:i - ρ.length with
      | zero=>rw [e] at h;cases h
      | succ n=>rw [e] at h;cases h
  refine ⟨fp,E.fz,by rw [List.length_append,List.length_append,E.len];rfl,fun i d' h=>?_,fun i a o h=>?_,fun i a o h=>E.no i a o (old h),fun i j a a' o o' hi hj=>E.dj i j a a' o o' (old hi) (old hj),E.tb⟩
  · rcases Nat.lt_or_ge i ρ.length with c | c
    · rw [List.getElem?_append_left c] at h
      obtain ⟨u,e,r⟩:=E.sl i d' h
      exact ⟨u,by rw [List.getElem?_append_left (by rw [E.len];exact c)];exact e,r⟩
    · rw [List.getElem?_append_right c] at h
      cases e:i - ρ.length with
      | zero =>
        rw [e] at h
        cases h
        exact ⟨v,by rw [List.getElem?_append_right (by rw [E.len];exact c),E.len,e];rfl,r⟩
      | succ n=>rw [e] at h;cases h
  · obtain ⟨p,e,r⟩:=E.ow i a o (old h)
    have hi:=qao (old h)
    exact ⟨p,by rw [List.getElem?_append_left (by rw [E.len];exact hi)];exact e,r⟩
theorem EnvM.snocO (E:EnvM K H0 Φ H σ ρ) (s0:Same H0 H) (g:Gr Φ H Φ' H') (ho:OmS K Φ' H' o p F) (hf:∀ b∈F,H b=none∧Φ' b=none):EnvM K H0 Φ' H' (σ++[some (.ref p)]) (ρ++[some (.ob none o)]):=by
  obtain ⟨fp,E⟩:=E
  have old:∀ b∈F,∀ (i:Nat) (a:Option Addr) (o:Om),ρ[i]?=some (some (.ob a o))→b∉fp i:=fun b hb i a o h z=>by
    obtain ⟨q,_,_,r⟩:=E.ow i a o h
    obtain ⟨u,hu,_⟩:=r.at b z
    rw [(hf b hb).1] at hu
    cases hu
  have E2:=E.gr g
  have cs:∀ {i:Nat} {x:Sm},(ρ++[some (Sm.ob none o)])[i]?=some (some x)→(i<ρ.length∧ρ[i]?=some (some x))∨(i=ρ.length∧x=.ob none o):=fun {i x} h=>by
    rcases Nat.lt_or_ge i ρ.length with c | c
    · rw [List.getElem?_append_left c] at h
      exact .inl ⟨c,h⟩
    · rw [List.getElem?_append_right c] at h
      cases e:i - ρ.length with
      | zero=>rw [e] at h;cases h;exact .inr ⟨by omega,rfl⟩
      | succ n=>rw [e] at h;cases h
  refine ⟨fun i=>if i=ρ.length then F else fp i,E2.fz,by rw [List.length_append,List.length_append,E.len];rfl,fun i d h=>?_,fun i a o' h=>?_,fun i a o' h b hb=>?_,fun i j a a' o1 o2 hi hj c b hb hb2=>?_,E2.tb⟩
  · rcases cs h with ⟨c,h⟩ | ⟨_,h⟩
    · obtain ⟨v,e,r⟩:=E2.sl i d h
      exact ⟨v,by rw [List.getElem?_append_left (by rw [E.len];exact c)];exact e,r⟩
    · cases h
  · rcases cs h with ⟨c,h⟩ | ⟨c,h⟩
    · obtain ⟨q,e,r⟩:=E2.ow i a o' h
      exact ⟨q,by rw [List.getElem?_append_left (by rw [E.len];exact c)];exact e,by rw [if_neg (by omega)];exact r⟩
    · cases h
      subst c
      refine ⟨p,by rw [List.getElem?_append_right (by rw [E.len];exact Nat.le_refl _),E.len,Nat.sub_self];rfl,(fun q e=>by cases e),by rw [if_pos rfl];exact ho⟩
  · rcases cs h with ⟨c,h⟩ | ⟨c,h⟩
    · rw [if_neg (by omega)] at hb
      exact E2.no i a o' h b hb
    · rw [if_pos c] at hb
      exact ⟨s0.free (hf b hb).1,(hf b hb).2⟩
  · rcases cs hi with ⟨ci,hi⟩ | ⟨ci,hi⟩
    · rw [if_neg (by omega)] at hb
      rcases cs hj with ⟨cj,hj⟩ | ⟨cj,hj⟩
      · rw [if_neg (by omega)] at hb2
        exact E.dj i j a a' o1 o2 hi hj c b hb hb2
      · rw [if_pos cj] at hb2
        exact old b hb2 i a o1 hi hb
    · rw [if_pos ci] at hb
      rcases cs hj with ⟨cj,hj⟩ | ⟨cj,hj⟩
      · rw [if_neg (by omega)] at hb2
        exact old b hb j a' o2 hj hb2
      · omega
theorem EnvM'.put (E:EnvM' K H0 Φ H σ ρ fp) (hi:ρ[i]?=some (some (.ob a o))) (si:σ[i]?=some (some (.ref p))) (hH:∀ b u,H b=some u→b∉fp i→H' b=some u) (hO:OmS K Φ H' o' p F') (hF:∀ b∈F',b∈fp i∨(H b=none∧H0 b=none∧Φ b=none)) :
    EnvM' K H0 Φ H' σ (ρ.set i (some (.ob a o'))) (fun j=>if j=i then F' else fp j):=by
  have hlt:=qao hi
  have cs:∀ {j:Nat} {x:Sm},(ρ.set i (some (Sm.ob a o')))[j]?=some (some x)→(j=i∧x=.ob a o')∨(j≠i∧ρ[j]?=some (some x)):=fun {j x} h=>by
    rcases qbk h with ⟨e,_,e1⟩ | ⟨e,h⟩
    · cases e1;exact .inl ⟨e,rfl⟩
    · exact .inr ⟨e,h⟩
  have nf:∀ b∈F',∀ (j:Nat) (a':Option Addr) (o2:Om),ρ[j]?=some (some (.ob a' o2))→j≠i→b∉fp j:=fun b hb j a' o2 hj c z=>by
    rcases hF b hb with h | ⟨h,_⟩
    · exact E.dj j i a' a o2 o hj hi c b z h
    · obtain ⟨q,_,_,r⟩:=E.ow j a' o2 hj
      obtain ⟨u,hu,_⟩:=r.at b z
      rw [h] at hu
      cases hu
  refine ⟨fun b u e=>hH b u (E.fz b u e) fun z=>?_,by rw [List.length_set,E.len],fun j d h=>?_,fun j a' o2 h=>?_,fun j a' o2 h b hb=>?_,fun j k a1 a2 o1 o2 hj hk c b hb hb2=>?_,E.tb⟩
  · rw [(E.no i a o hi b z).2] at e
    cases e
  · rcases cs h with ⟨_,h⟩ | ⟨_,h⟩
    · cases h
    · exact E.sl j d h
  · rcases cs h with ⟨c,h⟩ | ⟨c,h⟩
    · cases h
      subst c
      obtain ⟨q,e,ha,_⟩:=E.ow j a o hi
      rw [si] at e
      cases e
      exact ⟨p,si,ha,by rw [if_pos rfl];exact hO⟩
    · obtain ⟨q,e,ha,r⟩:=E.ow j a' o2 h
      refine ⟨q,e,ha,?_⟩
      rw [if_neg c]
      exact r.keep (Same.refl _) fun b hb u hu=>hH b u hu fun z=>E.dj j i a' a o2 o h hi c b hb z
  · rcases cs h with ⟨c,h⟩ | ⟨c,h⟩
    · rw [if_pos c] at hb
      rcases hF b hb with z | ⟨_,z⟩
      · exact E.no i a o hi b z
      · exact z
    · rw [if_neg c] at hb
      exact E.no j a' o2 h b hb
  · rcases cs hj with ⟨cj,hj⟩ | ⟨cj,hj⟩
    · rw [if_pos cj] at hb
      rcases cs hk with ⟨ck,hk⟩ | ⟨ck,hk⟩
      · omega
      · rw [if_neg ck] at hb2
        exact nf b hb k a2 o2 hk ck hb2
    · rw [if_neg cj] at hb
      rcases cs hk with ⟨ck,hk⟩ | ⟨ck,hk⟩
      · rw [if_pos ck] at hb2
        exact nf b hb2 j a1 o1 hj cj hb
      · rw [if_neg ck] at hb2
        exact E.dj j k a1 a2 o1 o2 hj hk c b hb hb2
theorem EnvM'.grput (E:EnvM' K H0 Φ H σ ρ fp) (g:Gr Φ0 H0 Φ H) (hi:ρ[i]?=some (some (.ob a o))) (hH:∀ b u,H b=some u→b∉fp i→H' b=some u):Gr Φ0 H0 Φ H' :=
  ⟨g.f,fun b u e=>hH b u (g.h b u e) (fun z=>by rw [(E.no i a o hi b z).1] at e;cases e),fun b u e=>hH b u (g.s b u e) (fun z=>by rw [(E.no i a o hi b z).2] at e;cases e),fun p u h1 h2 k=>g.o p u h1 h2 k⟩
theorem EnvM.list {ds:List D} (E:EnvM K H0 Φ H σ ρ) (g:Gr Φ0 H0 Φ H) (hi:ρ[i]?=some (some (.ob a (.lst ds)))):∃ q vs,σ[i]?=some (some (.ref q))∧H q=some (.lst vs)∧H0 q=none∧Φ q=none∧RpL K Φ ds vs ∧
    ∀ (es:List D) (ws:List V),RpL K Φ es ws→EnvM K H0 Φ (upd H q (.lst ws)) σ (ρ.set i (some (.ob a (.lst es))))∧Gr Φ0 H0 Φ (upd H q (.lst ws)):=by
  obtain ⟨fp,E⟩:=E
  obtain ⟨q,e,_,r⟩:=E.ow i a _ hi
  have hq:=r.mem
  have h0:=E.no i a _ hi q hq
  obtain ⟨_,vs,h1,h2⟩:=r.lst_inv
  refine ⟨q,vs,e,h1,h0.1,h0.2,h2,fun es ws rw'=>?_⟩
  have hH:∀ b u,H b=some u→b∉fp i→upd H q (.lst ws) b=some u:=fun b u e hn=>by
    rw [qal fun z=>hn (by rw [z];exact hq)]
    exact e
  exact ⟨⟨_,E.put hi e hH (F':=[q]) (.lst qaj rw') fun b hb=>.inl (by rw [List.mem_singleton.mp hb];exact hq)⟩,E.grput g hi hH⟩
end
def prM:Option Sm→Option Sl
  | some (.v d)=>some (.v d)
  | some (.ob _ (.lst xs))=>some (.own xs)
  | some (.ob _ (.map kvs))=>some (.dct (kvs.map (·.1)))
  | some (.ob _ (.mpT kvs))=>some (.dcT (kvs.map (·.1)))
  | _=>none
abbrev prR (ρ:qaV):Rho:=ρ.map prM
theorem qfx {κ:Type} {K:PySem.W.Frag} {Φ:Hp}:∀ {a:List (κ × D)} {b:List (κ × V)},Paired (KvR K Φ) a b→b.map (·.1)=a.map (·.1)
  | _,_,.nil=>rfl
  | _,_,.cons r t=>by rw [List.map_cons,List.map_cons,qfx t,r.1]
theorem EnvM.toD {K:PySem.W.Frag} {H0 Φ H:Hp} {σ:St} {ρ:qaV} (E:EnvM K H0 Φ H σ ρ):EnvD K H0 Φ H σ (prR ρ):=by
  obtain ⟨fp,E⟩:=E
  have at_:∀ {i:Nat} {x:Sl},(prR ρ)[i]?=some (some x)→∃ y,ρ[i]?=some (some y)∧prM (some y)=some x:=fun {i x} h=>by
    rw [List.getElem?_map] at h
    cases e:ρ[i]? with
    | none=>rw [e] at h;cases h
    | some y =>
      rw [e] at h
      cases y with
      | none=>cases h
      | some y=>exact ⟨y,rfl,Option.some.inj h⟩
  have ow:∀ {i:Nat} {o:Ow},(prR ρ)[i]?=some (some (.ob o))→∃ a om p u,ρ[i]?=some (some (.ob a om))∧σ[i]?=some (some (.ref p))∧p∈fp i∧H p=some u∧OwR K Φ o u:=fun {i o} h=>by
    obtain ⟨y,hy,e⟩:=at_ h
    cases y with
    | v d=>cases e
    | ob a om =>
      obtain ⟨p,e1,_,r⟩:=E.ow i a om hy
      refine ⟨a,om,p,?_⟩
      cases om with
      | lst ds=>obtain ⟨_,vs,h1,h2⟩:=r.lst_inv;cases e;exact ⟨_,hy,e1,r.mem,h1,h2⟩
      | map kvs=>obtain ⟨_,vs,h1,h2⟩:=r.map_inv;cases e;exact ⟨_,hy,e1,r.mem,h1,qfx h2⟩
      | mpT kvs=>obtain ⟨_,vs,h1,h2⟩:=r.mpT_inv;cases e;exact ⟨_,hy,e1,r.mem,h1,qfx h2⟩
      | obj nm fs=>cases e
      | ptr=>cases e
      | tl ps=>cases e
  refine ⟨E.fz,by rw [List.length_map,E.len],fun i d h=>?_,fun i o h=>?_,fun i j o w p hi hj si sj=>?_,E.tb⟩
  · obtain ⟨y,hy,e⟩:=at_ h
    cases y with
    | v d'=>cases e;exact E.sl i d hy
    | ob a om=>cases om <;> cases e
  · obtain ⟨a,om,p,u,h1,h2,h3,h4,h5⟩:=ow h
    exact ⟨p,u,h2,(E.no i a om h1 p h3).1,(E.no i a om h1 p h3).2,h4,h5⟩
  · obtain ⟨a,om,p1,u,h1,h2,h3,_,_⟩:=ow hi
    obtain ⟨a',om',p2,u',k1,k2,k3,_,_⟩:=ow hj
    rw [si] at h2
    cases h2
    rw [sj] at k2
    cases k2
    rcases Decidable.em (i=j) with c | c
    · exact c
    · exact absurd k3 (E.dj i j a a' om om' h1 k1 c p h3)
def qmS (h:Heap) (e:Addr) (vs:Array Value) (T:Option Addr) (fl:Value):Prop:=match T with
  | none=>vs[1]?=some .none
  | some T=>vs[1]?=some (.ref T)∧T≠e∧∃ oT ts,h.get? T=some oT∧oT.data=.fields ts∧ts[3]?=some fl
structure Fly (h:Heap) (e:Addr) (T:Option Addr) (fl cls:Value) (dx:Option Addr):Prop where
  ex:∃ oe vs,h.get? e=some oe∧oe.data=.fields vs∧oe.cls=cls∧oe.dict=dx∧qmS h e vs T fl
structure Kept (fs:List Addr) (e:Addr) (T:Option Addr) (h h':Heap):Prop where
  keep:∀ b o,h.get? b=some o→b≠e→some b≠T→b∉fs→h'.get? b=some o
  slot:∀ b o,h.get? b=some o→b∈fs→∃ sl,h'.get? b=some { o with slots:=sl }
section
variable {M : Model} {A : Around} {E : Value → Shared → Prop} {s : Shared} {base : Heap} {env : Env} {outer : List Env} {L e : Addr}
theorem qid (o:Obj) (f:Array Value→Array Value):(o.mapFields f).dict=o.dict:=by
  obtain ⟨c,d,dt,sl⟩:=o
  cases dt <;> rfl
theorem qf5 {cls:Value} {dx:Option Addr} {oe:Obj} {vs:Array Value} {head:Value} {had:Bool} {Q:Unit→Shared→Prop} (hfr:A.frames=some (env::outer)) (hl:s.heap.FunFrames base (env::outer)) (hf:env.frame=some L)
    (he:s.heap.get? e=some oe) (hd:oe.data=.fields vs) (hc:oe.cls=cls) (hx:oe.dict=dx) (hz:1<vs.size)
    (k:∀ h' T',Fly h' e (some T') (rawInt L) cls dx→s.heap.objs.size≤T'→Kept (frs (env::outer)) e none s.heap h'→Q () { s with heap:=h' }) :
    wpAny M A (do let a ← frameOf env;let pl ← entryPlaceOf L had;let b ← EntryCells.newEntry head a .none (rawInt L) .none pl;setField (.ref e) 1 b) Q E s:=by
  have hef:e∉frs (env::outer):=fun hm=>by
    obtain ⟨_,o,ho,hnf⟩:=hl.mem hm
    rw [he] at ho
    cases ho
    exact hnf vs hd
  refine wpAny_bind (wpAny_frameOf_fun hfr hl hf fun h₁ x=>?_)
  refine wpAny_bind (wpAny_entryPlaceOf fun pl hpl=>?_)
  unfold EntryCells.newEntry newFields
  refine wpAny_bind (wpAny_newObj_type ?_ (hpl.sizeOk5 _ _ _ _ _))
  generalize hot:({ cls:=.type "traceback",dict:=none,data:=.fields ([head,.ref L,.none,rawInt L,.none]++(if pl.isEmpty then List.replicate 6 Value.none else pl)).toArray }:Obj)=ot
  have e1:h₁.get? e=some oe:=(x.2.1 e hef).trans he
  have e2:=Heap.get?_push_of_some (h:=h₁) ot e1
  have hne:h₁.objs.size≠e:=Nat.ne_of_gt (Heap.lt_size e1)
  refine wpAny_setField e2 hd hz (k _ h₁.objs.size ⟨?_⟩ ?_ ⟨fun b o hb b1 _ b3=>?_,fun b o hb b3=>?_⟩)
  · have d3:=Obj.data_mapFields hd (·.setIfInBounds 1 (Value.ref h₁.objs.size))
    refine ⟨_,_,Heap.get?_update_self _ e2 (Obj.isFreed_of_fields d3),d3,(Obj.cls_mapFields _ _).trans hc,(qid _ _).trans hx,by simp [hz],hne,ot,_,?_,by rw [← hot],?_⟩
    · rw [Heap.get?_update_other _ _ (Ne.symm hne)]
      exact Heap.get?_push_size h₁ (by rw [← hot];rfl)
    · first | (simp;done) | (rcases hpl with rfl | ⟨_,_,_,_,_,_,_,rfl⟩ <;> simp)
  · exact Nat.le_of_eq x.1.symm
  · rw [Heap.get?_update_other _ _ (Ne.symm b1)]
    exact Heap.get?_push_of_some _ ((x.2.1 b b3).trans hb)
  · obtain ⟨sl,hs⟩:=x.2.2 b o hb
    refine ⟨sl,?_⟩
    rw [Heap.get?_update_other _ _ (fun z=>hef (by rw [z];exact b3))]
    exact Heap.get?_push_of_some _ hs
theorem Fly.live {h:Heap} {T:Option Addr} {fl cls:Value} {dx:Option Addr} (F:Fly h e T fl cls dx):∃ o,h.get? e=some o∧o.cls=cls∧o.dict=dx∧∃ vs,o.data=.fields vs:=by
  obtain ⟨oe,vs,h1,h2,h3,h4,_⟩:=F.ex
  exact ⟨oe,h1,h3,h4,vs,h2⟩
theorem qdL {vs:Array Value} {i:Nat} {x:Value} (h:vs[i]?=some x):i<vs.size:=(Array.getElem?_eq_some_iff.mp h).1
theorem qjM {T:Option Addr} {cls:Value} {dx:Option Addr} {Q:Unit→Shared→Prop} (hfr:A.frames=some (env::outer)) (hl:s.heap.FunFrames base (env::outer)) (hf:env.frame=some L) (F:Fly s.heap e T .none cls dx)
    (k:∀ h' T',Fly h' e (some T') (rawInt L) cls dx→s.heap.objs.size≤T'→Kept (frs (env::outer)) e T s.heap h'→Q () { s with heap:=h' }):wpAny M A (noteFrame (.ref e) env) Q E s:=by
  obtain ⟨oe,vs,he,hd,hc,hx,hn⟩:=F.ex
  unfold noteFrame
  simp only [hf]
  cases T with
  | none =>
    have h1:vs[1]?=some .none:=hn
    refine wpAny_bind (wpAny_field he hd h1 ?_)
    rw [if_neg (by decide)]
    exact qf5 hfr hl hf he hd hc hx (qdL h1) fun h' T' a1 a2 a3=>k h' T' a1 a2 ⟨fun b o hb b1 b2 b3=>a3.keep b o hb b1 (by simp) b3,a3.slot⟩
  | some T =>
    obtain ⟨h1,hne,oT,ts,hT,hdT,h3⟩:=hn
    refine wpAny_bind (wpAny_field he hd h1 ?_)
    rw [if_pos (show (Value.ref T != Value.none)=true from by simp)]
    refine wpAny_bind (wpAny_field hT hdT h3 ?_)
    rw [if_neg (show ¬ ((Value.none == rawInt L)=true) from by simp [rawInt])]
    refine wpAny_bind (wpAny_setField hT hdT (qdL h3) ?_)
    have ot:∀ b,b≠T→(s.heap.update T (Obj.mapFields (·.setIfInBounds 3 Value.none))).get? b=s.heap.get? b:=fun b hb=>Heap.get?_update_other _ _ (Ne.symm hb)
    have nr:∀ b o,s.heap.get? b=some o→(∀ vs,o.data≠.fields vs)→b≠T:=fun b o hb hf z=>by
      rw [z,hT] at hb
      cases hb
      exact hf ts hdT
    have hT':=Heap.get?_update_self (Obj.mapFields (·.setIfInBounds 3 Value.none)) hT (Obj.isFreed_of_fields (Obj.data_mapFields hdT _))
    refine qf5 (s:={ s with heap:=s.heap.update T (Obj.mapFields (·.setIfInBounds 3 Value.none)) }) hfr (hl.of_keeps fun b o hb hf=>⟨o,(ot b (nr b o hb hf)).trans hb,rfl⟩) hf ((ot e (Ne.symm hne)).trans he) hd hc hx (qdL h1) fun h' T' a1 a2 a3=>k h' T' a1 ?_ ⟨fun b o hb b1 b2 b3=>?_,fun b o hb b3=>?_⟩
    · have a2:(s.heap.update T (Obj.mapFields (·.setIfInBounds 3 Value.none))).objs.size≤T':=a2
      rw [Heap.size_after_update] at a2
      exact a2
    · exact a3.keep b o ((ot b (fun z=>b2 (by rw [z]))).trans hb) b1 (by simp) b3
    · refine a3.slot b o ((ot b (nr b o hb ?_)).trans hb) b3
      obtain ⟨_,o',ho',hnf⟩:=hl.mem b3
      rw [hb] at ho'
      cases ho'
      exact hnf
theorem qhg {T:Addr} {fl cls:Value} {dx:Option Addr} {Q:Unit→Shared→Prop} (F:Fly s.heap e (some T) fl cls dx)
    (k:∀ h',Fly h' e (some T) .none cls dx→(∀ b o,s.heap.get? b=some o→b≠T→h'.get? b=some o)→(∀ b,s.heap.get? b=none→h'.get? b=none)→Q () { s with heap:=h' }):wpAny M A (setFlight (.ref e) none) Q E s:=by
  obtain ⟨oe,vs,he,hd,hc,hx,h1,hne,oT,ts,hT,hdT,h3⟩:=F.ex
  have ot:∀ b,b≠T→(s.heap.update T (Obj.mapFields (·.setIfInBounds 3 ((none:Option Addr).elim Value.none fun f=>rawInt f)))).get? b=s.heap.get? b:=fun b hb=>Heap.get?_update_other _ _ (Ne.symm hb)
  unfold setFlight
  refine wpAny_bind (wpAny_field he hd h1 ?_)
  rw [if_pos (show (Value.ref T != Value.none)=true from by simp)]
  have d3:=Obj.data_mapFields hdT (·.setIfInBounds 3 ((none:Option Addr).elim Value.none fun f=>rawInt f))
  refine wpAny_setField hT hdT (qdL h3) (k _ ⟨oe,vs,(ot e (Ne.symm hne)).trans he,hd,hc,hx,h1,hne,_,_,Heap.get?_update_self _ hT (Obj.isFreed_of_fields d3),d3,by simp [qdL h3]⟩ (fun b o hb b1=>(ot b b1).trans hb) fun b hb=>?_)
  rw [ot b (fun z=>by rw [z,hT] at hb;cases hb)]
  exact hb
theorem qj8 {T:Option Addr} {cls:Value} {dx:Option Addr} {Q:Unit→Shared→Prop} (hfr:A.frames=some (env::outer)) (hl:s.heap.FunFrames base (env::outer)) (hf:env.frame=some L) (F:Fly s.heap e T .none cls dx)
    (k:∀ h' T',Fly h' e (some T') .none cls dx→s.heap.objs.size≤T'→Kept (frs (env::outer)) e T s.heap h'→Q () { s with heap:=h' }):wpAny M A (leaving env (.ref e)) Q E s:=by
  unfold leaving
  refine wpAny_bind (qjM hfr hl hf F fun h1 T' F1 n1 k1=>?_)
  refine qhg (s:={ s with heap:=h1 }) F1 fun h2 F2 k2 n2=>?_
  have hT:∀ b o,s.heap.get? b=some o→b≠T':=fun b o hb z=>absurd (Heap.lt_size (z ▸ hb:s.heap.get? T'=some o)) (Nat.not_lt.mpr n1)
  refine k h2 T' F2 n1 ⟨fun b o hb b1 b2 b3=>k2 b o (k1.keep b o hb b1 b2 b3) (hT b o hb),fun b o hb b3=>?_⟩
  obtain ⟨sl,hs⟩:=k1.slot b o hb b3
  exact ⟨sl,k2 b _ hs (hT b o hb)⟩
end
structure XD where
  nm:Str
  at_:Option D
def XAt (K:PySem.W.Frag) (H:Hp) (at_:Option D) (dx:Option Addr):Prop:=match at_ with
  | none=>dx=none
  | some d=>∃ p v,dx=some p∧H p=some (.xd [("at",v)])∧Rp K (fun _=>none) d v
structure XSt (X:Cx) (pins:List (Addr × Obj)) (σ:St) (H:Hp) (xd:XD) (e:Value) (s:Shared):Prop where
  inv:Inv X pins σ H s
  ex:∃ (ea C:Addr) (T dx:Option Addr),e=.ref ea∧Fly s.heap ea T .none (.ref C) dx∧X.mg xd.nm=some (.ref C)∧XAt X.K H xd.at_ dx∧(X.s₀.heap.get? ea=none∧H ea=none∧∀ p∈X.pn++pins,p.1≠ea)∧∀ T',T=some T'→X.s₀.heap.get? T'=none∧H T'=none∧∀ p∈X.pn++pins,p.1≠T'
def XeOk (K:PySem.W.Frag) (X:Cx) (Φ0 H0:Hp) (Rx:XD→qaV→Prop):Prop:=∀ xd ρ' Φ' H' σ' e s' pins,Rx xd ρ'→Gr Φ0 H0 Φ' H'→EnvM K H0 Φ' H' σ' ρ'→XSt X pins σ' H' xd e s'→X.xe e s'
structure StM (K:PySem.W.Frag) (X:Cx) (Φ0 H0 Φ H:Hp) (σ τ:St) (ρ κ:qaV) (Rx:XD→qaV→Prop):Prop where
  g:Gr Φ0 H0 Φ H
  l:ρ.length=σ.length
  E:EnvM K H0 Φ H (σ++τ) (ρ++κ)
  x:XeOk K X Φ0 H0 Rx
inductive Ar where | t (s:Sm) | s (i:Nat)
abbrev TX:=qaV→(Sm→qaV→Prop)→(XD→qaV→Prop)→Prop
abbrev TXB:=qaV→(Bool→qaV→Prop)→(XD→qaV→Prop)→Prop
abbrev TXA:=qaV→(List Ar→qaV→Prop)→(XD→qaV→Prop)→Prop
def tsm (as:List Ar):qaV:=as.filterMap fun a=>match a with | .t s=>some (some s) | .s _=>none
inductive ArV (σ:St):List Ar→List V→St→Prop where
  | nil:ArV σ [] [] []
  | t {s:Sm} {v:V} {as:List Ar} {vs:List V} {ts:St}:ArV σ as vs ts→ArV σ (.t s::as) (v::vs) (some v::ts)
  | s {i:Nat} {v:V} {as:List Ar} {vs:List V} {ts:St}:σ[i]?=some (some v)→ArV σ as vs ts→ArV σ (.s i::as) (v::vs) ts
def lXm (K:PySem.W.Frag) (X:Cx) (t:TX):TE:=fun σ H Q=>∃ Φ0 H0 Φ τ ρ κ R Rx,StM K X Φ0 H0 Φ H σ τ ρ κ Rx∧t ρ R Rx∧∀ sm ρ' Φ' H' v,R sm ρ'→StM K X Φ0 H0 Φ' H' σ (τ++[some v]) ρ' (κ++[some sm]) Rx→Same Φ Φ'→Q v H'
def lXb (K:PySem.W.Frag) (X:Cx) (t:TXB):TT:=fun σ H Q=>∃ Φ0 H0 Φ τ ρ κ R Rx,StM K X Φ0 H0 Φ H σ τ ρ κ Rx∧t ρ R Rx∧∀ b ρ' Φ' H',R b ρ'→StM K X Φ0 H0 Φ' H' σ τ ρ' κ Rx→Same Φ Φ'→Q b H'
def lXa (K:PySem.W.Frag) (X:Cx) (n:Nat) (t:TXA):TA:=fun σ H Q=>∃ Φ0 H0 Φ τ ρ κ R Rx,StM K X Φ0 H0 Φ H σ τ ρ κ Rx∧t ρ R Rx∧∀ as ρ' Φ' H' vs ts,R as ρ'→as.length=n→ArV σ as vs ts→StM K X Φ0 H0 Φ' H' σ (τ++ts) ρ' (κ++tsm as) Rx→Same Φ Φ'→Q vs H'
structure PX (K:PySem.W.Frag) (X:Cx) (e:Expr) (t:TX):Prop where pe:X.K=K→PE X e (lXm K X t)
structure PXB (K:PySem.W.Frag) (X:Cx) (e:Expr) (t:TXB):Prop where pt:X.K=K→PT X e (lXb K X t)
structure PXA (K:PySem.W.Frag) (X:Cx) (es:List Expr) (t:TXA):Prop where pa:X.K=K→PA X es (lXa K X es.length t)
section
variable {K : PySem.W.Frag} {X : Cx} {Φ0 H0 Φ Φ' H H' : Hp} {σ τ ts : St} {ρ κ ks : qaV} {Rx : XD → qaV → Prop} {d : D} {v : V} {sm : Sm}
theorem StM.gr (S:StM K X Φ0 H0 Φ H σ τ ρ κ Rx) (g:Gr Φ H Φ' H'):StM K X Φ0 H0 Φ' H' σ τ ρ κ Rx:=⟨S.g.trans g,S.l,S.E.gr g,S.x⟩
theorem StM.env (S:StM K X Φ0 H0 Φ H σ τ ρ κ Rx):EnvM K H0 Φ H σ ρ:=S.E.take S.l
theorem StM.lk (S:StM K X Φ0 H0 Φ H σ τ ρ κ Rx):κ.length=τ.length:=by have:=S.E.len;rw [List.length_append,List.length_append] at this;have:=S.l;omega
theorem StM.pop (S:StM K X Φ0 H0 Φ H σ (τ++ts) ρ (κ++ks) Rx) (hl:κ.length=τ.length):StM K X Φ0 H0 Φ H σ τ ρ κ Rx:=⟨S.g,S.l,by
  have E:=S.E
  rw [← List.append_assoc,← List.append_assoc] at E
  exact E.take (by rw [List.length_append,List.length_append,S.l,hl]),S.x⟩
theorem StM.pushV (S:StM K X Φ0 H0 Φ H σ τ ρ κ Rx) (r:Rp K Φ d v):StM K X Φ0 H0 Φ H σ (τ++[some v]) ρ (κ++[some (.v d)]) Rx:=⟨S.g,S.l,by
  rw [← List.append_assoc,← List.append_assoc]
  exact S.E.snocV r,S.x⟩
theorem StM.pushO {o:Om} {p:Addr} {F:List Addr} (S:StM K X Φ0 H0 Φ H σ τ ρ κ Rx) (g:Gr Φ H Φ' H') (ho:OmS K Φ' H' o p F) (hf:∀ b∈F,H b=none∧Φ' b=none):StM K X Φ0 H0 Φ' H' σ (τ++[some (.ref p)]) ρ (κ++[some (.ob none o)]) Rx:=⟨S.g.trans g,S.l,by
  rw [← List.append_assoc,← List.append_assoc]
  exact S.E.snocO S.g.h g ho hf,S.x⟩
theorem StM.at (S:StM K X Φ0 H0 Φ H σ τ ρ κ Rx) {i:Nat} (h:κ[i]?=some (some (.v d))):∃ v,τ[i]?=some (some v)∧Rp K Φ d v:=by
  have hi:=qao h
  obtain ⟨v,e,r⟩:=S.E.sl (i:=ρ.length+i) (d:=d) (by rw [List.getElem?_append_right (by omega),Nat.add_sub_cancel_left];exact h)
  rw [S.l,List.getElem?_append_right (by omega),Nat.add_sub_cancel_left] at e
  exact ⟨v,e,r⟩
theorem StM.last (S:StM K X Φ0 H0 Φ H σ (τ++[some v]) ρ (κ++[some (.v d)]) Rx):Rp K Φ d v:=by
  have hl:=S.lk
  rw [List.length_append,List.length_append] at hl
  have hl:κ.length=τ.length:=by simpa using hl
  obtain ⟨u,e,r⟩:=S.at (i:=κ.length) (d:=d) (by rw [List.getElem?_append_right (Nat.le_refl _),Nat.sub_self];rfl)
  rw [hl,List.getElem?_append_right (Nat.le_refl _),Nat.sub_self] at e
  cases e
  exact r
end
section
variable {K : PySem.W.Frag} {X : Cx} {e a b c : Expr} {es : List Expr} {pos p : Pos} {t ta tb : TX} {tA : TXA} {tt tu : TXB}
def xD (t:TD):TX:=fun ρ R _=>t (prR ρ) fun d=>R (.v d) ρ
theorem qco {t:TD} (h:PD K X e t):PX K X e (xD t):=⟨fun hK=>(h.pe hK).imp fun σ H Q hq0=>by
  obtain ⟨Φ0,H0,Φ,τ,ρ,κ,R,Rx,S,t,k⟩:=hq0
  exact ⟨H0,Φ,prR ρ,_,S.env.toD,t,fun d Φ' H' v r g rv=>k _ ρ Φ' H' v r ((S.gr g).pushV rv) g.f⟩⟩
def xF (t:TDL):TX:=fun ρ R _=>t (prR ρ) fun ds=>R (.own ds) ρ
theorem qpz {t:TDL} (h:PF K X e t):PX K X e (xF t):=⟨fun hK=>(h.pe hK).imp fun σ H Q hq0=>by
  obtain ⟨Φ0,H0,Φ,τ,ρ,κ,R,Rx,S,t,k⟩:=hq0
  exact ⟨H0,Φ,prR ρ,_,S.env.toD,t,fun ds Φ' H' p vs r g h0 hn hp rr=>k _ ρ Φ' H' _ r (S.pushO g (.lst hp rr) fun b hb=>by rw [List.mem_singleton.mp hb];exact ⟨h0,hn⟩) g.f⟩⟩
def xB (t:TDB):TXB:=fun ρ R _=>t (prR ρ) fun b=>R b ρ
theorem qg0 {t:TDB} (h:PTD K X e t):PXB K X e (xB t):=⟨fun hK=>(h.pt hK).imp fun σ H Q hq0=>by
  obtain ⟨Φ0,H0,Φ,τ,ρ,κ,R,Rx,S,t,k⟩:=hq0
  exact ⟨H0,Φ,prR ρ,_,S.env.toD,t,fun b Φ' H' r g=>k b ρ Φ' H' r (S.gr g) g.f⟩⟩
def xV (k:D→qaV→Prop):Sm→qaV→Prop:=fun s ρ=>match s with | .v d=>k d ρ | _=>False
theorem xV.get {k:D→qaV→Prop} {s:Sm} {ρ:qaV} (h:xV k s ρ):∃ d,s=.v d∧k d ρ:=by
  cases s with
  | v d=>exact ⟨d,rfl,h⟩
  | ob _ _=>exact h.elim
def qoa:TXA:=fun ρ R _=>R [] ρ
def qlY (t:TX) (u:TXA):TXA:=fun ρ R Rx=>t ρ (fun s ρ1=>u ρ1 (fun as ρ2=>R (.t s::as) ρ2) Rx) Rx
theorem qb5:PXA K X [] qoa:=⟨fun _=>pa_nil.imp fun σ H Q hq0=>by
  obtain ⟨Φ0,H0,Φ,τ,ρ,κ,R,Rx,S,t,k⟩:=hq0
  exact k [] ρ Φ H [] [] t rfl .nil (by rw [List.append_nil,show tsm []=[] from rfl,List.append_nil];exact S) (Same.refl _)⟩
theorem qaX (ha:PX K X e t) (hr:PXA K X es tA) (hs:starEach (e::es) X.env=(false,eval e X.env)::starEach es X.env):PXA K X (e::es) (qlY t tA) :=
  ⟨fun hK=>(qaZ (ha.pe hK) (hr.pa hK) hs).imp fun σ H Q hq0=>by
    obtain ⟨Φ0,H0,Φ,τ,ρ,κ,R,Rx,S,t,k⟩:=hq0
    refine ⟨Φ0,H0,Φ,τ,ρ,κ,_,Rx,S,t,fun s1 ρ1 Φ1 H1 v r1 S1 f1=>?_⟩
    refine ⟨Φ0,H0,Φ1,_,ρ1,_,_,Rx,S1,r1,fun as ρ2 Φ2 H2 vs ts r2 hl hv S2 f2=>?_⟩
    refine k _ ρ2 Φ2 H2 (v::vs) (some v::ts) r2 (by rw [List.length_cons,List.length_cons,hl]) (.t hv) ?_ (f1.trans f2)
    rw [List.append_assoc,List.append_assoc] at S2
    exact S2⟩
def arD:List Ar→Option (List D)
  | []=>some []
  | .t (.v d)::as=>(arD as).map (d::·)
  | _=>none
def xaD (k:List D→qaV→Prop):List Ar→qaV→Prop:=fun as ρ=>match arD as with | some ds=>k ds ρ | none=>False
theorem xaD.get {k:List D→qaV→Prop} {as:List Ar} {ρ:qaV} (h:xaD k as ρ):∃ ds,arD as=some ds∧k ds ρ:=by
  unfold xaD at h
  split at h
  · next ds e=>exact ⟨ds,e,h⟩
  · exact h.elim
theorem qin:∀ {as:List Ar} {ds:List D},arD as=some ds→tsm as=ds.map (fun d=>some (.v d))∧as.length=ds.length
  | [],ds,h=>by cases h;exact ⟨rfl,rfl⟩
  | .t (.v d)::as,ds,h=>by
    have h':(arD as).map (d::·)=some ds:=h
    cases e:arD as with
    | none=>rw [e] at h';cases h'
    | some es =>
      rw [e] at h'
      cases h'
      obtain ⟨h1,h2⟩:=qin e
      exact ⟨by show some (Sm.v d)::tsm as=_;rw [h1];rfl,by rw [List.length_cons,List.length_cons,h2]⟩
  | .t (.ob _ _)::_,_,h=>by cases h
  | .s _::_,_,h=>by cases h
theorem qgv {σ:St}:∀ {as:List Ar} {ds:List D} {vs:List V} {ts:St},arD as=some ds→ArV σ as vs ts→ts=vs.map some
  | [],_,_,_,_,.nil=>rfl
  | .t (.v d)::as,ds,_,_,h,.t hv=>by
    have h':(arD as).map (d::·)=some ds:=h
    cases e:arD as with
    | none=>rw [e] at h';cases h'
    | some es=>rw [qgv e hv];rfl
theorem StM.vals {Φ0 H0 Φ H:Hp} {σ τ ts:St} {ρ κ:qaV} {Rx:XD→qaV→Prop} {as:List Ar} {ds:List D} {vs:List V} (S:StM K X Φ0 H0 Φ H σ (τ++ts) ρ (κ++tsm as) Rx) (hl:κ.length=τ.length) (hd:arD as=some ds) (hv:ArV σ as vs ts):RpL K Φ ds vs:=by
  have e1:=qgv hd hv
  obtain ⟨e2,e3⟩:=qin hd
  have hlen:vs.length=ds.length:=by
    have:=S.lk
    rw [List.length_append,List.length_append,e1,e2,List.length_map,List.length_map] at this
    omega
  refine ⟨hlen,fun i v d hv' hd'=>?_⟩
  obtain ⟨w,hw,r⟩:=S.at (i:=κ.length+i) (d:=d) (by rw [List.getElem?_append_right (by omega),Nat.add_sub_cancel_left,e2,List.getElem?_map,hd'];rfl)
  rw [hl,List.getElem?_append_right (by omega),Nat.add_sub_cancel_left,e1,List.getElem?_map,hv'] at hw
  cases hw
  exact r
end
def qdc (H:Hp) (B:List Addr):Hp:=fun b=>if b∈B then none else H b
theorem qjw {H:Hp} {B:List Addr} {b:Addr} (h:b∈B):qdc H B b=none:=if_pos h
theorem qgC {H:Hp} {B:List Addr} {b:Addr} {u:HO} (h:qdc H B b=some u):b∉B∧H b=some u:=by
  unfold qdc at h
  split at h
  · cases h
  · next c=>exact ⟨c,h⟩
theorem qgG {H:Hp} {B:List Addr}:Same (qdc H B) H:=fun b u e=>(qgC e).2
abbrev SpM:=List Sm→(Sm→List Om→Prop)→(XD→List Om→Prop)→Prop
inductive ArgM (K:PySem.W.Frag) (Φ H:Hp):List Sm→List V→List (List Addr)→Prop where
  | nil:ArgM K Φ H [] [] []
  | v {d:D} {v:V} {as:List Sm} {vs:List V} {Fs:List (List Addr)}:Rp K Φ d v→ArgM K Φ H as vs Fs→ArgM K Φ H (.v d::as) (v::vs) ([]::Fs)
  | o {a:Option Addr} {o:Om} {p:Addr} {F:List Addr} {as:List Sm} {vs:List V} {Fs:List (List Addr)}:OmS K Φ H o p F→ArgM K Φ H as vs Fs→ArgM K Φ H (.ob a o::as) (.ref p::vs) (F::Fs)
inductive OutM (K:PySem.W.Frag) (Φ H:Hp):List Sm→List V→List Om→List (List Addr)→Prop where
  | nil:OutM K Φ H [] [] [] []
  | v {d:D} {v:V} {as:List Sm} {vs:List V} {os:List Om} {Fs:List (List Addr)}:OutM K Φ H as vs os Fs→OutM K Φ H (.v d::as) (v::vs) os ([]::Fs)
  | o {a:Option Addr} {o o':Om} {p:Addr} {F:List Addr} {as:List Sm} {vs:List V} {os:List Om} {Fs:List (List Addr)}:OmS K Φ H o' p F→OutM K Φ H as vs os Fs→OutM K Φ H (.ob a o::as) (.ref p::vs) (o'::os) (F::Fs)
inductive ResM (K:PySem.W.Frag) (Φ H:Hp):Sm→V→List Addr→Prop where
  | v {d:D} {v:V}:Rp K Φ d v→ResM K Φ H (.v d) v []
  | o {a:Option Addr} {o:Om} {p:Addr} {F:List Addr}:(∀ q,a=some q→q=p)→OmS K Φ H o p F→ResM K Φ H (.ob a o) (.ref p) F
def qnB (K:PySem.W.Frag) (sp:SpM):Sp:=fun vs H Q _=>∃ Φ as Fs R Rx,Same Φ H∧TabF K Φ∧ArgM K Φ H as vs Fs∧Fs.flatten.Nodup∧(∀ b∈Fs.flatten,Φ b=none)∧sp as R Rx ∧
  ∀ sm os Φ' H' v F Fs',R sm os→Gr Φ (qdc H Fs.flatten) Φ' H'→ResM K Φ' H' sm v F→OutM K Φ' H' as vs os Fs'→(F++Fs'.flatten).Nodup→(∀ b∈F++Fs'.flatten,qdc H Fs.flatten b=none∧Φ' b=none)→Q v H'
theorem OmS.nodup {K:PySem.W.Frag} {Φ H:Hp} {o:Om} {p:Addr} {F:List Addr} (h:OmS K Φ H o p F):F.Nodup:=by
  cases h with
  | lst _ _=>simp
  | map _ _=>simp
  | mpT _ _=>simp
  | obj _ _ _ h=>exact h
  | ptr=>exact .nil
  | tl _ _ h=>exact h
theorem ArgM.len {K:PySem.W.Frag} {Φ H:Hp} {as:List Sm} {vs:List V} {Fs:List (List Addr)} (h:ArgM K Φ H as vs Fs):vs.length=as.length∧Fs.length=as.length:=by
  induction h with
  | nil=>exact ⟨rfl,rfl⟩
  | v _ _ ih=>exact ⟨by simp [ih.1],by simp [ih.2]⟩
  | o _ _ ih=>exact ⟨by simp [ih.1],by simp [ih.2]⟩
section
variable {K : PySem.W.Frag} {H0 H H' Φ Φ' Φ0 : Hp} {σ σ2 : St} {ρ ρ2 : qaV} {fp : Nat → List Addr} {F F' B : List Addr} {o o' : Om} {p : Addr} {d : D} {v : V} {i : Nat} {a : Option Addr}
end
section
variable {K : PySem.W.Frag} {H0 H H' Φ Φ' Φ0 : Hp} {σ σ2 : St} {ρ : qaV} {fp : Nat → List Addr}
end
section
variable {K : PySem.W.Frag} {X : Cx} {e : Expr} {es : List Expr} {pos p : Pos} {tA : TXA}
end
structure EndsM where
  nx:qaV→Prop
  rt:Sm→qaV→Prop
  bk:qaV→Prop:=fun _=>False
  ct:qaV→Prop:=fun _=>False
  ex:XD→qaV→Prop:=fun _ _=>False
abbrev TSM:=EndsM→qaV→Prop
def qoq (K:PySem.W.Frag) (Φ0 H0:Hp) (P:qaV→Prop) (Q:St→Hp→Prop):Prop:=∀ ρ' Φ' H' σ',P ρ'→Gr Φ0 H0 Φ' H'→EnvM K H0 Φ' H' σ' ρ'→Q σ' H'
structure EndOkM (K:PySem.W.Frag) (X:Cx) (Φ0 H0:Hp) (De:EndsM) (E:Ends):Prop where
  nx:qoq K Φ0 H0 De.nx E.nx
  rt:∀ sm ρ' Φ' H' v σ',De.rt sm ρ'→Gr Φ0 H0 Φ' H'→EnvM K H0 Φ' H' (σ'++[some v]) (ρ'++[some sm])→E.rt v H'
  bk:qoq K Φ0 H0 De.bk E.bk
  ct:qoq K Φ0 H0 De.ct E.ct
  ex:XeOk K X Φ0 H0 De.ex
def lM (K:PySem.W.Frag) (X:Cx) (t:TSM):TS:=fun E σ H=>∃ Φ0 H0 Φ ρ De,Gr Φ0 H0 Φ H∧EnvM K H0 Φ H σ ρ∧t De ρ∧EndOkM K X Φ0 H0 De E
structure PSM (K:PySem.W.Frag) (X:Cx) (st:Stmt) (t:TSM):Prop where ps:X.K=K→PS X st (lM K X t)
structure PSsM (K:PySem.W.Frag) (X:Cx) (st:List Stmt) (t:TSM):Prop where ps:X.K=K→PSs X st (lM K X t)
section
variable {K : PySem.W.Frag} {X : Cx} {Φ0 H0 Φ H Φ1 H1 : Hp} {σ : St} {ρ ρ1 : qaV} {Rx : XD → qaV → Prop} {v : V} {sm : Sm}
theorem st0 (g:Gr Φ0 H0 Φ H) (V:EnvM K H0 Φ H σ ρ) (x:XeOk K X Φ0 H0 Rx):StM K X Φ0 H0 Φ H σ [] ρ [] Rx:=⟨g,V.len.symm,by rw [List.append_nil,List.append_nil];exact V,x⟩
theorem StM.env1 (S:StM K X Φ0 H0 Φ H σ ([]++[some v]) ρ ([]++[some sm]) Rx):EnvM K H0 Φ H (σ++[some v]) (ρ++[some sm]):=S.E
end
section
variable {K : PySem.W.Frag} {X : Cx} {st : Stmt} {rest : List Stmt} {t u : TSM} {e a : Expr} {te : TX} {pos : Pos} {tt : TXB}
def qmM:TSM:=fun De ρ=>De.nx ρ
def qpo (t u:TSM):TSM:=fun De ρ=>t { De with nx:=u De } ρ
def qpA (t u:TSM):TSM:=fun De ρ=>∃ I:qaV→Prop,t { De with nx:=I } ρ∧∀ ρ',I ρ'→u De ρ'
theorem qfD:PSsM K X [] qmM:=⟨fun _=>pss_nil.imp fun E σ H hq0=>by obtain ⟨Φ0,H0,Φ,ρ,De,g,V,t,k⟩:=hq0;exact k.nx ρ Φ H σ t g V⟩
theorem qa1 (h1:PSM K X st t) (h2:PSsM K X rest u):PSsM K X (st::rest) (qpo t u):=⟨fun hK=>(qdf (h1.ps hK) (h2.ps hK)).imp fun E σ H hq0=>by obtain ⟨Φ0,H0,Φ,ρ,De,g,V,t,k⟩:=hq0;exact
  ⟨Φ0,H0,Φ,ρ,_,g,V,t,⟨fun ρ' Φ' H' σ' t' g' V'=>⟨Φ0,H0,Φ',ρ',De,g',V',t',k⟩,k.rt,k.bk,k.ct,k.ex⟩⟩⟩
theorem qkI (h1:PSM K X st t) (h2:PSsM K X rest u):PSsM K X (st::rest) (qpA t u):=⟨fun hK=>(qdf (h1.ps hK) (h2.ps hK)).imp fun E σ H hq0=>by obtain ⟨Φ0,H0,Φ,ρ,De,g,V,⟨I,t,c⟩,k⟩:=hq0;exact
  ⟨Φ0,H0,Φ,ρ,_,g,V,t,⟨fun ρ' Φ' H' σ' t' g' V'=>⟨Φ0,H0,Φ',ρ',De,g',V',c ρ' t',k⟩,k.rt,k.bk,k.ct,k.ex⟩⟩⟩
theorem qbC (h1:PSM K X st t):PSsM K X [st] t:=⟨fun hK=>qfS (h1.ps hK)⟩
def ql4:TSM:=fun _ _=>False
theorem qfJ:PSM K X st ql4:=⟨fun _=>ps_never.imp fun E σ H hq0=>by obtain ⟨Φ0,H0,Φ,ρ,De,g,V,t,k⟩:=hq0;exact t⟩
def qoV (i:Nat) (te:TX):TSM:=fun De ρ=>te ρ (fun s ρ1=>De.nx (ρ1.set i (some s))) De.ex
theorem qio {i:Nat} {E:Ends} {σ:St} {H:Hp} (h:lM K X (qoV i te) E σ H):qlx (lXm K X te) (qfN i) E σ H:=by
  obtain ⟨Φ0,H0,Φ,ρ,De,g,V,t,k⟩:=h
  exact ⟨Φ0,H0,Φ,[],ρ,[],_,De.ex,st0 g V k.ex,t,fun s ρ1 Φ1 H1 v r S1 _=>k.nx _ Φ1 H1 _ r S1.g (S1.env1.store i)⟩
theorem qcI {i:Nat} {x:Str} {pos':Pos} (hN:X.N.Nodup) (hi:X.N[i]?=some x) (hx:Loc X.env.scope x) (he:PX K X e te) (hs:swapsWith e (some (.Name x pos')) pos.line X.env=pure false:=by rfl) (hf:X.fn x=true∨X.env.scope.names.lookup x=some .local:=by first | exact .inl rfl | exact .inr rfl | assumption) :
    PSM K X (.Assign [.Name x pos'] e pos) (qoV i te):=⟨fun hK=>(qgi hN hi hx (he.pe hK) hs hf).imp fun _ _ _=>qio⟩
def qoA (te:TX):TSM:=fun De ρ=>te ρ (fun _ ρ1=>De.nx ρ1) De.ex
theorem qc1 (he:PX K X e te) (hs:swapsWith e none pos.line X.env=pure false:=by rfl):PSM K X (.Expr e pos) (qoA te) :=
  ⟨fun hK=>(qev (he.pe hK) hs).imp fun E σ H hq0=>by
    obtain ⟨Φ0,H0,Φ,ρ,De,g,V,t,k⟩:=hq0
    exact ⟨Φ0,H0,Φ,[],ρ,[],_,De.ex,st0 g V k.ex,t,fun s ρ1 Φ1 H1 v r S1 _=>k.nx _ Φ1 H1 σ r S1.g S1.env⟩⟩
def qon (te:TX):TSM:=fun De ρ=>te ρ De.rt De.ex
theorem qli (he:PX K X e te):PSM K X (.Return (some e) pos) (qon te) :=
  ⟨fun hK=>(qjW (he.pe hK)).imp fun E σ H hq0=>by
    obtain ⟨Φ0,H0,Φ,ρ,De,g,V,t,k⟩:=hq0
    exact ⟨Φ0,H0,Φ,[],ρ,[],_,De.ex,st0 g V k.ex,t,fun s ρ1 Φ1 H1 v r S1 _=>k.rt s ρ1 Φ1 H1 v σ r S1.g S1.env1⟩⟩
def mIf (c:TXB) (t u:TSM):TSM:=fun De ρ=>c ρ (fun b ρ1=>(b=true→t De ρ1)∧(b=false→u De ρ1)) De.ex
theorem qkP {c:Expr} {a b:List Stmt} (hc:PXB K X c tt) (ha:PSsM K X a t) (hb:PSsM K X b u):PSM K X (.If c a b pos) (mIf tt t u) :=
  ⟨fun hK=>(qmN (hc.pt hK) (ha.ps hK) (hb.ps hK)).imp fun E σ H hq0=>by
    obtain ⟨Φ0,H0,Φ,ρ,De,g,V,t,k⟩:=hq0
    refine ⟨Φ0,H0,Φ,[],ρ,[],_,De.ex,st0 g V k.ex,t,fun c ρ1 Φ1 H1 r S1 _=>?_⟩
    cases c with
    | true=>refine qnq ?_;exact ⟨Φ0,H0,Φ1,ρ1,De,S1.g,S1.env,r.1 rfl,k⟩
    | false=>refine qnr ?_;exact ⟨Φ0,H0,Φ1,ρ1,De,S1.g,S1.env,r.2 rfl,k⟩⟩
abbrev TGM:=D→qaV→(qaV→Prop)→Prop
abbrev qk7:=List D→qaV→(qaV→Prop)→Prop
def lGM (K:PySem.W.Frag) (g:TGM):TG:=fun v σ H Q=>∃ H0 Φ ρ d R,EnvM K H0 Φ H σ ρ∧Rp K Φ d v∧g d ρ R∧∀ ρ' σ',R ρ'→EnvM K H0 Φ H σ' ρ'→Q σ' H
def qoU (K:PySem.W.Frag) (g:qk7):TGs:=fun vs σ H Q=>∃ H0 Φ ρ ds R,EnvM K H0 Φ H σ ρ∧RpL K Φ ds vs∧g ds ρ R∧∀ ρ' σ',R ρ'→EnvM K H0 Φ H σ' ρ'→Q σ' H
structure PGM (K:PySem.W.Frag) (X:Cx) (e:Expr) (g:TGM):Prop where pg:X.K=K→PG X e (lGM K g)
structure PGMs (K:PySem.W.Frag) (X:Cx) (es:List Expr) (g:qk7):Prop where pg:X.K=K→PGs X es (qoU K g)
end
section
variable {K : PySem.W.Frag} {X : Cx} {e : Expr} {es : List Expr} {pos : Pos} {g : TGM} {gs : qk7}
def qpR (i:Nat):TGM:=fun d ρ R=>R (ρ.set i (some (.v d)))
theorem qgs {i:Nat} {x:Str} (hN:X.N.Nodup) (hi:X.N[i]?=some x) (hx:Loc X.env.scope x) (hf:X.fn x=true∨X.env.scope.names.lookup x=some .local:=by first | exact .inl rfl | exact .inr rfl | assumption):PGM K X (.Name x pos) (qpR i) :=
  ⟨fun _=>(qih hN hi hx hf).imp fun v σ H Q hq0=>by obtain ⟨H0,Φ,ρ,d,R,E,r,g,k⟩:=hq0;exact k _ _ g ((E.snocV r).store i)⟩
def qoj:qk7:=fun ds ρ R=>match ds with | []=>R ρ | _=>False
def qmx (t:TGM) (u:qk7):qk7:=fun ds ρ R=>match ds with | d::r=>t d ρ fun ρ'=>u r ρ' R | []=>False
theorem qm7:PGMs K X [] qoj:=⟨fun _=>pgs_nil.imp fun v σ H Q hq0=>by
  obtain ⟨H0,Φ,ρ,ds,R,E,r,g,k⟩:=hq0
  cases ds with
  | nil=>exact ⟨List.length_eq_zero_iff.mp r.1,k _ _ g E⟩
  | cons=>exact g.elim⟩
theorem qhN (h1:PGM K X e g) (h2:PGMs K X es gs) (hs:(assignEach (e::es) X.env).map (·.2)=assign e X.env::(assignEach es X.env).map (·.2):=by rfl):PGMs K X (e::es) (qmx g gs) :=
  ⟨fun hK=>(qgg (h1.pg hK) (h2.pg hK) hs).imp fun vs σ H Q hq0=>by
    obtain ⟨H0,Φ,ρ,ds,R,E,r,g,k⟩:=hq0
    cases ds with
    | nil=>exact g.elim
    | cons d ds =>
      cases vs with
      | nil=>exact absurd r.1 (by simp)
      | cons v vs =>
        refine ⟨v,vs,rfl,H0,Φ,ρ,d,_,E,r.2 0 v d rfl rfl,g,fun ρ' σ' g' E'=>⟨H0,Φ,ρ',ds,R,E',⟨by have:=r.1;simpa using this,fun i u f hu hf=>r.2 (i+1) u f hu hf⟩,g',k⟩⟩⟩
def qpV (n:Nat) (t:qk7):TGM:=fun d ρ R=>match d with | .tup ds=>ds.length=n∧t ds ρ R | .lst ds=>ds.length=n∧t ds ρ R | _=>False
def gTL (K:PySem.W.Frag) (n:Nat) (t:TGs):TG:=fun v σ H Q=>qn4 K n t v σ H Q∨qoo K n t v σ H Q
theorem qoh {k n:Nat} {t:TGs} (hK:X.K=K) (hc:X.calm=true) (h:PGs X es t) (hn:(assignEach es X.env).length=n) (hst:(assignEach es X.env).findIdx? (·.1)=none):PG X (.Tuple es k pos) (gTL K n t):=fun pins s σ H v u Q I r hw=>by
  rcases hw with hw | hw
  · exact qf6 hK hc h hn hst pins s σ H v u Q I r hw
  · exact qfW hK hc h hn hst pins s σ H v u Q I r hw
theorem qoe {k n:Nat} (hc:X.calm=true) (h:PGMs K X es gs) (hn:(assignEach es X.env).length=n:=by rfl) (hst:(assignEach es X.env).findIdx? (·.1)=none:=by rfl):PGM K X (.Tuple es k pos) (qpV n gs) :=
  ⟨fun hK=>(qoh hK hc (h.pg hK) hn hst:PG X (.Tuple es k pos) (gTL K n (qoU K gs))).imp fun v σ H Q hq0=>by
    obtain ⟨H0,Φ,ρ,d,R,E,r,g,k⟩:=hq0
    cases d with
    | tup ds=>cases r with | tup h1 h2 h3=>exact .inl ⟨_,_,rfl,.of (E.fz _ _ h1),by rw [h2];exact g.1,H0,Φ,ρ,ds,R,E,⟨h2,h3⟩,g.2,k⟩
    | lst ds=>cases r with | lst h1 h2 h3=>exact .inr ⟨_,_,rfl,.of (E.fz _ _ h1),by rw [h2];exact g.1,H0,Φ,ρ,ds,R,E,⟨h2,h3⟩,g.2,k⟩
    | _=>exact g.elim⟩
end
section
variable {K : PySem.W.Frag} {X : Cx} {st : Stmt} {rest : List Stmt} {t u : TSM} {e a : Expr} {te : TX} {pos : Pos} {tt : TXB}
abbrev TIM:=qaV→(List D→qaV→Prop)→(XD→qaV→Prop)→Prop
def lIM (K:PySem.W.Frag) (X:Cx) (t:TIM):TI:=fun σ H R'=>∃ Φ0 H0 Φ τ ρ κ R Rx,StM K X Φ0 H0 Φ H σ τ ρ κ Rx∧t ρ R Rx∧∀ ds ρ' Φ' H' J,R ds ρ'→StM K X Φ0 H0 Φ' H' σ τ ρ' κ Rx→Same Φ Φ'→SteadyD K J Φ' ds→R' J H'
structure PIM (K:PySem.W.Frag) (X:Cx) (tg e:Expr) (t:TIM):Prop where pi:X.K=K→PI X tg e (lIM K X t)
def iD (t:TDL):TIM:=fun ρ R _=>t (prR ρ) fun ds=>R ds ρ
theorem qk2 {tg:Expr} {t:TDL} (h:PID K X tg e t):PIM K X tg e (iD t):=⟨fun hK=>(h.pi hK).imp fun σ H R' hq0=>by
  obtain ⟨Φ0,H0,Φ,τ,ρ,κ,R,Rx,S,t,k⟩:=hq0
  exact ⟨H0,Φ,prR ρ,_,S.env.toD,t,fun ds Φ' H' J r g Sd=>k ds ρ Φ' H' J r (S.gr g) g.f Sd⟩⟩
theorem XeOk.join {Φ0 H0 H Φ3:Hp} {Rx:XD→qaV→Prop} (x:XeOk K X Φ0 H0 Rx) (g:Gr Φ0 H0 Φ3 H):XeOk K X Φ3 H0 Rx:=fun xd ρ' Φ' H' σ' e s' pins r g' V h=>x xd ρ' Φ' H' σ' e s' pins r (g.join g') V h
def qpQ (ti:TIM) (gd:TGM) (tb:TSM):TSM:=fun De ρ=>ti ρ (fun ds ρ0=>∃ I:Nat→qaV→Prop,I 0 ρ0∧(∀ i d ρ',ds[i]?=some d→I i ρ'→gd d ρ' fun ρ2=>tb { De with nx:=I (i+1),ct:=I (i+1),bk:=De.nx } ρ2)∧∀ ρ',I ds.length ρ'→De.nx ρ') De.ex
theorem qj7 {tg iter:Expr} {body:List Stmt} {ti:TIM} {gd:TGM} {tb:TSM} (hp:PassesOwn (model X.prog X.w) X.A X.env X.xe) (hc:X.calm=true) (hi:PIM K X tg iter ti) (hg:PGM K X tg gd) (hb:PSsM K X body tb)
    (hs:∀ x,foldedSetIterable iter X.env x=pure x:=by intro _;rfl):PSM K X (.For tg iter body [] pos) (qpQ ti gd tb) :=
  ⟨fun hK=>(qjZ hp hc (hi.pi hK) (hg.pg hK) (hb.ps hK) hs).imp fun E σ H hq0=>by
    obtain ⟨Φ0,H0,Φ,ρ,De,g,V,t,k⟩:=hq0
    refine ⟨Φ0,H0,Φ,[],ρ,[],_,De.ex,st0 g V k.ex,t,fun ds ρ0 Φ1 H1 J hq1 S1 _ Sd=>?_⟩
    obtain ⟨I,h0,hst,hend⟩:=hq1
    refine ⟨fun i m σ H'=>m=ds.length - i∧i≤ds.length∧∃ Φ' ρ',Gr Φ0 H0 Φ' H'∧Same Φ1 Φ'∧EnvM K H0 Φ' H' σ ρ'∧I i ρ',⟨ds.length,by simp,Nat.zero_le _,Φ1,ρ0,S1.g,Same.refl _,S1.env,h0⟩,?_⟩
    rintro i m σ' H' ⟨rfl,hi,Φ',ρ',g',s',V',hI⟩
    by_cases hlt:i<ds.length
    · refine .inr ⟨Sd.go i H' (s'.trans V'.fz) hlt,fun σ2 H2=>∃ Φ' ρ',Gr Φ0 H0 Φ' H2∧Same Φ1 Φ'∧EnvM K H0 Φ' H2 σ2 ρ'∧I (i+1) ρ',fun σ2 H2 h2=>⟨ds.length - (i+1),by omega,rfl,hlt,h2⟩,fun x H2 y=>?_⟩
      obtain ⟨Φ3,g3,rx⟩:=Sd.yl i Φ' H' x H2 _ s' V'.fz (qaF hlt) y
      refine ⟨H0,Φ3,ρ',_,_,V'.gr g3,rx,hst i _ ρ' (qaF hlt) hI,fun ρ2 σ3 t2 V3=>?_⟩
      refine ⟨Φ3,H0,Φ3,ρ2,_,?_,V3,t2,⟨?_,?_,?_,?_,k.ex.join (g'.trans g3)⟩⟩
      · exact ⟨Same.refl _,(g'.trans g3).h,g3.s,fun p u hp hn _=>hn⟩
      · intro ρ4 Φ4 H4 σ4 t4 g4 V4
        exact ⟨Φ4,ρ4,(g'.trans g3).join g4,(s'.trans g3.f).trans g4.f,V4,t4⟩
      · intro sm ρ4 Φ4 H4 v σ4 r g4 V4
        exact k.rt sm ρ4 Φ4 H4 v σ4 r ((g'.trans g3).join g4) V4
      · intro ρ4 Φ4 H4 σ4 t4 g4 V4
        exact k.nx ρ4 Φ4 H4 σ4 t4 ((g'.trans g3).join g4) V4
      · intro ρ4 Φ4 H4 σ4 t4 g4 V4
        exact ⟨Φ4,ρ4,(g'.trans g3).join g4,(s'.trans g3.f).trans g4.f,V4,t4⟩
    · have e:i=ds.length:=by omega
      subst e
      exact .inl ⟨Sd.stop H' (s'.trans V'.fz),k.nx ρ' Φ' H' σ' (hend ρ' hI) g' V'⟩⟩
end
def qbD:List Sm→List Addr→qaV
  | [],_=>[]
  | .v d::as,ps=>some (.v d)::qbD as ps
  | .ob _ o::as,p::ps=>some (.ob (some p) o)::qbD as ps
  | .ob _ _::as,[]=>none::qbD as []
def qch (N:List Str) (as:List Sm) (ps:List Addr):qaV:=qbD as ps++List.replicate (N.length - as.length) none
def qbo:List Str→List Sm→List Addr→qaV
  | [],as,ps=>qbD as ps
  | _::N,[],ps=>none::qbo N [] ps
  | _::N,.v d::as,ps=>some (.v d)::qbo N as ps
  | _::N,.ob _ o::as,p::ps=>some (.ob (some p) o)::qbo N as ps
  | _::N,.ob _ _::as,[]=>none::qbo N as []
theorem qbE:∀ (N:List Str) (as:List Sm) (ps:List Addr),qch N as ps=qbo N as ps
  | [],as,ps=>by unfold qch;rw [List.length_nil,Nat.zero_sub,List.replicate_zero,List.append_nil];rfl
  | n::N,[],ps=>by
    have:=qbE N [] ps
    unfold qch at this ⊢
    show List.replicate (N.length+1 - 0) none=none::qbo N [] ps
    rw [← this]
    rfl
  | n::N,.v d::as,ps=>by
    have:=qbE N as ps
    unfold qch at this ⊢
    rw [List.length_cons,List.length_cons,Nat.add_sub_add_right]
    exact congrArg (some (Sm.v d)::·) this
  | n::N,.ob a o::as,p::ps=>by
    have:=qbE N as ps
    unfold qch at this ⊢
    rw [List.length_cons,List.length_cons,Nat.add_sub_add_right]
    exact congrArg (some (Sm.ob (some p) o)::·) this
  | n::N,.ob _ _::as,[]=>by
    have:=qbE N as []
    unfold qch at this ⊢
    rw [List.length_cons,List.length_cons,Nat.add_sub_add_right]
    exact congrArg (none::·) this
def qkN (k:List Om→Prop):List Sm→List Addr→Nat→qaV→Prop
  | [],_,_,_=>k []
  | .v _::as,ps,i,ρ=>qkN k as ps (i+1) ρ
  | .ob _ _::as,p::ps,i,ρ=>∃ o,ρ[i]?=some (some (.ob (some p) o))∧qkN (fun os=>k (o::os)) as ps (i+1) ρ
  | .ob _ _::_,[],_,_=>False
def qkD:List Sm→Nat
  | []=>0
  | .v _::as=>qkD as
  | .ob _ _::as=>qkD as+1
def qcm:List Sm→List V→List Addr
  | .v _::as,_::vs=>qcm as vs
  | .ob _ _::as,.ref p::vs=>p::qcm as vs
  | _,_=>[]
section
variable {K : PySem.W.Frag} {Φ H Φ' H' H0 : Hp}
theorem qcJ:∀ {as:List Sm} {vs:List V} {Fs:List (List Addr)},ArgM K Φ H as vs Fs→(qcm as vs).length=qkD as
  | [],_,_,.nil=>rfl
  | _,_,_,.v (as:=as) (vs:=vs) _ t=>show (qcm as vs).length=qkD as from qcJ t
  | _,_,_,.o _ t=>by show (_::qcm _ _).length=qkD _+1;rw [List.length_cons,qcJ t]
theorem qb7:∀ {as:List Sm} {ps:List Addr},(qbD as ps).length=as.length
  | [],_=>rfl
  | .v d::as,ps=>by show (qbD as ps).length+1=_;rw [qb7];rfl
  | .ob _ o::as,p::ps=>by show (qbD as ps).length+1=_;rw [qb7];rfl
  | .ob _ _::as,[]=>by show (qbD as []).length+1=_;rw [qb7];rfl
theorem qbM:∀ {as:List Sm} {vs:List V} {Fs:List (List Addr)},ArgM K Φ H as vs Fs→∀ {i:Nat} {x:Sm},(qbD as (qcm as vs))[i]?=some (some x) →
    (∃ d v,x=.v d∧vs[i]?=some v∧Rp K Φ d v)∨∃ o p F,x=.ob (some p) o∧vs[i]?=some (.ref p)∧Fs[i]?=some F∧OmS K Φ H o p F
  | [],_,_,.nil,i,x,h=>by simp [qbD] at h
  | _,_,_,.v (d:=d) r t,0,x,h=>by cases h;exact .inl ⟨d,_,rfl,rfl,r⟩
  | _,_,_,.v r t,i+1,x,h=>qbM t (i:=i) h
  | _,_,_,.o (o:=o) (p:=p) (F:=F) r t,0,x,h=>by cases h;exact .inr ⟨o,p,F,rfl,rfl,rfl,r⟩
  | _,_,_,.o r t,i+1,x,h=>qbM t (i:=i) h
theorem qiq:∀ {Fs:List (List Addr)},Fs.flatten.Nodup→∀ {i j:Nat} {F G:List Addr},Fs[i]?=some F→Fs[j]?=some G→i≠j→∀ b∈F,b∉G
  | [],_,i,j,F,G,h,_,_,_,_=>by simp at h
  | L::Fs,nd,i,j,F,G,hi,hj,c,b,hb=>by
    obtain ⟨n1,n2,n3⟩:=List.nodup_append.mp (show (L++Fs.flatten).Nodup from nd)
    intro hb2
    cases i with
    | zero =>
      cases hi
      cases j with
      | zero=>exact c rfl
      | succ j=>exact n3 b hb b (List.mem_flatten.mpr ⟨G,List.mem_of_getElem? (i:=j) (by simpa using hj),hb2⟩) rfl
    | succ i =>
      cases j with
      | zero =>
        cases hj
        exact n3 b hb2 b (List.mem_flatten.mpr ⟨F,List.mem_of_getElem? (i:=i) (by simpa using hi),hb⟩) rfl
      | succ j=>exact qiq n2 (by simpa using hi) (by simpa using hj) (fun e=>c (by rw [e])) b hb hb2
theorem qd5 {N:List Str} {as:List Sm} {vs:List V} {Fs:List (List Addr)} (sm:Same Φ H) (tb:TabF K Φ) (ha:ArgM K Φ H as vs Fs) (nd:Fs.flatten.Nodup) (hn:∀ b∈Fs.flatten,Φ b=none):EnvM K (qdc H Fs.flatten) Φ H (qbH N vs) (qch N as (qcm as vs)):=by
  have cs:∀ {i:Nat} {x:Sm},(qch N as (qcm as vs))[i]?=some (some x)→(qbD as (qcm as vs))[i]?=some (some x):=fun {i x} h=>by
    unfold qch at h
    rcases Nat.lt_or_ge i (qbD as (qcm as vs)).length with c | c
    · rwa [List.getElem?_append_left c] at h
    · rw [List.getElem?_append_right c,List.getElem?_replicate] at h
      split at h <;> cases h
  have sv:∀ {i:Nat} {v:V},vs[i]?=some v→(qbH N vs)[i]?=some (some v):=fun {i v} h=>by
    unfold qbH
    rw [List.getElem?_append_left (by rw [List.length_map];exact qao h),List.getElem?_map,h]
    rfl
  obtain ⟨l1,l2⟩:=ha.len
  refine ⟨fun i=>Fs.getD i [],sm,by unfold qbH qch;rw [List.length_append,List.length_append,List.length_map,List.length_replicate,List.length_replicate,qb7,l1],fun i d h=>?_,fun i a o h=>?_,fun i a o h b hb=>?_,fun i j a a' o o' hi hj c b hb=>?_,tb⟩
  · rcases qbM ha (cs h) with ⟨d',v,e,hv,r⟩ | ⟨o,p,F,e,_⟩
    · cases e;exact ⟨v,sv hv,r⟩
    · cases e
  · rcases qbM ha (cs h) with ⟨d',v,e,hv,r⟩ | ⟨o',p,F,e,hv,hF,r⟩
    · cases e
    · cases e
      refine ⟨p,sv hv,(fun q e=>by cases e;rfl),?_⟩
      rw [List.getD_eq_getElem?_getD,hF]
      exact r
  · rcases qbM ha (cs h) with ⟨d',v,e,_⟩ | ⟨o',p,F,e,hv,hF,r⟩
    · cases e
    · rw [List.getD_eq_getElem?_getD,hF] at hb
      have hm:b∈Fs.flatten:=List.mem_flatten.mpr ⟨F,List.mem_of_getElem? hF,hb⟩
      exact ⟨qjw hm,hn b hm⟩
  · rcases qbM ha (cs hi) with ⟨d',v,e,_⟩ | ⟨o1,p1,F1,e,_,hF1,_⟩
    · cases e
    · rcases qbM ha (cs hj) with ⟨d',v,e,_⟩ | ⟨o2,p2,F2,e,_,hF2,_⟩
      · cases e
      · rw [List.getD_eq_getElem?_getD,hF1] at hb
        rw [List.getD_eq_getElem?_getD,hF2]
        exact qiq nd hF1 hF2 c b hb
theorem qfM {fp:Nat→List Addr} {σ:St} {ρ:qaV} {k:List Om→Prop} (E:EnvM' K H0 Φ' H' σ ρ fp):∀ {as:List Sm} {vs:List V} {Fs:List (List Addr)} {i:Nat} {k:List Om→Prop},ArgM K Φ H as vs Fs→qkN k as (qcm as vs) i ρ →
    ∃ os Fs',OutM K Φ' H' as vs os Fs'∧k os∧Fs'.flatten.Nodup∧(∀ b∈Fs'.flatten,H0 b=none∧Φ' b=none)∧∀ b∈Fs'.flatten,∃ j a o,i≤j∧j<i+as.length∧ρ[j]?=some (some (.ob a o))∧b∈fp j
  | [],_,_,i,k,.nil,h=>⟨[],[],.nil,h,by simp,fun b hb=>(by cases hb),fun b hb=>(by cases hb)⟩
  | _,_,_,i,k,.v (as:=as) r t,h=>by
    obtain ⟨os,Fs',h1,h2,h3,h4,h5⟩:=qfM (k:=k) E (i:=i+1) t h
    refine ⟨os,[]::Fs',.v h1,h2,by simpa using h3,fun b hb=>h4 b (by simpa using hb),fun b hb=>?_⟩
    obtain ⟨j,a,o,j1,j2,j3⟩:=h5 b (by simpa using hb)
    exact ⟨j,a,o,by omega,by rw [List.length_cons];omega,j3⟩
  | _,_,_,i,k,.o (p:=p) (as:=as) (vs:=vs) r t,h=>by
    obtain ⟨o',ho,h⟩:=(show ∃ o,ρ[i]?=some (some (.ob (some p) o))∧qkN (fun os=>k (o::os)) as (qcm as vs) (i+1) ρ from h)
    obtain ⟨os,Fs',h1,h2,h3,h4,h5⟩:=qfM (k:=fun os=>k (o'::os)) E (i:=i+1) t h
    obtain ⟨q,e,ha,rr⟩:=E.ow i _ o' ho
    cases ha p rfl
    refine ⟨o'::os,fp i::Fs',.o rr h1,h2,?_,fun b hb=>?_,fun b hb=>?_⟩
    · refine List.nodup_append.mpr ⟨rr.nodup,h3,fun b hb c hc e=>?_⟩
      subst e
      obtain ⟨j,a,o,j1,j2,j3,j4⟩:=h5 b hc
      exact E.dj i j _ a o' o ho j3 (by omega) b hb j4
    · rcases List.mem_append.mp (show b∈fp i++Fs'.flatten from hb) with z | z
      · exact E.no i _ o' ho b z
      · exact h4 b z
    · rcases List.mem_append.mp (show b∈fp i++Fs'.flatten from hb) with z | z
      · exact ⟨i,_,o',Nat.le_refl _,by rw [List.length_cons];omega,ho,z⟩
      · obtain ⟨j,a,o,j1,j2,j3⟩:=h5 b z
        exact ⟨j,a,o,by omega,by rw [List.length_cons];omega,j3⟩
end
section
variable {P : Program} {w : World} {K : PySem.W.Frag} {mg : Str → Option Value} {base : Heap}
theorem Fun.okM {x qual:Str} {st:Stmt} {f:Addr} {fd:FuncData} {N ps:List Str} {k:Nat} {sp:SpM} (F:Fun K x qual st f fd) (S:FnScope N ps (qad st)) (len:∀ as R Rx,sp as R Rx→as.length=ps.length)
    (hbody:∀ (cdv:Value) (A:Around) (outer:List Env) (s:Shared) (H:Hp) (E:XK) (as:List Sm) (R:Sm→List Om→Prop) (Rx:XD→List Om→Prop) (qs:List Addr),fd.code=cdv→Room k (A.deeper (envOfC qual (qad st) s.heap.objs.size f cdv))→sp as R Rx→qs.length=qkD as →
      ∃ t,PSsM K (qg3 CX0 P w K mg base N qual (qad st) f cdv A outer s H E).nox (qaO st) t∧t { nx:=fun ρ=>qkN (R (.v .non)) as qs 0 ρ,rt:=fun sm ρ=>qkN (R sm) as qs 0 ρ } (qbo N as qs)):FnOk P w K mg base CX0 (k+1) f fd ps (qnB K sp):=by
  refine F.okL S (fun vs H Q E ⟨Φ,as,Fs,R,Rx,sm,tb,ha,nd,hn,h,_⟩=>by rw [ha.len.1];exact len as R Rx h) (fun cdv A outer s H vs Q E hcd hr ⟨Φ,as,Fs,R,Rx,sm,tb,ha,nd,hn,h,kk⟩=>?_)
  obtain ⟨t,ht,hq⟩:=hbody cdv A outer s H E as R Rx (qcm as vs) hcd hr h (qcJ ha)
  rw [← qbE] at hq
  have al:=len as R Rx h
  have nl:ps.length≤N.length:=by have:=congrArg List.length S.pre;rw [List.length_take] at this;omega
  have fin:∀ sm ρ' Φ' H' v σ',qkN (R sm) as (qcm as vs) 0 ρ'→Gr Φ (qdc H Fs.flatten) Φ' H'→EnvM K (qdc H Fs.flatten) Φ' H' (σ'++[some v]) (ρ'++[some sm])→Q v H':=fun smr ρ' Φ' H' v σ' hk g V=>by
    obtain ⟨fp,E'⟩:=V
    have hl:σ'.length=ρ'.length:=by have:=E'.len;simpa using this
    obtain ⟨os,Fs',h1,h2,h3,h4,h5⟩:=qfM (k:=R smr) (E'.take hl.symm) ha hk
    have hat:(ρ'++[some smr])[ρ'.length]?=some (some smr):=by rw [List.getElem?_append_right (Nat.le_refl _),Nat.sub_self];rfl
    cases smr with
    | v d =>
      obtain ⟨u,hu,r⟩:=E'.sl _ d hat
      rw [← hl,List.getElem?_append_right (Nat.le_refl _),Nat.sub_self] at hu
      cases hu
      exact kk (.v d) os Φ' H' v [] Fs' h2 g (.v r) h1 (by simpa using h3) (fun b hb=>h4 b (by simpa using hb))
    | ob a o =>
      obtain ⟨u,hu,hau,r⟩:=E'.ow _ a o hat
      rw [← hl,List.getElem?_append_right (Nat.le_refl _),Nat.sub_self] at hu
      cases hu
      refine kk (.ob a o) os Φ' H' _ (fp ρ'.length) Fs' h2 g (.o hau r) h1 ?_ fun b hb=>?_
      · refine List.nodup_append.mpr ⟨r.nodup,h3,fun b hb c hc e=>?_⟩
        subst e
        obtain ⟨j,a2,o2,_,_,j3,j4⟩:=h5 b hc
        have hj:=qao j3
        exact E'.dj _ j a a2 o o2 hat (by rw [List.getElem?_append_left hj];exact j3) (by omega) b hb j4
      · rcases List.mem_append.mp hb with z | z
        · exact E'.no _ a o hat b z
        · exact h4 b z
  have g0:Gr Φ (qdc H Fs.flatten) Φ H:=⟨Same.refl _,qgG,sm,fun _ _ _ h _=>h⟩
  refine ⟨lM K _ t,ht.ps rfl,Φ,qdc H Fs.flatten,Φ,_,_,g0,qd5 sm tb ha nd hn,hq,⟨fun ρ' Φ' H' σ' r g V=>?_,fun smr ρ' Φ' H' v σ' r g V=>fin smr ρ' Φ' H' v σ' r g V,fun _ _ _ _ h=>h.elim,fun _ _ _ _ h=>h.elim,fun _ _ _ _ _ _ _ _ h=>h.elim⟩⟩
  exact fin (.v .non) ρ' Φ' H' .non σ' r g (V.snocV .non)
end
section
variable {K : PySem.W.Frag} {X : Cx} {e a b : Expr} {te ta tk : TX} {pos apos cpos npos spos : Pos} {x : Str} {i : Nat}
def ownL (ρ:qaV) (i:Nat) (k:Option Addr→List D→Prop):Prop:=match ρ[i]? with | some (some (.ob a (.lst ds)))=>k a ds | _=>False
theorem ownL.get {ρ:qaV} {i:Nat} {k:Option Addr→List D→Prop} (h:ownL ρ i k):∃ a ds,ρ[i]?=some (some (.ob a (.lst ds)))∧k a ds:=by
  unfold ownL at h
  split at h
  · next a ds e=>exact ⟨a,ds,e,h⟩
  · exact h.elim
theorem StM.list {Φ0 H0 Φ H:Hp} {σ τ:St} {ρ κ:qaV} {Rx:XD→qaV→Prop} {a:Option Addr} {ds:List D} (S:StM K X Φ0 H0 Φ H σ τ ρ κ Rx) (hi:ρ[i]?=some (some (.ob a (.lst ds)))):∃ q vs,σ[i]?=some (some (.ref q))∧H q=some (.lst vs)∧RpL K Φ ds vs ∧
    ∀ (es:List D) (ws:List V),RpL K Φ es ws→StM K X Φ0 H0 Φ (upd H q (.lst ws)) σ τ (ρ.set i (some (.ob a (.lst es)))) κ Rx:=by
  have hlt:=qao hi
  obtain ⟨q,vs,e,h1,h2,h3,h4,h5⟩:=S.E.list (i:=i) (a:=a) (ds:=ds) S.g (by rw [List.getElem?_append_left hlt];exact hi)
  rw [List.getElem?_append_left (by rw [← S.l];exact hlt)] at e
  refine ⟨q,vs,e,h1,h4,fun es ws r=>?_⟩
  obtain ⟨z1,z2⟩:=h5 es ws r
  refine ⟨z2,by rw [List.length_set];exact S.l,?_,S.x⟩
  rw [List.set_append_left _ _ hlt] at z1
  exact z1
def qk8 (i:Nat) (te:TX):TSM:=fun De ρ=>ownL ρ i fun _ _=>te ρ (xV fun d ρ1=>ownL ρ1 i fun a ds=>ds.length<sizeLine∧NF (ds++[d]) fun es=>De.nx (ρ1.set i (some (.ob a (.lst es))))) De.ex
theorem qiH (i:Nat) (he:PX K X e te) (hfew:((backTo cpos (starEach [e] X.env)).all (fun x=>!x.1) && (backToKw cpos (keywordEach [] X.env)).all (fun x=>x.1.isSome) && decide (([e]:List Expr).length+([]:List Keyword).length+(if ([]:List Keyword).isEmpty then 0 else 1)<30))=true)
    (hse:starEach [e] X.env=(false,eval e X.env)::starEach [] X.env) (hN:X.N[i]?=some x:=by rfl) (hv:Vis X.env.scope x:=by first | exact Or.inl rfl | exact Or.inr (Or.inl rfl) | exact Or.inr (Or.inr rfl)) (hd:(x == ("__debug__":Str))=false:=by decide) (hcd:(x == ("__classdict__":Str))=false:=by decide)
    (hbase:attributeBase (.Name x npos) "append" X.env (eval (.Name x npos) X.env)=eval (.Name x npos) X.env:=by rfl) (hline:(apos.endLine == cpos.line)=true:=by rfl) (hs:swapsWith (.Call (.Attribute (.Name x npos) "append" apos) [e] [] cpos) none pos.line X.env=pure false:=by rfl) :
    PSM K X (.Expr (.Call (.Attribute (.Name x npos) "append" apos) [e] [] cpos) pos) (qk8 i te) :=
  ⟨fun hK=>(qev (qkZ PySem.F.plainAttrs_list PySem.F.slot_list_append PySem.F.type_list_append qdx (pv i hN hv hd hcd) (qaZ (he.pe hK) pa_nil hse) hbase hfew hline hse qaf) hs).imp fun E σ H hq0=>by
    obtain ⟨Φ0,H0,Φ,ρ,De,g,V,t,k⟩:=hq0
    obtain ⟨a,ds,ho,t⟩:=ownL.get t
    have S:=st0 g V k.ex
    obtain ⟨q,vs,e1,hp,rl,_⟩:=S.list ho
    refine ⟨_,e1,.inl ⟨rfl,vs,SqL.of hp⟩,Φ0,H0,Φ,[],ρ,[],_,De.ex,S,t,fun s ρ1 Φ1 H1 v r S1 _=>?_⟩
    obtain ⟨d,rfl,r⟩:=r.get
    obtain ⟨a1,ds1,ho1,hl,r⟩:=ownL.get r
    obtain ⟨q1,vs1,e2,hp1,rl1,k1⟩:=S1.list ho1
    rw [e1] at e2
    cases e2
    have S2:=k1 _ _ (rl1.append (.one S1.last))
    exact ⟨q,vs1,v,rfl,rfl,hp1,by rw [rl1.1];exact hl,k.nx _ Φ1 _ σ r.get S2.g S2.env⟩⟩
end
section
variable {K : PySem.W.Frag} {X : Cx} {tg iter elt e a : Expr} {ifs : List Expr} {scope : Scope} {pos py spos : Pos} {N' : List Str} {cap : List (Option Nat)} {ti : TDL} {g : TGD} {tc : TDB} {te ta tb : TD} {i : Nat} {y : Str}
end
def zM (z:SpD):SpM:=fun as R _=>∃ ds,as=ds.map Sm.v∧z ds fun d=>R (.v d) []
theorem qeM {H:Hp}:qdc H []=H:=funext fun b=>if_neg (by simp)
theorem qdI {K:PySem.W.Frag} {Φ H:Hp}:∀ {ds:List D} {vs:List V},RpL K Φ ds vs→ArgM K Φ H (ds.map Sm.v) vs (ds.map fun _=>[])
  | [],[],_=>.nil
  | [],_::_,h=>by cases h.1
  | _::_,[],h=>by cases h.1
  | d::ds,v::vs,h=>.v (h.2 0 v d rfl rfl) (qdI ⟨by have:=h.1;simpa using this,fun i u e hu he=>h.2 (i+1) u e hu he⟩)
theorem qdO {α:Type}:∀ (ds:List α),(ds.map fun _=>([]:List Addr)).flatten=[]
  | []=>rfl
  | _::ds=>by simp
theorem qkU {K:PySem.W.Frag} {z:SpD}:∀ vs H Q E,lSp K z vs H Q E→qnB K (zM z) vs H Q E:=fun vs H Q E h=>by
  obtain ⟨Φ,ds,R,sm,tb,rl,hz,k⟩:=h
  refine ⟨Φ,ds.map Sm.v,ds.map fun _=>[],fun s os=>∃ d,s=.v d∧R d,fun _ _=>False,sm,tb,qdI rl,by rw [qdO];exact List.nodup_nil,fun b hb=>(by rw [qdO] at hb;cases hb),⟨ds,rfl,?_⟩,fun s os Φ' H' v F Fs' r g hr ho hn hno=>?_⟩
  · have e:R=fun d=>∃ d',(Sm.v d:Sm)=.v d'∧R d':=funext fun d=>propext ⟨fun h=>⟨d,rfl,h⟩,fun ⟨d',e,h⟩=>by cases e;exact h⟩
    rw [← e]
    exact hz
  · obtain ⟨d,rfl,r⟩:=r
    cases hr with
    | v rv =>
      rw [qdO,qeM] at g
      exact k d Φ' H' v r g rv
section
variable {K : PySem.W.Frag} {X : Cx} {H0 H H' Φ Φ' : Hp} {σ : St} {ρ : qaV} {cap : List (Option Nat)}
end
section
variable {K : PySem.W.Frag} {X : Cx} {tg iter elt : Expr} {ifs : List Expr} {scope : Scope} {pos : Pos} {N' : List Str} {cap : List (Option Nat)} {ti : TIM} {gd : TGM} {tc : TXB} {te : TX}
end
theorem qpg {qs:List Addr} (h:qs.length=0):qs=[]:=List.length_eq_zero_iff.mp h
section
variable {K : PySem.W.Frag} {X : Cx} {e a b : Expr} {es : List Expr} {pos p : Pos} {ta tb te : TX} {tA : TXA}
end
section
variable {κ : Type} [DecidableEq κ] {K : PySem.W.Frag} {Φ : Hp}
def qgl (kvs:List (κ × D)) (k:κ):Option D:=(kvs.find? fun kv=>decide (kv.1=k)).map (·.2)
def qno (kvs:List (κ × D)) (k:κ) (d:D):List (κ × D):=if kvs.any (fun kv=>decide (kv.1=k)) then kvs.map (fun kv=>if kv.1=k then (kv.1,d) else kv) else kvs++[(k,d)]
theorem qfY:∀ {kvs:List (κ × D)} {ws:List (κ × V)},Paired (KvR K Φ) kvs ws→∀ k,(qgl kvs k=none∧qfE ws k=none)∨∃ d v,qgl kvs k=some d∧qfE ws k=some v∧Rp K Φ d v
  | _,_,.nil,k=>.inl ⟨rfl,rfl⟩
  | _,_,.cons (a:=x) (b:=y) (l₁:=l) r t,k=>by
    by_cases c:x.1=k
    · refine .inr ⟨x.2,y.2,?_,?_,r.2⟩
      · unfold qgl;rw [List.find?_cons_of_pos (by simpa using c)];rfl
      · exact qde (by rw [← r.1];exact c)
    · have e1:qgl (x::l) k=qgl l k:=by unfold qgl;rw [List.find?_cons_of_neg (by simpa using c)]
      rw [e1,qdi (by rw [← r.1];exact c)]
      exact qfY t k
theorem qge:∀ {kvs:List (κ × D)} {ws:List (κ × V)},Paired (KvR K Φ) kvs ws→∀ k,(ws.any fun kv=>decide (kv.1=k))=kvs.any fun kv=>decide (kv.1=k)
  | _,_,.nil,k=>rfl
  | _,_,.cons r t,k=>by rw [List.any_cons,List.any_cons,qge t k,r.1]
theorem qdm {α β:Type} {F:α→β→Prop} {f:α→α} {g:β→β} (h:∀ x y,F x y→F (f x) (g y)):∀ {l:List α} {m:List β},Paired F l m→Paired F (l.map f) (m.map g)
  | _,_,.nil=>.nil
  | _,_,.cons r t=>.cons (h _ _ r) (qdm h t)
theorem qiZ {kvs:List (κ × D)} {ws:List (κ × V)} (h:Paired (KvR K Φ) kvs ws) (k:κ) {d:D} {v:V} (r:Rp K Φ d v):Paired (KvR K Φ) (qno kvs k d) (qfj ws k v):=by
  unfold qno qfj
  rw [qge h k]
  split
  · refine qdm (fun x y q=>?_) h
    rw [← q.1]
    split
    · exact ⟨rfl,r⟩
    · exact q
  · exact Paired.snoc h ⟨rfl,r⟩
theorem qdF (kvs:List (κ × D)) (k:κ):(qgl kvs k).isSome=kvs.any fun kv=>decide (kv.1=k):=by
  unfold qgl
  induction kvs with
  | nil=>rfl
  | cons x r ih =>
    rw [List.any_cons]
    by_cases c:x.1=k
    · rw [List.find?_cons_of_pos (by simpa using c),decide_eq_true c];rfl
    · rw [List.find?_cons_of_neg (by simpa using c),decide_eq_false c,ih];rfl
theorem qiS {kvs:List (κ × D)} {k:κ} {d:D} (h:qgl kvs k=none):qno kvs k d=kvs++[(k,d)]:=by
  have:=qdF kvs k
  rw [h] at this
  unfold qno
  rw [← this]
  rfl
theorem qgL {α β:Type} {F:α→β→Prop}:∀ {l:List α} {m:List β},Paired F l m→l.length=m.length:=Paired.length
end
section
variable {K : PySem.W.Frag} {X : Cx} {e a b ev : Expr} {tk tv : TD} {pos apos cpos npos spos : Pos} {x : Str} {i : Nat}
def qpS (o:Om):TX:=fun ρ R _=>R (.ob none o) ρ
theorem qlg:PX K X (.Dict [] [] pos) (qpS (.map [])):=⟨fun hK=>pe_dnewK.imp fun σ H Q hq0=>by
  obtain ⟨Φ0,H0,Φ,τ,ρ,κ,R,Rx,S,t,k⟩:=hq0
  intro p hp
  exact k _ ρ Φ _ _ t (S.pushO (Gr.fresh S.g.s hp _) (.map qaj .nil) fun b hb=>by rw [List.mem_singleton.mp hb];exact ⟨hp,S.g.s.free hp⟩) (Same.refl _)⟩
theorem EnvM.dict {Φ0 H0 Φ H:Hp} {σ:St} {ρ:qaV} {a:Option Addr} {kvs:List (Key × D)} (E:EnvM K H0 Φ H σ ρ) (g:Gr Φ0 H0 Φ H) (hi:ρ[i]?=some (some (.ob a (.map kvs)))):∃ q ws,σ[i]?=some (some (.ref q))∧H q=some (.dK ws)∧Paired (KvR K Φ) kvs ws ∧
    ∀ (kvs':List (Key × D)) (ws':List (Key × V)),Paired (KvR K Φ) kvs' ws'→EnvM K H0 Φ (upd H q (.dK ws')) σ (ρ.set i (some (.ob a (.map kvs'))))∧Gr Φ0 H0 Φ (upd H q (.dK ws')):=by
  obtain ⟨fp,E⟩:=E
  obtain ⟨q,e,_,r⟩:=E.ow i a _ hi
  have hq:=r.mem
  obtain ⟨_,ws,h1,h2⟩:=r.map_inv
  refine ⟨q,ws,e,h1,h2,fun kvs' ws' r'=>?_⟩
  have hH:∀ b u,H b=some u→b∉fp i→upd H q (.dK ws') b=some u:=fun b u e hn=>by
    rw [qal fun z=>hn (by rw [z];exact hq)]
    exact e
  exact ⟨⟨_,E.put hi e hH (F':=[q]) (.map qaj r') fun b hb=>.inl (by rw [List.mem_singleton.mp hb];exact hq)⟩,E.grput g hi hH⟩
def ownD (ρ:qaV) (i:Nat) (k:Option Addr→List (Key × D)→Prop):Prop:=match ρ[i]? with | some (some (.ob a (.map kvs)))=>k a kvs | _=>False
theorem ownD.get {ρ:qaV} {i:Nat} {k:Option Addr→List (Key × D)→Prop} (h:ownD ρ i k):∃ a kvs,ρ[i]?=some (some (.ob a (.map kvs)))∧k a kvs:=by
  unfold ownD at h
  split at h
  · next a ds e=>exact ⟨a,ds,e,h⟩
  · exact h.elim
def qoH (neg:Bool) (i:Nat) (tk:TD):TXB:=fun ρ R _=>tk (prR ρ) fun d=>∃ k,d=qgM k∧ownD ρ i fun _ kvs=>R (neg != (qgl kvs k).isSome) ρ
theorem qi8 {neg:Bool} {σ:St} {H:Hp} {Q:Bool→Hp→Prop} (h:lXb K X (qoH neg i tk) σ H Q):lE K tk σ H fun y H1=>qkM i σ H1 fun x H2=>∃ a o,x=.ref a∧DGet H2 a y o∧Q (neg != o.isSome) H2:=by
  obtain ⟨Φ0,H0,Φ,τ,ρ,κ,R,Rx,S,t,k⟩:=h
  refine ⟨H0,Φ,prR ρ,_,S.env.toD,t,fun d Φ1 H1 v r g rv=>?_⟩
  obtain ⟨kk,rfl,r⟩:=r
  obtain ⟨a,kvs,ho,r⟩:=ownD.get r
  cases qeP rv
  have S1:=S.gr g
  obtain ⟨q,ws,e1,hq,rel,_⟩:=S1.env.dict S1.g ho
  refine ⟨_,e1,q,_,rfl,DGet.k hq,?_⟩
  have e:(qfE ws kk).isSome=(qgl kvs kk).isSome:=by
    rcases qfY rel kk with ⟨h1,h2⟩ | ⟨d,v,h1,h2,_⟩ <;> rw [h1,h2] <;> rfl
  rw [e]
  exact k _ ρ Φ1 H1 r S1 g.f
theorem qlS (b:Bool):(false != b)=b:=by cases b <;> rfl
theorem qj9 {t:TD} {σ:St} {H:Hp} {Q Q':VK} (h:lE K t σ H Q) (hq:∀ v H',Q v H'→Q' v H'):lE K t σ H Q':=by
  obtain ⟨H0,Φ,ρ,R,E,t,k⟩:=h
  exact ⟨H0,Φ,ρ,R,E,t,fun d Φ' H' v r g rv=>hq _ _ (k d Φ' H' v r g rv)⟩
theorem qhh {j:Nat} {σ:St} {H:Hp} {Q Q':VK} (h:qkM j σ H Q) (hq:∀ v H',Q v H'→Q' v H'):qkM j σ H Q':=let ⟨v,e,q⟩:=h;⟨v,e,hq _ _ q⟩
theorem qnk (i:Nat) (hu:X.A.units+64<cLine) (he:PD K X e tk) (hN:X.N[i]?=some x:=by rfl) (hv:Vis X.env.scope x:=by first | exact Or.inl rfl | exact Or.inr (Or.inl rfl) | exact Or.inr (Or.inr rfl)) (hd:(x == ("__debug__":Str))=false:=by decide) (hcd:(x == ("__classdict__":Str))=false:=by decide)
    (hm:behindInMarks .In (.Name x npos)=false:=by rfl):PXB K X (.Compare e [.In] [.Name x npos] pos) (qoH false i tk) :=
  ⟨fun hK=>(qjS (qjE (by omega) (he.pe hK) (pv i hN hv hd hcd)) hm).imp fun σ H Q hq0=>qj9 (qi8 hq0) fun v H' q=>qhh q fun w H2 z=>by
    obtain ⟨a,o,e1,e2,e3⟩:=z
    rw [qlS] at e3
    exact ⟨a,o,e1,e2,_,rfl,e3⟩⟩
def qnC (i:Nat) (tk:TD) (tv:TD):TSM:=fun De ρ=>tv (prR ρ) fun d=>tk (prR ρ) fun kd=>∃ k,kd=qgM k∧ownD ρ i fun a kvs=>kvs.length<sizeLine∧NF (qno kvs k d) fun kvs'=>De.nx (ρ.set i (some (.ob a (.map kvs'))))
theorem qm3 (i:Nat) (hu:X.A.units+64<cLine) (hk:PD K X e tk) (he:PD K X ev tv) (hN:X.N[i]?=some x:=by rfl) (hv:Vis X.env.scope x:=by first | exact Or.inl rfl | exact Or.inr (Or.inl rfl) | exact Or.inr (Or.inr rfl)) (hd:(x == ("__debug__":Str))=false:=by decide) (hcd:(x == ("__classdict__":Str))=false:=by decide)
    (hs:swapsWith ev (some (.Subscript (.Name x npos) e spos)) pos.line X.env=pure false:=by rfl):PSM K X (.Assign [.Subscript (.Name x npos) e spos] ev pos) (fun De ρ=>(ownD ρ i fun _ _=>True)∧qnC i tk tv De ρ) :=
  ⟨fun hK=>(qhs (by omega) (pv i hN hv hd hcd) (hk.pe hK) (he.pe hK) hs).imp fun E σ H hq0=>by
    obtain ⟨Φ0,H0,Φ,ρ,De,g,V,⟨ho,t⟩,k⟩:=hq0
    obtain ⟨a,kvs,ho,_⟩:=ownD.get ho
    refine ⟨H0,Φ,prR ρ,_,V.toD,t,fun d Φ1 H1 v r1 g1 rv=>?_⟩
    have V1:=V.gr g1
    obtain ⟨q,ws,e1,hq,rel,_⟩:=V1.dict (g.trans g1) ho
    refine ⟨_,e1,H0,Φ1,prR ρ,_,V1.toD,r1,fun kd Φ2 H2 w r2 g2 rw=>?_⟩
    obtain ⟨kk,rfl,r2⟩:=r2
    obtain ⟨a2,kvs2,ho2,hl,r2⟩:=ownD.get r2
    rw [ho] at ho2
    cases ho2
    cases qeP rw
    obtain ⟨q2,ws2,e2,hq2,rel2,k2⟩:=(V1.gr g2).dict ((g.trans g1).trans g2) ho
    rw [e1] at e2
    cases e2
    obtain ⟨z1,z2⟩:=k2 _ _ (qiZ rel2 kk (rv.same g2.f))
    exact ⟨q,_,rfl,DPut.k hq2 (by rw [← qgL rel2];exact hl),k.nx _ Φ2 _ σ r2.get z2 z1⟩⟩
end
section
variable {K : PySem.W.Frag} {X : Cx}
end
section
variable {K : PySem.W.Frag} {X : Cx} {e a b ev : Expr} {tk tv td : TD} {pos apos cpos npos spos : Pos} {x : Str} {i : Nat}
end
section
variable {g : TGD} {tc : TDB} {te : TD} {ρ : Rho} {R : List D → Prop}
end
end L2
namespace PySem.SeqAt
open AutoSeq1 (wpAny_loadPart')
open MeetsSeq MeetsSeq2 MeetsSeq3 SeqRoads2
end PySem.SeqAt
namespace L2
open PySem PySem.Spec PyProof.Rows
section
variable {K : PySem.W.Frag} {X : Cx} {a b : Expr} {ta tb : TD} {apos cpos : Pos}
end
section
variable {K : PySem.W.Frag} {X : Cx} {e e2 : Expr} {te te2 : TX} {pos apos cpos npos : Pos} {x : Str} {i : Nat}
end
section
variable {P : Program} {w : World} {H H' : Hp} {h h' h1 h2 : Heap}
theorem HOk.keptT (x:HOk P w H h) (k:∀ b u v,H b=some v→h.get? b=some u→h'.get? b=some u):HOk P w H h':=fun a o e =>
  (x a o e).stay (fun b u hb q=>by
    rcases hb with rfl | hb
    · exact k _ u o e q
    · exact k b u _ hb q) (fun _ q=>q) (fun _ _ q=>q) fun _ _ _ q=>q
theorem Un.kept2 {fs fs':List Addr} {ea:Addr} {T:Option Addr} (u:Un fs [] H H' h h1) (k:Kept fs' ea T h1 h2) (he:h.get? ea=none) (hT:∀ T',T=some T'→h.get? T'=none) (hf:∀ b∈fs',b∈fs∨h.get? b=none):Un fs [] H H' h h2 where
  keep b o hb hn hfb hx:=by
    refine k.keep b o (u.keep b o hb hn hfb hx) (fun z=>by rw [z,he] at hb;cases hb) (fun z=>by rw [hT b z.symm] at hb;cases hb) fun z=>?_
    rcases hf b z with z | z
    · exact hfb z
    · rw [z] at hb;cases hb
  slot b o hb hn hfb hx:=by
    obtain ⟨sl,hs⟩:=u.slot b o hb hn hfb hx
    by_cases c:b∈fs'
    · obtain ⟨sl2,hs2⟩:=k.slot b _ hs c
      exact ⟨sl2,hs2⟩
    · exact ⟨sl,k.keep b _ hs (fun z=>by rw [z,he] at hb;cases hb) (fun z=>by rw [hT b z.symm] at hb;cases hb) c⟩
  free:=u.free
  there b o hb hx:=by
    obtain ⟨o',hs⟩:=u.there b o hb hx
    by_cases c:b∈fs'
    · obtain ⟨sl2,hs2⟩:=k.slot b _ hs c
      exact ⟨_,hs2⟩
    · exact ⟨o',k.keep b _ hs (fun z=>by rw [z,he] at hb;cases hb) (fun z=>by rw [hT b z.symm] at hb;cases hb) c⟩
  tups:=u.tups
  frzs:=u.frzs
  tbls:=u.tbls
end
def CXo (P:Program) (w:World):CXT:=fun outer H s E e s'=>∃ (ea T C:Addr) (dx:Option Addr) (H':Hp),e=.ref ea∧Fly s'.heap ea (some T) .none (.ref C) dx∧(s.heap.get? ea=none∧H' ea=none)∧(s.heap.get? T=none∧H' T=none) ∧
  s'.os=s.os∧AllBare s'.gens∧Un (frs outer) [] H H' s.heap s'.heap∧HOk P w H' s'.heap∧E (.ref C) dx H'
section
variable {X : Cx} {pins : List (Addr × Obj)} {σ : St} {H : Hp} {s s' : Shared} {E : XK} {e : Value}
theorem CXo.at (I:Inv X pins σ H s) (hex:X.ex=[]) (h:CXo X.prog X.w X.stack H s E e s'):∃ (ea T C:Addr) (dx:Option Addr) (H':Hp),e=.ref ea∧Inv X pins σ H' s'∧Fly s'.heap ea (some T) .none (.ref C) dx∧(X.s₀.heap.get? ea=none∧H' ea=none∧∀ p∈X.pn++pins,p.1≠ea)∧(X.s₀.heap.get? T=none∧H' T=none∧∀ p∈X.pn++pins,p.1≠T)∧E (.ref C) dx H':=by
  obtain ⟨ea,T,C,dx,H',e1,F,⟨f1,f2⟩,⟨g1,g2⟩,ho,hb,un,hok,hE⟩:=h
  have old:∀ b,s.heap.get? b=none→X.s₀.heap.get? b=none:=fun b hb=>by
    cases q:X.s₀.heap.get? b with
    | none=>rfl
    | some o =>
      obtain ⟨o',z⟩:=I.base.there b o q (by rw [hex];simp)
      rw [hb] at z;cases z
  exact ⟨ea,T,C,dx,H',e1,I.call' (ch:=[]) ho un hok hb (fun b z=>absurd z (by simp)),F,⟨old ea f1,f2,fun p hp z=>by have:=(I.pin p hp).1;rw [z,f1] at this;cases this⟩,⟨old T g1,g2,fun p hp z=>by have:=(I.pin p hp).1;rw [z,g1] at this;cases this⟩,hE⟩
end
section
variable {P : Program} {w : World} {K : PySem.W.Frag} {mg : Str → Option Value} {base : Heap} {N : List Str} {qual : Str} {scope : Scope} {f : Addr} {cd : Value} {A : Around} {outer : List Env} {s s' : Shared} {H H' : Hp} {E : XK} {pins : List (Addr × Obj)} {σ : St}
theorem qjq {ea C:Addr} {T dx:Option Addr} (I:Inv (qg3 (CXo P w) P w K mg base N qual scope f cd A outer s H E) pins σ H' s') (F:Fly s'.heap ea T .none (.ref C) dx) (hea:s.heap.get? ea=none∧H' ea=none) (hT:∀ T',T=some T'→s.heap.get? T'=none∧H' T'=none) (hE:E (.ref C) dx H') :
    (qg3 (CXo P w) P w K mg base N qual scope f cd A outer s H E).xe (.ref ea) s':=by
  have hfn:∀ b∈frs (envOfC qual scope s.heap.objs.size f cd::outer),H' b=none:=I.stkFree
  refine qj8 (base:=base) I.ok.frames I.stack rfl F fun h2 T' F2 n2 k2=>?_
  have hsz:s.heap.objs.size≤s'.heap.objs.size:=I.sz
  refine ⟨ea,T',C,dx,H',rfl,F2,hea,⟨Heap.get?_none_of_le (by omega),I.hok.fresh n2⟩,I.os,I.bare,?_,I.hok.keptT fun b u v hb q=>?_,hE⟩
  · refine (show Un (frs outer) [] H H' s.heap s'.heap from I.base).kept2 k2 hea.1 (fun T' e=>(hT T' e).1) fun b hb=>?_
    obtain ⟨env,he,hf⟩:=List.mem_filterMap.mp hb
    rcases List.mem_cons.mp he with rfl | he
    · right
      have:s.heap.objs.size=b:=Option.some.inj hf
      exact Heap.get?_none_of_le (by omega)
    · exact .inl (List.mem_filterMap.mpr ⟨env,he,hf⟩)
  · refine k2.keep b u q (fun z=>by rw [z,hea.2] at hb;cases hb) (fun z=>by rw [(hT b z.symm).2] at hb;cases hb) fun z=>?_
    rw [hfn b z] at hb;cases hb
end
abbrev SpX:=List D→(D→Prop)→(XD→Prop)→Prop
def qfi (K:PySem.W.Frag) (mg:Str→Option Value) (z:SpX):Sp:=fun vs H Q E=>∃ Φ ds R W,Same Φ H∧TabF K Φ∧RpL K Φ ds vs∧z ds R W∧(∀ d Φ' H' v,R d→Gr Φ H Φ' H'→Rp K Φ' d v→Q v H') ∧
  ∀ xd C dx Φ' H',W xd→Gr Φ H Φ' H'→mg xd.nm=some (.ref C)→XAt K H' xd.at_ dx→E (.ref C) dx H'
structure ClX (P:Program) (w:World) (K:PySem.W.Frag) (mg:Str→Option Value) (base:Heap) (n:Nat) (x:Str) (ps:List Str) (z:SpX):Prop where
  ex:∃ (f:Addr) (fd:FuncData),FnOk P w K mg base (CXo P w) n f fd ps (qfi K mg z)∧Binds K fd ps []∧PySem.W.keepIn K (.ref f)=true∧mg x=some (.ref f)
section
variable {X : Cx} {CX : CXT} {k : Nat} {f : Addr} {fd : FuncData} {ps : List Str} {sp : Sp} {x : Str} {p pos : Pos} {e : Expr} {es : List Expr} {t : TA}
def qf3 (CX:CXT) (X:Cx) (E:XK) (σ:St) (H:Hp):Prop:=∀ (pins:List (Addr × Obj)) (s:Shared) (e:Value) (s':Shared),Inv X pins σ H s→CX X.stack H s E e s'→X.xe e s'
def qmp (CX:CXT) (X:Cx) (sp:Sp) (t:TA):TE:=fun σ H Q=>t σ H fun vs H1=>∃ E,qf3 CX X E σ H1∧sp vs H1 Q E
theorem qkK {pins:List (Addr × Obj)} {σ:St} {H:Hp} {s:Shared} {Q:VK} {E:XK} {us:List Value} {vs:List V} (F:FnOk X.prog X.w X.K X.mg X.base CX k f fd ps sp) (hr:Room k X.A) (hb:Binds X.K fd ps []) (hx:qf3 CX X E σ H)
    (I:Inv X pins σ H s) (r:Vals vs us) (h:sp vs H Q E):wpAny (model X.prog X.w) X.A (call (.ref f) us) (EP X pins σ Q) X.xe s:=by
  have hl:us.length=ps.length:=by rw [← r.length];exact F.len _ _ _ _ h
  have hB:=hb s us I.kIn (by rw [List.append_nil];exact hl)
  rw [List.append_nil] at hB
  refine wpAny_call (codeAny_mono (F.run X.A X.stack s H ⟨us,[]⟩ us vs Q E hr I.env0 hB r h) fun res s1 hq=>?_)
  cases res with
  | error z=>exact hx pins s z s1 I hq
  | ok fl =>
    cases fl with
    | ret u=>exact I.after hq
    | _=>exact hq.elim
theorem qjg (F:FnOk X.prog X.w X.K X.mg X.base CX k f fd ps sp) (hr:Room k X.A) (hg:Gl X x) (hm:X.mg x=some (.ref f)) (hk:PySem.W.keepIn X.K (.ref f)=true) (hb:Binds X.K fd ps [])
    (ha:PA X (e::es) t) (hdb:(x == ("__debug__":Str))=false) (he:starEach (e::es) X.env=(false,eval e X.env)::starEach es X.env) (hpl:(backTo pos (starEach es X.env)).any (·.1)=false) :
    PE X (.Call (.Name x p) (e::es) [] pos) (qmp CX X sp t):=by
  intro pins s σ H Q I h
  refine wpAny_Call_Name_kw (qcn I hg hm ?_ hdb)
  refine PySem.W.callWith_K (h₀:=X.base) I.ok.mod.kin hk (thn (ha pos pins s σ H _ I h) fun us s1 hq0=>?_) he hpl
  obtain ⟨vs,H1,I1,r,E,hx,q⟩:=hq0
  exact ⟨I1.kIn,qkK F hr hb hx I1 r q⟩
end
section
variable {K : PySem.W.Frag} {X : Cx} {e : Expr} {es : List Expr} {pos p : Pos} {tA : TXA}
def qlZ (z:SpX) (tA:TXA):TX:=fun ρ R Rx=>tA ρ (xaD fun ds ρ1=>z ds (fun d=>R (.v d) ρ1) (fun xd=>Rx xd ρ1)) Rx
theorem qbs {n:Nat} {x:Str} {ps:List Str} {z:SpX} (C:ClX X.prog X.w K X.mg X.base n x ps z) (hr:Room n X.A) (hg:Gl X x) (hex:X.ex=[])
    (ha:PXA K X (e::es) tA) (he:starEach (e::es) X.env=(false,eval e X.env)::starEach es X.env) (hpl:(backTo pos (starEach es X.env)).any (·.1)=false) (hdb:(x == ("__debug__":Str))=false:=by decide) :
    PX K X (.Call (.Name x p) (e::es) [] pos) (qlZ z tA):=⟨fun hK=>by
  obtain ⟨f,fd,F,b,k,m⟩:=C.ex
  refine (qjg (hK ▸ F:FnOk X.prog X.w X.K X.mg X.base (CXo X.prog X.w) n f fd ps (qfi K X.mg z)) hr hg m (hK ▸ k) (hK ▸ b) (ha.pa hK) hdb he hpl).imp fun σ H Q hq0=>?_
  obtain ⟨Φ0,H0,Φ,τ,ρ,κ,R,Rx,S,t,k⟩:=hq0
  refine ⟨Φ0,H0,Φ,τ,ρ,κ,_,Rx,S,t,fun as ρ1 Φ1 H1 vs ts r1 hl hv S1 f1=>?_⟩
  obtain ⟨ds,hd,r1⟩:=r1.get
  have rl:=S1.vals S.lk hd hv
  refine ⟨fun cls dx H'=>∃ xd C Φ',Rx xd ρ1∧Gr Φ1 H1 Φ' H'∧cls=.ref C∧X.mg xd.nm=some (.ref C)∧XAt K H' xd.at_ dx,fun pins s e' s' I hx=>?_,Φ1,ds,_,_,S1.g.s,S1.E.tb,rl,r1,fun d Φ' H' v rd g rv=>k _ ρ1 Φ' H' v rd (((S1.pop S.lk).gr g).pushV rv) (f1.trans g.f),fun xd C dx Φ' H' hw g hm ha=>⟨xd,C,Φ',hw,g,rfl,hm,ha⟩⟩
  obtain ⟨ea,T,C,dx,H',e1,I',F',fa,fT,xd,C',Φ',hRx,g,ec,hm,ha⟩:=CXo.at I hex hx
  cases ec
  subst e1
  refine S1.x xd ρ1 Φ' H' σ _ s' pins hRx (S1.g.trans g) ((S1.pop S.lk).gr g).env ⟨I',ea,C,some T,dx,rfl,F',hm,hK ▸ ha,fa,fun T' z=>?_⟩
  cases z
  exact fT⟩
end
section
variable {P : Program} {w : World} {K : PySem.W.Frag} {mg : Str → Option Value} {base : Heap}
theorem qjN:∀ ds:List D,qkD (ds.map Sm.v)=0
  | []=>rfl
  | _::ds=>qjN ds
def rtV (R:D→Prop):Sm→Prop | .v d=>R d | _=>False
theorem Fun.okX {x qual:Str} {st:Stmt} {f:Addr} {fd:FuncData} {N ps:List Str} {k:Nat} {sp:SpX} (F:Fun K x qual st f fd) (S:FnScope N ps (qad st)) (len:∀ ds R W,sp ds R W→ds.length=ps.length)
    (hbody:∀ (cdv:Value) (A:Around) (outer:List Env) (s:Shared) (H:Hp) (E:XK) (ds:List D) (R:D→Prop) (W:XD→Prop),fd.code=cdv→Room k (A.deeper (envOfC qual (qad st) s.heap.objs.size f cdv))→sp ds R W →
      ∃ t,PSsM K (qg3 (CXo P w) P w K mg base N qual (qad st) f cdv A outer s H E) (qaO st) t∧t { nx:=fun ρ=>R .non,rt:=fun sm ρ=>rtV R sm,ex:=fun xd ρ=>W xd } (qbo N (ds.map Sm.v) [])):FnOk P w K mg base (CXo P w) (k+1) f fd ps (qfi K mg sp):=by
  obtain ⟨oc,od,kV,doc,pm,an,cdv,ct,osl,rfl,lk,hcd⟩:=F.ex
  refine qi9 lk hcd S (fun vs H Q E hq0=>?_) fun A outer s H vs Q E hr hq0=>?_
  · obtain ⟨Φ,ds,R,W,_,_,rl,h,_⟩:=hq0
    rw [rl.1]
    exact len ds R W h
  · obtain ⟨Φ,ds,R,W,sm,tb,rl,h,kR,kW⟩:=hq0
    obtain ⟨t,ht,hq⟩:=hbody cdv A outer s H E ds R W rfl hr h
    rw [← qbE] at hq
    have am:ArgM K Φ H (ds.map Sm.v) vs (ds.map fun _=>[]):=qdI rl
    have e0:(ds.map fun _=>([]:List Addr)).flatten=[]:=by
      rw [List.flatten_eq_nil_iff]
      intro l hl
      obtain ⟨_,_,rfl⟩:=List.mem_map.mp hl
      rfl
    have ea:qcm (ds.map Sm.v) vs=[]:=List.length_eq_zero_iff.mp (by rw [qcJ am];exact qjN ds)
    have V:=qd5 (N:=N) sm tb am (by rw [e0];simp) (by rw [e0];simp)
    rw [e0,qeM,ea] at V
    refine ⟨lM K _ t,ht.ps rfl,Φ,H,Φ,_,_,.refl sm,V,hq,⟨fun ρ' Φ' H' σ' r g V=>kR .non Φ' H' .non r g .non,fun smr ρ' Φ' H' v σ' r g V=>?_,fun _ _ _ _ h=>h.elim,fun _ _ _ _ h=>h.elim,fun xd ρ' Φ' H' σ' z s' pins hw g V st=>?_⟩⟩
    · cases smr with
      | v d =>
        obtain ⟨fp,E'⟩:=V
        have hl:σ'.length=ρ'.length:=by have:=E'.len;simpa using this
        have hat:(ρ'++[some (Sm.v d)])[ρ'.length]?=some (some (.v d)):=by rw [List.getElem?_append_right (Nat.le_refl _),Nat.sub_self];rfl
        obtain ⟨u,hu,r2⟩:=E'.sl _ d hat
        rw [← hl,List.getElem?_append_right (Nat.le_refl _),Nat.sub_self] at hu
        cases hu
        exact kR d Φ' H' v r g r2
      | ob a o=>exact r.elim
    · obtain ⟨ea,C,T,dx,e1,F',hm,ha,fa,fT⟩:=st.ex
      subst e1
      exact qjq st.inv F' ⟨fa.1,fa.2.1⟩ (fun T' z=>⟨(fT T' z).1,(fT T' z).2.1⟩) (kW xd C dx Φ' H' hw g hm ha)
theorem Fun.clX {x:Str} {st:Stmt} {f:Addr} {fd:FuncData} {ps:List Str} {n:Nat} {z:SpX} (F:Fun K x x st f fd) (m:mg x=some (.ref f)) (H:FnOk P w K mg base (CXo P w) n f fd ps (qfi K mg z))
    (b:∀ (kV doc pm:Value) (an:Option Addr) (cdv ct:Value) (us:List Value),us.length=ps.length→bindArgs (PySem.W.fnOf x x (qbh st) (qaO st) (qad st) .none kV doc pm an cdv ct) ⟨us,[]⟩=pure (ps.zip us)):ClX P w K mg base n x ps z:=⟨f,fd,H,F.binds b,F.kp,m⟩
theorem ClX.mono {n m:Nat} {x:Str} {ps:List Str} {z:SpX} (C:ClX P w K mg base n x ps z) (k:n≤m):ClX P w K mg base m x ps z:=by
  obtain ⟨f,fd,F,r⟩:=C.ex
  exact ⟨f,fd,F.mono k,r⟩
end
abbrev bmV:List Value:=[.type "ValueError",.type "Exception",.type "BaseException",.type "object"]
abbrev excNames:List Str:=["__init__","__setattr__","__getattribute__","__getattr__","at","__class__"]
inductive TailN (h:Heap):List Value→Prop where
  | base:TailN h bmV
  | own {A:Addr} {c0:Value} {dd:Option Addr} {cd:ClassData} {sl:Array (Option Value)} {mA:Str→Option Value} {tl:List Value}:h.get? A=some { cls:=c0,dict:=dd,data:=.cls cd,slots:=sl }→h.Ns cd.ns mA→(∀ n∈excNames,mA n=none)→TailN h tl→TailN h (.ref A::tl)
theorem TailN.tail {h:Heap} {tl:List Value} (T:TailN h tl):OwnTail h bmV tl:=by
  induction T with
  | base=>exact .base
  | own a b c _ ih=>exact .own a b (c _ (by simp)) ih
theorem TailN.keeps {h h':Heap} {tl:List Value} (T:TailN h tl) (k:∀ b o,h.get? b=some o→h'.get? b=some o):TailN h' tl:=by
  induction T with
  | base=>exact .base
  | own a b c _ ih=>exact .own (k _ _ a) (b.keeps k) c ih
structure ExcAt (h:Heap) (C:Addr) (init:Option Value):Prop where
  ex:∃ nm q N bs bm sn sub ab col dd k0 k1 k2 k3 k5 mN,h.get? C=some (excClassObj nm q C N bs bm true sn sub ab col dd k0 k1 k2 k3 k5 "ValueError.__new__")∧h.Ns N mN∧mN "__init__"=init∧(∀ n∈excNames,n≠"__init__"→mN n=none)∧TailN h bm
theorem ObjOk.is {P:Program} {w:World} {H:Hp} {h:Heap} {a:Addr} {o:HO} (x:ObjOk P w H h a o):∃ ob,h.get? a=some ob:=by
  cases o with
  | lst xs=>obtain ⟨_,_,_,_,e⟩:=x;exact ⟨_,e⟩
  | tup xs=>obtain ⟨_,_,_,o,e,_⟩:=x;exact ⟨_,e⟩
  | dK kvs=>obtain ⟨_,_,_,_,o,_,_,e,_⟩:=x;exact ⟨_,e⟩
  | dT kvs=>obtain ⟨_,_,_,_,o,_,_,e,_⟩:=x;exact ⟨_,e⟩
  | set S n=>obtain ⟨o,_,_,_,e,_⟩:=x;exact ⟨_,e⟩
  | ins C dx fs=>obtain ⟨_,_,_,e,_⟩:=x;exact ⟨_,e⟩
  | own y=>obtain ⟨_,e⟩:=x;exact ⟨_,e⟩
  | xd fs=>obtain ⟨_,⟨_,_,_,e,_⟩,_⟩:=x;exact ⟨_,e⟩
  | rng lo hi=>obtain ⟨_,_,_,e⟩:=x;exact ⟨_,e⟩
  | frz ob u=>obtain ⟨e,_⟩:=x;exact ⟨_,e⟩
  | tbl ps=>rcases x with x | ⟨_,_,_,_,_,_,_,_,_,_,x,_⟩ <;> exact ⟨_,x⟩
  | met f y=>exact ⟨_,(show h.get? a=some _ from x)⟩
  | ext φ=>obtain ⟨_,e,_⟩:=x;exact e
theorem HOk.no {P:Program} {w:World} {H:Hp} {h:Heap} (x:HOk P w H h) {a:Addr} (e:h.get? a=none):H a=none:=by
  cases q:H a with
  | none=>rfl
  | some o =>
    obtain ⟨ob,z⟩:=(x a o q).is
    rw [e] at z
    cases z
section
variable {X : Cx} {pins : List (Addr × Obj)} {σ : St} {H : Hp} {s : Shared} {h' : Heap} {K : PySem.W.Frag}
theorem Inv.old (I:Inv X pins σ H s) (hex:X.ex=[]) {b:Addr} (hb:s.heap.get? b=none):X.s₀.heap.get? b=none:=by
  cases q:X.s₀.heap.get? b with
  | none=>rfl
  | some o =>
    obtain ⟨o',z⟩:=I.base.there b o q (by rw [hex];simp)
    rw [hb] at z;cases z
theorem Inv.more (I:Inv X pins σ H s) (k:∀ b o,s.heap.get? b=some o→h'.get? b=some o):Inv X pins σ H { s with heap:=h' } :=
  I.call' (s':={ s with heap:=h' }) (ch:=[]) rfl (Un.kept k) (I.hok.kept k) I.bare (fun b z=>absurd z (by simp))
theorem qjA {C:Addr} {x:Str} {np cpos pos:Pos} (hcalm:X.calm=true) (hex:X.ex=[]) (hg:Gl X x) (hm:X.mg x=some (.ref C)) (hC:∀ h:Heap,X.K.In h→ExcAt h C none) (hdb:(x == ("__debug__":Str))=false:=by decide) :
    PSM K X (.Raise (some (.Call (.Name x np) [] [] cpos)) none pos) (fun De ρ=>De.ex ⟨x,none⟩ ρ):=⟨fun hK=>by
  intro pins s σ H E I hq0
  obtain ⟨Φ0,H0,Φ,ρ,De,g,V,t,k⟩:=hq0
  obtain ⟨nm,q,N,bs,bm,sn,sub,ab,col,dd,k0,k1,k2,k3,k5,mN,c1,c2,c3,c4,c5⟩:=(hC s.heap I.kIn).ex
  refine wpAny_Raise_call_subT (C:=C) (nm:=nm) (q:=q) (N:=N) (bs:=bs) (bm:=bm) (hdct:=true) (sn:=sn) (sub:=sub) (ab:=ab) (col:=col) (dd:=dd) (k0:=k0) (k1:=k1) (k2:=k2) (k3:=k3) (k5:=k5) (mN:=mN) PySem.F.excBase_ValueError (c5.tail.hasType (by decide +kernel)) (I.ok.hd hcalm) rfl c3 (qcn I hg hm ⟨rfl,?_⟩ hdb)
  refine PySem.evalArgs_none ?_
  refine ⟨rfl,by show 0≤sizeLine;exact Nat.zero_le _,c1,c2,c5.tail,fun h' e hmk=>?_⟩
  obtain ⟨t',h1,h2,h3⟩:=hmk.there
  have hno:=I.hok.no hmk.new
  exact k.ex ⟨x,none⟩ ρ Φ H σ _ _ pins t g V ⟨I.more hmk.keeps,e,C,none,none,rfl,⟨_,_,h1,rfl,rfl,rfl,rfl⟩,hm,rfl,⟨I.old hex hmk.new,hno,fun p hp z=>by have:=(I.pin p hp).1;rw [z,hmk.new] at this;cases this⟩,fun T' z=>(by cases z)⟩⟩
end
abbrev Cx.tried (X:Cx) (pn:List (Addr × Obj)) (xe:Value→Shared→Prop):Cx:={ X with pn:=pn,xe:=xe }
abbrev Cx.held (X:Cx) (pn:List (Addr × Obj)) (e:Value):Cx:={ X with A:=X.A.mark (some e),calm:=false,pn:=pn,xe:=fun _ _=>False }
section
variable {X : Cx} {pins pins' : List (Addr × Obj)} {σ : St} {H : Hp} {s : Shared} {xe : Value → Shared → Prop} {e : Value}
theorem Cx.Ok.tried (o:X.Ok) (pn:List (Addr × Obj)) (xe:Value→Shared→Prop):(X.tried pn xe).Ok :=
  ⟨o.mod,o.kind,o.glob,o.blt,o.above,o.inj,o.has,o.cab,o.hd,o.frames,o.stk,o.exf,o.bs,o.bsz,o.noex,o.exfs,o.funs,o.frf⟩
theorem Cx.Ok.held (o:X.Ok) (pn:List (Addr × Obj)) (e:Value):(X.held pn e).Ok :=
  ⟨o.mod,o.kind,o.glob,o.blt,o.above,o.inj,o.has,o.cab,fun h=>(by cases h),o.frames,o.stk,o.exf,o.bs,o.bsz,o.noex,o.exfs,o.funs,o.frf⟩
theorem Inv.tried (I:Inv X pins σ H s) (xe:Value→Shared→Prop):Inv (X.tried (X.pn++pins) xe) [] σ H s :=
  ⟨I.ok.tried _ _,I.os,I.bare,I.base,I.loc,I.cell,I.free,I.freeC,fun p hp=>I.pin p (by rw [List.append_nil] at hp;exact hp),I.hok,I.len⟩
theorem Inv.untried (ok:X.Ok) (I:Inv (X.tried (X.pn++pins) xe) pins' σ H s):Inv X pins σ H s :=
  ⟨ok,I.os,I.bare,I.base,I.loc,I.cell,I.free,I.freeC,fun p hp=>I.pin p (List.mem_append_left _ hp),I.hok,I.len⟩
theorem Inv.held (I:Inv X pins σ H s) (e:Value):Inv (X.held (X.pn++pins) e) [] σ H s :=
  ⟨I.ok.held _ _,I.os,I.bare,I.base,I.loc,I.cell,I.free,I.freeC,fun p hp=>I.pin p (by rw [List.append_nil] at hp;exact hp),I.hok,I.len⟩
theorem Inv.unheld (ok:X.Ok) (I:Inv (X.held (X.pn++pins) e) pins' σ H s):Inv X pins σ H s :=
  ⟨ok,I.os,I.bare,I.base,I.loc,I.cell,I.free,I.freeC,fun p hp=>I.pin p (List.mem_append_left _ hp),I.hok,I.len⟩
theorem Inv.knowX {a:Addr} {o:HO} (I:Inv X pins σ H s) (h0:X.s₀.heap.get? a=none) (hn:H a=none) (hp:∀ p∈X.pn++pins,p.1≠a) (hl:X.env.locals≠a) (hc:∀ x c,X.env.cells.lookup x=some c→c≠a) (new:ObjOk X.prog X.w (upd H a o) s.heap a o):Inv X pins σ (upd H a o) s where
  ok:=I.ok
  os:=I.os
  bare:=I.bare
  base:=⟨I.base.keep,I.base.slot,fun b ob q n hx=>by rw [qal (fun z=>by rw [z,h0] at q;cases q)];exact I.base.free b ob q n hx,I.base.there,fun b xs q=>by have:=I.base.tups b xs q;rw [qal (qas this hn)];exact this,fun b ob xs q=>by have:=I.base.frzs b ob xs q;rw [qal (qas this hn)];exact this,fun b ps q=>by have:=I.base.tbls b ps q;rw [qal (qas this hn)];exact this⟩
  loc:=I.loc
  cell:=I.cell
  free:=by rw [qal hl];exact I.free
  freeC x c h:=by rw [qal (hc x c h)];exact I.freeC x c h
  pin p h:=by
    obtain ⟨a1,a2,a3⟩:=I.pin p h
    exact ⟨a1,by rw [qal (hp p h)];exact a2,a3⟩
  hok:=I.hok.know hn new
  len:=I.len
theorem qmi {h:Heap} {a:Addr} {m m':Str→Option Value} (x:h.Ns a m) (y:h.Ns a m') (n:Str):m n=m' n:=by
  obtain ⟨o,es,ep,ho,hd,_,hm⟩:=x
  obtain ⟨o',es',ep',ho',hd',_,hm'⟩:=y
  rw [ho] at ho'
  cases ho'
  rw [hd] at hd'
  cases hd'
  rw [← hm n,← hm' n]
theorem Inv.unname {i:Nat} {n:Str} {h':Heap} {m:Str→Option Value} {v:Option Value} {t':Nat} (I:Inv X pins σ H s) (hN:X.N.Nodup) (hi:X.N[i]?=some n) (hm:s.heap.Ns X.env.locals m) (hn:h'.Ns X.env.locals (fun x=>if x=n then v else m x)) (hs:Heap.SameBut X.env.locals s.heap h'):Inv X pins (σ.set i none) H { s with heap:=h',toks:=t' }:=by
  have old:X.s₀.heap.get? X.env.locals=none:=Heap.get?_none_of_le I.ok.above
  have kp:∀ b,b≠X.env.locals→h'.get? b=s.heap.get? b:=fun b hb=>hs.2 b hb
  obtain ⟨m0,hm0,hl⟩:=I.loc
  refine ⟨I.ok,I.os,I.bare,⟨fun b o q n1 n2 n3=>?_,fun b o q n1 n2 n3=>?_,I.base.free,fun b o q n3=>?_,I.base.tups,I.base.frzs,I.base.tbls⟩,⟨_,hn,fun j x w hj hw hv=>?_⟩,fun x c h=>?_,I.free,I.freeC,fun p hp=>?_,I.hok.keptT fun b u w hb q=>?_,by rw [List.length_set];exact I.len⟩
  · rw [kp b (fun z=>by rw [z,old] at q;cases q)];exact I.base.keep b o q n1 n2 n3
  · obtain ⟨sl,z⟩:=I.base.slot b o q n1 n2 n3
    exact ⟨sl,(kp b (fun z=>by rw [z,old] at q;cases q)).trans z⟩
  · obtain ⟨o',z⟩:=I.base.there b o q n3
    exact ⟨o',(kp b (fun z=>by rw [z,old] at q;cases q)).trans z⟩
  · have hji:j≠i:=fun z=>by
      rw [z] at hw
      simp [List.getElem?_set] at hw
    rw [List.getElem?_set_ne (Ne.symm hji)] at hw
    obtain ⟨u,ru,lk⟩:=hl j x w hj hw hv
    have hxn:x≠n:=fun z=>hji ((List.getElem?_inj (qao hj) hN).mp (by rw [hj,hi,z]))
    refine ⟨u,ru,?_⟩
    rcases lk with ⟨k1,k2⟩ | ⟨k1,c,k2,k3⟩
    · refine .inl ⟨k1,?_⟩
      show (if x=n then v else m x)=some u
      rw [if_neg hxn,qmi hm hm0 x]
      exact k2
    · refine .inr ⟨k1,c,k2,?_⟩
      obtain ⟨o,ho,hd⟩:=k3
      exact ⟨o,(kp c (I.cne x c k2)).trans ho,hd⟩
  · obtain ⟨w,o,ho,hd⟩:=I.cell x c h
    exact ⟨w,o,(kp c (I.cne x c h)).trans ho,hd⟩
  · obtain ⟨a1,a2,a3,a4⟩:=I.pin p hp
    exact ⟨(kp p.1 a3).trans a1,a2,a3,a4⟩
  · exact (kp b (fun z=>by rw [z,I.free] at hb;cases hb)).trans q
theorem qeU (ok:X.Ok) {b:Addr} (h:b∈frs X.stack):b∈X.fs∨b=X.env.locals:=by
  rcases ok.stk with e | ⟨e,hf⟩
  · rw [e] at h;exact .inl h
  · rw [e] at h
    obtain ⟨env,he,hb⟩:=List.mem_filterMap.mp h
    rcases List.mem_cons.mp he with rfl | he
    · rw [hf] at hb;exact .inr (Option.some.inj hb).symm
    · exact .inl (List.mem_filterMap.mpr ⟨env,he,hb⟩)
theorem Inv.passed {ea:Addr} {T:Option Addr} {h':Heap} (I:Inv X pins σ H s) (k:Kept (frs X.stack) ea T s.heap h') (he:X.s₀.heap.get? ea=none∧H ea=none∧∀ p∈X.pn++pins,p.1≠ea) (hT:∀ T',T=some T'→X.s₀.heap.get? T'=none∧H T'=none∧∀ p∈X.pn++pins,p.1≠T')
    (de:∃ o vs,s.heap.get? ea=some o∧o.data=.fields vs) (dT:∀ T',T=some T'→∃ o vs,s.heap.get? T'=some o∧o.data=.fields vs):Inv X pins σ H { s with heap:=h' }:=by
  have old:X.s₀.heap.get? X.env.locals=none:=Heap.get?_none_of_le I.ok.above
  have kd:∀ b o,s.heap.get? b=some o→(∀ vs,o.data≠.fields vs)→∃ sl,h'.get? b=some { o with slots:=sl }:=fun b o hb hn=>by
    have b1:b≠ea:=fun z=>by
      obtain ⟨o',vs,h1,h2⟩:=de
      rw [z,h1] at hb;cases hb;exact hn vs h2
    have b2:some b≠T:=fun z=>by
      obtain ⟨o',vs,h1,h2⟩:=dT b z.symm
      rw [h1] at hb;cases hb;exact hn vs h2
    by_cases c:b∈frs X.stack
    · exact k.slot b o hb c
    · exact ⟨o.slots,k.keep b o hb b1 b2 c⟩
  have k0:∀ b o,s.heap.get? b=some o→X.s₀.heap.get? b≠none→b≠ea∧some b≠T:=fun b o hb h0=>⟨fun z=>h0 (by rw [z];exact he.1),fun z=>h0 (hT b z.symm).1⟩
  obtain ⟨m,hm,hl⟩:=I.loc
  have hm':h'.Ns X.env.locals m:=by
    obtain ⟨o,es,ep,ho,hd,hk,hmm⟩:=hm
    obtain ⟨sl,z⟩:=kd _ o ho (fun vs q=>by rw [hd] at q;cases q)
    exact ⟨_,es,ep,z,hd,hk,hmm⟩
  have cl:∀ c v,s.heap.IsCell c v→h'.IsCell c v:=fun c v hc=>by
    obtain ⟨o,ho,hd⟩:=hc
    obtain ⟨sl,z⟩:=kd _ o ho (fun vs q=>by rw [hd] at q;cases q)
    exact ⟨_,z,hd⟩
  refine ⟨I.ok,I.os,I.bare,⟨fun b o q n1 n2 n3=>?_,fun b o q n1 n2 n3=>?_,I.base.free,fun b o q n3=>?_,I.base.tups,I.base.frzs,I.base.tbls⟩,⟨m,hm',fun j x w hj hw hv=>?_⟩,fun x c h=>?_,I.free,I.freeC,fun p hp=>?_,I.hok.keptT fun b u w hb q=>?_,I.len⟩
  · have z:=I.base.keep b o q n1 n2 n3
    obtain ⟨b1,b2⟩:=k0 b o z (by rw [q];simp)
    refine k.keep b o z b1 b2 fun c=>?_
    rcases qeU I.ok c with c | c
    · exact n2 c
    · rw [c,old] at q;cases q
  · obtain ⟨sl,z⟩:=I.base.slot b o q n1 n2 n3
    obtain ⟨b1,b2⟩:=k0 b _ z (by rw [q];simp)
    by_cases c:b∈frs X.stack
    · obtain ⟨sl2,z2⟩:=k.slot b _ z c
      exact ⟨sl2,z2⟩
    · exact ⟨sl,k.keep b _ z b1 b2 c⟩
  · obtain ⟨o',z⟩:=I.base.there b o q n3
    obtain ⟨b1,b2⟩:=k0 b _ z (by rw [q];simp)
    by_cases c:b∈frs X.stack
    · obtain ⟨sl2,z2⟩:=k.slot b _ z c
      exact ⟨_,z2⟩
    · exact ⟨o',k.keep b _ z b1 b2 c⟩
  · obtain ⟨u,ru,lk⟩:=hl j x w hj hw hv
    refine ⟨u,ru,?_⟩
    rcases lk with ⟨k1,k2⟩ | ⟨k1,c,k2,k3⟩
    · exact .inl ⟨k1,k2⟩
    · exact .inr ⟨k1,c,k2,cl c _ k3⟩
  · obtain ⟨w,hw⟩:=I.cell x c h
    exact ⟨w,cl c w hw⟩
  · obtain ⟨a1,a2,a3,a4⟩:=I.pin p hp
    refine ⟨k.keep p.1 p.2 a1 (he.2.2 p hp) (fun z=>(hT p.1 z.symm).2.2 p hp rfl) fun c=>?_,a2,a3,a4⟩
    rcases qeU I.ok c with c | c
    · exact a4.1 c
    · exact a3 c
  · refine k.keep b u q (fun z=>by rw [z,he.2.1] at hb;cases hb) (fun z=>by rw [(hT b z.symm).2.1] at hb;cases hb) fun c=>?_
    rw [I.stkFree b c] at hb;cases hb
theorem qh4 {M:Model} {A:Around} {E:Value→Shared→Prop} {Q:Unit→Shared→Prop} {i:Nat} {n:Str} {pos:Pos} (I:Inv X pins σ H s) (hN:X.N.Nodup) (hi:X.N[i]?=some n) (hx:X.env.scope.names.lookup n=some .local) (hf:X.fn n=true∨X.env.scope.names.lookup n=some .local)
    (k:∀ s',Inv X pins (σ.set i none) H s'→Q () s'):wpAny M A (do bindName X.env n .none;unbindBehindTheSuite X.env n pos) Q E s:=by
  have hp:(X.env.scope.kind == .class || (X.env.scope.kind == .module && X.env.locals != X.env.globals))=false:=by rw [I.ok.kind];rfl
  have hk:X.env.kindOf n=some .local:=hx
  have hil:i<σ.length:=by rw [I.len];exact qao hi
  refine wpAny_bind (wpAny_bindName (qey I hN hi (.inl hx) (v:=.non) rfl (fun s1 I1=>?_) hf))
  obtain ⟨m,hm,hl⟩:=id I1.loc
  obtain ⟨u,ru,lk⟩:=hl i n .non hi (by rw [List.getElem?_set];simp [hil]) (.inl hx)
  have hmn:(m n).isSome=true:=by
    rcases lk with ⟨_,h2⟩ | ⟨h1,_⟩
    · rw [h2];rfl
    · rcases h1 with h1 | h1 <;> (rw [hk] at h1;cases h1)
  unfold unbindBehindTheSuite
  refine wpAny_onRaise ?_
  unfold unbindName
  refine wpAny_bind (wpAny_point (wpAny_bind ?_))
  unfold deleteName
  simp only [hk,hp]
  rw [if_neg (by decide)]
  refine wpAny_bind (wpAny_nsDel_keeps hm fun h2 v hn2 hs2=>?_)
  rw [hmn]
  simp only [if_true,Bool.not_true,Bool.false_eq_true,if_false]
  refine wpAny_pure (wpAny_point ?_)
  have I2:=I1.unname (t':=s1.toks) hN hi hm hn2 hs2
  rw [List.set_set] at I2
  exact k _ I2
end
section
variable {M : Model} {A : Around} {E : Value → Shared → Prop} {s : Shared}
def qgW (h:Heap) (C:Addr):List Value:=match h.get? C with | some o=>(match o.data with | .cls cd=>cd.mro | _=>[]) | none=>[]
theorem qhQ {e C D:Addr} {oe:Obj} {i i':Option Value} {Q:Bool→Shared→Prop} (hC:ExcAt s.heap C i) (hD:ExcAt s.heap D i') (he:s.heap.get? e=some oe) (hcls:oe.cls=.ref C) (hq:Q ((qgW s.heap C).contains (.ref D)) s):wpAny M A (excMatches (.ref e) (.ref D)) Q E s:=by
  obtain ⟨hp,g,d,tk,os⟩:=s
  obtain ⟨nm,q,N,bs,bm,sn,sub,ab,col,dd,k0,k1,k2,k3,k5,mN,c1,c2,c3,c4,c5⟩:=hC.ex
  obtain ⟨nm',q',N',bs',bm',sn',sub',ab',col',dd',k0',k1',k2',k3',k5',mN',d1,d2,d3,d4,d5⟩:=hD.ex
  have hm:qgW hp C=.ref C::bm:=by unfold qgW;rw [show hp.get? C=_ from c1]
  have hq:Q ((Value.ref C::bm).contains (.ref D)) ⟨hp,g,d,tk,os⟩:=by rw [← hm];exact hq
  have hcB:(Value.ref D::bm').contains (.type "BaseException")=true:=by rw [List.contains_cons,d5.tail.hasType (X:="BaseException") (b:=true) (by decide +kernel),Bool.or_true]
  have f:=tc_notTuple
  unfold excMatches
  repeat (first | (with_reducible refine wpAny_loadPart_at he ?_;rw [hcls]) | with_reducible refine wpAny_loadPart_at d1 ?_ | (with_reducible refine wpAny_isSubtype_exc d1 ?_;rw [hcB]) | (with_reducible refine wpAny_isSubtype_exc c1 ?_) | wp_step)
  cases hb:(Value.ref C::bm).contains (.ref D) <;> (rw [hb] at hq;wp_walk;exact hq)
end
structure Exs (K:PySem.W.Frag) (mg:Str→Option Value) (isa:Str→Str→Bool) (names:List Str):Prop where
  cls:∀ nm∈names,∀ C,mg nm=some (.ref C)→∀ h:Heap,K.In h→∃ i,ExcAt h C i
  sub:∀ nm∈names,∀ c∈names,∀ C D,mg nm=some (.ref C)→mg c=some (.ref D)→∀ h:Heap,K.In h→(qgW h C).contains (.ref D)=isa nm c
  inK:∀ nm∈names,∀ C,mg nm=some (.ref C)→PySem.W.nsIn K mainGlobals nm=some (some (.ref C))
structure PHM (K:PySem.W.Frag) (X:Cx) (hs:List ExceptHandler) (th:XD→EndsM→qaV→Prop):Prop where
  ph:X.K=K→∀ (pins:List (Addr × Obj)) (s:Shared) (σ:St) (H:Hp) (D:Ends) (ea T C:Addr) (dx:Option Addr) (xd:XD) (Φ0 H0 Φ:Hp) (ρ:qaV) (De:EndsM),Inv X pins σ H s→Fly s.heap ea (some T) .none (.ref C) dx→X.mg xd.nm=some (.ref C)→XAt X.K H xd.at_ dx →
    (X.s₀.heap.get? ea=none∧H ea=none∧∀ p∈X.pn++pins,p.1≠ea)→(X.s₀.heap.get? T=none∧H T=none∧∀ p∈X.pn++pins,p.1≠T)→Gr Φ0 H0 Φ H→EnvM K H0 Φ H σ ρ→th xd De ρ→EndOkM K X Φ0 H0 De D→wpAny (model X.prog X.w) X.A (handleBy (.ref ea) X.env hs) (SP X pins D) X.xe s
theorem EnvM.unset {K:PySem.W.Frag} {H0 Φ H:Hp} {σ:St} {ρ:qaV} (E:EnvM K H0 Φ H σ ρ) (i:Nat):EnvM K H0 Φ H (σ.set i none) (ρ.set i none):=by
  have hl:=E.len
  refine E.re id (by rw [List.length_set,List.length_set,hl]) (fun j x h=>?_) (fun j k a a' o o' _ _ h=>h)
  have hji:j≠i:=fun z=>by
    rw [z] at h
    simp [List.getElem?_set] at h
  rw [List.getElem?_set_ne (Ne.symm hji)] at h
  exact ⟨h,List.getElem?_set_ne (Ne.symm hji)⟩
theorem qeT {h h':Heap} {fs:List Addr} {ea T:Addr} (k:∀ b o,h.get? b=some o→b≠T→h'.get? b=some o) (hT:∃ o vs,h.get? T=some o∧o.data=.fields vs) (hf:∀ b∈fs,∀ o,h.get? b=some o→∀ vs,o.data≠.fields vs):Kept fs ea (some T) h h' where
  keep b o hb _ b2 _:=k b o hb fun z=>b2 (by rw [z])
  slot b o hb c:=⟨o.slots,k b o hb fun z=>by
    obtain ⟨o',vs,h1,h2⟩:=hT
    rw [z,h1] at hb
    cases hb
    exact hf T (z ▸ c) _ h1 vs h2⟩
theorem Fly.note {h:Heap} {e T:Addr} {fl cls:Value} {dx:Option Addr} (F:Fly h e (some T) fl cls dx):∃ o vs,h.get? T=some o∧o.data=.fields vs:=by
  obtain ⟨oe,vs,_,_,_,_,_,_,oT,ts,h1,h2,_⟩:=F.ex
  exact ⟨oT,ts,h1,h2⟩
theorem Fly.obj {h:Heap} {e:Addr} {T:Option Addr} {fl cls:Value} {dx:Option Addr} (F:Fly h e T fl cls dx):∃ o vs,h.get? e=some o∧o.data=.fields vs:=by
  obtain ⟨oe,vs,h1,h2,_⟩:=F.ex
  exact ⟨oe,vs,h1,h2⟩
section
variable {K : PySem.W.Frag} {X : Cx} {isa : Str → Str → Bool} {names : List Str}
theorem qdJ {pins:List (Addr × Obj)} {σ:St} {H:Hp} {s:Shared} (I:Inv X pins σ H s):∀ b∈frs X.stack,∀ o,s.heap.get? b=some o→∀ vs,o.data≠.fields vs:=fun b hb o ho=>by
  obtain ⟨_,o',ho',hn⟩:=I.stack.mem hb
  rw [ho] at ho'
  cases ho'
  exact hn
theorem qj2:PHM K X [] (fun _ _ _=>False):=⟨fun _ _ _ _ _ _ _ _ _ _ _ _ _ _ _ _ _ _ _ _ _ _ _ _ h=>h.elim⟩
theorem qkT {rest:List ExceptHandler} {th:XD→EndsM→qaV→Prop} {c n:Str} {Da:Addr} {np hpos:Pos} {b₀:Stmt} {suite:List Stmt} {tu:TSM} (i:Nat) (Ex:Exs X.K X.mg isa names) (hc:c∈names) (hg:Gl X c) (hm:X.mg c=some (.ref Da)) (hN:X.N.Nodup) (hs:∀ pn e,PSsM K (X.held pn e) (b₀::suite) tu) (hr:PHM K X rest th)
    (hi:X.N[i]?=some n:=by rfl) (hloc:X.env.scope.names.lookup n=some .local:=by rfl) (hfn:X.fn n=true∨X.env.scope.names.lookup n=some .local:=by first | exact .inl rfl | exact .inr rfl) (hdb:(c == ("__debug__":Str))=false:=by decide) :
    PHM K X (.ExceptHandler (some (.Name c np)) (some n) (b₀::suite) hpos::rest) (fun xd De ρ=>xd.nm∈names∧(isa xd.nm c=true→tu { nx:=fun ρ'=>De.nx (ρ'.set i none),rt:=De.rt,bk:=fun ρ'=>De.bk (ρ'.set i none),ct:=fun ρ'=>De.ct (ρ'.set i none) } (ρ.set i (some (.v (.exc xd.nm xd.at_.toList)))))∧(isa xd.nm c=false→th xd De ρ)) :=
  ⟨fun hK pins s σ H D ea T C dx xd Φ0 H0 Φ ρ De I F hnm hat fe fT g V t k=>by
    obtain ⟨hin,t1,t2⟩:=t
    obtain ⟨oe,he,hcl,hdx,vs,hvs⟩:=F.live
    obtain ⟨iC,kC⟩:=Ex.cls xd.nm hin C hnm s.heap I.kIn
    obtain ⟨iD,kD⟩:=Ex.cls c hc Da hm s.heap I.kIn
    have hsub:=Ex.sub xd.nm hin c hc C Da hnm hm s.heap I.kIn
    refine wpAny_handleBy_cons (codeAny_handlers_test (qcn (X:=X.held (X.pn++pins) (.ref ea)) (I.held (.ref ea)) hg hm ?_ hdb)) (by intro q;cases q)
    refine qhQ kC kD he hcl ?_
    rw [hsub]
    cases hb:isa xd.nm c with
    | false=>exact hr.ph hK pins s σ H D ea T C dx xd Φ0 H0 Φ ρ De I F hnm hat fe fT g V (t2 hb) k
    | true =>
      refine codeAny_handlers_suite_as (qhg F fun h1 F1 k1 n1=>?_)
      have I1:Inv X pins σ H { s with heap:=h1 }:=I.passed (qeT k1 F.note (qdJ I)) fe (fun T' z=>by cases z;exact fT) F.obj (fun T' z=>by cases z;exact F.note)
      refine qdN I1 hN hi (.inl hloc) (v:=.ref ea) rfl (fun s2 I2 hs2=>?_) hfn
      obtain ⟨oe2,ve2,he2,hd2,hc2,hx2,_⟩:=F1.ex
      have hel:ea≠X.env.locals:=fun z=>by
        obtain ⟨m,⟨o',es,ep,ho',hd',_⟩,_⟩:=I1.loc
        rw [z,show h1.get? X.env.locals=_ from ho'] at he2
        cases he2
        rw [hd'] at hd2;cases hd2
      have hec:∀ x c,X.env.cells.lookup x=some c→c≠ea:=fun x c h z=>by
        obtain ⟨v,o',ho',hd'⟩:=I1.cell x c h
        rw [z,show h1.get? ea=_ from he2] at ho'
        cases ho'
        rw [hd'] at hd2;cases hd2
      have he3:s2.heap.get? ea=some oe2:=by
        obtain ⟨a,sb,ha⟩:=hs2
        refine (sb.2 ea ?_).trans he2
        rcases ha with rfl | ha
        · exact hel
        · exact fun z=>hec _ _ ha z.symm
      have new:ObjOk X.prog X.w (upd H ea (.ext (qg5 ea C dx))) s2.heap ea (.ext (qg5 ea C dx)):=⟨⟨oe2,ve2,he3,hc2,hx2,hd2⟩,⟨oe2,he3⟩,fun a b ⟨o,w,z1,z2⟩ kk=>⟨o,w,kk o z1,z2⟩⟩
      have I3:=I2.knowX fe.1 fe.2.1 fe.2.2 (Ne.symm hel) hec new
      have hno:H0 ea=none:=by
        cases q:H0 ea with
        | none=>rfl
        | some u=>have:=g.h _ _ q;rw [fe.2.1] at this;cases this
      have hΦe:Φ ea=none:=by
        cases q:Φ ea with
        | none=>rfl
        | some u=>have:=g.s _ _ q;rw [fe.2.1] at this;cases this
      obtain ⟨Φ2,g2,r2⟩:∃ Φ2,Gr Φ H Φ2 (upd H ea (.ext (qg5 ea C dx)))∧Rp K Φ2 (.exc xd.nm xd.at_.toList) (.ref ea):=by
        have g1:Gr Φ H (upd Φ ea (.ext (qg5 ea C dx))) (upd H ea (.ext (qg5 ea C dx))):=(Gr.fresh g.s fe.2.1 _).freeze fe.2.1 hΦe qaj
        cases ha:xd.at_ with
        | none =>
          rw [ha] at hat
          have hat:dx=none:=hat
          subst hat
          exact ⟨_,g1,.exc0 (hK ▸ Ex.inK xd.nm hin C hnm) qaj⟩
        | some d =>
          rw [ha] at hat
          obtain ⟨p,v,rfl,hp,rv⟩:=hat
          have hpe:p≠ea:=fun z=>by rw [z,fe.2.1] at hp;cases hp
          have hp':upd H ea (.ext (qg5 ea C (some p))) p=some (.xd [("at",v)]):=by rw [qal hpe];exact hp
          have rv':∀ Ψ:Hp,Rp K Ψ d v:=fun Ψ=>(hK ▸ rv:Rp K (fun _=>none) d v).same fun b u z=>(by cases z)
          cases q:(upd Φ ea (.ext (qg5 ea C (some p)))) p with
          | some u =>
            have:=g1.s _ _ q
            rw [hp'] at this
            cases this
            exact ⟨_,g1,.exc1 (hK ▸ Ex.inK xd.nm hin C hnm) qaj q (rv' _)⟩
          | none =>
            refine ⟨upd (upd Φ ea (.ext (qg5 ea C (some p)))) p (.xd [("at",v)]),⟨g1.f.trans (qaG q _),g1.h,fun b u z=>?_,fun b u z1 z2 z3=>?_⟩,.exc1 (hK ▸ Ex.inK xd.nm hin C hnm) (by rw [qal (Ne.symm hpe)];exact qaj) qaj (rv' _)⟩
            · by_cases cb:b=p
              · rw [cb,qaj] at z;cases z;rw [cb];exact hp'
              · rw [qal cb] at z;exact g1.s b u z
            · by_cases cb:b=p
              · rw [cb,hp] at z1;cases z1;exact z3.elim
              · rw [qal cb];exact g1.o b u z1 z2 z3
      have V2:=((V.gr g2).snocV r2).store i
      have run:=(hs (X.pn++pins) (.ref ea)).ps hK [] s2 _ _ { nx:=fun σ' H'=>D.nx (σ'.set i none) H',rt:=D.rt,bk:=fun σ' H'=>D.bk (σ'.set i none) H',ct:=fun σ' H'=>D.ct (σ'.set i none) H' } (I3.held (.ref ea))
        ⟨Φ0,H0,Φ2,_,_,g.trans g2,V2,t1 hb,⟨fun ρ' Φ' H' σ' r g' V'=>k.nx _ Φ' H' _ r g' (V'.unset i),k.rt,fun ρ' Φ' H' σ' r g' V'=>k.bk _ Φ' H' _ r g' (V'.unset i),fun ρ' Φ' H' σ' r g' V'=>k.ct _ Φ' H' _ r g' (V'.unset i),fun _ _ _ _ _ _ _ _ h=>h.elim⟩⟩
      refine wpAny_mono run (fun f s3 hf=>?_) fun _ _ h=>h.elim
      have go:∀ {σ':St} {H':Hp},Inv (X.held (X.pn++pins) (.ref ea)) [] σ' H' s3→(∀ s',Inv X pins (σ'.set i none) H' s'→SP X pins D f s')→wpAny (model X.prog X.w) X.A (do bindName X.env n .none;unbindBehindTheSuite X.env n hpos) (fun _ s'=>SP X pins D f s') X.xe s3:=fun {σ' H'} J kk=>qh4 (Inv.unheld I.ok J) hN hi hloc hfn kk
      cases f with
      | next=>obtain ⟨σ',H',J,q⟩:=hf;exact go J fun s' J'=>⟨_,H',J',q⟩
      | brk=>obtain ⟨σ',H',J,q⟩:=hf;exact go J fun s' J'=>⟨_,H',J',q⟩
      | cont=>obtain ⟨σ',H',J,q⟩:=hf;exact go J fun s' J'=>⟨_,H',J',q⟩
      | ret u=>obtain ⟨v,σ',H',J,rv,q⟩:=hf;exact go J fun s' J'=>⟨v,_,H',J',rv,q⟩⟩
theorem qmm {body:List Stmt} {h₀:ExceptHandler} {hs:List ExceptHandler} {pos:Pos} {tb:TSM} {th:XD→EndsM→qaV→Prop} (hb:∀ pn xe,PSsM K (X.tried pn xe) body tb) (hh:PHM K X (h₀::hs) th) (hstk:X.stack=X.env::X.outer) (hfr:X.env.frame=some X.env.locals) :
    PSM K X (.Try body (h₀::hs) [] [] pos) (fun De ρ=>tb { De with ex:=fun xd ρ1=>th xd De ρ1 } ρ):=⟨fun hK=>by
  intro pins s σ H D I hq0
  obtain ⟨Φ0,H0,Φ,ρ,De,g,V,t,k⟩:=hq0
  refine wpAny_Try_except ?_
  refine wpAny_mono ((hb (X.pn++pins) (fun e s₁=>wpAny (model X.prog X.w) X.A (noteFrame e X.env) (fun _ s₂=>wpAny (model X.prog X.w) X.A (setFlight e none) (fun _ s₃=>wpAny (model X.prog X.w) X.A (handleBy e X.env (h₀::hs)) (SP X pins D) X.xe s₃) X.xe s₂) X.xe s₁)).ps hK [] s σ H D (I.tried _)
    ⟨Φ0,H0,Φ,ρ,_,g,V,t,⟨k.nx,k.rt,k.bk,k.ct,fun xd ρ' Φ' H' σ' e s' pins' hth g' V' st=>?_⟩⟩) (fun f s1 hf=>?_) fun _ _ h=>h
  · obtain ⟨ea,C,T,dx,e1,F,hnm,hat,fe,fT⟩:=st.ex
    subst e1
    have Iu:Inv X pins σ' H' s':=Inv.untried I.ok st.inv
    have fe':X.s₀.heap.get? ea=none∧H' ea=none∧∀ p∈X.pn++pins,p.1≠ea:=⟨fe.1,fe.2.1,fun p hp=>fe.2.2 p (List.mem_append_left _ hp)⟩
    have fT':∀ T',T=some T'→X.s₀.heap.get? T'=none∧H' T'=none∧∀ p∈X.pn++pins,p.1≠T':=fun T' z=>⟨(fT T' z).1,(fT T' z).2.1,fun p hp=>(fT T' z).2.2 p (List.mem_append_left _ hp)⟩
    have hst:=Iu.stack
    have hfs:=Iu.ok.frames
    rw [hstk] at hst hfs
    refine qjM (base:=X.base) hfs hst hfr F fun h1 T1 F1 n1 k1=>?_
    rw [← hstk] at k1
    have I1:Inv X pins σ' H' { s' with heap:=h1 }:=Iu.passed k1 fe' fT' F.obj (fun T' z=>by subst z;exact F.note)
    have fT1:X.s₀.heap.get? T1=none∧H' T1=none∧∀ p∈X.pn++pins,p.1≠T1:=⟨Heap.get?_none_of_le (Nat.le_trans Iu.sz n1),Iu.hok.fresh n1,fun p hp z=>absurd (Heap.lt_size (Iu.pin p hp).1) (by rw [z];exact Nat.not_lt.mpr n1)⟩
    refine qhg (s:={ s' with heap:=h1 }) F1 fun h2 F2 k2 n2=>?_
    have I2:Inv X pins σ' H' { s' with heap:=h2 }:=I1.passed (qeT k2 F1.note (qdJ I1)) fe' (fun T' z=>by cases z;exact fT1) F1.obj (fun T' z=>by cases z;exact F1.note)
    exact hh.ph hK pins _ σ' H' D ea T1 C dx xd Φ0 H0 Φ' ρ' De I2 F2 hnm hat fe' fT1 g' V' hth k
  · cases f with
    | next=>obtain ⟨σ',H',J,q⟩:=hf;exact wpAny_execs_nil ⟨σ',H',Inv.untried I.ok J,q⟩
    | brk=>obtain ⟨σ',H',J,q⟩:=hf;exact ⟨σ',H',Inv.untried I.ok J,q⟩
    | cont=>obtain ⟨σ',H',J,q⟩:=hf;exact ⟨σ',H',Inv.untried I.ok J,q⟩
    | ret u=>obtain ⟨v,σ',H',J,rv,q⟩:=hf;exact ⟨v,σ',H',Inv.untried I.ok J,rv,q⟩⟩
end
section
variable {M : Model} {prog : Program} {w : World} {A : Around} {E : Value → Shared → Prop} {h : Heap} {g : Array GenState} {d : Drawn} {t : Nat} {os : OsState} {a : Addr} {o : Obj} {vs : Array Value}
  {nm q:Str} {C N:Addr} {bs bm:List Value} {hdct:Bool} {sn:List Str} {sub:List Value} {ab:Bool} {col:Option Bool} {dd:Option Addr} {k0 k1 k2 k3 k5:Option Value} {newId:String} {mN:Str→Option Value} {name:Str}
theorem qgK {y:Option Value} {Q:Option Value→Shared→Prop} (hm:name∈excNames) (T:TailN h bm) (hr:lookupAlong bmV name=pure y) (hq:Q y ⟨h,g,d,t,os⟩):wpAny M A (lookupAlong bm name) Q E ⟨h,g,d,t,os⟩:=by
  induction T with
  | base=>rw [hr];exact wpAny_pure hq
  | own hA hN hn _ ih =>
    rw [lookupAlong_cons]
    refine wpAny_bind (wpAny_classOwn_cls hA hN ?_)
    rw [hn name hm]
    exact ih
theorem qbj {y:Option Value} {Q:Option Value→Shared→Prop} (hm:name∈excNames) (hC:h.get? C=some (excClassObj nm q C N bs bm hdct sn sub ab col dd k0 k1 k2 k3 k5 newId)) (hn:h.Ns N mN) (hmN:mN name=none) (T:TailN h bm) (hB:typeLookup (.type "ValueError") name=pure y)
    (hq:Q y ⟨h,g,d,t,os⟩):wpAny M A (typeLookup (.ref C) name) Q E ⟨h,g,d,t,os⟩:=by
  have hr:lookupAlong bmV name=pure y:=by rw [typeLookup_eq,PySem.F.excBase_ValueError.mroIs] at hB;exact hB
  rw [typeLookup_eq]
  refine wpAny_bind (wpAny_mroOf_exc hC ?_)
  rw [lookupAlong_cons]
  refine wpAny_bind (wpAny_classOwn_exc hC hn ?_)
  rw [hmN]
  exact qgK hm T hr hq
theorem ql0:typeLookup (.type "ValueError") "__class__"=pure (some (.builtin "object.__class__")):=by rw [typeLookup_type,builtinLookup_eq_fast];kernel_rfl
theorem qer {R:Result→Shared→Prop} (hC:h.get? C=some (excClassObj nm q C N bs bm hdct sn sub ab col dd k0 k1 k2 k3 k5 newId)) (T:TailN h bm) (hx:h.get? a=some o) (hc:o.cls=.ref C) (hq:R (.ok (.ret (.ref C))) ⟨h,g,d,t,os⟩) :
    codeAny (model prog w) A (.call (.builtin "getset_descriptor.__get__") ⟨[.builtin "object.__class__",.ref a,.ref C],[]⟩) R ⟨h,g,d,t,os⟩:=by
  have hT5:(⟨h,g,d,t,os⟩:Shared).TypeIs (.builtin "object.__class__") "getset_descriptor":=F.typeOf_object_class
  have hcB:(Value.ref C::bm).contains (.type (".".intercalate ("object.__class__".cutAt '.').dropLast))=true:=by
    rw [F.owner_object_class,List.contains_cons,T.tail.hasType (X:="object") (b:=true) (by decide +kernel),Bool.or_true]
  refine codeAny_call_builtin F.slot_gs_get.plain F.entry_gs_get (F.slot_gs_get.check _ _ _ _ _ _ _ _ hT5 (F.args_gs_get _ _ _) ?_)
  repeat (any_goals (first | assumption | (with_reducible refine wpAny_loadPart_at hx ?_;rw [hc]) | (with_reducible refine wpAny_isSubtype_exc hC ?_;rw [hcB]) | wp_step))
  refine ⟨Code.quiet_builtin _ (by decide +kernel),codeAny_builtin F.entry_object_class ?_⟩
  repeat (any_goals (first | assumption | (with_reducible refine wpAny_loadPart_at hx ?_;rw [hc]) | wp_step))
theorem qcX {nameV:Value} {Q:Unit→Shared→Prop} (hC:h.get? C=some (excClassObj nm q C N bs bm hdct sn sub ab col dd k0 k1 k2 k3 k5 newId)) (T:TailN h bm) (hx:h.get? a=some o) (hc:o.cls=.ref C) (hq:Q () ⟨h,g,d,t,os⟩):wpAny M A (checkBuiltinCall "BaseException.__getattribute__" ⟨[.ref a,nameV],[]⟩) Q E ⟨h,g,d,t,os⟩:=by
  have hk:builtinKind "BaseException.__getattribute__"=some .slot:=by decide +kernel
  have hsplit:splitId "BaseException.__getattribute__"=some ("BaseException","__getattribute__"):=by decide +kernel
  have hcB:(Value.ref C::bm).contains (.type "BaseException")=true:=by rw [List.contains_cons,T.tail.hasType (X:="BaseException") (b:=true) (by decide +kernel),Bool.or_true]
  have ha:=F.args_bexc_ga (.ref a) nameV
  simp only [checkBuiltinCall,hk,hsplit]
  refine wpAny_bind ?_
  unfold isInstance
  repeat (first | (with_reducible refine wpAny_loadPart_at hx ?_;rw [hc]) | (with_reducible refine wpAny_isSubtype_exc hC ?_;rw [hcB]) | wp_step)
  exact hq
theorem qdu {tk:Tok} {Q:Fin→Shared→Prop} (hC:h.get? C=some (excClassObj nm q C N bs bm hdct sn sub ab col dd k0 k1 k2 k3 k5 newId)) (hN:h.Ns N mN) (hmN:mN "__class__"=none) (T:TailN h bm) (hx:h.get? a=some o) (hc:o.cls=.ref C) (hq:Q (.done (.ret (.ref C))) ⟨h,g,d,t,os⟩) :
    wpAny (model prog w) A (Builtin.«object.__getattribute__» ⟨[.ref a,.str "__class__" tk],[]⟩) Q E ⟨h,g,d,t,os⟩:=by
  have hT5:(⟨h,g,d,t,os⟩:Shared).TypeIs (.builtin "object.__class__") "getset_descriptor":=F.typeOf_object_class
  have f5:=F.typeOf_object_class
  have f6:=F.slot_gs_get.lookup
  have f7:=F.slot_gs_set.lookup
  have hm:("__class__":Str)∈excNames:=by simp
  repeat (any_goals (first | assumption | (with_reducible refine wpAny_loadPart_at hx ?_;rw [hc]) | with_reducible refine qbj hm hC hN hmN T ql0 ?_ | wp_step))
  refine qer hC T hx hc ?_
  repeat (any_goals (first | assumption | wp_step))
theorem qeY {tk:Tok} {fill expr:Bool} {Q:Value→Shared→Prop} (hC:h.get? C=some (excClassObj nm q C N bs bm hdct sn sub ab col dd k0 k1 k2 k3 k5 newId)) (hN:h.Ns N mN) (hmN:∀ n∈excNames,n≠"__init__"→mN n=none) (T:TailN h bm) (hx:h.get? a=some o) (hc:o.cls=.ref C) (hq:Q (.ref C) ⟨h,g,d,t,os⟩) :
    wpAny (model prog w) A (getAttrBy (.ref a) (.str "__class__" tk) fill expr) Q E ⟨h,g,d,t,os⟩:=by
  have f3:=PySem.F.attrBase_ValueError.ga.bind (.ref a)
  have hx0:(expr && onTheHeap (Value.builtin "BaseException.__getattribute__"))=false:=by cases expr <;> rfl
  have hx2:(Value.builtin "BaseException.__getattribute__" == Value.builtin "object.__getattribute__")=false:=by decide +kernel
  have hx1:(onTheHeap (Value.ref C) && Value.builtin "BaseException.__getattribute__" == Value.builtin "object.__getattribute__")=false:=by rw [hx2];rfl
  have hm1:("__getattribute__":Str)∈excNames:=by simp
  have hm2:("__getattr__":Str)∈excNames:=by simp
  have n1:=hmN "__getattribute__" hm1 (by decide)
  have n2:=hmN "__getattr__" hm2 (by decide)
  have n3:=hmN "__class__" (by simp) (by decide)
  repeat (any_goals (first | assumption | (with_reducible refine wpAny_loadPart_at hx ?_;rw [hc]) | with_reducible refine qbj hm1 hC hN n1 T PySem.F.attrBase_ValueError.ga.lookup ?_ | with_reducible refine qbj hm2 hC hN n2 T PySem.F.attrBase_ValueError.noGetattr ?_ | wp_step))
  refine codeAny_call_builtin PySem.F.attrBase_ValueError.ga.plain F.entry_bexc_ga (qcX hC T hx hc (qdu hC hN n3 T hx hc ?_))
  repeat (any_goals (first | assumption | wp_step))
theorem qd1 {Q:Option Value→Shared→Prop} (hC:h.get? C=some (excClassObj nm q C N bs bm hdct sn sub ab col dd k0 k1 k2 k3 k5 newId)) (hN:h.Ns N mN) (hmN:∀ n∈excNames,n≠"__init__"→mN n=none) (T:TailN h bm) (hx:h.get? a=some o) (hc:o.cls=.ref C) (hq:Q (some (.ref C)) ⟨h,g,d,t+1,os⟩) :
    wpAny (model prog w) A (getAttr? (.ref a) "__class__") Q E ⟨h,g,d,t,os⟩:=by
  unfold getAttr? getAttrBy?
  repeat (any_goals (first | assumption | with_reducible apply qeY hC hN hmN T hx hc | wp_step))
end
def qoM (a C:Addr) (h:Heap):Prop:=∃ o,h.get? a=some o∧o.cls=.ref C
theorem qjv {K:PySem.W.Frag} {a C:Addr} (hC:∀ h:Heap,K.In h→∃ i,ExcAt h C i):PySem.W.KitX K (.ref a) (.ref C) (qoM a C) where
  ty:=fun M h _ p=>by
    obtain ⟨o,h1,h2⟩:=p
    exact h2 ▸ (PySem.W.Looks.ld h1).andThen .now
  it:=fun _ h X _=>by
    obtain ⟨i,hc⟩:=hC h X
    obtain ⟨nm,q,N,bs,bm,sn,sub,ab,col,dd,k0,k1,k2,k3,k5,mN,c1,_⟩:=hc.ex
    intro A' Q' E' s' k q
    unfold isType loadHead
    exact wpAny_bind (wpAny_loadPart (k _ _ c1) (wpAny_pure q))
  ne:=fun h tp dd its n sl X htp=>by
    obtain ⟨i,hc⟩:=hC h X
    obtain ⟨nm,q,N,bs,bm,sn,sub,ab,col,dd,k0,k1,k2,k3,k5,mN,c1,_⟩:=hc.ex
    refine Bool.eq_false_iff.mpr fun q=>?_
    have e:C=tp:=Value.ref.inj (beq_iff_eq.mp q)
    rw [e,htp] at c1
    have z:=congrArg Obj.data (Option.some.inj c1)
    cases z
  ca:=fun {prog w A E Q s} X p k=>by
    obtain ⟨o,h1,h2⟩:=p
    obtain ⟨i,hc⟩:=hC _ X
    obtain ⟨nm,q,N,bs,bm,sn,sub,ab,col,dd,k0,k1,k2,k3,k5,mN,c1,c2,c3,c4,c5⟩:=hc.ex
    obtain ⟨hp,g,d,t,os⟩:=s
    exact qd1 c1 c2 c4 c5 h1 h2 k
structure Isa (K:PySem.W.Frag) (mg:Str→Option Value) (isa:Str→Str→Bool) (names:List Str):Prop where
  own:∀ nm∈names,∀ c∈names,∀ C D,mg nm=some (.ref C)→mg c=some (.ref D)→PySem.W.kitOne K (.ref C) (.ref D)=some (isa nm c)
  val:∀ nm∈names,∀ C,mg nm=some (.ref C)→PySem.W.kitOne K (.ref C) (.type "ValueError")=some true
  mgK:∀ nm∈names,∀ C,PySem.W.nsIn K mainGlobals nm=some (some (.ref C))→mg nm=some (.ref C)
section
variable {K : PySem.W.Frag} {X : Cx} {a : Expr} {ta : TD} {pos p : Pos} {isa : Str → Str → Bool} {names : List Str}
theorem qma {pins:List (Addr × Obj)} {σ:St} {H Φ:Hp} {s:Shared} {nm:Str} {ats:List D} {v:V} (I:Inv X pins σ H s) (sm:Same Φ H) (r:Rp K Φ (.exc nm ats) v):∃ ea C,v=.ref ea∧PySem.W.nsIn K mainGlobals nm=some (some (.ref C))∧qoM ea C s.heap:=by
  cases r with
  | @exc0 ea C _ h0 h1 =>
    obtain ⟨⟨o,vs,z1,z2,_⟩,_⟩:=(show ObjOk X.prog X.w H s.heap ea (.ext (qg5 ea C none)) from I.hok ea _ (sm _ _ h1))
    exact ⟨ea,C,rfl,h0,o,z1,z2⟩
  | @exc1 ea C p _ w d h0 h1 h2 h3 =>
    obtain ⟨⟨o,vs,z1,z2,_⟩,_⟩:=(show ObjOk X.prog X.w H s.heap ea (.ext (qg5 ea C (some p))) from I.hok ea _ (sm _ _ h1))
    exact ⟨ea,C,rfl,h0,o,z1,z2⟩
def qpp (K:PySem.W.Frag) (X:Cx):List V→Hp→VK→Prop:=fun vs H Q=>∃ Φ nm ats v c u C b,vs=[v,c]∧Same Φ H∧Rp K Φ (.exc nm ats) v∧RelV c u∧PySem.W.nsIn K mainGlobals nm=some (some (.ref C))∧(∀ h:Heap,X.K.In h→∃ i,ExcAt h C i)∧PySem.W.kitOne X.K (.ref C) u=some b∧Q (.bl b) H
theorem qh0 {c:V} {u u':Value} (h:RelV c u) (h':RelV c u') (hc:(∃ D,c=.ref D)∨∃ T,c=.ty T):u=u':=by
  rcases hc with ⟨D,rfl⟩ | ⟨T,rfl⟩
  · cases (show u=Value.ref D from h);cases (show u'=Value.ref D from h');rfl
  · cases (show u=Value.type T from h);cases (show u'=Value.type T from h');rfl
theorem qgu:qci X (.builtin "isinstance") (fun vs H Q=>(∃ v c,vs=[v,c]∧((∃ D,c=.ref D)∨∃ T,c=.ty T))∧qpp K X vs H Q):=by
  intro pins s σ H vs us Q I rv hq0
  obtain ⟨⟨v0,c0,e0,hk⟩,Φ,nm,ats,v,c,u,C,b,rfl,sm,r,ru,hns,hC,hkit,q⟩:=hq0
  cases e0
  obtain ⟨u1,u2,rfl,r1,r2⟩:∃ u1 u2,us=[u1,u2]∧RelV v0 u1∧RelV c0 u2:=by
    cases rv with
    | cons a rv=>cases rv with
      | cons b rv=>cases rv;exact ⟨_,_,rfl,a,b⟩
  obtain ⟨ea,C',rfl,hns',hx⟩:=qma I sm r
  rw [hns] at hns'
  cases hns'
  cases (show u1=Value.ref ea from r1)
  have:=qh0 ru r2 hk
  subst this
  exact PySem.W.kia_one (qjv hC) I.kIn hx hkit (fun z=>nomatch z) fun tk=>⟨.bl b,H,I.tok tk,rfl,q⟩
def qn7 (isa:Str→Str→Bool) (names:List Str) (c:Str) (t:TD):TD:=fun ρ R=>t ρ fun d=>∃ nm ats,d=.exc nm ats∧nm∈names∧R (.bl (isa nm c))
theorem qnS {c:Str} {D:Addr} {np:Pos} (Ex:Exs X.K X.mg isa names) (Is:Isa X.K X.mg isa names) (hc:c∈names) (hgc:Gl X c) (hm:X.mg c=some (.ref D)) (hg:Gl X "isinstance") (hmi:X.mg "isinstance"=none) (ha:PD K X a ta)
    (he:starEach [a,.Name c np] X.env=(false,eval a X.env)::starEach [.Name c np] X.env) (he2:starEach [.Name c np] X.env=(false,eval (.Name c np) X.env)::starEach [] X.env) (hdb:(c == ("__debug__":Str))=false:=by decide):PD K X (.Call (.Name "isinstance" p) [a,.Name c np] [] pos) (qn7 isa names c ta) :=
  ⟨fun hK=>(qcz (qgu (K:=K)) hg hmi boot_isinstance (qaZ (ha.pe hK) (qaZ (qhH (v:=.ref D) hgc hm rfl hdb) pa_nil he2) he) (by decide) (by decide) he (qai he2 qaf)).imp fun σ H Q hq0=>by
    obtain ⟨H0,Φ,ρ,R,E,t,k⟩:=hq0
    refine ⟨H0,Φ,ρ,_,E,t,fun d Φ1 H1 v r g rv=>?_⟩
    obtain ⟨nm,ats,rfl,hin,r⟩:=r
    obtain ⟨C,hns⟩:∃ C,PySem.W.nsIn K mainGlobals nm=some (some (.ref C)):=by
      cases rv with
      | exc0 h0 _=>exact ⟨_,h0⟩
      | exc1 h0 _ _ _=>exact ⟨_,h0⟩
    have hmg:=Is.mgK nm hin C (hK ▸ hns)
    exact ⟨⟨v,.ref D,rfl,.inl ⟨D,rfl⟩⟩,Φ1,nm,ats,v,.ref D,.ref D,C,_,rfl,g.s,rv,rfl,hns,fun h hin'=>Ex.cls nm hin C hmg h hin',Is.own nm hin c hc C D hmg hm,k _ Φ1 H1 _ r g (.bl _)⟩⟩
theorem qov {np:Pos} (Ex:Exs X.K X.mg isa names) (Is:Isa X.K X.mg isa names) (hgv:Gl X "ValueError") (hmv:X.mg "ValueError"=none) (hg:Gl X "isinstance") (hmi:X.mg "isinstance"=none) (ha:PD K X a ta)
    (he:starEach [a,.Name "ValueError" np] X.env=(false,eval a X.env)::starEach [.Name "ValueError" np] X.env) (he2:starEach [.Name "ValueError" np] X.env=(false,eval (.Name "ValueError" np) X.env)::starEach [] X.env):PD K X (.Call (.Name "isinstance" p) [a,.Name "ValueError" np] [] pos) (qn7 (fun _ _=>true) names "ValueError" ta) :=
  ⟨fun hK=>(qcz (qgu (K:=K)) hg hmi boot_isinstance (qaZ (ha.pe hK) (qaZ (qcQ (v:=.ty "ValueError") (u:=.type "ValueError") hgv hmv (by kernel_rfl) rfl) pa_nil he2) he) (by decide) (by decide) he (qai he2 qaf)).imp fun σ H Q hq0=>by
    obtain ⟨H0,Φ,ρ,R,E,t,k⟩:=hq0
    refine ⟨H0,Φ,ρ,_,E,t,fun d Φ1 H1 v r g rv=>?_⟩
    obtain ⟨nm,ats,rfl,hin,r⟩:=r
    obtain ⟨C,hns⟩:∃ C,PySem.W.nsIn K mainGlobals nm=some (some (.ref C)):=by
      cases rv with
      | exc0 h0 _=>exact ⟨_,h0⟩
      | exc1 h0 _ _ _=>exact ⟨_,h0⟩
    have hmg:=Is.mgK nm hin C (hK ▸ hns)
    exact ⟨⟨v,.ty "ValueError",rfl,.inr ⟨_,rfl⟩⟩,Φ1,nm,ats,v,.ty "ValueError",.type "ValueError",C,_,rfl,g.s,rv,rfl,hns,fun h hin'=>Ex.cls nm hin C hmg h hin',Is.val nm hin C hmg,k _ Φ1 H1 _ r g (.bl _)⟩⟩
end
section
variable {M : Model} {prog : Program} {w : World} {A : Around} {E : Value → Shared → Prop} {h : Heap} {g : Array GenState} {d : Drawn} {t : Nat} {os : OsState} {a p : Addr} {o : Obj} {vs : Array Value} {v : Value}
  {nm q:Str} {C N:Addr} {bs bm:List Value} {sn:List Str} {sub:List Value} {ab:Bool} {col:Option Bool} {dd:Option Addr} {k0 k1 k2 k3 k5:Option Value} {newId:String} {mN mA:Str→Option Value}
theorem qlP:typeLookup (.type "ValueError") "at"=pure none:=by rw [typeLookup_type,builtinLookup_eq_fast];kernel_rfl
theorem qeS {tk:Tok} {Q:Fin→Shared→Prop} (hC:h.get? C=some (excClassObj nm q C N bs bm true sn sub ab col dd k0 k1 k2 k3 k5 newId)) (hN:h.Ns N mN) (hmN:mN "at"=none) (T:TailN h bm) (hx:h.get? a=some o) (hc:o.cls=.ref C) (hd:o.data=.fields vs) (hp:o.dict=some p) (hA:h.Ns p mA) (hv:mA "at"=some v) (hq:Q (.done (.ret v)) ⟨h,g,d,t,os⟩) :
    wpAny (model prog w) A (Builtin.«object.__getattribute__» ⟨[.ref a,.str "at" tk],[]⟩) Q E ⟨h,g,d,t,os⟩:=by
  have hm:("at":Str)∈excNames:=by simp
  unfold Builtin.«object.__getattribute__»
  repeat (first | (with_reducible refine wpAny_loadPart_at hx ?_;rw [hc]) | with_reducible refine qbj hm hC hN hmN T qlP ?_ | wp_step)
  rw [hd]
  show wpAny _ _ (instanceDict a false) _ _ _
  unfold instanceDict
  repeat (first | (with_reducible refine wpAny_loadPart_at hx ?_;rw [hc]) | with_reducible refine wpAny_loadPart_at hC ?_ | wp_step)
  rw [hp]
  refine wpAny_pure ?_
  unfold Builtin.ObjectAttr.inDict
  repeat (first | (with_reducible refine wpAny_nsGet hA ?_;rw [hv]) | wp_step)
  exact hq
theorem qiv {tk:Tok} {fill expr:Bool} {Q:Value→Shared→Prop} (hC:h.get? C=some (excClassObj nm q C N bs bm true sn sub ab col dd k0 k1 k2 k3 k5 newId)) (hN:h.Ns N mN) (hmN:∀ n∈excNames,n≠"__init__"→mN n=none) (T:TailN h bm) (hx:h.get? a=some o) (hc:o.cls=.ref C) (hd:o.data=.fields vs) (hp:o.dict=some p) (hA:h.Ns p mA) (hv:mA "at"=some v) (hh:handedOut v=pure v) (hq:Q v ⟨h,g,d,t,os⟩) :
    wpAny (model prog w) A (getAttrBy (.ref a) (.str "at" tk) fill expr) Q E ⟨h,g,d,t,os⟩:=by
  have f3:=PySem.F.attrBase_ValueError.ga.bind (.ref a)
  have hx0:(expr && onTheHeap (Value.builtin "BaseException.__getattribute__"))=false:=by cases expr <;> rfl
  have hx2:(Value.builtin "BaseException.__getattribute__" == Value.builtin "object.__getattribute__")=false:=by decide +kernel
  have hx1:(onTheHeap (Value.ref C) && Value.builtin "BaseException.__getattribute__" == Value.builtin "object.__getattribute__")=false:=by rw [hx2];rfl
  have hm1:("__getattribute__":Str)∈excNames:=by simp
  have hm2:("__getattr__":Str)∈excNames:=by simp
  have n1:=hmN "__getattribute__" hm1 (by decide)
  have n2:=hmN "__getattr__" hm2 (by decide)
  have n3:=hmN "at" (by simp) (by decide)
  repeat (any_goals (first | assumption | (with_reducible refine wpAny_loadPart_at hx ?_;rw [hc]) | with_reducible refine qbj hm1 hC hN n1 T PySem.F.attrBase_ValueError.ga.lookup ?_ | with_reducible refine qbj hm2 hC hN n2 T PySem.F.attrBase_ValueError.noGetattr ?_ | wp_step))
  refine codeAny_call_builtin PySem.F.attrBase_ValueError.ga.plain F.entry_bexc_ga (qcX hC T hx hc (qeS hC hN n3 T hx hc hd hp hA hv ?_))
  repeat (any_goals (first | assumption | wp_step))
theorem qfH {expr:Bool} {Q:Value→Shared→Prop} (hC:h.get? C=some (excClassObj nm q C N bs bm true sn sub ab col dd k0 k1 k2 k3 k5 newId)) (hN:h.Ns N mN) (hmN:∀ n∈excNames,n≠"__init__"→mN n=none) (T:TailN h bm) (hx:h.get? a=some o) (hc:o.cls=.ref C) (hd:o.data=.fields vs) (hp:o.dict=some p) (hA:h.Ns p mA) (hv:mA "at"=some v) (hh:handedOut v=pure v) (hq:Q v ⟨h,g,d,t+1,os⟩) :
    wpAny (model prog w) A (getAttr (.ref a) "at" expr) Q E ⟨h,g,d,t,os⟩:=by
  unfold getAttr
  repeat (any_goals (first | assumption | with_reducible apply qiv hC hN hmN T hx hc hd hp hA hv hh | wp_step))
end
section
variable {K : PySem.W.Frag} {X : Cx} {a : Expr} {ta : TD} {pos : Pos} {isa : Str → Str → Bool} {names : List Str}
theorem qgS:handedOut .none=pure .none:=by rfl
theorem qgO (i:Int) (t:Tok):handedOut (.int i t)=pure (.int i t):=by rfl
def qix:D→Prop | .non=>True | .int _=>True | _=>False
def qpU (names:List Str) (t:TD):TD:=fun ρ R=>t ρ fun d=>∃ nm x,d=.exc nm [x]∧nm∈names∧qix x∧R x
theorem qnd (Ex:Exs X.K X.mg isa names) (Is:Isa X.K X.mg isa names) (ha:PD K X a ta) (hb:attributeBase a "at" X.env (eval a X.env)=eval a X.env:=by rfl):PD K X (.Attribute a "at" pos) (qpU names ta) :=
  ⟨fun hK=>by
    intro pins s σ H Q I hq0
    obtain ⟨H0,Φ,ρ,R,E,t,k⟩:=hq0
    refine qlq hb (thn (ha.pe hK pins s σ H _ I ⟨H0,Φ,ρ,_,E,t,fun d Φ1 H1 v r g rv=>(⟨Φ1,d,r,g,rv⟩:∃ Φ1 d,(∃ nm x,d=.exc nm [x]∧nm∈names∧qix x∧R x)∧Gr Φ H Φ1 H1∧Rp K Φ1 d v)⟩) fun u s1 hq1=>?_)
    obtain ⟨v,H1,I1,rv,Φ1,d,⟨nm,x,rfl,hin,hfl,hR⟩,g,r⟩:=hq1
    cases r with
    | @exc1 ea C p _ w _ h0 h1 h2 h3 =>
      obtain rfl:u=Value.ref ea:=rv
      have hmg:=Is.mgK nm hin C (hK ▸ h0)
      obtain ⟨i,hc⟩:=Ex.cls nm hin C hmg s1.heap I1.kIn
      obtain ⟨nm',q,N,bs,bm,sn,sub,ab,col,dd,k0,k1,k2,k3,k5,mN,c1,c2,c3,c4,c5⟩:=hc.ex
      obtain ⟨⟨o,vs,z1,z2,z3,z4⟩,_⟩:=(show ObjOk X.prog X.w H1 s1.heap ea (.ext (qg5 ea C (some p))) from I1.hok ea _ (g.s _ _ h1))
      obtain ⟨mA,n1,n2⟩:=(show ObjOk X.prog X.w H1 s1.heap p (.xd [("at",w)]) from I1.hok p _ (g.s _ _ h2))
      have hat:=n2 "at"
      have hl:([("at",w)]:List (Str × V)).lookup ("at":Str)=some w:=by rw [List.lookup_cons,beq_self_eq_true]
      rw [hl] at hat
      obtain ⟨u',e1,ru⟩:∃ u',mA "at"=some u'∧RelV w u':=by
        cases q:mA "at" with
        | none=>rw [q] at hat;exact hat.elim
        | some u'=>rw [q] at hat;exact ⟨u',rfl,hat⟩
      have hh:handedOut u'=pure u':=by
        cases h3 with
        | non=>cases (show u'=Value.none from ru);exact qgS
        | int j=>obtain ⟨t',e⟩:=(show ∃ t,u'=Value.int j t from ru);rw [e];exact qgO j t'
        | _=>exact hfl.elim
      obtain ⟨hp,gg,dr,tk,os⟩:=s1
      exact qfH c1 c2 c4 c5 z1 z2 z4 z3 n1.ns e1 hh ⟨w,H1,I1.tok _,ru,k x Φ1 H1 w hR g h3⟩⟩
end
open Builtin Builtin.ObjectAttr
section
variable {M : Model} {prog : Program} {w : World} {A : Around} {E : Value → Shared → Prop} {h : Heap} {g : Array GenState} {d : Drawn} {t : Nat} {os : OsState} {x : Addr} {o : Obj} {vs : Array Value} {v : Value}
  {nm q:Str} {C N:Addr} {bs bm:List Value} {sn:List Str} {sub:List Value} {ab:Bool} {col:Option Bool} {dd:Option Addr} {k0 k1 k2 k3 k5:Option Value} {newId:String} {mN:Str→Option Value}
theorem qfm (self:Value) {h:Heap} {bm:List Value} (T:TailN h bm):refuseLoop self "__setattr__" bm=pure ():=by
  induction T with
  | base=>exact F.store_ValueError.passes self
  | own _ _ _ _ ih=>rw [refuseLoop_ref];exact ih
theorem qeG {nameV:Value} {Q:Unit→Shared→Prop} (hC:h.get? C=some (excClassObj nm q C N bs bm true sn sub ab col dd k0 k1 k2 k3 k5 newId)) (T:TailN h bm) (hx:h.get? x=some o) (hc:o.cls=.ref C) (hq:Q () ⟨h,g,d,t,os⟩) :
    wpAny M A (checkBuiltinCall "object.__setattr__" ⟨[.ref x,nameV,v],[]⟩) Q E ⟨h,g,d,t,os⟩:=by
  have hcB:(Value.ref C::bm).contains (.type "object")=true:=by rw [List.contains_cons,T.tail.hasType (X:="object") (b:=true) (by decide +kernel),Bool.or_true]
  have ha:=F.store_ValueError.args (.ref x) nameV v
  simp only [checkBuiltinCall,F.store_ValueError.kind,F.store_ValueError.split]
  refine wpAny_bind ?_
  · unfold isInstance
    repeat (first | (with_reducible refine wpAny_loadPart_at hx ?_;rw [hc]) | (with_reducible refine wpAny_isSubtype_exc hC ?_;rw [hcB]) | wp_step)
    exact hq
structure Stored (h h':Heap) (x:Addr) (o:Obj) (p:Addr) (v:Value):Prop where
  at_:h'.get? x=some { cls:=o.cls,dict:=some p,data:=o.data,slots:=o.slots }
  ns:h'.Ns1 p (fun y=>if y="at" then some v else none)
  new:h.objs.size≤p
  keep:∀ b ob,b≠x→h.get? b=some ob→h'.get? b=some ob
theorem qdQ {tk:Tok} {Q:Fin→Shared→Prop} (hC:h.get? C=some (excClassObj nm q C N bs bm true sn sub ab col dd k0 k1 k2 k3 k5 newId)) (hN:h.Ns N mN) (hmN:mN "at"=none) (T:TailN h bm) (hx:h.get? x=some o) (hc:o.cls=.ref C) (hd:o.data=.fields vs) (hp:o.dict=none)
    (hq:∀ h' p tk',Stored h h' x o p v→Q (.done (.ret .none)) ⟨h',g,d,tk',os⟩):wpAny (model prog w) A (Builtin.«object.__setattr__» ⟨[.ref x,.str "at" tk,v],[]⟩) Q E ⟨h,g,d,t,os⟩:=by
  have hpass:=qfm (.ref x) T
  have hm:("at":Str)∈excNames:=by simp
  unfold Builtin.«object.__setattr__»
  repeat (first | rw [refuse_eq] | (rw [refuseLoop_ref,hpass]) | (with_reducible refine wpAny_loadPart_at hx ?_;rw [hc]) | with_reducible refine wpAny_mroOf_exc hC ?_ | with_reducible refine qbj hm hC hN hmN T qlP ?_ | wp_step)
  rw [hp]
  show wpAny _ _ (if (!true || !typeHasDict (Value.ref C))=true then pure none else match o.data with | Data.cls c=>pure none | _=>_) _ _ _
  rw [if_neg (by simp [typeHasDict]),hd]
  have hx1:(h.push { cls:=.type "dict",data:=.dict #[] }).get? x=some o:=Heap.get?_push_of_some _ hx
  have hxs:x≠h.objs.size:=Nat.ne_of_lt (Heap.lt_size hx)
  refine wpAny_bind (wpAny_alloc' ?_)
  refine wpAny_bind (wpAny_update' hx1 ?_)
  refine wpAny_pure ?_
  generalize hh2:((h.push { cls:=.type "dict",data:=.dict #[] }).update x fun o=>{ cls:=o.cls,dict:=some h.objs.size,data:=o.data,slots:=o.slots })=h2
  have gd:h2.get? h.objs.size=some { cls:=.type "dict",data:=.dict #[] }:=by
    rw [← hh2]
    exact (Heap.get?_update_ne _ _ _ _ hxs.symm).trans (Heap.get?_push_at rfl rfl)
  have gx:h2.get? x=some { cls:=o.cls,dict:=some h.objs.size,data:=o.data,slots:=o.slots }:=by
    rw [← hh2]
    refine Heap.get?_update_self _ hx1 ?_
    have hfr:=(Heap.get?_some_iff.mp hx).2
    obtain ⟨oc,od,odt,osl⟩:=o
    cases odt <;> first | rfl | exact hfr
  have go:∀ b ob,b≠x→h.get? b=some ob→h2.get? b=some ob:=fun b ob hb hbo=>by
    rw [← hh2]
    exact (Heap.get?_update_ne _ _ _ _ hb).trans (Heap.get?_push_of_some _ hbo)
  have nd:h2.Ns h.objs.size (fun _=>none):=⟨_,#[],_,gd,rfl,fun e he=>absurd he (by simp),fun _=>rfl⟩
  show wpAny _ _ (storeInDict h.objs.size (.str "at" tk) "at" v) _ _ _
  unfold storeInDict newKeyGuard
  refine wpAny_bind (wpAny_pure (wpAny_bind (wpAny_nsSet1 (Heap.Ns1.of_empty nd) fun h' hn' hs=>?_)))
  obtain ⟨oD,esD,epD,hoD,hdD,hcD⟩:=hn'.count (Within.cons "at" v Within.nil)
  refine wpAny_bind (wpAny_lookBehind hoD (by rw [hdD];exact pastItsLine_dict (Nat.le_trans hcD (by rw [List.length_cons,List.length_nil,sizeLine_eq];omega))) ?_)
  wp_walk
  exact hq h' h.objs.size _ ⟨(hs.2 x hxs).trans gx,hn',Nat.le_refl _,fun b ob hb hbo=>(hs.2 b (Nat.ne_of_lt (Heap.lt_size hbo))).trans (go b ob hb hbo)⟩
theorem qho {Q:Unit→Shared→Prop} (hC:h.get? C=some (excClassObj nm q C N bs bm true sn sub ab col dd k0 k1 k2 k3 k5 newId)) (hN:h.Ns N mN) (hmN:∀ n∈excNames,n≠"__init__"→mN n=none) (T:TailN h bm) (hx:h.get? x=some o) (hc:o.cls=.ref C) (hd:o.data=.fields vs) (hp:o.dict=none)
    (hq:∀ h' p tk',Stored h h' x o p v→Q () ⟨h',g,d,tk',os⟩):wpAny (model prog w) A (setAttr (.ref x) "at" v) Q E ⟨h,g,d,t,os⟩:=by
  have f3:=F.store_ValueError.slot.bind (.ref x)
  have hm:("__setattr__":Str)∈excNames:=by simp
  have n1:=hmN "__setattr__" hm (by decide)
  have n3:=hmN "at" (by simp) (by decide)
  unfold setAttr callSpecial? specialOf
  repeat (any_goals (first | assumption | (with_reducible refine wpAny_loadPart_at hx ?_;rw [hc]) | with_reducible refine qbj hm hC hN n1 T F.store_ValueError.slot.lookup ?_ | wp_step))
  refine codeAny_call_builtin F.store_ValueError.slot.plain F.store_ValueError.entry (qeG hC T hx hc (qdQ hC hN n3 T hx hc hd hp fun h' p tk' S=>?_))
  repeat (any_goals (first | assumption | wp_step))
  exact hq h' p tk' S
end
end L2
namespace L2
open PySem PySem.Spec PyProof.Rows
def qfy (a C t:Addr) (dx:Option Addr):Heap→Prop:=fun h=>∃ sl,h.get? a=some { cls:=.ref C,dict:=dx,data:=.fields #[.ref t,.none,.none,.none,.bool false,.none],slots:=sl }
section
variable {X : Cx} {pins : List (Addr × Obj)} {σ : St} {H : Hp} {s : Shared} {C t : Addr}
theorem Inv.stored {e p:Addr} {sl:Array (Option Value)} {v:Value} {y:V} {h':Heap} {t':Nat} (I:Inv X pins σ H s) (he:H e=some (.ext (qfy e C t none))) (S:Stored s.heap h' e { cls:=.ref C,dict:=none,data:=.fields #[.ref t,.none,.none,.none,.bool false,.none],slots:=sl } p v) (ry:RelV y v) :
    Inv X pins σ (upd (upd H p (.xd [("at",y)])) e (.ext (qfy e C t (some p)))) { s with heap:=h',toks:=t' }:=by
  have hpn:H p=none:=I.hok.fresh S.new
  have hpe:p≠e:=fun z=>by rw [z,he] at hpn;cases hpn
  have hsp:∀ b ob,s.heap.get? b=some ob→b≠p:=fun b ob hb z=>by
    subst z
    exact absurd (Heap.lt_size hb) (Nat.not_lt.mpr S.new)
  have ne:∀ {b:Addr},H b=none→b≠e:=fun {b} hb z=>by rw [z,he] at hb;cases hb
  refine I.un (h':=h') (t':=t') ⟨fun b ob q n _ _=>S.keep b ob (ne n) q,fun b ob q n _ _=>⟨ob.slots,S.keep b ob (ne n) q⟩,fun b ob q n _=>?_,fun b ob q _=>?_,fun b xs q=>?_,fun b ob xs q=>?_,fun b xs q=>?_⟩ fun b u q=>?_
  · rw [qal (ne n),qal (hsp b ob q)];exact n
  · by_cases c:b=e
    · rw [c];exact ⟨_,S.at_⟩
    · exact ⟨ob,S.keep b ob c q⟩
  · rw [qal (fun z=>by rw [z,he] at q;cases q),qal (fun z=>by rw [z,hpn] at q;cases q)];exact q
  · rw [qal (fun z=>by rw [z,he] at q;cases q),qal (fun z=>by rw [z,hpn] at q;cases q)];exact q
  · rw [qal (fun z=>by rw [z,he] at q;cases q),qal (fun z=>by rw [z,hpn] at q;cases q)];exact q
  · by_cases c:b=e
    · subst c
      rw [qaj] at q
      cases q
      exact ⟨⟨sl,S.at_⟩,⟨_,S.at_⟩,fun a b' ⟨w,z1⟩ kk=>⟨w,kk _ z1⟩⟩
    · rw [qal c] at q
      by_cases c2:b=p
      · subst c2
        rw [qaj] at q
        cases q
        refine ⟨_,S.ns,fun f=>?_⟩
        by_cases cf:f="at"
        · subst cf
          rw [List.lookup_cons,beq_self_eq_true]
          show RelO (some y) (if ("at":Str)="at" then some v else none)
          rw [if_pos rfl]
          exact ry
        · have:([("at",y)]:List (Str × V)).lookup f=none:=by
            rw [List.lookup_cons]
            have:(f == ("at":Str))=false:=by simpa using cf
            rw [this]
            rfl
          rw [this]
          show RelO none (if f="at" then some v else none)
          rw [if_neg cf]
          trivial
      · rw [qal c2] at q
        have keepT:∀ z u',H z=some u'→u'≠.ext (qfy e C t none)→z≠e:=fun z u' h1 h2 h3=>by rw [h3,he] at h1;exact h2 (Option.some.inj h1).symm
        refine (I.hok b u q).stay (fun z w' hz q'=>S.keep z w' ?_ q') (fun z hz=>?_) (fun z xs hz=>?_) (fun z ob w' hz=>?_)
        · rcases hz with rfl | hz
          · exact c
          · exact fun z2=>by rw [z2,he] at hz;cases hz
        · rw [qal (fun z2=>by rw [z2,he] at hz;cases hz),qal (fun z2=>by rw [z2,hpn] at hz;cases hz)];exact hz
        · rw [qal (fun z2=>by rw [z2,he] at hz;cases hz),qal (fun z2=>by rw [z2,hpn] at hz;cases hz)];exact hz
        · rw [qal (fun z2=>by rw [z2,he] at hz;cases hz),qal (fun z2=>by rw [z2,hpn] at hz;cases hz)];exact hz
def qhC (C t:Addr):Sp:=fun vs H Q _=>∃ e v,vs=[.ref e,v]∧H e=some (.ext (qfy e C t none))∧∀ p,H p=none→p≠e→Q .non (upd (upd H p (.xd [("at",v)])) e (.ext (qfy e C t (some p))))
def sAt (C t:Addr):TS:=fun D σ H=>∃ e v,σ=[some (.ref e),some v]∧H e=some (.ext (qfy e C t none))∧∀ p,H p=none→p≠e→D.nx σ (upd (upd H p (.xd [("at",v)])) e (.ext (qfy e C t (some p))))
theorem qnO {p1 p2 p3 p4:Pos} {i:Option Value} (hN:X.N=[("self":Str),("at":Str)]) (hC:∀ h:Heap,X.K.In h→ExcAt h C i) (hv1:Vis X.env.scope "self") (hv2:Vis X.env.scope "at") (hs:swapsWith (.Name "at" p3) (some (.Attribute (.Name "self" p1) "at" p2)) p4.line X.env=pure false):PS X (.Assign [.Attribute (.Name "self" p1) "at" p2] (.Name "at" p3) p4) (sAt C t):=by
  intro pins s σ H D I hq0
  obtain ⟨e,v,rfl,he,k⟩:=hq0
  have pat:PE X (.Name "at" p3) (qkM 1):=qhu (by rw [hN];rfl) hv2 (by decide) (by decide)
  have psf:PE X (.Name "self" p1) (qkM 0):=qhu (by rw [hN];rfl) hv1 (by decide) (by decide)
  refine plainObj_wpAny_Assign_Attribute (thn (pat pins s _ H (fun y H1=>y=v∧H1=H) I ⟨v,rfl,rfl,rfl⟩) fun u s1 hq1=>?_) hs
  obtain ⟨y,H1,I1,ry,e1,e2⟩:=hq1
  subst e1;subst e2
  refine thn (psf pins s1 _ H1 (fun x H2=>x=.ref e∧H2=H1) I1 ⟨_,rfl,rfl,rfl⟩) fun ov s2 hq2=>?_
  obtain ⟨x,H2,I2,rx,e3,e4⟩:=hq2
  subst e3;subst e4
  obtain rfl:ov=Value.ref e:=rx
  obtain ⟨nm,q,N,bs,bm,sn,sub,ab,col,dd,k0,k1,k2,k3,k5,mN,c1,c2,c3,c4,c5⟩:=(hC s2.heap I2.kIn).ex
  obtain ⟨⟨sl,z1⟩,_⟩:=(show ObjOk X.prog X.w H2 s2.heap e (.ext (qfy e C t none)) from I2.hok e _ he)
  obtain ⟨hp,gg,dr,tk,os⟩:=s2
  refine qho c1 c2 c4 c5 z1 rfl rfl rfl fun h' p tk' S=>?_
  have hpn:H2 p=none:=I2.hok.fresh S.new
  exact ⟨_,_,I2.stored (t':=tk') he S ry,k p hpn (fun z=>by rw [z,he] at hpn;cases hpn)⟩
end
section
variable {M : Model} {A : Around} {E : Value → Shared → Prop} {s : Shared} {env : Env} {C : Addr}
theorem qhq {x:Sem Value} {Q:Flow→Shared→Prop} (hh:A.handled=none)
    (h:wpAny M A x (fun v s₁=>∃ e t dx sl i,v=.ref e∧ExcAt s₁.heap C i∧s₁.heap.get? e=some { cls:=.ref C,dict:=dx,data:=.fields #[.ref t,.none,.none,.none,.bool false,.none],slots:=sl }∧E (.ref e) s₁) E s):wpAny M A (raiseStmt env (some x) none) Q E s:=by
  unfold raiseStmt
  refine wpAny_bind (wpAny_mono h (fun v s₁ h₁=>?_) fun _ _ x=>x)
  obtain ⟨e,t,dx,sl,i,rfl,hC,he,hE⟩:=h₁
  obtain ⟨nm,q,N,bs,bm,sn,sub,ab,col,dd,k0,k1,k2,k3,k5,mN,c1,c2,c3,c4,c5⟩:=hC.ex
  have hcB:(Value.ref C::bm).contains (.type "BaseException")=true:=by rw [List.contains_cons,c5.tail.hasType (X:="BaseException") (b:=true) (by decide +kernel),Bool.or_true]
  obtain ⟨hp,g,d,tk,os⟩:=s₁
  repeat (first | with_reducible refine wpAny_loadPart_at he ?_ | with_reducible refine wpAny_loadPart_at c1 ?_ | (with_reducible refine wpAny_isSubtype_exc c1 ?_;rw [hcB]) | wp_step)
  exact wpAny_raiseNew_none hh hE
end
section
variable {prog : Program} {w : World} {A : Around} {E : Value → Shared → Prop} {h : Heap} {g : Array GenState} {d : Drawn} {t : Nat} {os : OsState}
variable {C fI : Addr} {oI : Obj} {rest : List Value}
theorem qee {Q:Fin→Shared→Prop} (hC:ExcAt h C (some (.ref fI))) (hfI:h.get? fI=some oI) (hfc:oI.cls=.type "function") (hrest:rest.length≤sizeLine)
    (hq:∀ h' e,Heap.MadeExcOf h h' e (.ref C) rest→wpAny (model prog w) A (call (.ref fI) (.ref e::rest)) (fun r s'=>r=.none∧Q (.done (.ret (.ref e))) s') E ⟨h',g,d,t,os⟩) :
    wpAny (model prog w) A (Builtin.«type.__call__» ⟨.ref C::rest,[]⟩) Q E ⟨h,g,d,t,os⟩:=by
  obtain ⟨nm,q,N,bs,bm,sn,sub,ab,col,dd,k0,k1,k2,k3,k5,mN,c1,c2,c3,c4,c5⟩:=hC.ex
  repeat (first | with_reducible refine wpAny_loadPart_at c1 ?_ | with_reducible refine wpAny_madeBy_exc c1 ?_ | wp_step)
  refine codeAny_call_builtin_code (Code.quiet_builtin _ PySem.F.excBase_ValueError.quiet) (wpAny_check_new_subT PySem.F.excBase_ValueError c5.tail c1 ?_)
  refine codeAny_exc_new_subT PySem.F.excBase_ValueError c5.tail c1 ?_ hrest
  show wpAny _ _ _ _ _ _
  generalize hh2:((h.push { cls:=.type "tuple",data:=.seq rest.toArray }).push { cls:=.ref C,data:=.fields #[.ref h.objs.size,.none,.none,.none,.bool false,.none] })=h2
  have kp:∀ b o,h.get? b=some o→h2.get? b=some o:=fun b o hb=>by rw [← hh2];exact Heap.get?_push_of_some _ (Heap.get?_push_of_some _ hb)
  have hget:h2.get? (h.objs.size+1)=some { cls:=.ref C,data:=.fields #[.ref h.objs.size,.none,.none,.none,.bool false,.none] }:=by rw [← hh2];heap_get
  have htup:h2.get? h.objs.size=some { cls:=.type "tuple",data:=.seq rest.toArray }:=by rw [← hh2];exact Heap.get?_push_of_some _ (Heap.get?_push_at rfl rfl)
  have hcC:(Value.ref C::bm).contains (.ref C)=true:=by simp
  have c1':=kp _ _ c1
  unfold isInstance
  repeat (first | with_reducible refine wpAny_loadPart_at hget ?_ | (with_reducible refine wpAny_isSubtype_exc c1' ?_;rw [hcC]) | wp_step)
  show wpAny _ _ (typeLookup (.ref C) _) _ _ _
  refine wpAny_typeLookup_tail c1' (c2.keeps kp) (c5.keeps kp).tail PySem.F.excBase_ValueError.mroIs PySem.F.excBase_ValueError.init.lookup ?_
  rw [c3]
  refine wpAny_holding (wpAny_bind ?_)
  unfold bindSpecial
  refine wpAny_bind (wpAny_typeOf (T:="function") ⟨_,kp _ _ hfI,hfc⟩ ?_)
  rw [if_pos (by decide)]
  refine wpAny_pure (wpAny_bind (wpAny_mono (hq h2 (h.objs.size+1) ⟨kp,Heap.get?_none_of_le (Nat.le_succ _),h.objs.size,hget,Heap.get?_none_of_le (Nat.le_refl _),htup⟩) (fun r s' hr=>?_) fun _ _ x=>x))
  obtain ⟨rfl,hQ⟩:=hr
  wp_walk
  exact hQ
theorem qjt {Q:Value→Shared→Prop} (hC:ExcAt h C (some (.ref fI))) (hfI:h.get? fI=some oI) (hfc:oI.cls=.type "function") (hrest:rest.length≤sizeLine)
    (hq:∀ h' e,Heap.MadeExcOf h h' e (.ref C) rest→wpAny (model prog w) (A.under (.builtin "type.__call__" ⟨.ref C::rest,[]⟩)) (call (.ref fI) (.ref e::rest)) (fun r s'=>r=.none∧Q (.ref e) s') E ⟨h',g,d,t,os⟩) :
    wpAny (model prog w) A (call (.ref C) rest) Q E ⟨h,g,d,t,os⟩:=by
  obtain ⟨nm,q,N,bs,bm,sn,sub,ab,col,dd,k0,k1,k2,k3,k5,mN,c1,_⟩:=id hC.ex
  have f1:=tc_lookup
  have f2:=tc_bind (.ref C)
  have hT:(⟨h,g,d,t,os⟩:Shared).TypeIs (.ref C) "type":=⟨_,c1,rfl⟩
  refine wpAny_call (codeAny_of_tree ?_)
  show wpAny _ _ (callAny (.ref C) _) _ _ _
  repeat (any_goals (first | assumption | with_reducible refine wpAny_loadPart_at c1 ?_ | wp_step))
  refine ⟨rfl,?_⟩
  refine codeAny_call_builtin_at (Code.quiet_builtin _ (by decide +kernel)) entry_typeCall (wpAny_check_type_call_sub c1 (qee hC hfI hfc hrest fun h' e hm=>?_))
  exact hq h' e hm
end
section
variable {P : Program} {w : World} {K : PySem.W.Frag} {mg : Str → Option Value} {base : Heap} {CX : CXT} {k : Nat} {qual : Str} {st : Stmt} {f C t : Addr} {fd : FuncData} {i : Option Value} {p1 p2 p3 p4 : Pos}
theorem qku (F:Fun K "__init__" qual st f fd) (S:FnScope [("self":Str),("at":Str)] [("self":Str),("at":Str)] (qad st)) (hb:qaO st=[.Assign [.Attribute (.Name "self" p1) "at" p2] (.Name "at" p3) p4]) (hv1:Vis (qad st) "self") (hv2:Vis (qad st) "at")
    (hs:∀ env,swapsWith (.Name "at" p3) (some (.Attribute (.Name "self" p1) "at" p2)) p4.line env=pure false) (hC:∀ h:Heap,K.In h→ExcAt h C i):FnOk P w K mg base CX (k+1) f fd [("self":Str),("at":Str)] (qhC C t):=by
  obtain ⟨oc,od,kV,doc,pm,an,cdv,ct,osl,rfl,lk,hcd⟩:=F.ex
  refine qi9 lk hcd S (fun vs H Q E hq0=>?_) fun A outer s H vs Q E hr hq0=>⟨sAt C t,?_,?_⟩
  · obtain ⟨e,v,rfl,_⟩:=hq0
    rfl
  · rw [hb]
    exact qfS (qnO rfl hC hv1 hv2 (hs _))
  · obtain ⟨e,v,rfl,he,kk⟩:=hq0
    exact ⟨e,v,rfl,he,kk⟩
end
section
variable {X : Cx} {pins : List (Addr × Obj)} {σ : St} {H : Hp} {s : Shared} {K : PySem.W.Frag}
def qlv (H:Hp) (e:Addr):Hp:=fun b=>if b=e then none else H b
theorem qbZ {e b:Addr} (h:b≠e):qlv H e b=H b:=if_neg h
theorem qfa {e:Addr}:qlv H e e=none:=if_pos rfl
theorem qcu {e b:Addr} (h:H b=none):qlv H e b=none:=by unfold qlv;split <;> first | rfl | exact h
theorem Inv.drop {e:Addr} {φ:Heap→Prop} (I:Inv X pins σ H s) (he:H e=some (.ext φ)) (h0:X.s₀.heap.get? e=none):Inv X pins σ (qlv H e) s where
  ok:=I.ok
  os:=I.os
  bare:=I.bare
  base:=⟨I.base.keep,I.base.slot,fun b ob q n hx=>qcu (I.base.free b ob q n hx),I.base.there,
    fun b xs q=>by have:=I.base.tups b xs q;rw [qbZ (fun z=>by rw [z,he] at this;cases this)];exact this,
    fun b ob xs q=>by have:=I.base.frzs b ob xs q;rw [qbZ (fun z=>by rw [z,he] at this;cases this)];exact this,
    fun b ps q=>by have:=I.base.tbls b ps q;rw [qbZ (fun z=>by rw [z,he] at this;cases this)];exact this⟩
  loc:=I.loc
  cell:=I.cell
  free:=qcu I.free
  freeC x c h:=qcu (I.freeC x c h)
  pin p h:=by
    obtain ⟨a1,a2,a3⟩:=I.pin p h
    exact ⟨a1,qcu a2,a3⟩
  hok b u q:=by
    have hbe:b≠e:=fun z=>by rw [z,qfa] at q;cases q
    rw [qbZ hbe] at q
    exact (I.hok b u q).stay (fun _ _ _ q=>q) (fun z hz=>by rw [qbZ (fun z2=>by rw [z2,he] at hz;cases hz)];exact hz) (fun z xs hz=>by rw [qbZ (fun z2=>by rw [z2,he] at hz;cases hz)];exact hz) (fun z ob w' hz=>by rw [qbZ (fun z2=>by rw [z2,he] at hz;cases hz)];exact hz)
  len:=I.len
theorem qiB {C f:Addr} {fd:FuncData} {oI:Obj} {x:Str} {np cpos pos:Pos} {arg:Expr} {ta:TD} {n:Nat} (hcalm:X.calm=true) (hex:X.ex=[]) (hg:Gl X x) (hm:X.mg x=some (.ref C)) (hC:∀ h:Heap,X.K.In h→ExcAt h C (some (.ref f))) (hkp:PySem.W.keepIn X.K (.ref C)=true)
    (hfl:X.K.lookup f=some oI) (hfc:oI.cls=.type "function") (hF:∀ t,FnOk X.prog X.w X.K X.mg X.base CX0 n f fd [("self":Str),("at":Str)] (qhC C t)) (hb:Binds X.K fd [("self":Str),("at":Str)] []) (hr:Room (n+1) X.A) (ha:PD K X arg ta)
    (he:starEach [arg] X.env=(false,eval arg X.env)::starEach [] X.env) (hdb:(x == ("__debug__":Str))=false:=by decide) :
    PSM K X (.Raise (some (.Call (.Name x np) [arg] [] cpos)) none pos) (fun De ρ=>ta (prR ρ) fun d=>qix d∧De.ex ⟨x,some d⟩ ρ):=⟨fun hK=>by
  intro pins s σ H D I hq0
  obtain ⟨Φ0,H0,Φ,ρ,De,g,V,t,k⟩:=hq0
  rw [arm_exec_Raise]
  refine wpAny_bind (wpAny_standAt ?_)
  refine qhq (C:=C) (I.ok.hd hcalm) ?_
  refine wpAny_bind ?_
  refine wpAny_Call_Name_kw (qcn I hg hm ?_ hdb)
  have pa:=qaZ (ha.pe hK) pa_nil he
  refine PySem.W.callWith_K (h₀:=X.base) I.ok.mod.kin hkp (thn (pa cpos pins s σ H (fun vs H1=>∃ d Φ1 v,vs=[v]∧(qix d∧De.ex ⟨x,some d⟩ ρ)∧Gr Φ H Φ1 H1∧Rp K Φ1 d v) I ⟨_,Φ,prR ρ,_,V.toD,t,fun d Φ1 H1 v r g1 rv=>⟨d,Φ1,v,rfl,r,g1,rv⟩⟩) fun us s1 hq1=>?_) he qaf
  obtain ⟨vs,H1,I1,r,d,Φ1,v,rfl,⟨hfl',hx⟩,g1,rv⟩:=hq1
  obtain ⟨u,rfl,ru⟩:=qfQ r
  refine ⟨I1.kIn,?_⟩
  have hCs:=hC s1.heap I1.kIn
  obtain ⟨hp,gg,dr,tk,os⟩:=s1
  refine qjt hCs (I1.kIn _ _ hfl) hfc (by show 1≤sizeLine;rw [sizeLine_eq];decide) fun h' e hmk=>?_
  obtain ⟨tt,t1,t2,t3⟩:=hmk.there
  have I2:=I1.more hmk.keeps
  have hno:H1 e=none:=I1.hok.no hmk.new
  have hold:=I1.old hex hmk.new
  have hpin:∀ p∈X.pn++pins,p.1≠e:=fun p hp' z=>by have:=(I1.pin p hp').1;rw [z,show hp.get? e=none from hmk.new] at this;cases this
  have hloc:X.env.locals≠e:=fun z=>by
    obtain ⟨m,⟨o',es,ep,ho',_⟩,_⟩:=I1.loc
    rw [z,show hp.get? e=none from hmk.new] at ho';cases ho'
  have hcel:∀ y c,X.env.cells.lookup y=some c→c≠e:=fun y c hc z=>by
    obtain ⟨w',o',ho',_⟩:=I1.cell y c hc
    rw [z,show hp.get? e=none from hmk.new] at ho';cases ho'
  have I3:=I2.knowX (o:=.ext (qfy e C tt none)) hold hno hpin hloc hcel ⟨⟨_,t1⟩,⟨_,t1⟩,fun a b ⟨w',z1⟩ kk=>⟨w',kk _ z1⟩⟩
  have r2:Vals [L2.V.ref e,v] [Value.ref e,u]:=.cons rfl (.cons ru .nil)
  have hB:=hb _ [Value.ref e,u] I3.kIn rfl
  rw [List.append_nil] at hB
  refine wpAny_call (codeAny_mono ((hF tt).run _ X.stack _ _ ⟨[Value.ref e,u],[]⟩ [Value.ref e,u] [L2.V.ref e,v] (fun v' H'=>v'=.non∧∃ p,upd H1 e (.ext (qfy e C tt none)) p=none∧p≠e∧H'=upd (upd (upd H1 e (.ext (qfy e C tt none))) p (.xd [("at",v)])) e (.ext (qfy e C tt (some p)))) E0 (hr.make C [u] []) (I3.env0.make C [u] []) hB r2 ⟨e,v,rfl,qaj,fun p hp1 hp2=>⟨rfl,p,hp1,hp2,rfl⟩⟩) fun res s' hq'=>?_)
  cases res with
  | error z=>exact hq'.elim
  | ok fl =>
    cases fl with
    | ret u' =>
      obtain ⟨v',H',J,ru',rfl,p,hp1,hp2,rfl⟩:=I3.after hq'
      cases (show u'=Value.none from ru')
      have hpn:H1 p=none:=by rw [qal hp2] at hp1;exact hp1
      obtain ⟨⟨sl,z1⟩,_⟩:=(show ObjOk X.prog X.w _ s'.heap e (.ext (qfy e C tt (some p))) from J.hok e _ qaj)
      have Jd:=J.drop qaj hold
      have eH:qlv (upd (upd (upd H1 e (.ext (qfy e C tt none))) p (.xd [("at",v)])) e (.ext (qfy e C tt (some p)))) e=upd H1 p (.xd [("at",v)]):=by
        funext b
        by_cases cb:b=e
        · rw [cb,qfa,qal (Ne.symm hp2)];exact hno.symm
        · rw [qbZ cb,qal cb]
          by_cases cp:b=p
          · rw [cp,qaj,qaj]
          · rw [qal cp,qal cp,qal cb]
      rw [eH] at Jd
      have gF:Gr Φ1 H1 Φ1 (upd H1 p (.xd [("at",v)])):=Gr.fresh g1.s hpn _
      have rvf:Rp X.K (fun _=>none) d v:=by
        cases rv with
        | non=>exact .non
        | int j=>exact .int j
        | _=>exact hfl'.elim
      refine ⟨rfl,wpAny_bind (wpAny_standAt (wpAny_pure ⟨e,tt,some p,sl,_,rfl,hC s'.heap J.kIn,z1,?_⟩))⟩
      refine k.ex ⟨x,some d⟩ ρ Φ1 _ σ _ _ pins hx (g.trans (g1.trans gF)) ((V.gr g1).gr gF) ⟨Jd,e,C,none,some p,rfl,⟨_,_,z1,rfl,rfl,rfl,rfl⟩,hm,⟨p,v,rfl,qaj,rvf⟩,⟨hold,?_,hpin⟩,fun T' z=>(by cases z)⟩
      rw [qal (Ne.symm hp2)];exact hno
    | _=>exact hq'.elim⟩
end
section
variable {K : PySem.W.Frag} {h : Heap} {N C : Addr}
def qm1 (v:Value):Bool:=match v with | .str _ _=>true | _=>false
def qej (K:PySem.W.Frag) (N:Addr):Bool:=match K.lookup N with
  | some ⟨_,_,.dict es _,_⟩=>es.toList.all fun e=>qm1 e.key
  | _=>false
def noName (K:PySem.W.Frag) (N:Addr) (n:Str):Bool:=match PySem.W.nsIn K N n with | some none=>true | _=>false
theorem noName.is {n:Str} (h:noName K N n=true):PySem.W.nsIn K N n=some none:=by
  unfold noName at h
  split at h
  · assumption
  · cases h
theorem qmU (X:K.In h) (e:qej K N=true):∃ mN,h.Ns N mN∧∀ n r,PySem.W.nsIn K N n=some r→mN n=r:=by
  unfold qej at e
  split at e
  · rename_i c d es ep sl ho
    have sk:StrKeys es:=fun en hen=>by
      have hk:=List.all_eq_true.mp e en (Array.mem_toList_iff.mpr hen)
      cases q:en.key <;> rw [q] at hk <;> first | exact ⟨_,_,rfl⟩ | cases hk
    have G:h.Ns N (fun n=>nsFind es n):=⟨_,es,ep,X _ _ ho,rfl,sk,fun _=>rfl⟩
    refine ⟨_,G,fun n r hn=>?_⟩
    cases r with
    | none =>
      unfold PySem.W.nsIn at hn
      rw [ho] at hn
      dsimp only at hn
      split at hn
      · cases hn
      · rename_i he
        show nsFind es n=none
        unfold nsFind findBy
        rw [← Array.find?_toList,he]
        rfl
    | some v =>
      unfold PySem.W.nsIn at hn
      rw [ho] at hn
      dsimp only at hn
      split at hn
      · rename_i en he
        cases hn
        show nsFind es n=some en.val
        unfold nsFind findBy
        rw [← Array.find?_toList,he]
        rfl
      · split at hn <;> cases hn
  · cases e
def isBmV (l:List Value):Bool:=match l with
  | [.type a,.type b,.type c,.type d]=>a == "ValueError" && b == "Exception" && c == "BaseException" && d == "object"
  | _=>false
theorem isBmV.is {l:List Value} (h:isBmV l=true):l=bmV:=by
  unfold isBmV at h
  split at h
  · rw [Bool.and_eq_true,Bool.and_eq_true,Bool.and_eq_true] at h
    obtain ⟨⟨⟨h1,h2⟩,h3⟩,h4⟩:=h
    rw [eq_of_beq h1,eq_of_beq h2,eq_of_beq h3,eq_of_beq h4]
  · cases h
def refOf (v:Value):Option Addr:=match v with | .ref A=>some A | _=>none
theorem refOf.is {v:Value} {A:Addr} (h:refOf v=some A):v=.ref A:=by
  cases v <;> first | (cases h;rfl) | cases h
def tailOk (K:PySem.W.Frag):List Value→Bool
  | []=>false
  | v::tl=>(match refOf v with
    | some A=>(match K.lookup A with
      | some ⟨_,_,.cls cd,_⟩=>qej K cd.ns && excNames.all (noName K cd.ns) && tailOk K tl
      | _=>false)
    | none=>isBmV (v::tl))
theorem tailOk.tail (X:K.In h):∀ {l:List Value},tailOk K l=true→TailN h l
  | [],e=>by cases e
  | v::tl,e=>by
    unfold tailOk at e
    split at e
    · rename_i A hv
      rw [refOf.is hv]
      split at e
      · rename_i c d cd sl ho
        rw [Bool.and_eq_true,Bool.and_eq_true] at e
        obtain ⟨⟨e1,e2⟩,e3⟩:=e
        obtain ⟨mN,G,k⟩:=qmU X e1
        exact .own (X _ _ ho) G (fun n hn=>k n none (noName.is (List.all_eq_true.mp e2 n hn))) (tailOk.tail X e3)
      · cases e
    · rw [isBmV.is e];exact .base
def clsOk (K:PySem.W.Frag) (C:Addr):Bool:=match K.lookup C with
  | some ⟨.type t,_,.cls ⟨_,_,v::bm,N,_,hd,_,_,_,_,hdel⟩,⟨[_,_,_,_,some (.builtin b),_]⟩⟩ =>
    t == "type" && b == "ValueError.__new__" && hd && !hdel && (v == .ref C) && qej K N && (excNames.all fun n=>n == "__init__" || noName K N n) && tailOk K bm && (PySem.W.nsIn K N "__init__").isSome
  | _=>false
def qd3 (K:PySem.W.Frag) (C:Addr):Option (Option Value):=match K.lookup C with
  | some ⟨_,_,.cls cd,_⟩=>PySem.W.nsIn K cd.ns "__init__"
  | _=>none
theorem clsOk.at (X:K.In h) {i:Option Value} (e:clsOk K C=true) (hi:qd3 K C=some i):ExcAt h C i:=by
  unfold clsOk at e
  split at e
  · rename_i t dd nm bs v bm N q hd sn sub ab col hdel k0 k1 k2 k3 b k5 ho
    unfold qd3 at hi
    rw [ho] at hi
    simp only [Bool.and_eq_true] at e
    obtain ⟨⟨⟨⟨⟨⟨⟨⟨e1,e2⟩,e3⟩,e4⟩,e5⟩,e6⟩,e7⟩,e8⟩,e9⟩:=e
    obtain ⟨mN,G,k⟩:=qmU X e6
    have h1:=eq_of_beq e1
    have h2:=eq_of_beq e2
    have h5:=eq_of_beq e5
    subst h1 h2 h5 e3
    have h4:hdel=false:=by cases hdel <;> first | rfl | cases e4
    subst h4
    refine ⟨nm,q,N,bs,bm,sn,sub,ab,col,dd,k0,k1,k2,k3,k5,mN,X _ _ ho,G,k _ _ hi,fun n hn hne=>?_,tailOk.tail X e8⟩
    have:=List.all_eq_true.mp e7 n hn
    rw [Bool.or_eq_true] at this
    rcases this with c | c
    · exact absurd (eq_of_beq c) hne
    · exact k _ _ (noName.is c)
  · cases e
theorem clsOk.some (e:clsOk K C=true):∃ i,qd3 K C=some i:=by
  unfold clsOk at e
  split at e
  · rename_i t dd nm bs v bm N q hd sn sub ab col hdel k0 k1 k2 k3 b k5 ho
    simp only [Bool.and_eq_true] at e
    obtain ⟨_,e9⟩:=e
    unfold qd3
    rw [ho]
    exact Option.isSome_iff_exists.mp e9
  · cases e
def qf2 (K:PySem.W.Frag) (C:Addr):Option (List Value):=match K.lookup C with
  | some o=>(match o.data with | .cls cd=>some cd.mro | _=>none)
  | none=>none
theorem qhf (X:K.In h) {l:List Value} (e:qf2 K C=some l):qgW h C=l:=by
  unfold qf2 at e
  cases ho:K.lookup C with
  | none=>rw [ho] at e;cases e
  | some o =>
    rw [ho] at e
    unfold qgW
    rw [X _ _ ho]
    obtain ⟨c,d,dt,sl⟩:=o
    cases dt <;> first | exact Option.some.inj e | cases e
def glbRef (K:PySem.W.Frag) (nm:Str):Option Addr:=match PySem.W.nsIn K mainGlobals nm with
  | some (some v)=>refOf v
  | _=>none
theorem glbRef.is {nm:Str} (e:glbRef K nm=some C):PySem.W.nsIn K mainGlobals nm=some (some (.ref C)):=by
  unfold glbRef at e
  split at e
  · rename_i v hv
    rw [hv,refOf.is e]
  · cases e
def pairOk (K:PySem.W.Frag) (isa:Str→Str→Bool) (nm:Str) (C:Addr) (c:Str):Bool:=match glbRef K c,qf2 K C with
  | some D,some l=>(PySem.W.kitOne K (.ref C) (.ref D) == some (isa nm c)) && (l.contains (.ref D) == isa nm c)
  | _,_=>false
def qfT (K:PySem.W.Frag) (isa:Str→Str→Bool) (names:List Str):Bool:=names.all fun nm=>match glbRef K nm with
  | some C=>clsOk K C && PySem.W.keepIn K (.ref C) && (PySem.W.kitOne K (.ref C) (.type "ValueError") == some true) && names.all (pairOk K isa nm C)
  | none=>false
section
variable {isa : Str → Str → Bool} {names : List Str} {mg : Str → Option Value}
theorem qbU (e:qfT K isa names=true) {nm:Str} (hn:nm∈names):∃ C,PySem.W.nsIn K mainGlobals nm=some (some (.ref C))∧clsOk K C=true∧PySem.W.kitOne K (.ref C) (.type "ValueError")=some true∧(∀ c∈names,pairOk K isa nm C c=true)∧PySem.W.keepIn K (.ref C)=true:=by
  have:=List.all_eq_true.mp e nm hn
  split at this
  · rename_i C hC
    rw [Bool.and_eq_true,Bool.and_eq_true,Bool.and_eq_true] at this
    exact ⟨C,glbRef.is hC,this.1.1.1,eq_of_beq this.1.2,fun c hc=>List.all_eq_true.mp this.2 c hc,this.1.1.2⟩
  · cases this
theorem pairOk.is {nm c:Str} (e:pairOk K isa nm C c=true):∃ D l,PySem.W.nsIn K mainGlobals c=some (some (.ref D))∧qf2 K C=some l∧PySem.W.kitOne K (.ref C) (.ref D)=some (isa nm c)∧l.contains (.ref D)=isa nm c:=by
  unfold pairOk at e
  split at e
  · rename_i D l hD hl
    rw [Bool.and_eq_true] at e
    exact ⟨D,l,glbRef.is hD,hl,eq_of_beq e.1,eq_of_beq e.2⟩
  · cases e
theorem qkC (X:K.In h) (G:h.Ns mainGlobals mg) (e:qfT K isa names=true):Exs K mg isa names where
  cls nm hn C hm h' X':=by
    obtain ⟨C',h1,h2,_⟩:=qbU e hn
    rw [PySem.W.mg_of X G h1] at hm
    cases hm
    obtain ⟨i,hi⟩:=clsOk.some h2
    exact ⟨i,clsOk.at X' h2 hi⟩
  sub nm hn c hc C D hm hd h' X':=by
    obtain ⟨C',h1,h2,_,h4,_⟩:=qbU e hn
    rw [PySem.W.mg_of X G h1] at hm
    cases hm
    obtain ⟨D',l,z1,z2,z3,z4⟩:=pairOk.is (h4 c hc)
    rw [PySem.W.mg_of X G z1] at hd
    cases hd
    rw [qhf X' z2]
    exact z4
  inK nm hn C hm:=by
    obtain ⟨C',h1,h2,_⟩:=qbU e hn
    rw [PySem.W.mg_of X G h1] at hm
    cases hm
    exact h1
theorem qle (X:K.In h) (G:h.Ns mainGlobals mg) (e:qfT K isa names=true):Isa K mg isa names where
  own nm hn c hc C D hm hd:=by
    obtain ⟨C',h1,h2,_,h4,_⟩:=qbU e hn
    rw [PySem.W.mg_of X G h1] at hm
    cases hm
    obtain ⟨D',l,z1,z2,z3,z4⟩:=pairOk.is (h4 c hc)
    rw [PySem.W.mg_of X G z1] at hd
    cases hd
    exact z3
  val nm hn C hm:=by
    obtain ⟨C',h1,h2,h3,_⟩:=qbU e hn
    rw [PySem.W.mg_of X G h1] at hm
    cases hm
    exact h3
  mgK nm hn C hC:=PySem.W.mg_of X G hC
theorem qbK (X:K.In h) (G:h.Ns mainGlobals mg) (e:qfT K isa names=true) {nm:Str} (hn:nm∈names):∃ D,mg nm=some (.ref D):=by
  obtain ⟨C',h1,_⟩:=qbU e hn
  exact ⟨C',PySem.W.mg_of X G h1⟩
end
structure Rz0 (K:PySem.W.Frag) (mg:Str→Option Value) (x:Str):Prop where
  ex:∃ C,mg x=some (.ref C)∧(∀ h:Heap,K.In h→ExcAt h C none)∧PySem.W.keepIn K (.ref C)=true∧PySem.W.nsIn K mainGlobals x=some (some (.ref C))
structure Rz1 (P:Program) (w:World) (K:PySem.W.Frag) (mg:Str→Option Value) (base:Heap) (x:Str):Prop where
  ex:∃ C f fd oI,mg x=some (.ref C)∧(∀ h:Heap,K.In h→ExcAt h C (some (.ref f)))∧PySem.W.keepIn K (.ref C)=true∧K.lookup f=some oI∧oI.cls=.type "function"∧(∀ t,FnOk P w K mg base CX0 1 f fd [("self":Str),("at":Str)] (qhC C t))∧Binds K fd [("self":Str),("at":Str)] []∧PySem.W.nsIn K mainGlobals x=some (some (.ref C))
def initOf (K:PySem.W.Frag) (x:Str):Option (Option Value):=(glbRef K x).bind (qd3 K)
section
variable {isa : Str → Str → Bool} {names : List Str} {mg : Str → Option Value} {P : Program} {w : World} {base : Heap}
theorem initOf.is {x:Str} {i:Option Value} (hi:initOf K x=some i) (h1:PySem.W.nsIn K mainGlobals x=some (some (.ref C))):qd3 K C=some i:=by
  have:glbRef K x=some C:=by unfold glbRef;rw [h1];rfl
  unfold initOf at hi
  rw [this] at hi
  exact hi
theorem qks (X:K.In h) (G:h.Ns mainGlobals mg) (e:qfT K isa names=true) {x:Str} (hn:x∈names) (hi:initOf K x=some none):Rz0 K mg x:=by
  obtain ⟨C,h1,h2,_,_,h5⟩:=qbU e hn
  exact ⟨C,PySem.W.mg_of X G h1,fun h' X'=>clsOk.at X' h2 (initOf.is hi h1),h5,h1⟩
theorem qhY {q:Str} {st:Stmt} {f:Addr} {p1 p2 p3 p4:Pos} (X:K.In h) (G:h.Ns mainGlobals mg) (e:qfT K isa names=true) {x:Str} (hn:x∈names) (hi:initOf K x=some (some (.ref f)))
    {oc:Value} {od:Option Addr} {kV doc pm:Value} {an:Option Addr} {cdv ct:Value} {osl:Array (Option Value)} (lk:K.lookup f=some ⟨oc,od,.func (PySem.W.fnOf "__init__" q (qbh st) (qaO st) (qad st) .none kV doc pm an cdv ct),osl⟩) (hoc:oc=.type "function") (hcd:PySem.W.codeIn K cdv q=true) (kp:PySem.W.keepIn K (.ref f)=true)
    (S:FnScope [("self":Str),("at":Str)] [("self":Str),("at":Str)] (qad st)) (hb:qaO st=[.Assign [.Attribute (.Name "self" p1) "at" p2] (.Name "at" p3) p4]) (hv1:Vis (qad st) "self") (hv2:Vis (qad st) "at")
    (hs:∀ env,swapsWith (.Name "at" p3) (some (.Attribute (.Name "self" p1) "at" p2)) p4.line env=pure false)
    (b:∀ (kV doc pm:Value) (an:Option Addr) (cdv ct:Value) (us:List Value),us.length=2→bindArgs (PySem.W.fnOf "__init__" q (qbh st) (qaO st) (qad st) .none kV doc pm an cdv ct) ⟨us,[]⟩=pure ([("self":Str),("at":Str)].zip us)):Rz1 P w K mg base x:=by
  obtain ⟨C,h1,h2,_,_,h5⟩:=qbU e hn
  have F:Fun K "__init__" q st f _:=⟨⟨oc,od,kV,doc,pm,an,cdv,ct,osl,rfl,lk,hcd⟩,kp⟩
  have hC:∀ h':Heap,K.In h'→ExcAt h' C (some (.ref f)):=fun h' X'=>clsOk.at X' h2 (initOf.is hi h1)
  exact ⟨C,f,_,_,PySem.W.mg_of X G h1,hC,h5,lk,hoc,fun t=>qku (k:=0) F S hb hv1 hv2 hs hC,F.binds b,h1⟩
end
end
abbrev SpR:=List D→(XD→Prop)→Prop
def orX (z:SpD) (r:SpR):SpX:=fun ds R W=>z ds R∨r ds W
def qep (r:SpR):SpX:=fun ds _ W=>r ds W
section
variable {P : Program} {w : World} {K : PySem.W.Frag} {mg : Str → Option Value} {base : Heap} {n : Nat} {f : Addr} {fd : FuncData} {ps : List Str} {z : SpD} {r : SpR}
theorem qgU {CX:CXT} {A:Around} {c:Code} {outer:List Env} {H:Hp} {s:Shared} {Q:VK} {E:XK} (h:codeAny (model P w) A c (CR CX0 outer P w H s Q E) s):codeAny (model P w) A c (CR CX outer P w H s Q E) s :=
  codeAny_mono h fun res s' q=>by
    cases res with
    | error e=>exact q.elim
    | ok fl=>cases fl <;> exact q
theorem FnOk.orX (A:FnOk P w K mg base CX0 n f fd ps (lSp K z)) (B:FnOk P w K mg base (CXo P w) n f fd ps (qfi K mg (qep r))):FnOk P w K mg base (CXo P w) n f fd ps (qfi K mg (orX z r)):=by
  have cs:∀ {vs:List V} {H:Hp} {Q:VK} {E:XK},qfi K mg (L2.orX z r) vs H Q E→lSp K z vs H Q E∨qfi K mg (qep r) vs H Q E:=fun {vs H Q E} h=>by
    obtain ⟨Φ,ds,R,W,h1,h2,h3,h4,h5,h6⟩:=h
    rcases h4 with h4 | h4
    · exact .inl ⟨Φ,ds,R,h1,h2,h3,h4,h5⟩
    · exact .inr ⟨Φ,ds,R,W,h1,h2,h3,h4,h5,h6⟩
  refine ⟨fun vs H Q E h=>?_,fun A' outer s H args us vs Q E hr he hb hv hs=>?_⟩
  · rcases cs h with h | h
    · exact A.len _ _ _ _ h
    · exact B.len _ _ _ _ h
  · rcases cs hs with h | h
    · exact qgU (A.run A' outer s H args us vs Q E hr he hb hv h)
    · exact B.run A' outer s H args us vs Q E hr he hb hv h
end
section
variable {K : PySem.W.Frag} {X : Cx} {x : Str} {np cpos pos : Pos} {arg : Expr} {ta : TD}
def qpk (x:Str):TSM:=fun De ρ=>De.ex ⟨x,none⟩ ρ
theorem qn2 (Z:Rz0 X.K X.mg x) (hcalm:X.calm=true) (hex:X.ex=[]) (hg:Gl X x) (hdb:(x == ("__debug__":Str))=false:=by decide):PSM K X (.Raise (some (.Call (.Name x np) [] [] cpos)) none pos) (qpk x):=by
  obtain ⟨C,h1,h2,_⟩:=Z.ex
  exact qjA hcalm hex hg h1 h2 hdb
def qpb (x:Str) (ta:TD):TSM:=fun De ρ=>ta (prR ρ) fun d=>qix d∧De.ex ⟨x,some d⟩ ρ
theorem qmu (Z:Rz1 X.prog X.w X.K X.mg X.base x) (hcalm:X.calm=true) (hex:X.ex=[]) (hg:Gl X x) (hr:Room 2 X.A) (ha:PD K X arg ta) (he:starEach [arg] X.env=(false,eval arg X.env)::starEach [] X.env) (hdb:(x == ("__debug__":Str))=false:=by decide) :
    PSM K X (.Raise (some (.Call (.Name x np) [arg] [] cpos)) none pos) (qpb x ta):=by
  obtain ⟨C,f,fd,oI,h1,h2,h3,h4,h5,h6,h7,_⟩:=Z.ex
  exact qiB (n:=1) hcalm hex hg h1 h2 h3 h4 h5 h6 h7 hr ha he hdb
theorem qj3 {rest:List ExceptHandler} {th:XD→EndsM→qaV→Prop} {c n:Str} {hpos:Pos} {b₀:Stmt} {suite:List Stmt} {tu:TSM} {isa:Str→Str→Bool} {names:List Str} (i:Nat) (Ex:Exs X.K X.mg isa names) (hm:∃ Da,X.mg c=some (.ref Da)) (hc:c∈names) (hg:Gl X c) (hN:X.N.Nodup) (hs:∀ pn e,PSsM K (X.held pn e) (b₀::suite) tu) (hr:PHM K X rest th)
    (hi:X.N[i]?=some n:=by rfl) (hloc:X.env.scope.names.lookup n=some .local:=by rfl) (hfn:X.fn n=true∨X.env.scope.names.lookup n=some .local:=by first | exact .inl rfl | exact .inr rfl) (hdb:(c == ("__debug__":Str))=false:=by decide) :
    PHM K X (.ExceptHandler (some (.Name c np)) (some n) (b₀::suite) hpos::rest) (fun xd De ρ=>xd.nm∈names∧(isa xd.nm c=true→tu { nx:=fun ρ'=>De.nx (ρ'.set i none),rt:=De.rt,bk:=fun ρ'=>De.bk (ρ'.set i none),ct:=fun ρ'=>De.ct (ρ'.set i none) } (ρ.set i (some (.v (.exc xd.nm xd.at_.toList)))))∧(isa xd.nm c=false→th xd De ρ)):=by
  obtain ⟨Da,hm⟩:=hm
  exact qkT i Ex hc hg hm hN hs hr hi hloc hfn hdb
end
section
variable {K : PySem.W.Frag} {X : Cx} {a : Expr} {ta : TD} {pos p : Pos} {isa : Str → Str → Bool} {names : List Str}
theorem qc4 {c:Str} {np:Pos} (Ex:Exs X.K X.mg isa names) (Is:Isa X.K X.mg isa names) (hm:∃ Da,X.mg c=some (.ref Da)) (hc:c∈names) (hgc:Gl X c) (hg:Gl X "isinstance") (hmi:X.mg "isinstance"=none) (ha:PD K X a ta)
    (he:starEach [a,.Name c np] X.env=(false,eval a X.env)::starEach [.Name c np] X.env) (he2:starEach [.Name c np] X.env=(false,eval (.Name c np) X.env)::starEach [] X.env) (hdb:(c == ("__debug__":Str))=false:=by decide):PD K X (.Call (.Name "isinstance" p) [a,.Name c np] [] pos) (qn7 isa names c ta):=by
  obtain ⟨Da,hm⟩:=hm
  exact qnS Ex Is hc hgc hm hg hmi ha he he2 hdb
end
theorem FnOk.orN {P:Program} {w:World} {K:PySem.W.Frag} {mg:Str→Option Value} {base:Heap} {n:Nat} {f:Addr} {fd:FuncData} {ps:List Str} {z:SpD} {r:SpR} (hz:∀ ds R,¬ z ds R) (B:FnOk P w K mg base (CXo P w) n f fd ps (qfi K mg (qep r))):FnOk P w K mg base (CXo P w) n f fd ps (qfi K mg (L2.orX z r)) :=
  B.imp fun vs H Q E h=>by
    obtain ⟨Φ,ds,R,W,h1,h2,h3,h4,h5⟩:=h
    rcases h4 with h4 | h4
    · exact (hz _ _ h4).elim
    · exact ⟨Φ,ds,R,W,h1,h2,h3,h4,h5⟩
def zNo:SpD:=fun _ _=>False
structure RoomH (k:Nat) (A:Around):Prop where
  dp:A.depth+3*k+5<recursionLimit
  un:A.units+16*k+200<cLine
theorem Room.toH {k:Nat} {A:Around} (r:Room k A) (e:Option Value):RoomH k (A.mark e):=⟨r.dp,r.un⟩
theorem RoomH.mono {j k:Nat} {A:Around} (r:RoomH k A) (h:j≤k):RoomH j A:=⟨by have:=r.dp;omega,by have:=r.un;omega⟩
structure FnOkH (P:Program) (w:World) (K:PySem.W.Frag) (mg:Str→Option Value) (base:Heap) (k:Nat) (f:Addr) (fd:FuncData) (ps:List Str) (sp:Sp):Prop where
  len:∀ vs H Q E,sp vs H Q E→vs.length=ps.length
  run:∀ (A:Around) (outer:List Env) (s:Shared) (H:Hp) (args:Args) (us:List Value) (vs:List V) (Q:VK) (E:XK),RoomH k A→Env0 P w K mg base A outer s H→BindsTo s fd args (ps.zip us)→Vals vs us→sp vs H Q E →
    codeAny (model P w) A (.call (.ref f) args) (CR CX0 outer P w H s Q E) s
abbrev cxH (P:Program) (w:World) (K:PySem.W.Frag) (mg:Str→Option Value) (base:Heap) (N:List Str) (qual:Str) (scope:Scope) (f:Addr) (cd:Value) (A:Around) (outer:List Env) (s:Shared) (H:Hp) (E:XK):Cx:={ qg3 CX0 P w K mg base N qual scope f cd A outer s H E with calm:=false,xe:=fun _ _=>False }
section
variable {P : Program} {w : World} {K : PySem.W.Frag} {mg : Str → Option Value} {base : Heap}
theorem qgI {N ps:List Str} {qual:Str} {scope:Scope} {f:Addr} {cd:Value} {A:Around} {outer:List Env} {s s1:Shared} {H:Hp} {E:XK} {us:List Value} {vs:List V}
    (S:FnScope N ps scope) (e0:Env0 P w K mg base A outer s H) (hl:vs.length=ps.length) (r:Vals vs us)
    (x:InCallC s s.heap.objs.size (bindL (envOfC qual scope s.heap.objs.size f cd).kindOf (ps.zip us) fun _=>none) (cellsFrom (s.heap.objs.size+1) scope.names []) (bindC (envOfC qual scope s.heap.objs.size f cd).kindOf (ps.zip us) fun _=>none) s1) :
    Inv (cxH P w K mg base N qual scope f cd A outer s H E) [] (qbH N vs) H s1:=by
  have e1:Env0 P w K mg base { A with handled:=none } outer s H:=⟨e0.frames,e0.mod,e0.bs,e0.bsz,e0.funs,e0.frf,e0.hok,e0.bare⟩
  have I:=qfc (CX:=CX0) (E:=E) S (A:={ A with handled:=none }) rfl e1 hl r x
  exact ⟨⟨I.ok.mod,I.ok.kind,I.ok.glob,I.ok.blt,I.ok.above,I.ok.inj,I.ok.has,I.ok.cab,fun h=>(by cases h),I.ok.frames,I.ok.stk,I.ok.exf,I.ok.bs,I.ok.bsz,I.ok.noex,I.ok.exfs,I.ok.funs,I.ok.frf⟩,
    I.os,I.bare,I.base,I.loc,I.cell,I.free,I.freeC,I.pin,I.hok,I.len⟩
theorem Fun.okH {x qual:Str} {st:Stmt} {f:Addr} {fd:FuncData} {N ps:List Str} {sp:SpD} (F:Fun K x qual st f fd) (S:FnScope N ps (qad st)) (len:∀ ds R,sp ds R→ds.length=ps.length)
    (hbody:∀ (cdv:Value) (A:Around) (outer:List Env) (s:Shared) (H:Hp) (E:XK) (ds:List D) (R:D→Prop),sp ds R →
      ∃ t,PSsD K (cxH P w K mg base N qual (qad st) f cdv A outer s H E) (qaO st) t∧t { nx:=fun _=>R .non,rt:=R } (qc3 N ds)):FnOkH P w K mg base 1 f fd ps (lSp K sp):=by
  obtain ⟨oc,od,kV,doc,pm,an,cdv,ct,osl,rfl,lk,hcd⟩:=F.ex
  have len':∀ vs H Q E,lSp K sp vs H Q E→vs.length=ps.length:=fun vs H Q E h=>by
    obtain ⟨Φ,ds,R,sm,tb,rl,h,_⟩:=h
    rw [rl.1];exact len ds R h
  refine ⟨len',fun A outer s H args us vs Q E hr e0 hb r hsp=>?_⟩
  have hl:=len' _ _ _ _ hsp
  have KX:K.In s.heap:=e0.mod.kin.keeps fun b o e=>(e0.bs b o e).1
  have lim:s.heap.NoLimit:=e0.mod.nolimit.keeps fun b o e=>(e0.bs b o e).1
  have hkind:∀ y∈ps.zip us,(qad st).names.lookup y.1=some .local∨((qad st).names.lookup y.1=some .cell∧((cellsFrom (s.heap.objs.size+1) (qad st).names []).lookup y.1).isSome=true):=fun hq0 hy=>by
    obtain ⟨n,v⟩:=hq0
    rcases S.par n (List.of_mem_zip hy).1 with q | q
    · exact .inl q
    · exact .inr ⟨q,PySem.W.cellsFrom_some _ _ _ (.inl q)⟩
  have hdp:A.depth<recursionLimit:=by have:=hr.dp;omega
  refine codeAny_call_function hdp (KX _ _ lk) rfl S.co S.gen rfl (PySem.W.codeRec_of KX hcd) (hb _ _ _ _ ?_)
  refine wpAny_newFunctionEnv_cells S.kind hkind fun env he s1 x=>?_
  subst he
  refine ⟨lim.keeps x.toInCall.keep,codeAny_func ?_⟩
  obtain ⟨Φ,ds,R,sm,tb,rl,h,kk⟩:=hsp
  obtain ⟨t,ht,hq⟩:=hbody cdv A outer s H E ds R h
  have I:Inv (cxH P w K mg base N qual (qad st) f cdv A outer s H E) [] (qbH N vs) H s1:=qgI S e0 hl r x
  refine wpAny_mono (ht.ps rfl [] s1 (qbH N vs) H { nx:=fun _ H'=>Q .non H',rt:=Q } I ⟨Φ,H,Φ,qc3 N ds,_,.refl sm,qeN sm tb rl,hq,⟨fun ρ' Φ' H' σ' r g V=>kk .non Φ' H' .non r g .non,kk,fun _ _ _ _ h=>h.elim,fun _ _ _ _ h=>h.elim⟩⟩) (fun fl s' hs=>?_) fun e s' hs=>hs.elim
  have fin:∀ {σ':St} {H':Hp} {v:V} {u:Value},Inv (cxH P w K mg base N qual (qad st) f cdv A outer s H E) [] σ' H' s'→RelV v u→Q v H'→CE outer P w H s Q u s' :=
    fun {σ' H' v u} J rv q=>⟨v,H',J.os,J.bare,J.base,J.hok,rv,q⟩
  cases fl with
  | ret u =>
    obtain ⟨v,σ',H',J,rv,q⟩:=hs
    exact fin J rv q
  | next =>
    obtain ⟨σ',H',J,q⟩:=hs
    exact fin (v:=V.non) (u:=Value.none) J rfl q
  | brk =>
    obtain ⟨_,_,_,q⟩:=hs
    exact False.elim q
  | cont =>
    obtain ⟨_,_,_,q⟩:=hs
    exact False.elim q
structure ClH (P:Program) (w:World) (K:PySem.W.Frag) (mg:Str→Option Value) (base:Heap) (x:Str) (ps:List Str) (z:SpD):Prop where
  ex:∃ (f:Addr) (fd:FuncData),FnOkH P w K mg base 1 f fd ps (lSp K z)∧Binds K fd ps []∧PySem.W.keepIn K (.ref f)=true∧mg x=some (.ref f)
theorem Fun.clH {x:Str} {st:Stmt} {f:Addr} {fd:FuncData} {ps:List Str} {z:SpD} (F:Fun K x x st f fd) (m:mg x=some (.ref f)) (H:FnOkH P w K mg base 1 f fd ps (lSp K z))
    (b:∀ (kV doc pm:Value) (an:Option Addr) (cdv ct:Value) (us:List Value),us.length=ps.length→bindArgs (PySem.W.fnOf x x (qbh st) (qaO st) (qad st) .none kV doc pm an cdv ct) ⟨us,[]⟩=pure (ps.zip us)):ClH P w K mg base x ps z:=⟨f,fd,H,F.binds b,F.kp,m⟩
end
section
variable {K : PySem.W.Frag} {X : Cx} {e : Expr} {es : List Expr} {pos p : Pos} {tl : TDL}
theorem qjR {x:Str} {ps:List Str} {z:SpD} (C:ClH X.prog X.w K X.mg X.base x ps z) (hr:RoomH 1 X.A) (hg:Gl X x)
    (ha:PAD K X (e::es) tl) (he:starEach (e::es) X.env=(false,eval e X.env)::starEach es X.env) (hpl:(backTo pos (starEach es X.env)).any (·.1)=false) (hdb:(x == ("__debug__":Str))=false:=by decide) :
    PD K X (.Call (.Name x p) (e::es) [] pos) (qhp z tl):=⟨fun hK=>by
  subst hK
  obtain ⟨f,fd,F,hb,hk,hm⟩:=C.ex
  intro pins s σ H Q I hq0
  obtain ⟨H0,Φ,ρ,R,E,t,k⟩:=hq0
  refine wpAny_Call_Name_kw (qcn I hg hm ?_ hdb)
  refine PySem.W.callWith_K (h₀:=X.base) I.ok.mod.kin hk (thn (ha.pa rfl pos pins s σ H (fun vs H1=>lSp X.K z vs H1 Q fun _ _ _=>False) I ⟨H0,Φ,ρ,_,E,t,fun ds Φ1 H1 vs r g rl _=>⟨Φ1,ds,R,g.s,E.tb.same g.f,rl,r,fun d Φ' H' v hR g' rv=>k d Φ' H' v hR (g.trans g') rv⟩⟩) fun us s1 hq1=>?_) he hpl
  obtain ⟨vs,H1,I1,r,q⟩:=hq1
  refine ⟨I1.kIn,?_⟩
  have hl:us.length=ps.length:=by rw [← r.length];exact F.len _ _ _ _ q
  have hB:=hb s1 us I1.kIn (by rw [List.append_nil];exact hl)
  rw [List.append_nil] at hB
  refine wpAny_call (codeAny_mono (F.run X.A X.stack s1 H1 ⟨us,[]⟩ us vs Q _ hr I1.env0 hB r q) fun res s2 hq=>?_)
  cases res with
  | error z=>exact hq.elim
  | ok fl =>
    cases fl with
    | ret u=>exact I1.after hq
    | _=>exact hq.elim⟩
end
section
variable {K : PySem.W.Frag} {X : Cx} {x : Str} {np pos : Pos} {arg : Expr} {ta : TD}
end
def qdV (σ:List Key) (v:Key):List Key:=if σ.any (fun x=>decide (x=v)) then σ else σ++[v]
def qc8 (val:Nat→Key):Nat→List Key
  | 0=>[]
  | i+1=>qdV (qc8 val i) (val i)
theorem qdP (val:Nat→Key):∀ i,(qc8 val i).length≤i
  | 0=>Nat.le_refl _
  | i+1=>by
    have ih:=qdP val i
    show (qdV (qc8 val i) (val i)).length≤i+1
    unfold qdV
    split
    · omega
    · rw [List.length_append];show _+1≤_;omega
theorem qhM (σ:List Key) (v k:Key):(qdV σ v).any (fun x=>decide (x=k))=(σ.any (fun x=>decide (x=k)) || decide (k=v)):=by
  unfold qdV
  by_cases h:σ.any (fun x=>decide (x=v))=true
  · rw [if_pos h]
    by_cases e:k=v
    · subst e;rw [h];rfl
    · rw [decide_eq_false e,Bool.or_false]
  · rw [if_neg h,List.any_append]
    congr 1
    show (decide (v=k) || false)=_
    rw [Bool.or_false]
    by_cases e:k=v
    · rw [decide_eq_true e,decide_eq_true e.symm]
    · rw [decide_eq_false e,decide_eq_false fun z=>e z.symm]
theorem qeX (σ:List Key) (v:Key):(qdV σ v).length=if σ.any (fun x=>decide (x=v)) then σ.length else σ.length+1:=by
  unfold qdV
  split
  · rfl
  · rw [List.length_append];rfl
theorem qdv {P:Program} {w:World} {h:Heap} {a:Addr} {S S':Key→Bool} {n n':Nat} (hS:h.SetOf (qaA P w) a S n) (e:∀ k,S k=S' k) (en:n=n'):h.SetOf (qaA P w) a S' n':=by
  have:S=S':=funext e
  subst this;subst en;exact hS
section
variable {prog : Program} {w : World} {A : Around} {R : Result → Shared → Prop} {I : Addr} {fp wr : List Addr} {G : Array GenState → Array GenState → Prop} {n : Nat} {P : Nat → Value → Prop} {St : Nat → Shared → Prop}
theorem qhK (W:WalksS prog w A.in1 I fp wr G n P St) (S:Addr) (hSf:S∉fp) (val:Nat→Key) (hval:∀ i v,P i v→(qaA prog w).is (val i) v=true∧v.scannable=true) (hb:n+1<scanBound) :
    ∀ (k i:Nat) (s:Shared),n - i=k→i≤n→St i s →
      s.heap.SetOf (qaA prog w) S (fun k'=>(qc8 val i).any (fun x=>decide (x=k'))) (qc8 val i).length →
      (∀ s',Moved (S::wr) G s s'→s'.heap.SetOf (qaA prog w) S (fun k'=>(qc8 val n).any (fun x=>decide (x=k'))) (qc8 val n).length→R (.ok (.ret .none)) s') →
      codeAny (model prog w) A (.builtin "set.update.loop" ⟨[.ref S,.ref I],[]⟩) R s:=by
  have hSw:S∉wr:=fun h=>hSf (W.sub _ h)
  have hsub:∀ b∈wr,b∈S::wr:=fun b hb=>List.mem_cons_of_mem _ hb
  intro k
  induction k with
  | zero =>
    intro i s hk hi hst hS hR
    have hin:i=n:=by omega
    subst hin
    refine codeAny_builtin PyProof.Rows.F.entry_set_update_loop ?_
    rw [Around.under_plainId PyProof.Rows.F.plain_set_update_loop _]
    show wpAny _ A.in1 (pyNext (.ref I) >>= _) _ _ s
    refine wpAny_bind (W.done s _ _ hst fun s' hm=>?_)
    show wpAny _ A.in1 (ret Value.none) _ _ s'
    exact wpAny_pure (hR s' (hm.mono hsub) (by
      obtain ⟨o,es,ep,t,ho,rest⟩:=hS
      exact ⟨o,es,ep,t,hm.heap S _ hSw ho,rest⟩))
  | succ k ih =>
    intro i s hk hi hst hS hR
    have hlt:i<n:=by omega
    refine codeAny_builtin PyProof.Rows.F.entry_set_update_loop ?_
    rw [Around.under_plainId PyProof.Rows.F.plain_set_update_loop _]
    show wpAny _ A.in1 (pyNext (.ref I) >>= _) _ _ s
    refine wpAny_bind (W.item i s _ _ hlt hst fun v s' hP hst' hm=>?_)
    obtain ⟨hv1,hv2⟩:=hval i v hP
    have hS':s'.heap.SetOf (qaA prog w) S (fun k'=>(qc8 val i).any (fun x=>decide (x=k'))) (qc8 val i).length:=by
      obtain ⟨o,es,ep,tb,ho,rest⟩:=hS
      exact ⟨o,es,ep,tb,hm.heap S _ hSw ho,rest⟩
    show wpAny _ A.in1 (holding [v] (setAdd S v) >>= _) _ _ s'
    refine wpAny_bind (wpAny_holding ?_)
    unfold setAdd
    refine wpAny_holding ?_
    refine wpAny_bind ((qaA prog w).pyHash (k:=val i) hv1 ?_)
    have hroom:(qc8 val i).length+1<scanBound:=by have:=qdP val i;omega
    refine wpAny_setAddHashed_of (knd:=qaA prog w) (s:={ s' with toks:=s'.toks+1 }) hv1 hv2 hS' hroom fun h' hsb hS2=>?_
    have hSi:h'.SetOf (qaA prog w) S (fun k'=>(qc8 val (i+1)).any (fun x=>decide (x=k'))) (qc8 val (i+1)).length :=
      qdv hS2 (fun k'=>(qhM _ _ _).symm) (qeX _ _).symm
    refine wpAny_pure ⟨plainId_quiet PyProof.Rows.F.plain_set_update_loop _,ih (i+1) _ (by omega) hlt (W.frame _ s' _ _ hst' (Nat.le_succ _) fun b hb o e=>?_) hSi fun s'' hm'' hS''=>?_⟩
    · rw [hsb.2 b (fun h:b=S=>hSf (by rw [← h];exact hb))];exact e
    · refine hR s'' (Moved.trans W.gtrans ((hm.mono hsub).then_heap (Nat.le_succ _) fun b o hb e=>?_) hm'') hS''
      rw [hsb.2 b (fun h:b=S=>hb (by rw [h];exact List.mem_cons_self))];exact e
end
section
variable {prog : Program} {w : World} {A : Around} {E : Value → Shared → Prop} {s : Shared}
theorem qhA {l:Addr} {items:Array Value} {val:Nat→Key} {Q:Value→Shared→Prop}
    (hh:A.handled=none) (hl:s.heap.IsList l items) (hval:∀ (i:Nat) (v:Value),items[i]?=some v→(qaA prog w).is (val i) v=true∧v.scannable=true) (hb:items.size+1<scanBound)
    (h:∀ (h':Heap) (tk:Nat),h'.SetOf (qaA prog w) s.heap.objs.size (fun k'=>(qc8 val items.size).any (fun x=>decide (x=k'))) (qc8 val items.size).length →
      (∀ b o,b<s.heap.objs.size→s.heap.get? b=some o→h'.get? b=some o)→Q (.ref s.heap.objs.size) { s with heap:=h',toks:=tk }) :
    wpAny (model prog w) A (call (.type "set") [.ref l]) Q E s:=by
  obtain ⟨c,tl,hmro⟩:=F.called_set.mro
  have hmade:=F.called_set.made
  have hsub:=F.called_set.sub
  refine wpAny_call (codeAny_of_tree ?_)
  show wpAny _ _ (callAny (.type "set") _) _ _ _
  refine wpAny_pure ⟨Code.quiet_builtin _ (by decide +kernel),codeAny_builtin F.entry_type_call ?_⟩
  rw [Around.under_plain (weight_type_call_type "set" [.ref l] []) rfl]
  have h1:=F.called_set.notType
  have h2:=F.called_set.canCreate
  have hct:=F.typeCall_set_1 (.ref l)
  repeat (any_goals (first | assumption | wp_step))
  refine codeAny_mono (code_set_new_1 (.ref l) (E:=E) (Q₁:=fun obj s₁=>∃ led:Bool,obj=.ref s.heap.objs.size∧s₁={ s with heap:=s.heap.push { cls:=.type "set",dict:=none,data:=.set #[] 0 (.fresh 0 0 led) } }) fun led=>⟨led,rfl,rfl⟩) fun r s₁ hr=>?_
  cases r with
  | error e=>exact hr
  | ok fl =>
    cases fl with
    | ret obj =>
      obtain ⟨led,rfl,rfl⟩:=hr
      have hS:(s.heap.push { cls:=.type "set",dict:=none,data:=.set #[] 0 (.fresh 0 0 led) }).get? s.heap.objs.size=some { cls:=.type "set",dict:=none,data:=.set #[] 0 (.fresh 0 0 led) }:=Heap.get?_push_size _ rfl
      have hT:Shared.TypeIs { s with heap:=s.heap.push { cls:=.type "set",dict:=none,data:=.set #[] 0 (.fresh 0 0 led) } } (.ref s.heap.objs.size) "set":=⟨_,hS,rfl⟩
      have hli:=F.called_set.init.lookup
      have hbi:=F.called_set.init.bind (.ref s.heap.objs.size)
      repeat (any_goals (first | assumption | wp_step))
      refine codeAny_mono (codeAny_call_builtin (R:=wants (fun r s₂=>r=.none∧∃ h' tk,s₂={ s with heap:=h',toks:=tk } ∧
          h'.SetOf (qaA prog w) s.heap.objs.size (fun k'=>(qc8 val items.size).any (fun x=>decide (x=k'))) (qc8 val items.size).length ∧
          (∀ b o,b<s.heap.objs.size→s.heap.get? b=some o→h'.get? b=some o)) E) F.called_set.init.plain F.entry_set_init (check_set_init_1 hT ?_)) fun r₂ s₂ hr₂=>?_
      · obtain ⟨ol,hol,hcl,nl,hdl⟩:=hl
        obtain ⟨ocls,odict,odata,oslots⟩:=ol
        simp only at hcl hdl
        subst hcl;subst hdl
        have hol':(s.heap.push { cls:=.type "set",dict:=none,data:=.set #[] 0 (.fresh 0 0 led) }).get? l=some { cls:=.type "list",dict:=odict,data:=.seq items nl,slots:=oslots }:=Heap.get?_push_of_some _ hol
        have hsls:=F.sub_list_set
        have hslf:=F.sub_list_frozenset
        have hne:(Value.type "list" == Value.type "dict")=false:=by decide
        have hl1:(s.heap.push { cls:=.type "set",dict:=none,data:=.set #[] 0 (.fresh 0 0 led) }).IsList l items:=⟨_,hol',rfl,nl,rfl⟩
        unfold Builtin.«set.__init__» noKeywords Builtin.Frozenset.updateFrom
        generalize hPI:pyIter=PI
        wp_walk
        subst hPI
        refine wpAny_pyIter_list hl1 ?_
        refine wpAny_bind (wpAny_runValue ?_)
        have hlS:l<s.heap.objs.size:=Heap.lt_size hol
        have hh3:A.in1.in1.in1.handled=none:=by simp [hh]
        have hneI:l≠(s.heap.push { cls:=.type "set",dict:=none,data:=.set #[] 0 (.fresh 0 0 led) }).objs.size:=by
          rw [Heap.size_push];exact Nat.ne_of_lt (Nat.lt_succ_of_lt hlS)
        have hSf:s.heap.objs.size∉[(s.heap.push { cls:=.type "set",dict:=none,data:=.set #[] 0 (.fresh 0 0 led) }).objs.size,l]:=by
          rw [Heap.size_push];simp only [List.mem_cons,List.mem_singleton,List.not_mem_nil,or_false,not_or]
          exact ⟨Nat.ne_of_lt (Nat.lt_succ_self _),Nat.ne_of_gt hlS⟩
        refine qhK ((Walks.list hh3 _ l hneI items).toS) s.heap.objs.size
          hSf val hval hb (items.size - 0) 0 _ (by omega) (Nat.zero_le _)
          ⟨⟨_,Heap.get?_push_size _ rfl,rfl,rfl⟩,(hl1.push _)⟩ ?hS0 ?hR
        case hS0 =>
          have hget:((s.heap.push { cls:=.type "set",dict:=none,data:=.set #[] 0 (.fresh 0 0 led) }).push { cls:=.type "list_iterator",data:=.fields #[.ref l,.int 0 0] }).get? s.heap.objs.size
              = some { cls:=.type "set",dict:=none,data:=.set #[] 0 (.fresh 0 0 led) }:=Heap.get?_push_of_some _ hS
          letI i1:BEq Key:=instBEqOfDecidableEq
          haveI i2:@LawfulBEq Key i1:=inferInstance
          exact qdv ((PyProof.Rows.setObjOf_fresh (knd:=qaA prog w) led).setOf hget (by unfold scanBound;omega)) (fun _=>rfl) rfl
        case hR =>
          intro s' hm hS'
          obtain ⟨h',g',d',tk',os'⟩:=s'
          have eg:g'=s.gens:=hm.gens
          have ed:d'=s.drawn:=hm.drawn
          have eo:os'=s.os:=hm.os
          subst eg;subst ed;subst eo
          show wpAny _ _ _ _ _ _
          refine wpAny_pure ?_
          show wpAny _ _ (ret Value.none) _ _ _
          refine wpAny_pure ⟨rfl,h',tk',rfl,hS',fun b o hb e=>?_⟩
          have hb1:b≠s.heap.objs.size:=Nat.ne_of_lt hb
          have hb2:b≠(s.heap.push { cls:=.type "set",dict:=none,data:=.set #[] 0 (.fresh 0 0 led) }).objs.size:=by
            rw [Heap.size_push];exact Nat.ne_of_lt (Nat.lt_succ_of_lt hb)
          exact hm.heap b o (by simp only [List.mem_cons,List.mem_singleton,List.not_mem_nil,or_false,not_or];exact ⟨hb1,hb2⟩) (Heap.get?_push_of_some _ (Heap.get?_push_of_some _ e))
      · cases r₂ with
        | error e=>exact hr₂
        | ok fl₂ =>
          cases fl₂ with
          | ret r =>
            obtain ⟨rfl,h',tk,rfl,hS',hk'⟩:=hr₂
            repeat (any_goals (first | assumption | wp_step))
            exact h _ _ hS' hk'
          | _=>exact hr₂.elim
    | _=>exact hr.elim
end
def qg6 (ks:List Key):Nat:=(qc8 (fun i=>ks.getD i (.inl 0)) ks.length).length
section
variable {ks : List Key}
theorem qjp {i:Nat} (hi:i≤ks.length) {k:Key}:k∈qc8 (fun i=>ks.getD i (.inl 0)) i↔k∈ks.take i:=by
  induction i with
  | zero=>simp [qc8]
  | succ i ih =>
    have ih:=ih (by omega)
    have hx:ks[i]?=some (ks.getD i (.inl 0)):=by rw [List.getD_eq_getElem?_getD,List.getElem?_eq_getElem (by omega)];rfl
    rw [List.take_add_one,hx]
    show k∈qdV _ _↔_
    unfold qdV
    rw [List.mem_append,← ih]
    simp only [Option.toList_some,List.mem_singleton]
    split
    · rename_i h
      obtain ⟨y,hy,e⟩:=List.any_eq_true.mp h
      have e:=of_decide_eq_true e
      refine ⟨.inl,fun z=>z.elim id fun z=>?_⟩
      rw [z,← e];exact hy
    · rw [List.mem_append,List.mem_singleton]
theorem qkX {i:Nat} (hi:i≤ks.length):(qc8 (fun i=>ks.getD i (.inl 0)) i).length=i↔(ks.take i).Nodup:=by
  induction i with
  | zero=>simp [qc8]
  | succ i ih =>
    have ih:=ih (by omega)
    have hle:=qdP (fun i=>ks.getD i (.inl 0)) i
    have hx:ks[i]?=some (ks.getD i (.inl 0)):=by rw [List.getD_eq_getElem?_getD,List.getElem?_eq_getElem (by omega)];rfl
    have hm:=qjp (ks:=ks) (i:=i) (by omega) (k:=ks.getD i (.inl 0))
    rw [List.take_add_one,hx]
    show (qdV _ _).length=_↔_
    rw [qeX]
    have ha:((qc8 (fun i=>ks.getD i (.inl 0)) i).any fun x=>decide (x=ks.getD i (.inl 0)))=true↔ks.getD i (.inl 0)∈ks.take i:=by
      rw [← hm,List.any_eq_true]
      refine ⟨fun ⟨y,hy,e⟩=>?_,fun h=>⟨_,h,by simp⟩⟩
      rw [← of_decide_eq_true e];exact hy
    have hn:(ks.take i++(some (ks.getD i (.inl 0))).toList).Nodup↔(ks.take i).Nodup∧ks.getD i (.inl 0)∉ks.take i:=by
      simp only [Option.toList_some,List.nodup_append]
      refine ⟨fun ⟨h1,_,h3⟩=>⟨h1,fun z=>h3 _ z _ (List.mem_singleton.mpr rfl) rfl⟩,fun ⟨h1,h2⟩=>⟨h1,by simp,fun a ha b hb e=>h2 ?_⟩⟩
      rw [← List.mem_singleton.mp hb,← e];exact ha
    rw [hn]
    split
    · rename_i h
      have:=ha.mp h
      refine ⟨fun z=>?_,fun z=>absurd this z.2⟩
      show _
      exact absurd z (by show ¬ (qc8 (fun i=>ks.getD i (.inl 0)) i).length=i+1;omega)
    · rename_i h
      show (qc8 (fun i=>ks.getD i (.inl 0)) i).length+1=i+1↔_
      rw [← ih]
      refine ⟨fun z=>⟨by omega,fun y=>h (ha.mpr y)⟩,fun z=>by omega⟩
theorem qkG:decide ((qg6 ks:Int)<(ks.length:Int))=!decide ks.Nodup:=by
  have h1:=qkX (ks:=ks) (Nat.le_refl _)
  have h2:=qdP (fun i=>ks.getD i (.inl 0)) ks.length
  rw [List.take_length] at h1
  by_cases c:ks.Nodup
  · rw [decide_eq_true c]
    exact decide_eq_false (by have:=h1.mpr c;unfold qg6;omega)
  · rw [decide_eq_false c]
    refine decide_eq_true ?_
    have:¬ (qc8 (fun i=>ks.getD i (.inl 0)) ks.length).length=ks.length:=fun z=>c (h1.mp z)
    unfold qg6
    omega
end
def qns (P:Program) (w:World) (a:Addr) (n:Nat):Heap→Prop:=fun h=>∃ S,h.SetOf (qaA P w) a S n
section
variable {K : PySem.W.Frag} {X : Cx} {a : Expr} {ta : TD} {pos p1 p2 ps : Pos}
theorem qhb (hcalm:X.calm=true):qci X (.type "set") (fun vs H Q=>∃ (l:Addr) (ks:List Key),vs=[.ref l]∧H l=some (.lst (ks.map kV))∧ks.length≤1000∧∀ q,H q=none→Q (.ref q) (upd H q (.ext (qns X.prog X.w q (qg6 ks))))):=by
  intro pins s σ H vs us Q I rv hq0
  obtain ⟨l,ks,rfl,hl,hk,q⟩:=hq0
  obtain ⟨u,rfl,rx⟩:=qfQ rv
  cases (show u=Value.ref l from rx)
  obtain ⟨_,its,n,rr,ho⟩:=(show ObjOk X.prog X.w H s.heap l (.lst (ks.map kV)) from I.hok l _ hl)
  have hlen:its.length=ks.length:=by rw [← rr.length,List.length_map]
  have hval:∀ (i:Nat) (v:Value),its.toArray[i]?=some v→(qaA X.prog X.w).is (ks.getD i (.inl 0)) v=true∧v.scannable=true:=fun i v hv=>by
    rw [List.getElem?_toArray] at hv
    have hi:=qao hv
    have hx:ks[i]?=some (ks.getD i (.inl 0)):=by rw [List.getD_eq_getElem?_getD,List.getElem?_eq_getElem (by omega)];rfl
    obtain ⟨u,hu,ru⟩:=rr.get (i:=i) (x:=kV (ks.getD i (.inl 0))) (by rw [List.getElem?_map,hx];rfl)
    rw [hv] at hu
    cases hu
    refine ⟨qiX ru,?_⟩
    generalize ks.getD i (.inl 0)=k at ru
    cases k with
    | inl j=>obtain ⟨t,e⟩:=(show ∃ t,v=Value.int j t from ru);rw [e];rfl
    | inr x=>obtain ⟨t,e⟩:=(show ∃ t,v=Value.str x t from ru);rw [e];rfl
  have hsz:its.toArray.size=ks.length:=by rw [List.size_toArray];exact hlen
  refine qhA (items:=its.toArray) (val:=fun i=>ks.getD i (.inl 0)) (I.ok.hd hcalm) ⟨_,ho,rfl,n,rfl⟩ hval (by rw [hsz];unfold scanBound;omega) fun h' tk hS hk'=>?_
  rw [hsz] at hS
  have kp:∀ b o,s.heap.get? b=some o→h'.get? b=some o:=fun b o hb=>hk' b o (Heap.lt_size hb) hb
  have I1:Inv X pins σ H { s with heap:=h',toks:=tk }:=I.kept (t':=tk) kp
  have hno:H s.heap.objs.size=none:=I.hok.fresh (Nat.le_refl _)
  have hnn:s.heap.get? s.heap.objs.size=none:=Heap.get?_none_of_le (Nat.le_refl _)
  have hpin:∀ p∈X.pn++pins,p.1≠s.heap.objs.size:=fun p hp z=>by have:=(I.pin p hp).1;rw [z,hnn] at this;cases this
  have hloc:X.env.locals≠s.heap.objs.size:=fun z=>by
    obtain ⟨m,⟨o',es,ep,ho',_⟩,_⟩:=I.loc
    rw [z,hnn] at ho';cases ho'
  have hcel:∀ y c,X.env.cells.lookup y=some c→c≠s.heap.objs.size:=fun y c hc z=>by
    obtain ⟨w',o',ho',_⟩:=I.cell y c hc
    rw [z,hnn] at ho';cases ho'
  have ex:∃ o,h'.get? s.heap.objs.size=some o:=by obtain ⟨o,es,ep,t,e,_⟩:=hS;exact ⟨o,e⟩
  have I2:=I1.knowX (o:=.ext (qns X.prog X.w s.heap.objs.size (qg6 ks))) (Heap.get?_none_of_le I.sz) hno hpin hloc hcel ⟨⟨_,hS⟩,ex,fun h1 h2 ⟨S,o,es,ep,t,e,r⟩ kk=>⟨S,o,es,ep,t,kk o e,r⟩⟩
  exact ⟨.ref s.heap.objs.size,_,I2,rfl,q _ hno⟩
theorem qh2:qci X (.builtin "len") (fun vs H Q=>∃ (q:Addr) (n:Nat),vs=[.ref q]∧H q=some (.ext (qns X.prog X.w q n))∧n≤1000∧Q (.int n) H):=by
  intro pins s σ H vs us Q I rv hq0
  obtain ⟨a,n,rfl,ha,hn,q⟩:=hq0
  obtain ⟨u,rfl,rx⟩:=qfQ rv
  cases (show u=Value.ref a from rx)
  obtain ⟨⟨S,o,es,ep,t,e,hx,hd,_,_,_,hf,hsz⟩,_⟩:=(show ObjOk X.prog X.w H s.heap a (.ext (qns X.prog X.w a n)) from I.hok a _ ha)
  subst hsz
  exact call_len_set e hx hd hf (by omega) ⟨.int _,H,I.tok _,⟨_,rfl⟩,q⟩
def qkt (ta:TD):TD:=fun ρ R=>ta ρ fun d=>∃ ks:List Key,d=.lst (ks.map qgM)∧ks.length≤1000∧R (.int (qg6 ks))
theorem qgb (hcalm:X.calm=true) (hgl:Gl X "len") (hml:X.mg "len"=none) (hgs:Gl X "set") (hms:X.mg "set"=none) (ha:PD K X a ta) (hea:starEach [a] X.env=(false,eval a X.env)::starEach [] X.env)
    (hes:starEach [.Call (.Name "set" p2) [a] [] ps] X.env=(false,eval (.Call (.Name "set" p2) [a] [] ps) X.env)::starEach [] X.env):PD K X (.Call (.Name "len" p1) [.Call (.Name "set" p2) [a] [] ps] [] pos) (qkt ta) :=
  ⟨fun hK=>(qcz qh2 hgl hml PySem.boot_len (qaZ (qe1 (qhb hcalm) hgs hms (by kernel_rfl) (qaZ (ha.pe hK) pa_nil hea) (by decide) (by decide) hea qaf) pa_nil hes) (by decide) (by decide) hes qaf).imp fun σ H Q hq0=>by
    obtain ⟨H0,Φ,ρ,R,E,t,k⟩:=hq0
    refine ⟨H0,Φ,ρ,_,E,t,fun d Φ1 H1 v r g rv=>?_⟩
    obtain ⟨ks,rfl,hk,r⟩:=r
    obtain ⟨l,vs,rfl,h1,h2⟩:∃ l vs,v=.ref l∧Φ1 l=some (.lst vs)∧RpL K Φ1 (ks.map qgM) vs:=by
      cases rv with
      | lst h1 h2 h3=>exact ⟨_,_,rfl,h1,h2,h3⟩
    have hv:vs=ks.map kV:=qei h2
    subst hv
    refine ⟨l,ks,rfl,g.s _ _ h1,hk,fun q hq=>⟨q,qg6 ks,rfl,qaj,Nat.le_trans (qdP _ _) hk,?_⟩⟩
    exact k _ Φ1 _ _ r (g.trans (Gr.fresh g.s hq _)) (.int _)⟩
end
theorem qnR (a u:Value):argsOk "min" ⟨[a],[(Str.ofString "default",u)]⟩:=by unfold argsOk;kernel_rfl
section
variable {prog : Program} {w : World} {A : Around} {R : Result → Shared → Prop} {I : Addr} {fp wr : List Addr} {n : Nat} {P : Nat → Value → Prop} {St : Nat → Heap → Prop} {kw : List (Str × Value)}
theorem qhE (W:Walks prog w A.in1 I fp wr n P St) (val:Nat→Int) (hval:∀ i v,P i v→∃ t,v=.int (val i) t) (S:Addr) (hSf:S∉fp) :
    ∀ (k j i:Nat) (s:Shared) (vb:Value) (c:Nat),n - (j+1)=k→j+1≤n→St (j+1) s.heap→P i vb→i≤j→(∀ j',j'≤j→val i≤val j') →
    s.heap.get? S=some { cls:=.type "list",dict:=none,data:=.seq #[vb,vb] c,slots:=#[] } →
    (∀ i v h' tk,P i v→i<n→(∀ j',j'<n→val i≤val j')→(∀ b o,b∉wr→b≠S→s.heap.get? b=some o→h'.get? b=some o)→R (.ok (.ret v)) { s with heap:=h',toks:=tk }) →
    codeAny (model prog w) A (.builtin "min.loop" ⟨[.ref I,.none,.ref S],kw⟩) R s:=by
  have hSw:S∉wr:=fun h=>hSf (W.sub _ h)
  have hname:(toString "min"++toString ".loop":String)="min.loop":=by decide
  have hcmp:CmpOf prog w A.in1 .Lt P (fun i j=>decide (val i<val j)):=CmpOf.ints_lt val hval
  intro k
  induction k with
  | zero =>
    intro j i s vb c hk hj hst hPb hij hbest hS hR
    have hin:j+1=n:=by omega
    refine codeAny_builtin PySem.F.entry_min_loop ?_
    rw [Around.under_plainId PySem.F.plain_min_loop _]
    show wpAny _ A.in1 (seqItems? (.ref S) >>= _) _ _ s
    refine wpAny_bind (wpAny_seqItems hS rfl ?_)
    show wpAny _ A.in1 (tryCatch (pyNext (.ref I)) _ >>= _) _ _ s
    refine wpAny_bind (wpAny_tryCatch (W.done s _ _ (hin ▸ hst) fun h' tk hk'=>?_))
    have hS':=hk' S _ hSw hS
    show wpAny _ A.in1 (updateSeq S (fun _=>#[]) >>= _) _ _ _
    refine wpAny_bind ?_
    refine wpAny_updateSeq hS' rfl (wpAny_bind (wpAny_letGo (wpAny_pure ?_)))
    exact hR i vb _ tk hPb (by omega) (fun j' hj'=>hbest j' (by omega)) fun b o hbw hbS e=>(Heap.get?_update_other _ _ (Ne.symm hbS)).trans (hk' b o hbw e)
  | succ k ih =>
    intro j i s vb c hk hj hst hPb hij hbest hS hR
    have hlt:j+1<n:=by omega
    refine codeAny_builtin PySem.F.entry_min_loop ?_
    rw [Around.under_plainId PySem.F.plain_min_loop _]
    show wpAny _ A.in1 (seqItems? (.ref S) >>= _) _ _ s
    refine wpAny_bind (wpAny_seqItems hS rfl ?_)
    show wpAny _ A.in1 (tryCatch (pyNext (.ref I)) _ >>= _) _ _ s
    refine wpAny_bind (wpAny_tryCatch (W.item (j+1) s _ _ hlt hst fun v h' tk hP hst' hk'=>?_))
    have hS':=hk' S _ hSw hS
    show wpAny _ A.in1 (tryCatch (holding [v,v] (richCompare .Lt v vb >>= _)) _ >>= _) _ _ _
    refine wpAny_bind (wpAny_tryCatch (wpAny_holding (wpAny_bind (hcmp (j+1) i v vb _ _ _ hP hPb ?_))))
    refine wpAny_bind (wpAny_holding (wpAny_truthy_bool ?_))
    refine wpAny_bind (wpAny_letGo (wpAny_pure ?_))
    by_cases hb:val (j+1)<val i
    · rw [if_pos (decide_eq_true hb)]
      refine wpAny_bind ?_
      refine wpAny_updateSeq hS' rfl (wpAny_bind (wpAny_letGo ?_))
      rw [hname]
      refine wpAny_pure ⟨plainId_quiet PySem.F.plain_min_loop _,ih (j+1) (j+1) _ v _ (by omega) hlt (W.frame _ _ _ hst' fun b hbf o e=>?_) hP (Nat.le_refl _) (fun j' hj'=>?_) (Heap.get?_update_self _ hS' rfl)
        fun i' v' h'' tk'' hP' hi' hb' hk''=>?_⟩
      · exact (Heap.get?_update_other _ _ (fun h:S=b=>hSf (by rw [h];exact hbf))).trans e
      · rcases Nat.lt_or_eq_of_le hj' with h | h
        · have:=hbest j' (by omega);omega
        · rw [h];exact Int.le_refl _
      · exact hR i' v' h'' tk'' hP' hi' hb' fun b o hbw hbS e=>hk'' b o hbw hbS ((Heap.get?_update_other _ _ (Ne.symm hbS)).trans (hk' b o hbw e))
    · rw [if_neg fun z=>hb (of_decide_eq_true z)]
      refine wpAny_bind (wpAny_letGo ?_)
      rw [hname]
      refine wpAny_pure ⟨plainId_quiet PySem.F.plain_min_loop _,ih (j+1) i _ vb c (by omega) hlt hst' hPb (by omega) (fun j' hj'=>?_) hS' fun i' v' h'' tk'' hP' hi' hb' hk''=>?_⟩
      · rcases Nat.lt_or_eq_of_le hj' with h | h
        · exact hbest j' (by omega)
        · rw [h];omega
      · exact hR i' v' h'' tk'' hP' hi' hb' fun b o hbw hbS e=>hk'' b o hbw hbS (hk' b o hbw e)
theorem qgA (W:Walks prog w A.in1 I fp wr n P St) (val:Nat→Int) (hval:∀ i v,P i v→∃ t,v=.int (val i) t) (S:Addr) (hSf:S∉fp) {s:Shared} {c:Nat} {d:Value} (hst:St 0 s.heap)
    (hS:s.heap.get? S=some { cls:=.type "list",dict:=none,data:=.seq #[] c,slots:=#[] })
    (hR0:n=0→∀ h' tk,(∀ b o,b∉wr→b≠S→s.heap.get? b=some o→h'.get? b=some o)→R (.ok (.ret d)) { s with heap:=h',toks:=tk })
    (hR:∀ i v h' tk,P i v→i<n→(∀ j',j'<n→val i≤val j')→(∀ b o,b∉wr→b≠S→s.heap.get? b=some o→h'.get? b=some o)→R (.ok (.ret v)) { s with heap:=h',toks:=tk }) :
    codeAny (model prog w) A (.builtin "min.loop" ⟨[.ref I,.none,.ref S],[(Str.ofString "default",d)]⟩) R s:=by
  have hSw:S∉wr:=fun h=>hSf (W.sub _ h)
  have hname:(toString "min"++toString ".loop":String)="min.loop":=by decide
  refine codeAny_builtin PySem.F.entry_min_loop ?_
  rw [Around.under_plainId PySem.F.plain_min_loop _]
  show wpAny _ A.in1 (seqItems? (.ref S) >>= _) _ _ s
  refine wpAny_bind (wpAny_seqItems hS rfl ?_)
  show wpAny _ A.in1 (tryCatch (pyNext (.ref I)) _ >>= _) _ _ s
  rcases Nat.eq_zero_or_pos n with hn | hn
  · refine wpAny_bind (wpAny_tryCatch (W.done s _ _ (hn ▸ hst) fun h' tk hk'=>?_))
    exact wpAny_bind (wpAny_rule (wpAny_pure (hR0 hn h' tk fun b o hbw _ e=>hk' b o hbw e)))
  refine wpAny_bind (wpAny_tryCatch (W.item 0 s _ _ hn hst fun v h' tk hP hst' hk'=>?_))
  have hS':=hk' S _ hSw hS
  show wpAny _ A.in1 (updateSeq S (fun _=>#[v,v]) >>= _) _ _ _
  refine wpAny_bind ?_
  refine wpAny_updateSeq hS' rfl ?_
  rw [hname]
  refine wpAny_pure ⟨plainId_quiet PySem.F.plain_min_loop _,qhE W val hval S hSf _ 0 0 _ v _ rfl hn (W.frame _ _ _ hst' fun b hbf o e=>?_) hP (Nat.le_refl _) (fun j' hj'=>?_) (Heap.get?_update_self _ hS' rfl) fun i v' h'' tk'' hP' hi hb hk''=>?_⟩
  · exact (Heap.get?_update_other _ _ (fun h:S=b=>hSf (by rw [h];exact hbf))).trans e
  · have:j'=0:=by omega
    rw [this];exact Int.le_refl _
  · exact hR i v' h'' tk'' hP' hi hb fun b o hbw hbS e=>hk'' b o hbw hbS ((Heap.get?_update_other _ _ (Ne.symm hbS)).trans (hk' b o hbw e))
end
section
variable {prog : Program} {w : World} {A : Around} {E : Value → Shared → Prop} {s : Shared}
theorem qij {x d:Value} {Q:Value→Shared→Prop}
    (h:wpAny (model prog w) A.in1 (pyIter x) (fun it s₂=>∃ I fp wr n P St,∃ val:Nat→Int,it=.ref I∧Walks prog w A.in1 I fp wr n P St∧St 0 s₂.heap∧(∀ b∈fp,b<s₂.heap.objs.size)∧(∀ i v,P i v→∃ t,v=.int (val i) t) ∧
      (n=0→∀ h' tk,(∀ b o,b∉wr→s₂.heap.get? b=some o→h'.get? b=some o)→Q d { s₂ with heap:=h',toks:=tk }) ∧
      ∀ i v h' tk,P i v→i<n→(∀ j',j'<n→val i≤val j')→(∀ b o,b∉wr→s₂.heap.get? b=some o→h'.get? b=some o)→Q v { s₂ with heap:=h',toks:=tk }) E s) :
    wpAny (model prog w) A (call (.builtin "min") [x] [(Str.ofString "default",d)]) Q E s:=by
  have hname:(toString "min"++toString ".loop":String)="min.loop":=by decide
  refine kmk_tree PySem.F.kind_min PySem.F.plain_min PySem.F.entry_min (qnR _ _) ?_
  show wpAny _ A.in1 (Builtin.Builtins.bindParams "min" ["key","default"] 0 ⟨[],[(Str.ofString "default",d)]⟩ >>= _) _ _ s
  refine wpAny_bind (wpAny_of_eq (show Builtin.Builtins.bindParams "min" ["key","default"] 0 ⟨[],[(Str.ofString "default",d)]⟩=pure [none,some d] from rfl) ?_)
  refine wpAny_bind (wpAny_pure ?_)
  refine wpAny_bind (wpAny_mono h (fun it s₂ h₂=>?_) fun _ _ e=>e)
  obtain ⟨I,fp,wr,n,P,St,val,rfl,W,hst,hfp,hval,hQ0,hQ⟩:=h₂
  refine wpAny_bind (wpAny_newObj_type ?_)
  have hSf:s₂.heap.objs.size∉fp:=fun hm=>Nat.lt_irrefl _ (hfp _ hm)
  rw [hname]
  refine wpAny_pure ⟨plainId_quiet PySem.F.plain_min_loop _,qgA W val hval s₂.heap.objs.size hSf (W.frame _ _ _ hst fun b _ o e=>Heap.get?_push_of_some _ e) (Heap.get?_push_size _ rfl) (fun hn h' tk hk=>?_) fun i v h' tk hP hi hb hk=>?_⟩
  · exact hQ0 hn h' tk fun b o hbw e=>hk b o hbw (Nat.ne_of_lt (Heap.lt_size e)) (Heap.get?_push_of_some _ e)
  · exact hQ i v h' tk hP hi hb fun b o hbw e=>hk b o hbw (Nat.ne_of_lt (Heap.lt_size e)) (Heap.get?_push_of_some _ e)
theorem qiU {a:Addr} {its:Array Value} {val:Nat→Int} {d:Value} {Q:Value→Shared→Prop} (hh:A.handled=none) (hT:s.heap.IsTuple a its) (hval:∀ (i:Nat) (v:Value),its[i]?=some v→∃ t,v=.int (val i) t)
    (h0:its.size=0→∀ h' tk,(∀ b o,s.heap.get? b=some o→h'.get? b=some o)→Q d { s with heap:=h',toks:=tk })
    (h1:∀ (i:Nat) (v:Value) (h':Heap) (tk:Nat),its[i]?=some v→(∀ j',j'<its.size→val i≤val j')→(∀ b o,s.heap.get? b=some o→h'.get? b=some o)→Q v { s with heap:=h',toks:=tk }) :
    wpAny (model prog w) A (call (.builtin "min") [.ref a] [(Str.ofString "default",d)]) Q E s:=by
  have hlt:a<s.heap.objs.size:=by obtain ⟨_,e,_⟩:=hT;exact Heap.lt_size e
  refine qij (wpAny_pyIter_tuple hT ?_)
  have hold:∀ {h':Heap},(∀ b o,b∉[s.heap.objs.size]→(s.heap.push { cls:=.type "tuple_iterator",data:=.fields #[.ref a,.int 0 0] }).get? b=some o→h'.get? b=some o)→∀ b o,s.heap.get? b=some o→h'.get? b=some o:=fun hk b o e=>by
    refine hk b o (fun hm=>?_) (Heap.get?_push_of_some _ e)
    rw [List.mem_singleton.mp hm] at e
    exact absurd (Heap.lt_size e) (Nat.lt_irrefl _)
  refine ⟨_,[_,a],[_],_,_,_,val,rfl,Walks.tuple (A:=A.in1) hh _ a (Nat.ne_of_lt hlt) its,⟨⟨_,Heap.get?_push_size _ rfl,rfl,rfl⟩,hT.push _⟩,fun c hc=>?_,hval,fun hn h' tk hk=>h0 hn h' tk (hold hk),fun i v h' tk hP hi hb hk=>h1 i v h' tk hP hb (hold hk)⟩
  show c<(s.heap.push _).objs.size
  rw [Heap.size_push]
  rcases List.mem_cons.mp hc with rfl | hc
  · exact Nat.lt_succ_self _
  · rw [List.mem_singleton.mp hc];exact Nat.lt_succ_of_lt hlt
end
def qop (tl:TD) (c:Int):TD:=fun ρ R=>tl ρ fun d=>∃ ns:List Int,d=.tup (ns.map D.int)∧(ns=[]→R (.int c))∧∀ n∈ns,(∀ m∈ns,n≤m)→R (.int n)
section
variable {K : PySem.W.Frag} {X : Cx} {l : Expr} {tl : TD} {np pos kp2 kp3 : Pos} {c : Int} {j : Nat}
theorem qlC (hcalm:X.calm=true) (hg:Gl X "min") (hm:X.mg "min"=none) (hl:PQ K X l tl) (he:starEach [l] X.env=(false,eval l X.env)::starEach [] X.env) :
    PD K X (.Call (.Name "min" np) [l] [⟨some "default",.Constant (.int c) j kp2,kp3⟩] pos) (qop tl c):=⟨fun hK=>by
  subst hK
  intro pins s σ H Q I ⟨H0,Φ,ρ,R,V,t,k⟩
  refine wpAny_Call_Name_kw (qdq I hg hm boot_min ?_)
  have he':backTo pos (starEach [l] X.env)=(false,eval l X.env)::backTo pos (starEach [] X.env):=by rw [he];rfl
  refine callWith_kw (thn (qaZ (hl.pe rfl) pa_nil he pos pins s σ H (fun vs H1=>∃ x Φ1,∃ ns:List Int,vs=[x]∧Gr Φ H Φ1 H1∧RpQ X.K Φ1 H1 (.tup (ns.map D.int)) x∧(ns=[]→R (.int c))∧∀ n∈ns,(∀ m∈ns,n≤m)→R (.int n)) I ⟨H0,Φ,ρ,_,V,t,fun d Φ1 H1 v r g rv=>?_⟩) fun us s1 ⟨vs,H1,I1,r1,q1⟩=>?_) he' (by rw [he'];rfl)
  · obtain ⟨ns,rfl,r⟩:=r
    exact ⟨v,Φ1,ns,rfl,g,rv,r⟩
  · obtain ⟨x,Φ1,ns,rfl,g1,rq,hk2,hk3⟩:=q1
    obtain ⟨a,xs,rfl,hxs,_,rl⟩:=rq.tup g1.s
    have exs:=qkH rl
    subst exs
    cases r1 with
    | cons r rr =>
    cases rr
    cases r
    refine kws_cons (wpAny_Constant_int (kws_nil ?_))
    show wpAny _ X.A (call (.builtin "min") [.ref a] [(Str.ofString "default",.int c _)]) _ _ _
    have I2:=I1.tok (s1.toks+1)
    obtain ⟨its,rv,ht,_⟩:=I2.tuple hxs
    have hlen:its.length=ns.length:=by rw [← rv.length,List.length_map]
    refine qiU (its:=its.toArray) (val:=fun i=>ns.getD i 0) (I2.ok.hd hcalm) ht (fun i v hv=>?_) (fun h0 h' tk kp=>?_) fun i v h' tk hv hb kp=>?_
    · rw [List.getElem?_toArray] at hv
      have hi:=qao hv
      have hx:ns[i]?=some (ns.getD i 0):=by rw [List.getD_eq_getElem?_getD,List.getElem?_eq_getElem (by omega)];rfl
      obtain ⟨u,hu,ru⟩:=rv.get (i:=i) (x:=.int (ns.getD i 0)) (by rw [List.getElem?_map,hx];rfl)
      rw [hv] at hu
      cases hu
      exact ru
    · have hn:ns=[]:=List.length_eq_zero_iff.mp (by rw [← hlen];simpa using h0)
      exact ⟨.int c,H1,I2.kept kp,⟨_,rfl⟩,k _ Φ1 H1 _ (hk2 hn) g1 (.int _)⟩
    · rw [List.getElem?_toArray] at hv
      have hi:=qao hv
      have hx:ns[i]?=some (ns.getD i 0):=by rw [List.getD_eq_getElem?_getD,List.getElem?_eq_getElem (by omega)];rfl
      obtain ⟨u,hu,ru⟩:=rv.get (i:=i) (x:=.int (ns.getD i 0)) (by rw [List.getElem?_map,hx];rfl)
      rw [hv] at hu
      cases hu
      refine ⟨.int (ns.getD i 0),H1,I2.kept kp,ru,k _ Φ1 H1 _ (hk3 _ (List.mem_of_getElem? hx) fun m hm=>?_) g1 (.int _)⟩
      obtain ⟨j',hj'⟩:=List.getElem?_of_mem hm
      have:=hb j' (by rw [List.size_toArray,hlen];exact qao hj')
      have e:ns.getD j' 0=m:=by rw [List.getD_eq_getElem?_getD,hj'];rfl
      rw [e] at this
      exact this⟩
end
end L2
namespace Kx
open PySem L2
section
variable {P : Program} {w : World} {K : PySem.W.Frag} {mg : Str → Option Value} {base : Heap}
def top (i:Nat):Stmt:=PySem.Challenge.pw_cutyard_k54_sack_plan.main.body.getD i (.Pass ⟨0,0,0,0⟩)
abbrev qbd:Stmt:=top 11
theorem qcd:FnScope ["count","most"] ["count","most"] (qad qbd):=⟨rfl,rfl,rfl,by decide +kernel,rfl,by decide +kernel,by decide +kernel⟩
abbrev qa3:Stmt:=top 12
theorem sc_refuse_twice:FnScope ["names","came","name"] ["names"] (qad qa3):=⟨rfl,rfl,rfl,by decide +kernel,rfl,by decide +kernel,by decide +kernel⟩
abbrev qaN:Stmt:=top 98
theorem qb2:FnScope ["numbers"] ["numbers"] (qad qaN):=⟨rfl,rfl,rfl,by decide +kernel,rfl,by decide +kernel,by decide +kernel⟩
abbrev qav:Stmt:=top 99
theorem sc_refuse_sack:FnScope ["limits","kinds","kind"] ["limits","kinds"] (qad qav):=⟨rfl,rfl,rfl,by decide +kernel,rfl,by decide +kernel,by decide +kernel⟩
abbrev qaL:Stmt:=top 100
theorem sc_sack_plan:FnScope ["limits","kinds","bounds","rows","place","limit"] ["limits","kinds"] (qad qaL):=⟨rfl,rfl,rfl,by decide +kernel,rfl,by decide +kernel,by decide +kernel⟩
abbrev qgr:Stmt:=top 102
theorem sc_sack:FnScope ["limits","kinds","plan","name","counts"] ["limits","kinds"] (qad qgr):=⟨rfl,rfl,rfl,by decide +kernel,rfl,by decide +kernel,by decide +kernel⟩
abbrev qbL:Stmt:=top 104
theorem qeR:FnScope ["_law_script","_law_k"] ["_law_script","_law_k"] (qad qbL):=⟨rfl,rfl,rfl,by decide +kernel,rfl,by decide +kernel,by decide +kernel⟩
abbrev qbx:Stmt:=top 105
theorem sc__law_draws:FnScope ["_law_cell_here","_law_salt","_law_sizes","_law_row","_law_rest","_law_k","_law_size","_law_mixed"] ["_law_cell_here","_law_salt","_law_sizes"] (qad qbx):=⟨rfl,rfl,rfl,by decide +kernel,rfl,by decide +kernel,by decide +kernel⟩
abbrev qby:Stmt:=top 106
theorem qeA:FnScope ["_law_told"] ["_law_told"] (qad qby):=⟨rfl,rfl,rfl,by decide +kernel,rfl,by decide +kernel,by decide +kernel⟩
abbrev qbf:Stmt:=top 107
theorem qdT:FnScope ["_law_told","_law_size"] ["_law_told","_law_size"] (qad qbf):=⟨rfl,rfl,rfl,by decide +kernel,rfl,by decide +kernel,by decide +kernel⟩
abbrev qbi:Stmt:=top 108
theorem sc__law_names:FnScope ["_law_cell_here","_law_salt","_law_many","_law_numbers","_law_names_here","_law_k","_law_signs","_law_word"] ["_law_cell_here","_law_salt","_law_many"] (qad qbi):=⟨rfl,rfl,rfl,by decide +kernel,rfl,by decide +kernel,by decide +kernel⟩
abbrev qbe:Stmt:=top 109
theorem sc__law_kinds_of:FnScope ["_law_e","_law_kinds"] ["_law_e"] (qad qbe):=⟨rfl,rfl,rfl,by decide +kernel,rfl,by decide +kernel,by decide +kernel⟩
abbrev qba:Stmt:=top 110
theorem qdW:FnScope ["_law_cell_here","_law_names_here","_law_big"] ["_law_cell_here","_law_names_here","_law_big"] (qad qba):=⟨rfl,rfl,rfl,by decide +kernel,rfl,by decide +kernel,by decide +kernel⟩
abbrev qbb:Stmt:=top 111
theorem sc__law_kinds_by:FnScope ["_law_script","_law_first_cell","_law_names_here","_law_many","_law_heavy","_law_big","_law_kinds","_law_k","_law_name","_law_numbers","_law_most"] ["_law_script","_law_first_cell","_law_names_here","_law_many","_law_heavy","_law_big"] (qad qbb):=⟨rfl,rfl,rfl,by decide +kernel,rfl,by decide +kernel,by decide +kernel⟩
abbrev qb8:Stmt:=top 112
theorem sc__law_put:FnScope ["_law_row","_law_at","_law_one"] ["_law_row","_law_at","_law_one"] (qad qb8):=⟨rfl,rfl,rfl,by decide +kernel,rfl,by decide +kernel,by decide +kernel⟩
abbrev qaH:Stmt:=top 113
theorem sc__law_faulty_limits:FnScope ["_law_fault","_law_limits_here","_law_places","_law_at"] ["_law_fault","_law_limits_here","_law_places"] (qad qaH):=⟨rfl,rfl,rfl,by decide +kernel,rfl,by decide +kernel,by decide +kernel⟩
abbrev qaQ:Stmt:=top 114
theorem sc__law_faulty_kinds:FnScope ["_law_fault","_law_kinds","_law_places","_law_name","_law_worth_of","_law_most","_law_weights","_law_at"] ["_law_fault","_law_kinds","_law_places"] (qad qaQ):=⟨rfl,rfl,rfl,by decide +kernel,rfl,by decide +kernel,by decide +kernel⟩
abbrev qax:Stmt:=top 115
theorem qcM:FnScope ["_law_limits_here","_law_kinds"] ["_law_limits_here","_law_kinds"] (qad qax):=⟨rfl,rfl,rfl,by decide +kernel,rfl,by decide +kernel,by decide +kernel⟩
abbrev qaK:Stmt:=top 116
theorem sc__law_refused_well:FnScope ["_law_limits_here","_law_kinds","_law_due","_law_right","_law_here","_law_there","_law_told","_law_e"] ["_law_limits_here","_law_kinds","_law_due"] (qad qaK):=⟨rfl,rfl,rfl,by decide +kernel,rfl,by decide +kernel,by decide +kernel⟩
abbrev qay:Stmt:=top 117
theorem sc__law_plan_well:FnScope ["_law_limits_here","_law_kinds","_law_plan","_law_bounds","_law_rows","_law_goal","_law_at","_law_limit"] ["_law_limits_here","_law_kinds"] (qad qay):=⟨rfl,rfl,rfl,by decide +kernel,rfl,by decide +kernel,by decide +kernel⟩
abbrev qjC:Stmt:=top 118
theorem sc_law:FnScope ["_law_script","_law_shape","_law_faults","_law_many","_law_more","_law_big","_law_limits_here","_law_kinds","_law_due"] ["_law_script"] (qad qjC):=⟨rfl,rfl,rfl,by decide +kernel,rfl,by decide +kernel,by decide +kernel⟩
def exN:List Str:=["YardError","NoNumber","NoName","Twice","TooGreat","NoText","NoRow","NoChange","BelowNought"]
def qcW:Str→Str→Bool:=fun a b=>a == b || b == "YardError"
abbrev qiw:Stmt:=qef (top 3) 0
abbrev qct:Stmt:=qef (top 4) 0
theorem qhP:FnScope ["self","at"] ["self","at"] (qad qct):=⟨rfl,rfl,rfl,by decide +kernel,rfl,by decide +kernel,by decide +kernel⟩
abbrev qbt:Stmt:=qef (top 5) 0
theorem qeO:FnScope ["self","at"] ["self","at"] (qad qbt):=⟨rfl,rfl,rfl,by decide +kernel,rfl,by decide +kernel,by decide +kernel⟩
abbrev qic:Stmt:=qef (top 6) 0
def qck:SpD:=fun ds R=>∃ (ns:List Int) (k:Int),ds=[.fzl (ns.map D.int),.int k]∧ns.length≤63∧0≤k∧∀ i:Int,R (.int i)
theorem qe6 {n:Nat} {f:Addr} {fd:FuncData} (F:Fun K "_law_cell" "_law_cell" qbL f fd) (z_len:mg "len"=none):FnOk P w K mg base CX0 (n+1) f fd ["_law_script","_law_k"] (lSp K qck):=by
  refine F.okD qeR (fun ds R h=>?_) (fun cdv A outer s H E ds R hr h=>?_)
  · obtain ⟨ns,k,rfl,_⟩:=h;rfl
  obtain ⟨ns,k,rfl,hz,h0,q⟩:=h
  refine ⟨_,(qbq (qcp (qe9 (qbz (dvq 0) (fun _=>rfl))) (qaz (qa7 (qaU qa2 (PD.q (qaU qbJ (PD.q qab) (dvq 1))) (PD.q qab)))) qbg)
      (qaz (qa7 (qaU qa2 (PD.q (qaS (dvq 0) (PD.q (qaU qc6 (dvq 1) (PD.q (qau qbp rfl z_len PySem.boot_len (qam (dvq 0) qaq qaa) qaa qaf)))) (fun _ _=>rfl))) (PD.q (qaU qbJ (PD.q qab) (PD.q (qaU qjG (dvq 1) (PD.q (qau qbp rfl z_len PySem.boot_len (qam (dvq 0) qaq qaa) qaa qaf)))))))))),?_⟩
  refine ⟨fun ρ=>ns≠[]∧ρ=[some (.v (.fzl (ns.map D.int))),some (.v (.int k))],⟨fun h=>⟨qb4 (by decide) (by decide),q _⟩,fun h=>⟨fun e=>?_,rfl⟩⟩,?_⟩
  · subst e;cases h
  rintro ρ ⟨hne,rfl⟩
  have hp:(0:Int)<((ns.map D.int).length:Int):=by
    have:=List.length_pos_iff.mpr hne
    rw [List.length_map];omega
  have hl:(ns.map D.int).length≤63:=by rw [List.length_map];exact hz
  obtain ⟨v,hv⟩:=qlm (ns:=ns) (k:=k % ((ns.map D.int).length:Int)) (Int.emod_nonneg _ (by omega)) (by have:=Int.emod_lt_of_pos k hp;rw [List.length_map] at this ⊢;exact this)
  exact ⟨hp, _, hv, CDivB.of hp (by have h9 : (1000 : Int) < 2 ^ 9000 := by decide +kernel
                                    omega),qb4 (by decide) (by decide),q _⟩
abbrev Dr (d z:Int):Prop:=0≤d∧d<z
abbrev Drawn (ds zs:List Int):Prop:=Paired Dr ds zs
theorem Drawn.take {zs:List Int} {i:Nat} {z:Int} {ds:List Int} (h:Drawn ds (zs.take i)) (hz:zs[i]?=some z) {d:Int} (h0:0≤d) (h1:d<z):Drawn (ds++[d]) (zs.take (i+1)):=by
  rw [qcs hz]
  exact Paired.snoc h ⟨h0,h1⟩
theorem Drawn.len {ds zs:List Int} (h:Drawn ds zs):ds.length=zs.length:=Paired.length h
def qbl:SpD:=fun ds R=>∃ (c s:Int) (zs:List Int),ds=[.int c,.int s,.lst (zs.map D.int)]∧zs.length≤1000∧0≤s∧s<2 ^ 20∧(∀ z∈zs,0<z∧z<2 ^ 9000)∧∀ es:List Int,Drawn es zs→R (.lst (es.map D.int))
theorem qed {n:Nat} {f:Addr} {fd:FuncData} (F:Fun K "_law_draws" "_law_draws" qbx f fd) (z_max:mg "max"=none) (z_enumerate:mg "enumerate"=none) (z_abs:mg "abs"=none):FnOk P w K mg base CX0 (n+1) f fd ["_law_cell_here","_law_salt","_law_sizes"] (lSp K qbl):=by
  refine F.okD sc__law_draws (fun ds R h=>?_) (fun cdv A outer s H E ds R hr h=>?_)
  · obtain ⟨c,s0,zs,rfl,_⟩:=h;rfl
  obtain ⟨c,s0,zs,rfl,hz,hs0,hs1,hzs,q⟩:=h
  refine ⟨_,(qar (qiY (i:=3) sc__law_draws.nd rfl (Or.inl rfl) (qbw qap))
      (qar (qaP (i:=4) sc__law_draws.nd rfl (Or.inl rfl) (qau (qm0 rfl) rfl z_max PyProof.Rows.boot_max (qam (PD.q qab) (qam (PD.q (qaU qfb (PD.q (qau qob rfl z_abs PyProof.Rows.boot_abs (qam (dvq 0) qaq qaa) qaa qaf)) (PD.q (qaU qnb (PD.q qab) (PD.q qab))))) qaq qaC) qae) qae (qai qaC qaf)))
      (qar (qfB PassesOwn.never rfl (qdo rfl z_enumerate (qac (dv 2) qap qaa)) (qfw (n:=2) rfl (qaY (qat (i:=5) sc__law_draws.nd rfl (Or.inl rfl)) (qaY (qat (i:=6) sc__law_draws.nd rfl (Or.inl rfl)) qdr))) (qaz (qcp (qa6 qkx (dvq 4) (PD.q qab) (qaE _)) (qar (qcr 3 (qaU qc6 (PD.q (qaU qfb (dvq 4) (PD.q qab))) (dvq 6)) (qdC qaC) qaC)
      (qaz (qaP (i:=4) sc__law_draws.nd rfl (Or.inl rfl) (qaU qjG (PD.q (qaU qfb (dvq 4) (PD.q qab))) (dvq 6))))) (qar (qaP (i:=7) sc__law_draws.nd rfl (Or.inl rfl) (qaU qa2 (PD.q (qaU qa2 (PD.q (qaU qbJ (PD.q (qaU qc6 (dvq 0) (PD.q qab))) (PD.q qab))) (PD.q (qaU qbJ (dvq 1) (PD.q qab))))) (PD.q qab)))
      (qar (qaP (i:=7) sc__law_draws.nd rfl (Or.inl rfl) (qaU qa2 (dvq 7) (PD.q (qaU qbJ (dvq 5) (PD.q (qaU qa2 (PD.q (qaU qbJ (dvq 5) (PD.q qab))) (PD.q qab)))))))
      (qar (qaP (i:=7) sc__law_draws.nd rfl (Or.inl rfl) (qaU qa2 (PD.q (qaU qc6 (PD.q (qaU qbJ (dvq 7) (PD.q qab))) (PD.q qab))) (PD.q (qaU qbJ (dvq 5) (dvq 1)))))
      (qar (qaP (i:=7) sc__law_draws.nd rfl (Or.inl rfl) (qaU qc6 (PD.q (qaU qbJ (dvq 7) (PD.q qab))) (PD.q qab)))
      (qbq (qcp (qa6 qkx (dvq 6) (PD.q qab) (qaE _)) (qaz (qaP (i:=7) sc__law_draws.nd rfl (Or.inl rfl) (qaU qbJ (PD.q (qaU qbJ (PD.q (qaU qbJ (dvq 7) (dvq 7))) (dvq 7))) (dvq 7)))) qbg)
      (qaz (qcr 3 (qaU qc6 (dvq 7) (dvq 6)) (qdC qaC) qaC))))))))))
      (qg2 3 (qaz (qa7 (dv 3))))))),?_⟩
  refine ⟨⟨by decide,by decide,by decide⟩,fun i ρ=>∃ (r:Int) (es:List Int) (u5 u6 u7:Option Sl),ρ=[some (.v (.int c)),some (.v (.int s0)),some (.v (.lst (zs.map D.int))),some (.own (es.map D.int)),some (.v (.int r)),u5,u6,u7]∧Drawn es (zs.take i),⟨_,[],_,_,_,rfl,.nil⟩,?_,?_⟩
  · rintro i d ρ hd ⟨r,es,u5,u6,u7,rfl,hD⟩
    obtain ⟨e,he,rfl⟩:=qcF hd
    obtain ⟨z,rfl,hzi⟩:=qjm he
    have hzm:=hzs z (List.mem_of_getElem? hzi)
    have hi:i<zs.length:=qao hzi
    have ll:(es.map D.int).length<sizeLine:=by
      have:=hD.len
      rw [List.length_take] at this
      rw [List.length_map]
      exact qan (by omega)
    refine ⟨rfl,⟨fun h=>?_,fun h=>?_⟩⟩
    · exact ⟨hzm.1,ll,_,qfA _ _ _,CDivB.of hzm.1 hzm.2,_,es++[(r - 1) % z],_,_,_,rfl,hD.take hzi (Int.emod_nonneg _ (by omega)) (Int.emod_lt_of_pos _ hzm.1)⟩
    · refine ⟨(by decide:(0:Int)<1000003),qbX (by decide) (by decide),qbX (by decide) (by decide),qbX (by decide) (by decide),qb4 (by omega) (by omega),qbX (by decide) (by decide),(by decide:(0:Int)<2147483647),qb4 (by omega) (by omega),qbX (by decide) (by decide),(by decide:(0:Int)<1000000007),?_⟩
      refine ⟨fun ρ=>∃ m:Int,ρ=[some (.v (.int c)),some (.v (.int s0)),some (.v (.lst (zs.map D.int))),some (.own (es.map D.int)),some (.v (.int r)),some (.v (.int i)),some (.v (.int z)),some (.v (.int m))],⟨fun h2=>?_,fun h2=>⟨_,rfl⟩⟩,?_⟩
      · have m0:=Int.emod_nonneg ((((c % 1000003*7919+s0*15485863+5+(i:Int)*((i:Int)*104729+611953))*48271 % 2147483647+(i:Int)*s0))*69621) (b:=1000000007) (by decide)
        have m1:=Int.emod_lt_of_pos ((((c % 1000003*7919+s0*15485863+5+(i:Int)*((i:Int)*104729+611953))*48271 % 2147483647+(i:Int)*s0))*69621) (b:=1000000007) (by decide)
        exact ⟨qbX (by omega) (by omega),qbX (by omega) (by omega),qbX (by omega) (by omega),_,rfl⟩
      · rintro ρ ⟨m,rfl⟩
        exact ⟨hzm.1,ll,_,qfA _ _ _,_,es++[m % z],_,_,_,rfl,hD.take hzi (Int.emod_nonneg _ (by omega)) (Int.emod_lt_of_pos _ hzm.1)⟩
  · rintro ρ ⟨r,es,u5,u6,u7,rfl,hD⟩
    rw [qbT,List.length_map,List.take_length] at hD
    exact q es hD
theorem Drawn.mem {ds zs:List Int} (h:Drawn ds zs):∀ d∈ds,∃ z∈zs,0≤d∧d<z:=by
  induction h with
  | nil=>intro d hd;exact absurd hd List.not_mem_nil
  | cons h1 t ih =>
    intro d hd
    rcases List.mem_cons.mp hd with rfl | hd
    · exact ⟨_,List.mem_cons_self,h1⟩
    · obtain ⟨z,hz,q⟩:=ih d hd
      exact ⟨z,List.mem_cons_of_mem _ hz,q⟩
theorem toB {R:D→Prop} {a b:Bool} (q:R (.bl a)) (e:b=a):R (.bl b):=e ▸ q
def qbF:SpD:=fun ds R=>∃ (a b:Int),ds=[.int a,.int b]∧a≤b∧R .non
theorem qd0 {n:Nat} {f:Addr} {fd:FuncData} (F:Fun K "refuse_more" "refuse_more" qbd f fd) :FnOk P w K mg base CX0 (n+1) f fd ["count","most"] (lSp K qbF):=by
  refine F.okD qcd (fun ds R h=>?_) (fun cdv A outer s H E ds R hr h=>?_)
  · obtain ⟨a,b,rfl,_⟩:=h;rfl
  obtain ⟨a,b,rfl,h,q⟩:=h
  refine ⟨_,(qaz (qcp (qa6 qkx (dvq 0) (dvq 1) (qaE _)) (qaz qfC) qbg)),?_⟩
  exact ⟨fun e=>by have:=dP e;omega,fun _=>q⟩
theorem qfu (xs:List Str):xs.map D.str=(xs.map Sum.inr).map qgM:=by rw [List.map_map];rfl
theorem qht {x:Str} {xs:List Str}:qeD (.inr x) (xs.map Sum.inr)=decide (x∈xs):=by
  by_cases c:x∈xs
  · rw [decide_eq_true c,(qgk _ _).mpr (List.mem_map.mpr ⟨x,c,rfl⟩)]
  · rw [decide_eq_false c]
    cases h:qeD (.inr x) (xs.map Sum.inr) with
    | false=>rfl
    | true =>
      obtain ⟨y,hy,e⟩:=List.mem_map.mp ((qgk _ _).mp h)
      cases e
      exact absurd hy c
theorem qen {d:D} {ds:List D} {R:List D→Prop} {ρ:Rho} (h:qf4 d=some ds) (q:R ds):qoQ (fun _ k=>k d) ρ R:=by
  cases d with
  | lst _=>cases h;exact q
  | tup _=>cases h;exact q
  | fzl _=>cases h;exact q
  | _=>cases h
def qbB:SpD:=fun ds R=>∃ (d:D) (xs:List Str),ds=[d]∧qf4 d=some (xs.map D.str)∧xs.Nodup∧xs.length≤1000∧R .non
theorem qdz {n:Nat} {f:Addr} {fd:FuncData} (F:Fun K "refuse_twice" "refuse_twice" qa3 f fd) :FnOk P w K mg base CX0 (n+1) f fd ["names"] (lSp K qbB):=by
  refine F.okD sc_refuse_twice (fun ds R h=>?_) (fun cdv A outer s H E ds R hr h=>?_)
  · obtain ⟨d,xs,rfl,_⟩:=h;rfl
  obtain ⟨d,xs,rfl,hd,hn,hl,q⟩:=h
  refine ⟨_,(qar (qmk (i:=1) sc_refuse_twice.nd rfl (Or.inl rfl))
      (qaz (qfB PassesOwn.never rfl (qa0 (dv 0)) (qat (i:=2) sc_refuse_twice.nd rfl (Or.inl rfl)) (qbq (qcp (qnL 1 hr.units (dv 2)) (qaz qfC) qbg)
      (qaz (qnm 1 hr.units (dv 2) qdR)))))),?_⟩
  refine qen (ρ:=[]) hd ?_
  refine ⟨fun i ρ=>∃ u2:Option Sl,ρ=[some (.v d),some (.dct ((xs.take i).map Sum.inr)),u2],⟨_,rfl⟩,?_,?_⟩
  · rintro i e ρ he ⟨u2,rfl⟩
    obtain ⟨x,rfl,hx⟩:=qbm he
    have hi:=qao hx
    have hnot:x∉xs.take i:=fun hm=>by
      obtain ⟨j,hj⟩:=List.getElem?_of_mem hm
      have hji:j<i:=by have:=qao hj;rw [List.length_take] at this;omega
      rw [List.getElem?_take_of_lt hji] at hj
      have:=(List.getElem?_inj (by omega) hn).mp (hj.trans hx.symm)
      omega
    have hf:qeD (.inr x) ((xs.take i).map Sum.inr)=false:=by rw [qht,decide_eq_false hnot]
    refine ⟨fun ρ=>ρ=[some (.v d),some (.dct ((xs.take i).map Sum.inr)),some (.v (.str x))],⟨.inr x,rfl,fun h=>?_,fun _=>rfl⟩,?_⟩
    · rw [hf] at h;cases h
    rintro ρ rfl
    refine ⟨.inr x,rfl,?_,(xs.take (i+1)).map Sum.inr,?_,_,rfl⟩
    · rw [List.length_map,List.length_take];exact qan (by omega)
    · rw [hf,if_neg (by decide),List.take_add_one,hx,List.map_append];rfl
  · rintro ρ ⟨u2,rfl⟩
    exact q
def qcx:SpR:=fun ds W=>∃ (a b:Int),ds=[.int a,.int b]∧b<a∧W ⟨"TooGreat",some .non⟩
theorem qdG {n:Nat} {f:Addr} {fd:FuncData} (F:Fun K "refuse_more" "refuse_more" qbd f fd) (Z_TooGreat:Rz1 P w K mg base "TooGreat"):FnOk P w K mg base (CXo P w) (n+3) f fd ["count","most"] (qfi K mg (qep qcx)):=by
  refine F.okX qcd (fun ds R W h=>?_) (fun cdv A outer s H E ds R W hcd hr h=>?_)
  · obtain ⟨a,b,rfl,_⟩:=h;rfl
  obtain ⟨a,b,rfl,h,q⟩:=h
  refine ⟨_,(qbC (qkP (qg0 (qa6 qkx (dvq 0) (dvq 1) (qaE _))) (qbC (qmu Z_TooGreat rfl rfl rfl (hr.mono (by omega)) qbW qae)) qfD)),?_⟩
  exact ⟨fun _=>⟨trivial,q⟩,fun e=>absurd h (of_decide_eq_false e)⟩
theorem qkz {kvs:List (Key × D)} {xs:List Str} {x:Str} (h:kvs.map (·.1)=xs.map Sum.inr):(qgl kvs (.inr x)).isSome=decide (x∈xs):=by
  rw [qdF]
  have e:(kvs.any fun kv=>decide (kv.1=.inr x))=((kvs.map (·.1)).any fun k=>decide (k=.inr x)):=by rw [List.any_map];rfl
  rw [e,h,List.any_map]
  by_cases c:x∈xs
  · rw [decide_eq_true c]
    exact List.any_eq_true.mpr ⟨x,c,by show decide ((Sum.inr x:Key)=.inr x)=true;rw [decide_eq_true rfl]⟩
  · rw [decide_eq_false c]
    refine Bool.eq_false_iff.mpr fun z=>?_
    obtain ⟨y,hy,e⟩:=List.any_eq_true.mp z
    have:=Sum.inr.inj (of_decide_eq_true e)
    rw [this] at hy
    exact c hy
theorem qfR {xs:List Str} {x:Str} (h:xs.Nodup) (hx:x∉xs):(xs++[x]).Nodup:=by
  rw [List.nodup_append]
  refine ⟨h,by simp,fun a ha b hb=>?_⟩
  rw [List.mem_singleton.mp hb]
  exact fun e=>hx (e ▸ ha)
def qce:SpR:=fun ds W=>∃ (d:D) (xs:List Str),ds=[d]∧qf4 d=some (xs.map D.str)∧¬ xs.Nodup∧xs.length≤1000∧W ⟨"Twice",some .non⟩
theorem qdb {n:Nat} {f:Addr} {fd:FuncData} (F:Fun K "refuse_twice" "refuse_twice" qa3 f fd) (Z_Twice:Rz1 P w K mg base "Twice"):FnOk P w K mg base (CXo P w) (n+3) f fd ["names"] (qfi K mg (qep qce)):=by
  refine F.okX sc_refuse_twice (fun ds R W h=>?_) (fun cdv A outer s H E ds R W hcd hr h=>?_)
  · obtain ⟨d,xs,rfl,_⟩:=h;rfl
  obtain ⟨d,xs,rfl,hd,hn,hl,q⟩:=h
  refine ⟨_,(qa1 (qcI (i:=1) sc_refuse_twice.nd rfl (Or.inl rfl) qlg)
      (qbC (qj7 PassesOwn.leaving rfl (qk2 (qa0 (dv 0))) (qgs (i:=2) sc_refuse_twice.nd rfl (Or.inl rfl)) (qkI (qkP (qnk 1 hr.units (dv 2)) (qbC (qmu Z_Twice rfl rfl rfl (hr.mono (by omega)) qbW qae)) qfD)
      (qbC (qm3 1 hr.units (dv 2) qdR)))))),?_⟩
  refine qen (ρ:=[]) hd ?_
  refine ⟨fun i ρ=>(xs.take i).Nodup∧∃ (kvs:List (Key × D)) (u2:Option Sm),kvs.map (·.1)=(xs.take i).map Sum.inr∧ρ=[some (.v d),some (.ob none (.map kvs)),u2],⟨by simp,[],_,rfl,rfl⟩,?_,?_⟩
  · rintro i e ρ he ⟨hnd,kvs,u2,hk,rfl⟩
    obtain ⟨x,rfl,hx⟩:=qbm he
    have hi:=qao hx
    have hin:=qkz (x:=x) hk
    refine ⟨fun ρ=>x∉xs.take i∧ρ=[some (.v d),some (.ob none (.map kvs)),some (.v (.str x))],⟨.inr x,rfl,fun h=>⟨trivial,q⟩,fun h=>?_⟩,?_⟩
    · rw [qlS,hin] at h
      exact ⟨of_decide_eq_false h,rfl⟩
    rintro ρ ⟨hx9,rfl⟩
    have hl2:kvs.length=(xs.take i).length:=by have:=congrArg List.length hk;rwa [List.length_map,List.length_map] at this
    have hno:qgl kvs (.inr x)=none:=by
      rw [decide_eq_false hx9] at hin
      cases e:qgl kvs (.inr x) with
      | none=>rfl
      | some v=>rw [e] at hin;cases hin
    refine ⟨trivial,.inr x,rfl,?_,_,qiS hno,?_,_,_,?_,rfl⟩
    · rw [hl2,List.length_take];exact qan (by omega)
    · rw [qcs hx];exact qfR hnd hx9
    · rw [qcs hx,List.map_append,List.map_append,hk];rfl
  · rintro ρ ⟨hnd,_⟩
    rw [List.length_map,List.take_length] at hnd
    exact absurd hnd hn
def qlQ (n:Nat):List Int:=(List.replicate n [4,6,6,6]).flatten
theorem qgq (n:Nat):(qlQ n).length=4*n:=by unfold qlQ;simp;omega
theorem qjk {α:Type} {n:Nat} {xs:List α} {z:α} (h:z∈(List.replicate n xs).flatten):z∈xs:=by
  obtain ⟨l,hl,hz⟩:=List.mem_flatten.mp h
  rw [(List.mem_replicate.mp hl).2] at hz
  exact hz
theorem qj0 {n:Nat}:∀ z∈qlQ n,0<z∧z≤6:=fun z hz=>by
  have:=qjk hz
  simp at this
  omega
theorem qke (a b:Str):(a++b).length=a.length+b.length:=Array.size_append
theorem qiA {α:Type} {xs:List α} {i:Nat} {d:α} (h:i<xs.length):xs.getD i d∈xs:=by
  rw [List.getD_eq_getElem?_getD,qaF h]
  exact List.getElem_mem h
theorem qfP {α:Type} {xs:List α} {i:Nat} {d:α} (h:i<xs.length):xs[i]?=some (xs.getD i d):=by
  rw [List.getD_eq_getElem?_getD,qaF h]
  rfl
theorem qiG {ds zs:List Int} (h:Drawn ds zs) {b:Int} (hz:∀ z∈zs,z≤b):∀ d∈ds,0≤d∧d<b:=fun d hd=>by
  obtain ⟨z,hz',q⟩:=h.mem d hd
  have:=hz z hz'
  omega
theorem qlH {x:Int} (h:0≤x∧x<6):∃ c,atI (Str.ofString "abZ 0_").cps.toList x=some c:=by
  have:x=0∨x=1∨x=2∨x=3∨x=4∨x=5:=by omega
  rcases this with rfl | rfl | rfl | rfl | rfl | rfl <;> exact ⟨_,rfl⟩
def qcY:SpD:=fun ds R=>∃ (c s:Int) (n:Nat),ds=[.int c,.int s,.int (n:Int)]∧0≤s∧s<2 ^ 20∧n≤25∧∀ ns:List Str,ns.length=n→ns.Nodup→R (.lst (ns.map D.str))
theorem qeq {n:Nat} {f:Addr} {fd:FuncData} (F:Fun K "_law_names" "_law_names" qbi f fd) (Q__law_draws:Cl P w K mg base n "_law_draws" ["_law_cell_here","_law_salt","_law_sizes"] qbl) (z_range:mg "range"=none):FnOk P w K mg base CX0 (n+1) f fd ["_law_cell_here","_law_salt","_law_many"] (lSp K qcY):=by
  refine F.okD sc__law_names (fun ds R h=>?_) (fun cdv A outer s H E ds R hr h=>?_)
  · obtain ⟨c,s0,n,rfl,_⟩:=h;rfl
  obtain ⟨c,s0,n,rfl,hs0,hs1,hn,q⟩:=h
  refine ⟨_,(qar (qaP (i:=3) sc__law_names.nd rfl (Or.inl rfl) (qaD Q__law_draws hr rfl (qac (dv 0) (qac (dv 1) (qac (qaU qbJ (PD.q (PF.d (qbw (qac qab (qac qab (qac qab (qac qab qap qae) qae) qae) qae)))) (dvq 2)) qap qaC) qaa) qaa) qaa (qai qaa (qai qaC qaf))))
      (qar (qiY (i:=4) sc__law_names.nd rfl (Or.inl rfl) (qbw qap))
      (qar (qfB PassesOwn.never rfl (qgx rfl z_range (qac (dv 2) qap qaa)) (qat (i:=5) sc__law_names.nd rfl (Or.inl rfl)) (qar (qaP (i:=6) sc__law_names.nd rfl (Or.inl rfl) (qgX (dvq 3) (qa8 (PD.q (qaU qa2 (PD.q (qaU qbJ (PD.q qab) (dvq 5))) (PD.q qab)))) (qa8 (PD.q (qaU qa2 (PD.q (qaU qa2 (PD.q (qaU qbJ (PD.q qab) (dvq 5))) (PD.q qab))) (PD.q (qaS (dvq 3) (PD.q (qaU qbJ (PD.q qab) (dvq 5))) (fun _ _=>rfl))))))))
      (qar (qaP (i:=7) sc__law_names.nd rfl (Or.inl rfl) (qmB (PD.q qgt) (PF.d (qaB (k:=1) (N':=["_law_one"]) (cap:=[none]) rfl (.ok (show qaI ["_law_cell_here","_law_salt","_law_many","_law_numbers","_law_names_here","_law_k","_law_signs","_law_word"] (qad qbi) _ ["_law_one"] [none]=true by decide +kernel)) (by decide +kernel) (qaJ (by decide)) (qa0 (dv 6)) (fun _ _ _ _ _=>(qat (i:=0) (show List.Nodup (["_law_one"]:List Str) by decide +kernel) rfl (Or.inl rfl))) (fun _ _ _ _ _=>(qaS (PD.q qgt) (dvq 0) (fun _ _=>rfl))))) (qdC qag) qag))
      (qar (qln PassesOwn.never (qa6 qol (dvq 7) (dvq 4) (by with_unfolding_all rfl)) (qaz (qaP (i:=7) sc__law_names.nd rfl (Or.inl rfl) (qaU qa2 (dvq 7) (PD.q qgt)))))
      (qaz (qcr 4 (dv 7) (qdC qaa) qaa))))))
      (qg2 4 (qaz (qa7 (dv 4))))))),?_⟩
  have eT:(n:Int).toNat=n:=Int.toNat_natCast n
  refine ⟨⟨by omega,by omega,qdd (by show 4*(n:Int).toNat≤1000;omega)⟩,(qlQ n).map D.int,by rw [eT];exact qkF n [4,6,6,6],c,s0,qlQ n,rfl,by rw [qgq];omega,hs0,hs1,fun z hz=>?_,fun es hD=>?_⟩
  · have h9:(1000:Int)<2 ^ 9000:=by decide +kernel
    have:=qj0 z hz
    omega
  have hel:es.length=4*n:=by rw [hD.len,qgq]
  have heb:=qiG hD (b:=6) fun z hz=>(qj0 z hz).2
  refine ⟨⟨by omega,by omega⟩,fun i ρ=>∃ (ns:List Str) (u5 u6 u7:Option Sl),ρ=[some (.v (.int c)),some (.v (.int s0)),some (.v (.int n)),some (.v (.lst (es.map D.int))),some (.own (ns.map D.str)),u5,u6,u7]∧ns.length=i∧ns.Nodup∧∀ x∈ns,x.length≤102+i,⟨[],_,_,_,rfl,rfl,.nil,fun x hx=>absurd hx List.not_mem_nil⟩,?_,?_⟩
  · rintro i d ρ hd ⟨ns,u5,u6,u7,rfl,hnl,hnd,hnb⟩
    obtain ⟨hi,rfl⟩:=qe4 hd
    have hi':i<n:=by omega
    refine ⟨qb4 (by decide) (by decide),qb4 (by decide) (by decide),qb4 (by decide) (by decide),_,qcE (i:=4*i) (qfP (d:=0) (by omega)) (by push_cast;omega),_,qdg D.int es _ _,?_⟩
    have hx:=heb _ (qiA (xs:=es) (d:=0) (i:=4*i) (by omega))
    have hcs:∀ x∈qca es (some (4*(0+(i:Int))+1)) (some (4*(0+(i:Int))+1+es.getD (4*i) 0)),x∈es:=fun x hx=>qjj hx
    have hcl:=qkc es (some (4*(0+(i:Int))+1)) (some (4*(0+(i:Int))+1+es.getD (4*i) 0))
    generalize qca es (some (4*(0+(i:Int))+1)) (some (4*(0+(i:Int))+1+es.getD (4*i) 0))=sg at hcs hcl
    refine ⟨_,rfl,by rw [List.length_map];exact qan (by omega),fun _ y=>∃ z:Str,z.length=1∧y=.str z,fun j d hd=>?_,fun ys hyl hy=>?_⟩
    · obtain ⟨x,rfl,hx⟩:=qbm hd
      obtain ⟨c,hc⟩:=qlH (heb x (hcs x (List.mem_of_getElem? hx)))
      exact ⟨qan (by decide),c,hc,_,rfl,rfl⟩
    obtain ⟨zs,rfl,hzs⟩:=qjO hy
    have hzl:zs.length≤100:=by rw [List.length_map,List.length_map] at hyl;omega
    refine ⟨zs,1,rfl,fun z hz=>Nat.le_of_eq (hzs z hz),by show zs.length*1+zs.length*0≤16777216;omega,fun wd hwd=>?_⟩
    have hwd:wd.length≤100:=Nat.le_trans hwd (by show zs.length*1+zs.length*0≤100;omega)
    refine ⟨fun m ρ=>∃ z:Str,z.length≤103+i∧m=103+i - z.length∧ρ=[some (.v (.int c)),some (.v (.int s0)),some (.v (.int n)),some (.v (.lst (es.map D.int))),some (.own (ns.map D.str)),some (.v (.int (0+(i:Int)))),some (.v (.lst (sg.map D.int))),some (.v (.str z))],⟨_,wd,by omega,rfl,rfl⟩,?_⟩
    rintro m ρ ⟨z,hz,rfl,rfl⟩
    refine ⟨.inr z,ns.map Sum.inr,rfl,by rw [← qfu];rfl,?_⟩
    rw [qht]
    refine ⟨fun h=>?_,fun h=>?_⟩
    · have hm:z∈ns:=by
        by_cases c:z∈ns
        · exact c
        · rw [decide_eq_false c] at h;cases h
      have hb:=hnb z hm
      have e:=qke z (Str.ofString "a")
      have e1:(Str.ofString "a").length=1:=by decide +kernel
      refine ⟨qdd (by omega),_,?_,_,?_,rfl,rfl⟩
      · omega
      · omega
    · have hm:z∉ns:=fun c=>by rw [decide_eq_true c] at h;cases h
      refine ⟨by rw [List.length_map];exact qan (by omega),_,qfA D.str ns z,ns++[z],_,_,_,rfl,by rw [List.length_append,hnl];rfl,List.nodup_append.mpr ⟨hnd,by simp,fun a ha b hb=>?_⟩,fun x hx=>?_⟩
      · rw [List.mem_singleton.mp hb];exact fun e=>hm (e ▸ ha)
      · rcases List.mem_append.mp hx with h | h
        · have:=hnb x h;omega
        · rw [List.mem_singleton.mp h];omega
  rintro ρ ⟨ns,u5,u6,u7,rfl,hnl,hnd,hnb⟩
  rw [qb6,eT] at hnl
  exact q ns hnl hnd
abbrev Th:=Str × Int
def thD (t:Th):D:=.tup [.str t.1,.int t.2]
def opD:Option Int→D
  | none=>.non
  | some i=>.int i
abbrev Ki:=Str × Int × Option Int × List Int
def kiD (k:Ki):D:=.tup [.str k.1,.int k.2.1,opD k.2.2.1,.tup (k.2.2.2.map D.int)]
def qcq (ks:List Ki):List Int:=ks.filterMap (·.2.2.1)
structure SackOk (ls:List Th) (ks:List Ki):Prop where
  ll:ls.length≤12
  kl:ks.length≤8
  ln:(ls.map (·.1)).Nodup
  kn:(ks.map (·.1)).Nodup
  lr:∀ x∈ls.map (·.2),0≤x
  km:∀ x∈qcq ks,0≤x
  kw:∀ k∈ks,∀ x∈k.2.2.2,0≤x
inductive SackBad (ls:List Th) (ks:List Ki):Str→Option D→Prop where
  | great:(12<ls.length∨8<ks.length)→SackBad ls ks "TooGreat" (some .non)
  | twice:ls.length≤12→ks.length≤8→(¬ (ls.map (·.1)).Nodup∨¬ (ks.map (·.1)).Nodup)→SackBad ls ks "Twice" (some .non)
  | below:ls.length≤12→ks.length≤8→(ls.map (·.1)).Nodup→(ks.map (·.1)).Nodup→((∃ x∈ls.map (·.2),x<0)∨(∃ x∈qcq ks,x<0)∨∃ k∈ks,∃ x∈k.2.2.2,x<0)→SackBad ls ks "BelowNought" none
def qbA:SpD:=fun ds R=>∃ (d:D) (xs:List Int),ds=[d]∧qf4 d=some (xs.map D.int)∧(∀ x∈xs,0≤x)∧xs.length≤1000∧R .non
theorem qdw {n:Nat} {f:Addr} {fd:FuncData} (F:Fun K "refuse_below" "refuse_below" qaN f fd) (z_any:mg "any"=none):FnOk P w K mg base CX0 (n+1) f fd ["numbers"] (lSp K qbA):=by
  refine F.okD qb2 (fun ds R h=>?_) (fun cdv A outer s H E ds R hr h=>?_)
  · obtain ⟨d,xs,rfl,_⟩:=h;rfl
  obtain ⟨d,xs,rfl,hd,hx,hl,q⟩:=h
  refine ⟨_,(qaz (qcp (qbz (PD.q (qau (qgQ rfl) rfl z_any PyProof.Rows.boot_any (qam (PD.q (PF.d (qaB (k:=1) (N':=["number"]) (cap:=[none]) rfl (.ok (show qaI ["numbers"] (qad qaN) _ ["number"] [none]=true by decide +kernel)) (by decide +kernel) (qaJ (by decide)) (qa0 (dv 0)) (fun _ _ _ _ _=>(qat (i:=0) (show List.Nodup (["number"]:List Str) by decide +kernel) rfl (Or.inl rfl))) (fun _ _ _ _ _=>(qdl qj4 (dvq 0) (PD.q qab) (qaE _)))))) qaq qag) qag qaf)) (fun _=>rfl)) (qaz qfC) qbg)),?_⟩
  refine qen (ρ:=[]) hd ?_
  refine qaw (f:=D.int) (fun x=>D.bl (decide (x<0))) (qan hl) (fun x _=>rfl) ?_
  refine ⟨xs.map fun x=>decide (x<0),by rw [List.map_map];rfl,fun h=>?_,fun _=>q⟩
  obtain ⟨x,hm,e⟩:=List.any_eq_true.mp (qc0 h)
  have:=hx x hm
  have:=of_decide_eq_true e
  omega
def qcf:SpR:=fun ds W=>∃ (d:D) (xs:List Int),ds=[d]∧qf4 d=some (xs.map D.int)∧(∃ x∈xs,x<0)∧xs.length≤1000∧W ⟨"BelowNought",none⟩
theorem qc9 {n:Nat} {f:Addr} {fd:FuncData} (F:Fun K "refuse_below" "refuse_below" qaN f fd) (z_any:mg "any"=none) (Z_BelowNought:Rz0 K mg "BelowNought"):FnOk P w K mg base (CXo P w) (n+1) f fd ["numbers"] (qfi K mg (qep qcf)):=by
  refine F.okX qb2 (fun ds R W h=>?_) (fun cdv A outer s H E ds R W hcd hr h=>?_)
  · obtain ⟨d,xs,rfl,_⟩:=h;rfl
  obtain ⟨d,xs,rfl,hd,hx,hl,q⟩:=h
  refine ⟨_,(qbC (qkP (qg0 (qbz (PD.q (qau (qgQ rfl) rfl z_any PyProof.Rows.boot_any (qam (PD.q (PF.d (qaB (k:=1) (N':=["number"]) (cap:=[none]) rfl (.ok (show qaI ["numbers"] (qad qaN) _ ["number"] [none]=true by decide +kernel)) (by decide +kernel) (qaJ (by decide)) (qa0 (dv 0)) (fun _ _ _ _ _=>(qat (i:=0) (show List.Nodup (["number"]:List Str) by decide +kernel) rfl (Or.inl rfl))) (fun _ _ _ _ _=>(qdl qj4 (dvq 0) (PD.q qab) (qaE _)))))) qaq qag) qag qaf)) (fun _=>rfl))) (qbC (qn2 Z_BelowNought rfl rfl rfl)) qfD)),?_⟩
  refine qen (ρ:=[]) hd ?_
  refine qaw (f:=D.int) (fun x=>D.bl (decide (x<0))) (qan hl) (fun x _=>rfl) ?_
  refine ⟨xs.map fun x=>decide (x<0),by rw [List.map_map];rfl,fun h=>q,fun h=>?_⟩
  obtain ⟨x,hm,e⟩:=hx
  have:=List.any_eq_false.mp (qc0 h) x hm
  exact absurd (decide_eq_true e) this
theorem qfg {ks:List Ki} {ys:List (Option D)} (hl:ys.length=ks.length) (h:∀ (i:Nat) y,ys[i]?=some y→∃ k,ks[i]?=some k∧y=k.2.2.1.map D.int):ys.filterMap id=(qcq ks).map D.int:=by
  have e:ys=ks.map fun k=>k.2.2.1.map D.int:=List.ext_getElem? fun i=>by
    rw [List.getElem?_map]
    cases hy:ys[i]? with
    | none =>
      have:=List.getElem?_eq_none_iff.mp hy
      rw [List.getElem?_eq_none (by omega)]
      rfl
    | some y =>
      obtain ⟨k,hk,rfl⟩:=h i y hy
      rw [hk]
      rfl
  rw [e,List.filterMap_map]
  unfold qcq
  rw [List.map_filterMap]
  rfl
theorem qf0 (ks:List Ki):(qcq ks).length≤ks.length:=List.length_filterMap_le ..
theorem qhZ (ls:List Th):(ls.map fun l=>D.int l.2)=(ls.map (·.2)).map D.int:=by rw [List.map_map];rfl
theorem qhe (ls:List Th):(ls.map fun l=>D.str l.1)=(ls.map (·.1)).map D.str:=by rw [List.map_map];rfl
theorem qim (ls:List Ki):(ls.map fun l=>D.str l.1)=(ls.map (·.1)).map D.str:=by rw [List.map_map];rfl
def qbG:SpD:=fun ds R=>∃ (ls:List Th) (ks:List Ki),ds=[.tup (ls.map thD),.tup (ks.map kiD)]∧SackOk ls ks∧(∀ k∈ks,k.2.2.2.length≤100)∧R .non
theorem qdY {n:Nat} {f:Addr} {fd:FuncData} (F:Fun K "refuse_sack" "refuse_sack" qav f fd) (Q_refuse_more:Cl P w K mg base n "refuse_more" ["count","most"] qbF) (Q_refuse_twice:Cl P w K mg base n "refuse_twice" ["names"] qbB) (Q_refuse_below:Cl P w K mg base n "refuse_below" ["numbers"] qbA) (z_MOST_ROWS:∃ tk,mg "MOST_ROWS"=some (.int 12 tk)) (z_MOST_UNKNOWNS:∃ tk,mg "MOST_UNKNOWNS"=some (.int 8 tk)) (z_len:mg "len"=none):FnOk P w K mg base CX0 (n+1) f fd ["limits","kinds"] (lSp K qbG):=by
  refine F.okD sc_refuse_sack (fun ds R h=>?_) (fun cdv A outer s H E ds R hr h=>?_)
  · obtain ⟨ls,ks,rfl,_⟩:=h;rfl
  obtain ⟨ls,ks,rfl,hc,hw,q⟩:=h
  refine ⟨_,(qar (qc2 (qaD Q_refuse_more hr rfl (qac (qau qbp rfl z_len PySem.boot_len (qam (dvq 0) qaq qaa) qaa qaf) (qac (qet rfl z_MOST_ROWS.choose_spec) qap qaa) qak) qak (qai qaa qaf)))
      (qar (qc2 (qaD Q_refuse_more hr rfl (qac (qau qbp rfl z_len PySem.boot_len (qam (dvq 1) qaq qaa) qaa qaf) (qac (qet rfl z_MOST_UNKNOWNS.choose_spec) qap qaa) qak) qak (qai qaa qaf)))
      (qar (qc2 (qaD Q_refuse_twice hr rfl (qac (PF.d (qaB (k:=1) (N':=["limit"]) (cap:=[none]) rfl (.ok (show qaI ["limits","kinds","kind"] (qad qav) _ ["limit"] [none]=true by decide +kernel)) (by decide +kernel) (qaJ (by decide)) (qa0 (dv 0)) (fun _ _ _ _ _=>(qat (i:=0) (show List.Nodup (["limit"]:List Str) by decide +kernel) rfl (Or.inl rfl))) (fun _ _ _ _ _=>(qaS (dvq 0) (PD.q qab) (fun _ _=>rfl))))) qap qag) qag qaf))
      (qar (qc2 (qaD Q_refuse_twice hr rfl (qac (PF.d (qaB (k:=1) (N':=["kind"]) (cap:=[none]) rfl (.ok (show qaI ["limits","kinds","kind"] (qad qav) _ ["kind"] [none]=true by decide +kernel)) (by decide +kernel) (qaJ (by decide)) (qa0 (dv 1)) (fun _ _ _ _ _=>(qat (i:=0) (show List.Nodup (["kind"]:List Str) by decide +kernel) rfl (Or.inl rfl))) (fun _ _ _ _ _=>(qaS (dvq 0) (PD.q qab) (fun _ _=>rfl))))) qap qag) qag qaf))
      (qar (qc2 (qaD Q_refuse_below hr rfl (qac (PF.d (qaB (k:=1) (N':=["limit"]) (cap:=[none]) rfl (.ok (show qaI ["limits","kinds","kind"] (qad qav) _ ["limit"] [none]=true by decide +kernel)) (by decide +kernel) (qaJ (by decide)) (qa0 (dv 0)) (fun _ _ _ _ _=>(qat (i:=0) (show List.Nodup (["limit"]:List Str) by decide +kernel) rfl (Or.inl rfl))) (fun _ _ _ _ _=>(qaS (dvq 0) (PD.q qab) (fun _ _=>rfl))))) qap qag) qag qaf))
      (qar (qc2 (qaD Q_refuse_below hr rfl (qac (PF.d (qjD (k:=1) (N':=["kind"]) (cap:=[none]) rfl (.ok (show qaI ["limits","kinds","kind"] (qad qav) _ ["kind"] [none]=true by decide +kernel)) (by decide +kernel) (qaJ (by decide)) (qa0 (dv 1)) (fun _ _ _ _ _=>(qat (i:=0) (show List.Nodup (["kind"]:List Str) by decide +kernel) rfl (Or.inl rfl))) (fun _ _ _ _ _=>(qjH (qa6 qcT (PD.q (qaS (dvq 0) (PD.q qab) (fun _ _=>rfl))) (PD.q qbW) (qaE _)))) (fun _ _ _ _ _=>(qaS (dvq 0) (PD.q qab) (fun _ _=>rfl))))) qap qag) qag qaf))
      (qaz (qfB PassesOwn.never rfl (qa0 (dv 1)) (qat (i:=2) sc_refuse_sack.nd rfl (Or.inl rfl)) (qaz (qc2 (qaD Q_refuse_below hr rfl (qac (qaS (dvq 2) (PD.q qab) (fun _ _=>rfl)) qap qah) qah qaf))))))))))),?_⟩
  have h1:=hc.ll
  have h2:=hc.kl
  have hm:=qf0 ks
  refine ⟨_,_,rfl,by rw [List.length_map];omega,_,_,rfl,by rw [List.length_map];omega,?_⟩
  refine qaw (f:=thD) (fun t=>D.str t.1) (qan (by omega)) (fun t _=>⟨_,rfl,rfl⟩) ?_
  rw [qhe]
  refine ⟨_,ls.map (·.1),rfl,rfl,hc.ln,by rw [List.length_map];omega,?_⟩
  refine qaw (f:=kiD) (fun t=>D.str t.1) (qan (by omega)) (fun t _=>⟨_,rfl,rfl⟩) ?_
  rw [qim]
  refine ⟨_,ks.map (·.1),rfl,rfl,hc.kn,by rw [List.length_map];omega,?_⟩
  refine qaw (f:=thD) (fun t=>D.int t.2) (qan (by omega)) (fun t _=>⟨_,rfl,rfl⟩) ?_
  rw [qhZ]
  refine ⟨_,ls.map (·.2),rfl,rfl,hc.lr,by rw [List.length_map];omega,?_⟩
  refine ⟨by rw [List.length_map];exact qan (by omega),fun i y=>∃ k,ks[i]?=some k∧y=k.2.2.1.map D.int,fun i d hd=>?_,fun ys hyl hy=>?_⟩
  · obtain ⟨k,rfl,hk⟩:=qbm hd
    refine ⟨_,rfl,?_⟩
    cases hk2:k.2.2.1 with
    | none=>exact ⟨fun h=>(by cases h),fun _=>⟨k,hk,by rw [hk2];rfl⟩⟩
    | some m=>exact ⟨fun _=>⟨_,rfl,k,hk,by rw [hk2];rfl⟩,fun h=>(by cases h)⟩
  rw [List.length_map] at hyl
  rw [qfg hyl hy]
  refine ⟨_,qcq ks,rfl,rfl,hc.km,by omega,?_⟩
  refine ⟨fun i ρ=>∃ u:Option Sl,ρ=[some (.v (.tup (ls.map thD))),some (.v (.tup (ks.map kiD))),u],⟨_,rfl⟩,?_,?_⟩
  · rintro i d ρ hd ⟨u,rfl⟩
    obtain ⟨k,rfl,hk⟩:=qbm hd
    have hkm:=List.mem_of_getElem? hk
    exact ⟨_,rfl,_,k.2.2.2,rfl,rfl,hc.kw k hkm,by have:=hw k hkm;omega,_,rfl⟩
  rintro ρ ⟨u,rfl⟩
  exact q
def qcw:SpR:=fun ds W=>∃ (nm:Str) (at_:Option D) (ls:List Th) (ks:List Ki),ds=[.tup (ls.map thD),.tup (ks.map kiD)]∧SackBad ls ks nm at_∧ls.length≤100∧ks.length≤100∧(∀ k∈ks,k.2.2.2.length≤100)∧W ⟨nm,at_⟩
theorem qds {n:Nat} {f:Addr} {fd:FuncData} (F:Fun K "refuse_sack" "refuse_sack" qav f fd) (U_refuse_more:ClX P w K mg base n "refuse_more" ["count","most"] (orX qbF qcx)) (U_refuse_twice:ClX P w K mg base n "refuse_twice" ["names"] (orX qbB qce)) (U_refuse_below:ClX P w K mg base n "refuse_below" ["numbers"] (orX qbA qcf)) (z_MOST_ROWS:∃ tk,mg "MOST_ROWS"=some (.int 12 tk)) (z_MOST_UNKNOWNS:∃ tk,mg "MOST_UNKNOWNS"=some (.int 8 tk)) (z_len:mg "len"=none):FnOk P w K mg base (CXo P w) (n+1) f fd ["limits","kinds"] (qfi K mg (qep qcw)):=by
  refine F.okX sc_refuse_sack (fun ds R W h=>?_) (fun cdv A outer s H E ds R W hcd hr h=>?_)
  · obtain ⟨nm,at_,ls,ks,rfl,_⟩:=h;rfl
  obtain ⟨nm,at_,ls,ks,rfl,hc,tl,ol,ml,q⟩:=h
  refine ⟨_,(qa1 (qc1 (qbs U_refuse_more hr rfl rfl (qaX (qco (qau qbp rfl z_len PySem.boot_len (qam (dvq 0) qaq qaa) qaa qaf)) (qaX (qco (qet rfl z_MOST_ROWS.choose_spec)) qb5 qaa) qak) qak (qai qaa qaf)))
      (qa1 (qc1 (qbs U_refuse_more hr rfl rfl (qaX (qco (qau qbp rfl z_len PySem.boot_len (qam (dvq 1) qaq qaa) qaa qaf)) (qaX (qco (qet rfl z_MOST_UNKNOWNS.choose_spec)) qb5 qaa) qak) qak (qai qaa qaf)))
      (qa1 (qc1 (qbs U_refuse_twice hr rfl rfl (qaX (qco (PF.d (qaB (k:=1) (N':=["limit"]) (cap:=[none]) rfl (.ok (show qaI ["limits","kinds","kind"] (qad qav) _ ["limit"] [none]=true by decide +kernel)) (by decide +kernel) (qaJ (by decide)) (qa0 (dv 0)) (fun _ _ _ _ _=>(qat (i:=0) (show List.Nodup (["limit"]:List Str) by decide +kernel) rfl (Or.inl rfl))) (fun _ _ _ _ _=>(qaS (dvq 0) (PD.q qab) (fun _ _=>rfl)))))) qb5 qag) qag qaf))
      (qa1 (qc1 (qbs U_refuse_twice hr rfl rfl (qaX (qco (PF.d (qaB (k:=1) (N':=["kind"]) (cap:=[none]) rfl (.ok (show qaI ["limits","kinds","kind"] (qad qav) _ ["kind"] [none]=true by decide +kernel)) (by decide +kernel) (qaJ (by decide)) (qa0 (dv 1)) (fun _ _ _ _ _=>(qat (i:=0) (show List.Nodup (["kind"]:List Str) by decide +kernel) rfl (Or.inl rfl))) (fun _ _ _ _ _=>(qaS (dvq 0) (PD.q qab) (fun _ _=>rfl)))))) qb5 qag) qag qaf))
      (qa1 (qc1 (qbs U_refuse_below hr rfl rfl (qaX (qco (PF.d (qaB (k:=1) (N':=["limit"]) (cap:=[none]) rfl (.ok (show qaI ["limits","kinds","kind"] (qad qav) _ ["limit"] [none]=true by decide +kernel)) (by decide +kernel) (qaJ (by decide)) (qa0 (dv 0)) (fun _ _ _ _ _=>(qat (i:=0) (show List.Nodup (["limit"]:List Str) by decide +kernel) rfl (Or.inl rfl))) (fun _ _ _ _ _=>(qaS (dvq 0) (PD.q qab) (fun _ _=>rfl)))))) qb5 qag) qag qaf))
      (qa1 (qc1 (qbs U_refuse_below hr rfl rfl (qaX (qco (PF.d (qjD (k:=1) (N':=["kind"]) (cap:=[none]) rfl (.ok (show qaI ["limits","kinds","kind"] (qad qav) _ ["kind"] [none]=true by decide +kernel)) (by decide +kernel) (qaJ (by decide)) (qa0 (dv 1)) (fun _ _ _ _ _=>(qat (i:=0) (show List.Nodup (["kind"]:List Str) by decide +kernel) rfl (Or.inl rfl))) (fun _ _ _ _ _=>(qjH (qa6 qcT (PD.q (qaS (dvq 0) (PD.q qab) (fun _ _=>rfl))) (PD.q qbW) (qaE _)))) (fun _ _ _ _ _=>(qaS (dvq 0) (PD.q qab) (fun _ _=>rfl)))))) qb5 qag) qag qaf))
      (qbC (qj7 PassesOwn.leaving rfl (qk2 (qa0 (dv 1))) (qgs (i:=2) sc_refuse_sack.nd rfl (Or.inl rfl)) (qbC (qc1 (qbs U_refuse_below hr rfl rfl (qaX (qco (qaS (dvq 2) (PD.q qab) (fun _ _=>rfl))) qb5 qah) qah qaf))))))))))),?_⟩
  have tL:(((ls.map thD).length:Nat):Int)=ls.length:=by rw [List.length_map]
  have oL:(((ks.map kiD).length:Nat):Int)=ks.length:=by rw [List.length_map]
  have hm:=qf0 ks
  by_cases c1:12<ls.length
  · cases hc with
    | great _=>exact .inr ⟨_,_,rfl,by rw [tL];omega,q⟩
    | twice h _ _=>omega
    | below h _ _ _ _=>omega
  refine .inl ⟨_,_,rfl,by rw [tL];omega,?_⟩
  by_cases c2:8<ks.length
  · cases hc with
    | great _=>exact .inr ⟨_,_,rfl,by rw [oL];omega,q⟩
    | twice _ h _=>omega
    | below _ h _ _ _=>omega
  refine .inl ⟨_,_,rfl,by rw [oL];omega,?_⟩
  refine qaw (f:=thD) (fun t=>D.str t.1) (qan (by omega)) (fun t _=>⟨_,rfl,rfl⟩) ?_
  rw [qhe]
  have tw:∀ {nm:Str} {a:Option D},SackBad ls ks nm a→(¬ (ls.map (·.1)).Nodup∨¬ (ks.map (·.1)).Nodup)→nm="Twice"∧a=some .non:=fun hc h=>by
    cases hc with
    | great h=>omega
    | twice _ _ _=>exact ⟨rfl,rfl⟩
    | below _ _ h1 h2 _=>exact (h.elim (fun h=>h h1) (fun h=>h h2)).elim
  by_cases c3:(ls.map (·.1)).Nodup
  rotate_left
  · obtain ⟨rfl,rfl⟩:=tw hc (.inl c3)
    exact .inr ⟨_,ls.map (·.1),rfl,rfl,c3,by rw [List.length_map];omega,q⟩
  refine .inl ⟨_,ls.map (·.1),rfl,rfl,c3,by rw [List.length_map];omega,?_⟩
  refine qaw (f:=kiD) (fun t=>D.str t.1) (qan (by omega)) (fun t _=>⟨_,rfl,rfl⟩) ?_
  rw [qim]
  by_cases c4:(ks.map (·.1)).Nodup
  rotate_left
  · obtain ⟨rfl,rfl⟩:=tw hc (.inr c4)
    exact .inr ⟨_,ks.map (·.1),rfl,rfl,c4,by rw [List.length_map];omega,q⟩
  refine .inl ⟨_,ks.map (·.1),rfl,rfl,c4,by rw [List.length_map];omega,?_⟩
  obtain ⟨⟨rfl,rfl⟩,hb⟩:(nm="BelowNought"∧at_=none)∧((∃ x∈ls.map (·.2),x<0)∨(∃ x∈qcq ks,x<0)∨∃ k∈ks,∃ x∈k.2.2.2,x<0):=by
    cases hc with
    | great h=>omega
    | twice _ _ h=>exact (h.elim (fun h=>h c3) (fun h=>h c4)).elim
    | below _ _ _ _ h=>exact ⟨⟨rfl,rfl⟩,h⟩
  refine qaw (f:=thD) (fun t=>D.int t.2) (qan (by omega)) (fun t _=>⟨_,rfl,rfl⟩) ?_
  rw [qhZ]
  by_cases c5:∃ x∈ls.map (·.2),x<0
  · exact .inr ⟨_,ls.map (·.2),rfl,rfl,c5,by rw [List.length_map];omega,q⟩
  refine .inl ⟨_,ls.map (·.2),rfl,rfl,fun x hx=>Int.not_lt.mp fun z=>c5 ⟨x,hx,z⟩,by rw [List.length_map];omega,?_⟩
  refine ⟨by rw [List.length_map];exact qan (by omega),fun i y=>∃ k,ks[i]?=some k∧y=k.2.2.1.map D.int,fun i d hd=>?_,fun ys hyl hy=>?_⟩
  · obtain ⟨k,rfl,hk⟩:=qbm hd
    refine ⟨_,rfl,?_⟩
    cases hk2:k.2.2.1 with
    | none=>exact ⟨fun h=>(by cases h),fun _=>⟨k,hk,by rw [hk2];rfl⟩⟩
    | some m=>exact ⟨fun _=>⟨_,rfl,k,hk,by rw [hk2];rfl⟩,fun h=>(by cases h)⟩
  rw [List.length_map] at hyl
  rw [qfg hyl hy]
  by_cases c6:∃ x∈qcq ks,x<0
  · exact .inr ⟨_,qcq ks,rfl,rfl,c6,by omega,q⟩
  refine .inl ⟨_,qcq ks,rfl,rfl,fun x hx=>Int.not_lt.mp fun z=>c6 ⟨x,hx,z⟩,by omega,?_⟩
  have hb:∃ k∈ks,∃ x∈k.2.2.2,x<0:=hb.elim (fun h=>(c5 h).elim) fun h=>h.elim (fun h=>(c6 h).elim) id
  refine ⟨fun i ρ=>(∀ k∈ks.take i,∀ x∈k.2.2.2,0≤x)∧∃ u:Option Sm,ρ=[some (.v (.tup (ls.map thD))),some (.v (.tup (ks.map kiD))),u],⟨by simp,_,rfl⟩,?_,?_⟩
  · rintro i d ρ hd ⟨hall,u,rfl⟩
    obtain ⟨k,rfl,hk⟩:=qbm hd
    have hkm:=List.mem_of_getElem? hk
    have:=ml k hkm
    refine ⟨_,rfl,?_⟩
    by_cases c7:∃ x∈k.2.2.2,x<0
    · exact .inr ⟨_,k.2.2.2,rfl,rfl,c7,by omega,q⟩
    have c8:∀ x∈k.2.2.2,0≤x:=fun x hx=>Int.not_lt.mp fun z=>c7 ⟨x,hx,z⟩
    refine .inl ⟨_,k.2.2.2,rfl,rfl,c8,by omega,fun y hy=>?_,_,rfl⟩
    rw [qcs hk] at hy
    rcases List.mem_append.mp hy with hy | hy
    · exact hall y hy
    · rw [List.mem_singleton.mp hy];exact c8
  rintro ρ ⟨hall,u,rfl⟩
  rw [List.length_map,List.take_length] at hall
  obtain ⟨k,hk,x,hx,hlt⟩:=hb
  have:=hall k hk x hx
  omega
def qa5 (ls:List Th) (ks:List Ki) (n:Nat):List (List Int × Int):=(List.range n).map fun i=>(ks.map fun k=>-(k.2.2.2.getD i 0),-(ls.getD i ("",0)).2)
theorem qeC (ls:List Th) (ks:List Ki) (n:Nat):qa5 ls ks (n+1)=qa5 ls ks n++[(ks.map fun k=>-(k.2.2.2.getD n 0),-(ls.getD n ("",0)).2)]:=by
  unfold qa5
  rw [List.range_succ,List.map_append]
  rfl
theorem qc5 (ls:List Th) (ks:List Ki) (n:Nat):(qa5 ls ks n).length=n:=by unfold qa5;rw [List.length_map,List.length_range]
def qiu (ks:List Ki):List D:=ks.map fun k=>.tup [.int 0,opD k.2.2.1]
def qnj (ls:List Th) (ks:List Ki):D:=.tup [.tup (qiu ks),.tup ((qa5 ls ks ls.length).map qiL),.tup ((ks.map (·.2.1)).map D.int)]
def qbI:SpD:=fun ds R=>∃ (ls:List Th) (ks:List Ki),ds=[.tup (ls.map thD),.tup (ks.map kiD)]∧SackOk ls ks∧(∀ k∈ks,k.2.2.2.length=ls.length)∧R (qnj ls ks)
theorem qeF {n:Nat} {f:Addr} {fd:FuncData} (F:Fun K "sack_plan" "sack_plan" qaL f fd) (Q_refuse_sack:Cl P w K mg base n "refuse_sack" ["limits","kinds"] qbG) (z_tuple:mg "tuple"=none) (z_enumerate:mg "enumerate"=none):FnOk P w K mg base CX0 (n+1) f fd ["limits","kinds"] (lSp K qbI):=by
  refine F.okD sc_sack_plan (fun ds R h=>?_) (fun cdv A outer s H E ds R hr h=>?_)
  · obtain ⟨ls,ks,rfl,_⟩:=h;rfl
  obtain ⟨ls,ks,rfl,hc,hw,q⟩:=h
  refine ⟨_,(qar (qc2 (qaD Q_refuse_sack hr rfl (qac (dv 0) (qac (dv 1) qap qaa) qaa) qaa (qai qaa qaf)))
      (qar (qaP (i:=2) sc_sack_plan.nd rfl (Or.inl rfl) (qaM qaT rfl z_tuple PyProof.Rows.boot_tuple (qam (PD.q (PF.d (qaB (k:=1) (N':=["kind"]) (cap:=[none]) rfl (.ok (show qaI ["limits","kinds","bounds","rows","place","limit"] (qad qaL) _ ["kind"] [none]=true by decide +kernel)) (by decide +kernel) (qaJ (by decide)) (qa0 (dv 1)) (fun _ _ _ _ _=>(qat (i:=0) (show List.Nodup (["kind"]:List Str) by decide +kernel) rfl (Or.inl rfl))) (fun _ _ _ _ _=>(qbS (qac qab (qac (qaS (dvq 0) (PD.q qab) (fun _ _=>rfl)) qap qah) qae)))))) qaq qag) qag qaf))
      (qar (qiY (i:=3) sc_sack_plan.nd rfl (Or.inl rfl) (qbw qap))
      (qar (qfB PassesOwn.never rfl (qdo rfl z_enumerate (qac (dv 0) qap qaa)) (qfw (n:=2) rfl (qaY (qat (i:=4) sc_sack_plan.nd rfl (Or.inr rfl)) (qaY (qat (i:=5) sc_sack_plan.nd rfl (Or.inl rfl)) qdr))) (qaz (qcr 3 (qbS (qac (qaM qaT rfl z_tuple PyProof.Rows.boot_tuple (qam (PD.q (PF.d (qaB (k:=1) (N':=["kind","place"]) (cap:=[none,some 4]) rfl (.ok (show qaI ["limits","kinds","bounds","rows","place","limit"] (qad qaL) _ ["kind","place"] [none,some 4]=true by decide +kernel)) (by decide +kernel) (qaJ (by decide)) (qa0 (dv 1)) (fun _ _ _ _ _=>(qat (i:=0) (show List.Nodup (["kind","place"]:List Str) by decide +kernel) rfl (Or.inl rfl))) (fun _ _ _ _ _=>(qeb (PD.q (qaS (PD.q (qaS (dvq 0) (PD.q qab) (fun _ _=>rfl))) (dvq 1) (fun _ _=>rfl)))))))) qaq qag) qag qaf) (qac (qeb (PD.q (qaS (dvq 5) (PD.q qab) (fun _ _=>rfl)))) qap qcU) qak)) (qdC qa9) qa9)))
      (qaz (qa7 (qbS (qac (dv 2) (qac (qaM qaT rfl z_tuple PyProof.Rows.boot_tuple (qam (dvq 3) qaq qaa) qaa qaf) (qac (qaM qaT rfl z_tuple PyProof.Rows.boot_tuple (qam (PD.q (PF.d (qaB (k:=1) (N':=["kind"]) (cap:=[none]) rfl (.ok (show qaI ["limits","kinds","bounds","rows","place","limit"] (qad qaL) _ ["kind"] [none]=true by decide +kernel)) (by decide +kernel) (qaJ (by decide)) (qa0 (dv 1)) (fun _ _ _ _ _=>(qat (i:=0) (show List.Nodup (["kind"]:List Str) by decide +kernel) rfl (Or.inl rfl))) (fun _ _ _ _ _=>(qaS (dvq 0) (PD.q qab) (fun _ _=>rfl)))))) qaq qag) qag qaf) qap qak) qak) qaa)))))))),?_⟩
  have h1:=hc.ll
  have h2:=hc.kl
  refine ⟨ls,ks,rfl,hc,fun k hk=>by have:=hw k hk;omega,?_⟩
  refine qaw (f:=kiD) (fun k=>.tup [.int 0,opD k.2.2.1]) (qan (by omega)) (fun t _=>⟨_,rfl,rfl⟩) ?_
  refine ⟨fun i ρ=>∃ u4 u5:Option Sl,ρ=[some (.v (.tup (ls.map thD))),some (.v (.tup (ks.map kiD))),some (.v (.tup (qiu ks))),some (.own ((qa5 ls ks i).map qiL)),u4,u5],⟨_,_,rfl⟩,?_,?_⟩
  · rintro i d ρ hd ⟨u4,u5,rfl⟩
    obtain ⟨e,he,rfl⟩:=qcF hd
    obtain ⟨l,rfl,hl⟩:=qbm he
    have hi:=qao hl
    refine ⟨rfl,?_⟩
    refine qcy (f:=kiD) (fun k=>-(k.2.2.2.getD i 0)) (qan (by omega)) (fun k hk=>⟨_,rfl,_,qcE (i:=i) (qfP (d:=0) (by rw [hw k hk];exact hi)) rfl,rfl⟩) ?_
    have el:ls.getD i ("",0)=l:=by rw [List.getD_eq_getElem?_getD,hl];rfl
    refine ⟨_,rfl,by rw [List.length_map,qc5];exact qan (by omega),_,qfA qiL _ (ks.map (fun k=>-(k.2.2.2.getD i 0)),-l.2),some (.v (.int (i:Int))),some (.v (thD l)),?_⟩
    rw [qeC,el]
    rfl
  rintro ρ ⟨u4,u5,rfl⟩
  rw [qbT,List.length_map]
  refine qcy (f:=kiD) (fun k=>k.2.1) (qan (by omega)) (fun k _=>⟨_,rfl,rfl⟩) ?_
  exact q
def qcj:SpR:=fun ds W=>∃ (nm:Str) (at_:Option D) (ls:List Th) (ks:List Ki),ds=[.tup (ls.map thD),.tup (ks.map kiD)]∧SackBad ls ks nm at_∧ls.length≤100∧ks.length≤100∧(∀ k∈ks,k.2.2.2.length≤100)∧W ⟨nm,at_⟩
theorem qem {n:Nat} {f:Addr} {fd:FuncData} (F:Fun K "sack_plan" "sack_plan" qaL f fd) (U_refuse_sack:ClX P w K mg base n "refuse_sack" ["limits","kinds"] (orX qbG qcw)) (z_tuple:mg "tuple"=none) (z_enumerate:mg "enumerate"=none):FnOk P w K mg base (CXo P w) (n+1) f fd ["limits","kinds"] (qfi K mg (qep qcj)):=by
  refine F.okX sc_sack_plan (fun ds R W h=>?_) (fun cdv A outer s H E ds R W hcd hr h=>?_)
  · obtain ⟨nm,at_,ls,ks,rfl,_⟩:=h;rfl
  obtain ⟨nm,at_,ls,ks,rfl,hc,tl,ol,ml,q⟩:=h
  refine ⟨_,(qa1 (qc1 (qbs U_refuse_sack hr rfl rfl (qaX (qco (dv 0)) (qaX (qco (dv 1)) qb5 qaa) qaa) qaa (qai qaa qaf)))
      (qa1 (qcI (i:=2) sc_sack_plan.nd rfl (Or.inl rfl) (qco (qaM qaT rfl z_tuple PyProof.Rows.boot_tuple (qam (PD.q (PF.d (qaB (k:=1) (N':=["kind"]) (cap:=[none]) rfl (.ok (show qaI ["limits","kinds","bounds","rows","place","limit"] (qad qaL) _ ["kind"] [none]=true by decide +kernel)) (by decide +kernel) (qaJ (by decide)) (qa0 (dv 1)) (fun _ _ _ _ _=>(qat (i:=0) (show List.Nodup (["kind"]:List Str) by decide +kernel) rfl (Or.inl rfl))) (fun _ _ _ _ _=>(qbS (qac qab (qac (qaS (dvq 0) (PD.q qab) (fun _ _=>rfl)) qap qah) qae)))))) qaq qag) qag qaf)))
      (qa1 (qcI (i:=3) sc_sack_plan.nd rfl (Or.inl rfl) (qpz (qbw qap)))
      (qa1 (qj7 PassesOwn.leaving rfl (qk2 (qdo rfl z_enumerate (qac (dv 0) qap qaa))) (qoe (n:=2) rfl (qhN (qgs (i:=4) sc_sack_plan.nd rfl (Or.inr rfl)) (qhN (qgs (i:=5) sc_sack_plan.nd rfl (Or.inl rfl)) qm7))) (qbC (qiH 3 (qco (qbS (qac (qaM qaT rfl z_tuple PyProof.Rows.boot_tuple (qam (PD.q (PF.d (qaB (k:=1) (N':=["kind","place"]) (cap:=[none,some 4]) rfl (.ok (show qaI ["limits","kinds","bounds","rows","place","limit"] (qad qaL) _ ["kind","place"] [none,some 4]=true by decide +kernel)) (by decide +kernel) (qaJ (by decide)) (qa0 (dv 1)) (fun _ _ _ _ _=>(qat (i:=0) (show List.Nodup (["kind","place"]:List Str) by decide +kernel) rfl (Or.inl rfl))) (fun _ _ _ _ _=>(qeb (PD.q (qaS (PD.q (qaS (dvq 0) (PD.q qab) (fun _ _=>rfl))) (dvq 1) (fun _ _=>rfl)))))))) qaq qag) qag qaf) (qac (qeb (PD.q (qaS (dvq 5) (PD.q qab) (fun _ _=>rfl)))) qap qcU) qak))) (qdC qa9) qa9)))
      (qbC (qli (qco (qbS (qac (dv 2) (qac (qaM qaT rfl z_tuple PyProof.Rows.boot_tuple (qam (dvq 3) qaq qaa) qaa qaf) (qac (qaM qaT rfl z_tuple PyProof.Rows.boot_tuple (qam (PD.q (PF.d (qaB (k:=1) (N':=["kind"]) (cap:=[none]) rfl (.ok (show qaI ["limits","kinds","bounds","rows","place","limit"] (qad qaL) _ ["kind"] [none]=true by decide +kernel)) (by decide +kernel) (qaJ (by decide)) (qa0 (dv 1)) (fun _ _ _ _ _=>(qat (i:=0) (show List.Nodup (["kind"]:List Str) by decide +kernel) rfl (Or.inl rfl))) (fun _ _ _ _ _=>(qaS (dvq 0) (PD.q qab) (fun _ _=>rfl)))))) qaq qag) qag qaf) qap qak) qak) qaa))))))))),?_⟩
  exact .inr ⟨nm,at_,ls,ks,rfl,hc,tl,ol,ml,q⟩
abbrev qm6:SpD:=zNo
def qj1:SpR:=fun ds W=>∃ (nm:Str) (at_:Option D) (ls:List Th) (ks:List Ki),ds=[.tup (ls.map thD),.tup (ks.map kiD)]∧SackBad ls ks nm at_∧ls.length≤100∧ks.length≤100∧(∀ k∈ks,k.2.2.2.length≤100)∧W ⟨nm,at_⟩
theorem qiT {n:Nat} {f:Addr} {fd:FuncData} (F:Fun K "sack" "sack" qgr f fd) (U_sack_plan:ClX P w K mg base n "sack_plan" ["limits","kinds"] (orX qbI qcj)):FnOk P w K mg base (CXo P w) (n+1) f fd ["limits","kinds"] (qfi K mg (qep qj1)):=by
  refine F.okX sc_sack (fun ds R W h=>?_) (fun cdv A outer s H E ds R W hcd hr h=>?_)
  · obtain ⟨nm,at_,ls,ks,rfl,_⟩:=h;rfl
  obtain ⟨nm,at_,ls,ks,rfl,hc,tl,ol,ml,q⟩:=h
  refine ⟨_,(qa1 (qcI (i:=2) sc_sack.nd rfl (Or.inl rfl) (qbs U_sack_plan hr rfl rfl (qaX (qco (dv 0)) (qaX (qco (dv 1)) qb5 qaa) qaa) qaa (qai qaa qaf)))
      (qa1 qfJ
      (qkI (qkP (qg0 (qa6 qcT (dvq 3) (PD.q qbW) (qaE _))) (qbC (qli (qco (qbS (qac qgt (qac (dv 3) qap qaa) qae))))) qfD)
      (qa1 qfJ
      (qbC qfJ))))),?_⟩
  exact .inr ⟨nm,at_,ls,ks,rfl,hc,tl,ol,ml,q⟩
def qa4 (nm:Str):List D:=((["TooGreat","Twice","NoName","BelowNought","NoText","NoNumber","NoRow","NoChange"]:List Str).map fun c=>D.bl (qcW nm c))++[.bl true]
def qb1:SpD:=fun ds R=>∃ (nm:Str) (ats:List D),ds=[.exc nm ats]∧nm∈exN∧R (.lst (qa4 nm))
theorem qcS {f:Addr} {fd:FuncData} (F:Fun K "_law_kinds_of" "_law_kinds_of" qbe f fd) (z_isinstance:mg "isinstance"=none) (z_ValueError:mg "ValueError"=none) (Ex:Exs K mg qcW exN) (Is:Isa K mg qcW exN) (e_TooGreat:∃ D,mg "TooGreat"=some (.ref D)) (e_Twice:∃ D,mg "Twice"=some (.ref D)) (e_NoName:∃ D,mg "NoName"=some (.ref D)) (e_BelowNought:∃ D,mg "BelowNought"=some (.ref D)) (e_NoText:∃ D,mg "NoText"=some (.ref D)) (e_NoNumber:∃ D,mg "NoNumber"=some (.ref D)) (e_NoRow:∃ D,mg "NoRow"=some (.ref D)) (e_NoChange:∃ D,mg "NoChange"=some (.ref D)):FnOkH P w K mg base 1 f fd ["_law_e"] (lSp K qb1):=by
  refine F.okH sc__law_kinds_of (fun ds R h=>?_) (fun cdv A outer s H E ds R h=>?_)
  · obtain ⟨nm,ats,rfl,_⟩:=h;rfl
  obtain ⟨nm,ats,rfl,hn,q⟩:=h
  refine ⟨_,(qar (qaP (i:=1) sc__law_kinds_of.nd rfl (Or.inl rfl) (PF.d (qbw (qac (qc4 Ex Is e_TooGreat (by decide +kernel) rfl rfl z_isinstance (dv 0) qaa qaa) (qac (qc4 Ex Is e_Twice (by decide +kernel) rfl rfl z_isinstance (dv 0) qaa qaa) (qac (qc4 Ex Is e_NoName (by decide +kernel) rfl rfl z_isinstance (dv 0) qaa qaa) (qac (qc4 Ex Is e_BelowNought (by decide +kernel) rfl rfl z_isinstance (dv 0) qaa qaa) qap qak) qak) qak) qak))))
      (qar (qaP (i:=1) sc__law_kinds_of.nd rfl (Or.inl rfl) (qaU qa2 (dvq 1) (PD.q (PF.d (qbw (qac (qc4 Ex Is e_NoText (by decide +kernel) rfl rfl z_isinstance (dv 0) qaa qaa) (qac (qc4 Ex Is e_NoNumber (by decide +kernel) rfl rfl z_isinstance (dv 0) qaa qaa) (qac (qc4 Ex Is e_NoRow (by decide +kernel) rfl rfl z_isinstance (dv 0) qaa qaa) (qac (qc4 Ex Is e_NoChange (by decide +kernel) rfl rfl z_isinstance (dv 0) qaa qaa) qap qak) qak) qak) qak))))))
      (qaz (qa7 (qaU qa2 (dvq 1) (PD.q (PF.d (qbw (qac (qov Ex Is rfl z_ValueError rfl z_isinstance (dv 0) qaa qaa) qap qak))))))))),?_⟩
  refine ⟨_,_,rfl,hn,_,_,rfl,hn,_,_,rfl,hn,_,_,rfl,hn,?_⟩
  refine ⟨_,_,rfl,hn,_,_,rfl,hn,_,_,rfl,hn,_,_,rfl,hn,by show 4+4≤sizeLine;rw [sizeLine_eq];decide,_,rfl,?_⟩
  exact ⟨_,_,rfl,hn,by show 8+1≤sizeLine;rw [sizeLine_eq];decide,_,rfl,q⟩
def qjn {α:Type} (xs:List α) (k:Nat) (x:α):List α:=xs.take k++[x]++xs.drop k
def qcL:SpD:=fun ds R=>∃ (xs:List D) (at_:Int) (d:D),ds=[.lst xs,.int at_,d]∧xs.length≤100∧∀ k,k≤xs.length→R (.lst (qjn xs k d))
theorem qfv {n:Nat} {f:Addr} {fd:FuncData} (F:Fun K "_law_put" "_law_put" qb8 f fd) (z_len:mg "len"=none):FnOk P w K mg base CX0 (n+1) f fd ["_law_row","_law_at","_law_one"] (lSp K qcL):=by
  refine F.okD sc__law_put (fun ds R h=>?_) (fun cdv A outer s H E ds R hr h=>?_)
  · obtain ⟨xs,at_,d,rfl,_⟩:=h;rfl
  obtain ⟨xs,at_,d,rfl,hl,q⟩:=h
  refine ⟨_,(qar (qaP (i:=1) sc__law_put.nd rfl (Or.inl rfl) (qaU qc6 (dvq 1) (PD.q (qaU qa2 (PD.q (qau qbp rfl z_len PySem.boot_len (qam (dvq 0) qaq qaa) qaa qaf)) (PD.q qab)))))
      (qaz (qa7 (qaU qa2 (PD.q (qaU qa2 (PD.q (qgX (dvq 0) qdA (qa8 (dvq 1)))) (PD.q (PF.d (qbw (qac (dv 2) qap qaa)))))) (PD.q (qgX (dvq 0) (qa8 (dvq 1)) qdA)))))),?_⟩
  have hp:(0:Int)<(xs.length:Int)+1:=by omega
  have h0:=Int.emod_nonneg at_ (b:=(xs.length:Int)+1) (by omega)
  have h1:=Int.emod_lt_of_pos at_ hp
  obtain ⟨k,hk⟩:=Int.eq_ofNat_of_zero_le h0
  have hk':k≤xs.length:=by omega
  have e1:qca xs none (some (at_ % ((xs.length:Int)+1)))=xs.take k:=by
    rw [hk]
    unfold qca
    rw [HT.sIx_none,HT.sIx_nat,Nat.min_eq_left hk',List.drop_zero,Nat.sub_zero]
  have e2:qca xs (some (at_ % ((xs.length:Int)+1))) none=xs.drop k:=by
    rw [hk]
    unfold qca
    rw [HT.sIx_none,HT.sIx_nat,Nat.min_eq_left hk',List.take_of_length_le (by rw [List.length_drop];omega)]
  refine ⟨hp,_,e1,?_,_,rfl,_,e2,?_,_,rfl,q k hk'⟩
  · rw [List.length_take];show _+1≤sizeLine;rw [sizeLine_eq];omega
  · rw [List.length_append,List.length_take,List.length_drop];show _+1+_≤sizeLine;rw [sizeLine_eq];omega
theorem qgf {α β:Type} (g:α→β) (xs:List α) (k:Nat) (x:α):(qjn xs k x).map g=qjn (xs.map g) k (g x):=by
  unfold qjn;rw [List.map_append,List.map_append,List.map_take,List.map_drop];rfl
theorem qeK {α:Type} (xs:List α) (k:Nat) (x:α):(qjn xs k x).Perm (x::xs):=by
  unfold qjn
  have h:=(List.perm_append_comm (l₁:=xs.take k) (l₂:=[x])).append_right (xs.drop k)
  rw [List.append_assoc [x],List.take_append_drop] at h
  exact h
theorem insL_mem {α:Type} {xs:List α} {k:Nat} {x y:α}:y∈qjn xs k x↔y=x∨y∈xs:=by rw [(qeK xs k x).mem_iff,List.mem_cons]
theorem qf9 {α:Type} (xs:List α) (k:Nat) (x:α):(qjn xs k x).length=xs.length+1:=by rw [(qeK xs k x).length_eq];rfl
def qlp {α:Type} (xs:List α) (n:Nat) (x:α):List α:=xs.take n++[x]++xs.drop (n+1)
theorem qmf {α:Type} {xs:List α} {n:Nat} {x y:α} (h:y∈qlp xs n x):y=x∨y∈xs:=by
  unfold qlp at h
  rcases List.mem_append.mp h with h | h
  · rcases List.mem_append.mp h with h | h
    · exact .inr (List.mem_of_mem_take h)
    · exact .inl (List.mem_singleton.mp h)
  · exact .inr (List.mem_of_mem_drop h)
theorem qlt {α:Type} {xs:List α} {n:Nat} {x z:α} (h:xs[n]?=some z):(qlp xs n x).length=xs.length:=by
  have:=qao h
  unfold qlp
  rw [List.length_append,List.length_append,List.length_take,List.length_drop]
  simp
  omega
theorem qel {α:Type} (g:α→D) {xs:List α} (b:Int) (h:0<xs.length):∃ (n:Nat) (x:α),xs[n]?=some x∧atI (xs.map g) (b % (((xs.map g).length:Nat):Int))=some (g x)∧b % (((xs.map g).length:Nat):Int)=(n:Int)∧(0:Int)<(((xs.map g).length:Nat):Int):=by
  have hL:(((xs.map g).length:Nat):Int)=xs.length:=by rw [List.length_map]
  rw [hL]
  have hp:(0:Int)<(xs.length:Int):=by omega
  have h0:=Int.emod_nonneg b (b:=(xs.length:Int)) (by omega)
  have h1:=Int.emod_lt_of_pos b hp
  obtain ⟨n,hn⟩:=Int.eq_ofNat_of_zero_le h0
  have hlt:n<xs.length:=by omega
  exact ⟨n,xs[n],List.getElem?_eq_getElem hlt,qcE (i:=n) (List.getElem?_eq_getElem hlt) hn,hn,hp⟩
def qbY:SpD:=fun ds R=>∃ i:Int,ds=[.int i]∧R (.bl true)
theorem qec {n:Nat} {f:Addr} {fd:FuncData} (F:Fun K "_law_whole" "_law_whole" qby f fd) (z_isinstance:mg "isinstance"=none) (z_int:mg "int"=none) (z_bool:mg "bool"=none):FnOk P w K mg base CX0 (n+1) f fd ["_law_told"] (lSp K qbY):=by
  refine F.okD qeA (fun ds R h=>?_) (fun cdv A outer s H E ds R hr h=>?_)
  · obtain ⟨i,rfl,_⟩:=h;rfl
  obtain ⟨i,rfl,q⟩:=h
  refine ⟨_,(qaz (qa7 (qgY (qh8 rfl z_isinstance (dvq 0) (qcQ (v:=.ty "int") rfl z_int PyProof.Rows.boot_int rfl) qaa qaa) (qii (qmY (PD.q (qh8 rfl z_isinstance (dvq 0) (qcQ (v:=.ty "bool") rfl z_bool PyProof.Rows.boot_bool rfl) qaa qaa))))))),?_⟩
  exact ⟨true,qlL i,fun _=>⟨false,qlV i,q⟩,fun h=>tf h⟩
def qcA:SpD:=fun ds R=>∃ (xs:List Int) (n:Int),ds=[.tup (xs.map D.int),.int n]∧n=(xs.length:Int)∧xs.length≤500∧R (.bl true)
theorem qdU {n:Nat} {f:Addr} {fd:FuncData} (F:Fun K "_law_wholes" "_law_wholes" qbf f fd) (Q__law_whole:Cl P w K mg base n "_law_whole" ["_law_told"] qbY) (z_isinstance:mg "isinstance"=none) (z_tuple:mg "tuple"=none) (z_all:mg "all"=none) (z_len:mg "len"=none):FnOk P w K mg base CX0 (n+1) f fd ["_law_told","_law_size"] (lSp K qcA):=by
  refine F.okD qdT (fun ds R h=>?_) (fun cdv A outer s H E ds R hr h=>?_)
  · obtain ⟨xs,n,rfl,_⟩:=h;rfl
  obtain ⟨xs,n,rfl,hn,hl,q⟩:=h
  refine ⟨_,(qaz (qa7 (qgY (qh8 rfl z_isinstance (dvq 0) (qcQ (v:=.ty "tuple") rfl z_tuple PyProof.Rows.boot_tuple rfl) qaa qaa) (qgY (qdl (qiz hr.units) (PD.q (qau qbp rfl z_len PySem.boot_len (qam (dvq 0) qaq qaa) qaa qaf)) (dvq 1) (qaE _)) (qii (qau (qlR rfl) rfl z_all PyProof.Rows.boot_all (qam (PD.q (PF.d (qaB (k:=1) (N':=["_law_one"]) (cap:=[none]) rfl (.ok (show qaI ["_law_told","_law_size"] (qad qbf) _ ["_law_one"] [none]=true by decide +kernel)) (by decide +kernel) (qaJ (by decide)) (qa0 (dv 0)) (fun _ _ _ _ _=>(qat (i:=0) (show List.Nodup (["_law_one"]:List Str) by decide +kernel) rfl (Or.inl rfl))) (fun _ _ _ _ _=>(qaD Q__law_whole hr rfl (qac (dv 0) qap qaa) qaa qaf))))) qaq qag) qag qaf)))))),?_⟩
  have hL:((xs.map D.int).length:Int)=n:=by rw [List.length_map,hn]
  have hb:(((xs.map D.int).length:Int) == n)=true:=by rw [hL];exact beq_self_eq_true _
  refine ⟨true,qhl _,fun _=>⟨fun _=>?_,fun h=>?_⟩,fun h=>tf h⟩
  · refine qaw (f:=D.int) (fun _=>D.bl true) (qan (by omega)) (fun x _=>⟨x,rfl,rfl⟩) ?_
    refine ⟨xs.map fun _=>true,by rw [List.map_map];rfl,?_⟩
    refine toB q ?_
    show (xs.map fun _=>true).all id=true
    rw [List.all_eq_true]
    intro b hb
    obtain ⟨_,_,rfl⟩:=List.mem_map.mp hb
    rfl
  · rw [hb] at h;cases h
def qcD:SpD:=fun ds R=>∃ (c:Int) (ns:List Str) (big:Int),ds=[.int c,.lst (ns.map D.str),.int big]∧ns.length≤20∧0<big∧big≤2 ^ 200∧∀ ls:List Th,ls.length=ns.length→R (.lst (ls.map thD))
theorem qdZ {n:Nat} {f:Addr} {fd:FuncData} (F:Fun K "_law_limits" "_law_limits" qba f fd) (Q__law_draws:Cl P w K mg base n "_law_draws" ["_law_cell_here","_law_salt","_law_sizes"] qbl) (z_zip:mg "zip"=none) (z_len:mg "len"=none):FnOk P w K mg base CX0 (n+1) f fd ["_law_cell_here","_law_names_here","_law_big"] (lSp K qcD):=by
  refine F.okD qdW (fun ds R h=>?_) (fun cdv A outer s H E ds R hr h=>?_)
  · obtain ⟨c,ns,big,rfl,_⟩:=h;rfl
  obtain ⟨c,ns,big,rfl,hl,hb0,hb1,q⟩:=h
  refine ⟨_,(qaz (qa7 (PF.d (qaB (k:=2) (N':=["_law_name","_law_room"]) (cap:=[none,none]) rfl (.ok (show qaI ["_law_cell_here","_law_names_here","_law_big"] (qad qba) _ ["_law_name","_law_room"] [none,none]=true by decide +kernel)) (by decide +kernel) (qmd (n:=2) (qhy (qaJ (by decide)) (qhy (qaJ (by decide)) qmO))) (qmj rfl z_zip (qac (dv 1) (qac (qaD Q__law_draws hr rfl (qac (dv 0) (qac qab (qac (qaU qbJ (PD.q (PF.d (qbw (qac (qaU qa2 (dvq 2) (PD.q qab)) qap qaC)))) (PD.q (qau qbp rfl z_len PySem.boot_len (qam (dvq 1) qaq qaa) qaa qaf))) qap qaC) qae) qaa) qaa (qai qae (qai qaC qaf))) qap qak) qaa)) (fun _ _ _ _ _=>(qfw (n:=2) rfl (qaY (qat (i:=0) (show List.Nodup (["_law_name","_law_room"]:List Str) by decide +kernel) rfl (Or.inl rfl)) (qaY (qat (i:=1) (show List.Nodup (["_law_name","_law_room"]:List Str) by decide +kernel) rfl (Or.inl rfl)) qdr)))) (fun _ _ _ _ _=>(qbS (qac (dv 0) (qac (dv 1) qap qaa) qaa))))))),?_⟩
  have hL:((ns.map D.str).length:Int)=(ns.length:Int):=by rw [List.length_map]
  have h9:(2:Int) ^ 200+1<2 ^ 9000:=by decide +kernel
  refine ⟨⟨by omega,by omega,qdd (by show 1*((ns.map D.str).length:Int).toNat≤1000;omega)⟩,(List.replicate ns.length (big+1)).map D.int,by rw [qib,hL,Int.toNat_natCast],c,71,List.replicate ns.length (big+1),rfl,by rw [List.length_replicate];omega,by decide,by decide,fun z hz'=>?_,fun es hD=>?_⟩
  · rw [(List.mem_replicate.mp hz').2];omega
  have hel:es.length=ns.length:=by rw [hD.len,List.length_replicate]
  refine ⟨_,_,rfl,rfl,?_⟩
  refine qhw (f:=D.str) (h:=D.int) (fun x y=>thD (x,y)) (qan (by omega)) (fun x _ y _=>⟨rfl,rfl⟩) ?_
  have e:List.zipWith (fun x y=>thD (x,y)) ns es=(List.zip ns es).map thD:=by rw [List.map_zip_eq_zipWith];rfl
  rw [e]
  exact q _ (by rw [List.length_zip];omega)
def qb0:SpD:=fun ds R=>∃ (sc:List Int) (fc:Int) (ns:List Str) (m:Nat) (big:Int),ds=[.fzl (sc.map D.int),.int fc,.lst (ns.map D.str),.int (m:Int),.int big,.int big]∧sc.length≤63∧0≤fc∧ns.length≤20∧m≤20∧0<big∧big≤2 ^ 200∧∀ ks:List Ki,ks.length=ns.length→(∀ k∈ks,k.2.2.2.length=m)→R (.lst (ks.map kiD))
theorem qc7 {n:Nat} {f:Addr} {fd:FuncData} (F:Fun K "_law_kinds_by" "_law_kinds_by" qbb f fd) (Q__law_draws:Cl P w K mg base n "_law_draws" ["_law_cell_here","_law_salt","_law_sizes"] qbl) (Q__law_cell:Cl P w K mg base n "_law_cell" ["_law_script","_law_k"] qck) (z_enumerate:mg "enumerate"=none) (z_tuple:mg "tuple"=none):FnOk P w K mg base CX0 (n+1) f fd ["_law_script","_law_first_cell","_law_names_here","_law_many","_law_heavy","_law_big"] (lSp K qb0):=by
  refine F.okD sc__law_kinds_by (fun ds R h=>?_) (fun cdv A outer s H E ds R hr h=>?_)
  · obtain ⟨sc,fc,ns,m,big,rfl,_⟩:=h;rfl
  obtain ⟨sc,fc,ns,m,big,rfl,hz,hf,hnl,hm,hb0,hb1,q⟩:=h
  refine ⟨_,(qar (qiY (i:=6) sc__law_kinds_by.nd rfl (Or.inl rfl) (qbw qap))
      (qar (qfB PassesOwn.never rfl (qdo rfl z_enumerate (qac (dv 2) qap qaa)) (qfw (n:=2) rfl (qaY (qat (i:=7) sc__law_kinds_by.nd rfl (Or.inl rfl)) (qaY (qat (i:=8) sc__law_kinds_by.nd rfl (Or.inl rfl)) qdr))) (qar (qaP (i:=9) sc__law_kinds_by.nd rfl (Or.inl rfl) (qaD Q__law_draws hr rfl (qac (qaD Q__law_cell hr rfl (qac (dv 0) (qac (qaU qa2 (dvq 1) (dvq 7)) qap qaC) qaa) qaa (qai qaC qaf)) (qac qab (qac (qaU qa2 (PD.q (PF.d (qbw (qac (qaU qa2 (PD.q (qaU qbJ (PD.q qab) (dvq 5))) (PD.q qab)) (qac qab qap qae) qaC)))) (PD.q (qaU qbJ (PD.q (PF.d (qbw (qac (qaU qa2 (dvq 4) (PD.q qab)) qap qaC)))) (dvq 3)))) qap qaC) qae) qak) qak (qai qae (qai qaC qaf))))
      (qar (qaP (i:=10) sc__law_kinds_by.nd rfl (Or.inl rfl) qbW)
      (qbq (qcp (qa6 qkx (PD.q (qaS (dvq 9) (PD.q qab) (fun _ _=>rfl))) (PD.q qab) (qaE _)) (qaz (qaP (i:=10) sc__law_kinds_by.nd rfl (Or.inl rfl) (qaU qfb (PD.q (qaS (dvq 9) (PD.q qab) (fun _ _=>rfl))) (PD.q qab)))) qbg)
      (qaz (qcr 6 (qbS (qac (dv 8) (qac (qaU qfb (PD.q (qaS (dvq 9) (PD.q qab) (fun _ _=>rfl))) (dvq 5)) (qac (dv 10) (qac (qaM qaT rfl z_tuple PyProof.Rows.boot_tuple (qam (PD.q (qgX (dvq 9) (qa8 (PD.q qab)) qdA)) qaq qah) qah qaf) qap qak) qaa) qaC) qaa)) (qdC qa9) qa9))))))
      (qg2 6 (qaz (qa7 (dv 6)))))),?_⟩
  have h9:(2:Int)*2 ^ 200+1<2 ^ 9000:=by decide +kernel
  have eM:(m:Int).toNat=m:=Int.toNat_natCast m
  refine ⟨fun i ρ=>∃ (ks:List Ki) (u7 u8 u9 u10:Option Sl),ρ=[some (.v (.fzl (sc.map D.int))),some (.v (.int fc)),some (.v (.lst (ns.map D.str))),some (.v (.int (m:Int))),some (.v (.int big)),some (.v (.int big)),some (.own (ks.map kiD)),u7,u8,u9,u10]∧ks.length=i∧∀ k∈ks,k.2.2.2.length=m,⟨[],_,_,_,_,rfl,rfl,fun k h=>absurd h List.not_mem_nil⟩,?_,?_⟩
  · rintro i d ρ hd ⟨ks,u7,u8,u9,u10,rfl,hk1,hk2⟩
    obtain ⟨e,he,rfl⟩:=qcF hd
    obtain ⟨x,rfl,hx⟩:=qbm he
    have hi:=qao hx
    refine ⟨rfl,sc,fc+(i:Int),rfl,hz,by omega,fun cl=>⟨qb4 (by decide) (by decide),⟨by omega,by omega,qdd (by show 1*(m:Int).toNat≤1000;omega)⟩,(List.replicate m (big+1)).map D.int,by rw [qib,eM],?_,_,qnZ D.int [2*big+1,5] _,cl,72,[2*big+1,5]++List.replicate m (big+1),rfl,?_,by decide,by decide,fun z hz'=>?_,fun es hD=>?_⟩⟩
    · rw [List.length_map,List.length_replicate];exact qdd (by show 2+m≤1000;omega)
    · rw [List.length_append,List.length_replicate];show 2+m≤_;omega
    · rcases List.mem_append.mp hz' with h | h
      · simp only [List.mem_cons,List.not_mem_nil,or_false] at h
        rcases h with rfl | rfl <;> omega
      · rw [(List.mem_replicate.mp h).2];omega
    have hel:es.length=2+m:=by rw [hD.len,List.length_append,List.length_replicate];rfl
    obtain ⟨e0,e1,ws,rfl⟩:∃ e0 e1 ws,es=e0::e1::ws:=by
      match es,hel with
      | [],h=>simp at h;omega
      | [_],h=>simp at h;omega
      | a::b::r,_=>exact ⟨a,b,r,rfl⟩
    have hwl:ws.length=m:=by simp at hel;omega
    refine ⟨fun ρ=>∃ o:Option Int,ρ=[some (.v (.fzl (sc.map D.int))),some (.v (.int fc)),some (.v (.lst (ns.map D.str))),some (.v (.int (m:Int))),some (.v (.int big)),some (.v (.int big)),some (.own (ks.map kiD)),some (.v (.int (i:Int))),some (.v (.str x)),some (.v (.lst ((e0::e1::ws).map D.int))),some (.v (opD o))],⟨_,qcE (i:=1) rfl rfl,fun _=>⟨_,qcE (i:=1) rfl rfl,some _,rfl⟩,fun _=>⟨none,rfl⟩⟩,?_⟩
    rintro ρ ⟨o,rfl⟩
    have ec:qca ((e0::e1::ws).map D.int) (some 2) none=ws.map D.int:=by
      rw [qdg,show (2:Int)=((2:Nat):Int) from rfl,qiN];rfl
    refine ⟨_,qcE (i:=0) rfl rfl,_,ec,by rw [List.length_map];exact qan (by omega),_,qfA kiD ks (x,e0 - big,o,ws),ks++[(x,e0 - big,o,ws)],_,_,_,_,rfl,by rw [List.length_append,hk1];rfl,fun k hk=>?_⟩
    rcases List.mem_append.mp hk with h | h
    · exact hk2 k h
    · rw [List.mem_singleton.mp h];exact hwl
  rintro ρ ⟨ks,u7,u8,u9,u10,rfl,hk1,hk2⟩
  rw [qbT,List.length_map] at hk1
  exact q ks hk1 hk2
def qbn:SpD:=fun ds R=>∃ (f:Int) (ls:List Th) (a b c:Int),ds=[.int f,.lst (ls.map thD),.lst [.int a,.int b,.int c]]∧ls.length≤50∧∀ ls':List Th,ls'.length≤ls.length+1→R (.lst (ls'.map thD))
theorem qb3 {n:Nat} {f:Addr} {fd:FuncData} (F:Fun K "_law_faulty_limits" "_law_faulty_limits" qaH f fd) (Q__law_put:Cl P w K mg base n "_law_put" ["_law_row","_law_at","_law_one"] qcL) (z_len:mg "len"=none):FnOk P w K mg base CX0 (n+1) f fd ["_law_fault","_law_limits_here","_law_places"] (lSp K qbn):=by
  refine F.okD sc__law_faulty_limits (fun ds R h=>?_) (fun cdv A outer s H E ds R hr h=>?_)
  · obtain ⟨f,ls,a,b,c,rfl,_⟩:=h;rfl
  obtain ⟨f,ls,a,b,c,rfl,hl,q⟩:=h
  refine ⟨_,(qbq (qcp (PWD.td (qkl (qa6 (qiz hr.units) (dvq 0) (PD.q qab) (qaE _)) (qhn (qbz (dvq 1) (fun _=>rfl))))) (qg2 1 (qaz (qaP (i:=1) sc__law_faulty_limits.nd rfl (Or.inl rfl) (qaD Q__law_put hr rfl (qac (dv 1) (qac (qaS (dvq 2) (PD.q qab) (fun _ _=>rfl)) (qac (qbS (qac (qaS (PD.q (qaS (dvq 1) (PD.q (qaU qc6 (PD.q (qaS (dvq 2) (PD.q qab) (fun _ _=>rfl))) (PD.q (qau qbp rfl z_len PySem.boot_len (qam (dvq 1) qaq qaa) qaa qaf)))) (fun _ _=>rfl))) (PD.q qab) (fun _ _=>rfl)) (qac (qaS (dvq 2) (PD.q qab) (fun _ _=>rfl)) qap qah) qah)) qap qa9) qah) qaa) qaa (qai qah (qai qa9 qaf)))))) qbg)
      (qbq (qcp (qa6 (qiz hr.units) (dvq 0) (PD.q qab) (qaE _)) (qg2 1 (qar (qi6 (i:=1) (k:=1) (N':=["_law_one"]) (cap:=[none]) rfl sc__law_faulty_limits.nd rfl (Or.inl rfl) (.ok (show qaI ["_law_fault","_law_limits_here","_law_places","_law_at"] (qad qaH) _ ["_law_one"] [none]=true by decide +kernel)) (by decide +kernel) (qaJ (by decide)) (qa0 (dv 1)) (fun _ _ _ _ _=>(qat (i:=0) (show List.Nodup (["_law_one"]:List Str) by decide +kernel) rfl (Or.inl rfl))) (fun _ _ _ _ _=>(qbS (qac (qaS (dvq 0) (PD.q qab) (fun _ _=>rfl)) (qac (qaS (dvq 0) (PD.q qab) (fun _ _=>rfl)) qap qah) qah))))
      (qaz (qcp (qbz (dvq 1) (fun _=>rfl)) (qar (qaP (i:=3) sc__law_faulty_limits.nd rfl (Or.inl rfl) (qaU qc6 (PD.q (qaS (dvq 2) (PD.q qab) (fun _ _=>rfl))) (PD.q (qau qbp rfl z_len PySem.boot_len (qam (dvq 1) qaq qaa) qaa qaf))))
      (qaz (qoz 1 (qbS (qac (qaS (PD.q (qaS (dvq 1) (dvq 3) (fun _ _=>rfl))) (PD.q qab) (fun _ _=>rfl)) (qac (qaU qfb (PD.q (qeb (PD.q qab))) (PD.q (qaS (dvq 2) (PD.q qab) (fun _ _=>rfl)))) qap qaC) qah)) (dvq 3)))) qbg)))) qbg)
      (qg2 1 (qaz (qa7 (dv 1)))))),?_⟩
  refine ⟨fun ρ=>∃ ls1:List Th,ls1.length≤ls.length+1∧ρ=[some (.v (.int f)),some (.v (.lst (ls1.map thD))),some (.v (.lst [.int a,.int b,.int c])),none],⟨fun h=>⟨fun h0=>?_,fun _=>⟨ls,by omega,rfl⟩⟩,fun h=>⟨fun h=>ff h,fun _=>⟨ls,by omega,rfl⟩⟩⟩,?_⟩
  · have hp:0<ls.length:=by
      cases ls with
      | nil=>cases h0
      | cons x r=>exact Nat.succ_pos _
    obtain ⟨n,t,hn,h1,h2,h3⟩:=qel thD b hp
    refine ⟨_,rfl,_,rfl,h3,_,h1,_,rfl,_,rfl,ls.map thD,a,thD (t.1,c),rfl,by rw [List.length_map];omega,fun k hk=>⟨qjn ls k (t.1,c),by rw [qf9];omega,?_⟩⟩
    rw [qgf]
    rfl
  rintro ρ ⟨ls1,hl1,rfl⟩
  refine ⟨fun ρ=>∃ (ls2:List Th) (u1 u3:Option Sl),ls2.length≤ls.length+1∧(u1=some (.v (.lst (ls2.map thD)))∨u1=some (.own (ls2.map thD)))∧ρ=[some (.v (.int f)),u1,some (.v (.lst [.int a,.int b,.int c])),u3],⟨fun h=>?_,fun h=>⟨ls1,_,_,hl1,.inl rfl,rfl⟩⟩,?_⟩
  · refine qaw (f:=thD) thD (qan (by omega)) (fun t _=>⟨_,rfl,_,rfl,rfl⟩) ?_
    refine ⟨fun h0=>?_,fun _=>⟨ls1,_,_,hl1,.inr rfl,rfl⟩⟩
    have hp:0<ls1.length:=by
      cases ls1 with
      | nil=>cases h0
      | cons x r=>exact Nat.succ_pos _
    obtain ⟨n,t,hn,h1,h2,h3⟩:=qel thD a hp
    have hlt:=qao hn
    refine ⟨_,rfl,h3,_,h1,_,rfl,_,rfl,n,?_,(ls1.set n (t.1,-1 - c)).map thD,?_,_,_,_,?_,.inr rfl,rfl⟩
    · rw [h2];exact qkg (by rw [List.length_map];exact hlt)
    · rw [List.map_set];rfl
    · rw [List.length_set];exact hl1
  rintro ρ ⟨ls2,u1,u3,hl2,hu,rfl⟩
  rcases hu with rfl | rfl
  · exact q ls2 hl2
  · exact q ls2 hl2
theorem qoL {α:Type} (g:α→D) {xs:List α} {n:Nat} {i:Int} (h:n≤xs.length) (e:i=(n:Int)):qca (xs.map g) none (some i)=(xs.take n).map g:=by
  rw [e,qdg]
  unfold qca
  rw [HT.sIx_none,HT.sIx_nat,Nat.min_eq_left h,List.drop_zero,Nat.sub_zero]
theorem qoT {α:Type} (g:α→D) {xs:List α} {n:Nat} {i:Int} (h:n<xs.length) (e:i=(n:Int)):qca (xs.map g) (some (i+1)) none=(xs.drop (n+1)).map g:=by
  rw [e,qdg,show ((n:Int)+1)=((n+1:Nat):Int) from rfl]
  unfold qca
  rw [HT.sIx_none,HT.sIx_nat,Nat.min_eq_left (by omega),List.take_of_length_le (by rw [List.length_drop];omega)]
theorem qgc {α:Type} {xs:List α} {n:Nat} {x:α} (h:n<xs.length):(qlp xs n x).length=xs.length:=qlt (List.getElem?_eq_getElem h)
def qbv:SpD:=fun ds R=>∃ (f:Int) (ks:List Ki) (a b c:Int) (m:Nat),ds=[.int f,.lst (ks.map kiD),.lst [.int a,.int b,.int c]]∧ks.length≤50∧m≤50∧(∀ k∈ks,k.2.2.2.length=m)∧∀ ks':List Ki,ks'.length≤ks.length+1→(∀ k∈ks',k.2.2.2.length=m)→R (.lst (ks'.map kiD))
abbrev SK (f:Int) (ks:List Ki) (a b c:Int) (u3 u4 u5 u6 u7:Option Sl):Rho:=[some (.v (.int f)),some (.v (.lst (ks.map kiD))),some (.v (.lst [.int a,.int b,.int c])),u3,u4,u5,u6,u7]
theorem qcc {n:Nat} {f:Addr} {fd:FuncData} (F:Fun K "_law_faulty_kinds" "_law_faulty_kinds" qaQ f fd) (Q__law_put:Cl P w K mg base n "_law_put" ["_law_row","_law_at","_law_one"] qcL) (z_len:mg "len"=none):FnOk P w K mg base CX0 (n+1) f fd ["_law_fault","_law_kinds","_law_places"] (lSp K qbv):=by
  refine F.okD sc__law_faulty_kinds (fun ds R h=>?_) (fun cdv A outer s H E ds R hr h=>?_)
  · obtain ⟨f,ks,a,b,c,m,rfl,_⟩:=h;rfl
  obtain ⟨f,ks,a,b,c,m,rfl,hl,hm,hk,q⟩:=h
  refine ⟨_,(qbq (qcp (PWD.td (qhx (qe9 (qbz (dvq 1) (fun _=>rfl))) (qdH (qa6 qfo (dvq 0) (PD.q (qbS (qac qab (qac qab (qac qab qap qae) qae) qae))) (by with_unfolding_all rfl))))) (qaz (qa7 (dv 1))) qbg)
      (qar (qmF (qaS (dvq 1) (PD.q (qaU qc6 (PD.q (qaS (dvq 2) (PD.q qab) (fun _ _=>rfl))) (PD.q (qau qbp rfl z_len PySem.boot_len (qam (dvq 1) qaq qaa) qaa qaf)))) (fun _ _=>rfl)) (qfw (n:=4) rfl (qaY (qat (i:=3) sc__law_faulty_kinds.nd rfl (Or.inl rfl)) (qaY (qat (i:=4) sc__law_faulty_kinds.nd rfl (Or.inl rfl)) (qaY (qat (i:=5) sc__law_faulty_kinds.nd rfl (Or.inl rfl)) (qaY (qat (i:=6) sc__law_faulty_kinds.nd rfl (Or.inl rfl)) qdr))))))
      (qbq (qcp (qa6 (qiz hr.units) (dvq 0) (PD.q qab) (qaE _)) (qaz (qa7 (qaD Q__law_put hr rfl (qac (dv 1) (qac (qaS (dvq 2) (PD.q qab) (fun _ _=>rfl)) (qac (qbS (qac (dv 3) (qac (qaU qa2 (dvq 4) (PD.q qab)) (qac (dv 5) (qac (dv 6) qap qaa) qaa) qaC) qaa)) qap qa9) qah) qaa) qaa (qai qah (qai qa9 qaf))))) qbg)
      (qbq (qcp (qa6 (qiz hr.units) (dvq 0) (PD.q qab) (qaE _)) (qaz (qaP (i:=5) sc__law_faulty_kinds.nd rfl (Or.inl rfl) (qaU qfb (PD.q (qeb (PD.q qab))) (PD.q (qaS (dvq 2) (PD.q qab) (fun _ _=>rfl)))))) (qaz (qcp (qbz (dvq 6) (fun _=>rfl)) (qar (qaP (i:=7) sc__law_faulty_kinds.nd rfl (Or.inl rfl) (qaU qc6 (PD.q (qaS (dvq 2) (PD.q qab) (fun _ _=>rfl))) (PD.q (qau qbp rfl z_len PySem.boot_len (qam (dvq 6) qaq qaa) qaa qaf))))
      (qaz (qaP (i:=6) sc__law_faulty_kinds.nd rfl (Or.inl rfl) (qaU qa2 (PD.q (qaU qa2 (PD.q (qgX (dvq 6) qdA (qa8 (dvq 7)))) (PD.q (qbS (qac (qaU qfb (PD.q (qeb (PD.q qab))) (PD.q (qaS (dvq 2) (PD.q qab) (fun _ _=>rfl)))) qap qaC))))) (PD.q (qgX (dvq 6) (qa8 (PD.q (qaU qa2 (dvq 7) (PD.q qab)))) qdA)))))) qbg)))
      (qar (qaP (i:=7) sc__law_faulty_kinds.nd rfl (Or.inl rfl) (qaU qc6 (PD.q (qaS (dvq 2) (PD.q qab) (fun _ _=>rfl))) (PD.q (qau qbp rfl z_len PySem.boot_len (qam (dvq 1) qaq qaa) qaa qaf))))
      (qaz (qa7 (qaU qa2 (PD.q (qaU qa2 (PD.q (qgX (dvq 1) qdA (qa8 (dvq 7)))) (PD.q (PF.d (qbw (qac (qbS (qac (dv 3) (qac (dv 4) (qac (dv 5) (qac (dv 6) qap qaa) qaa) qaa) qaa)) qap qa9)))))) (PD.q (qgX (dvq 1) (qa8 (PD.q (qaU qa2 (dvq 7) (PD.q qab)))) qdA)))))))))),?_⟩
  have qs:R (.lst (ks.map kiD)):=q ks (by omega) hk
  refine ⟨fun ρ=>0<ks.length∧ρ=SK f ks a b c none none none none none,⟨fun h=>⟨fun _=>qs,fun h=>tf h⟩,fun h=>?_⟩,?_⟩
  · have hp:0<ks.length:=by
      cases ks with
      | nil=>cases h
      | cons x r=>exact Nat.succ_pos _
    exact ⟨.inl f,[.inl 3,.inl 5,.inl 6],rfl,rfl,fun _=>qs,fun _=>⟨hp,rfl⟩⟩
  rintro ρ ⟨hp,rfl⟩
  obtain ⟨n,k,hn,h1,h2,h3⟩:=qel kiD b hp
  have hlt:=qao hn
  have hkm:=hk k (List.mem_of_getElem? hn)
  refine ⟨_,rfl,h3,_,h1,rfl,?_⟩
  refine ⟨fun ρ=>ρ=SK f ks a b c (some (.v (.str k.1))) (some (.v (.int k.2.1))) (some (.v (opD k.2.2.1))) (some (.v (.tup (k.2.2.2.map D.int)))) none,⟨fun h=>?_,fun _=>rfl⟩,?_⟩
  · refine ⟨_,rfl,ks.map kiD,a,kiD (k.1,k.2.1+1,k.2.2.1,k.2.2.2),rfl,by rw [List.length_map];omega,fun j hj=>?_⟩
    rw [← qgf]
    refine q _ (by rw [qf9];omega) fun k' hk'=>?_
    rcases insL_mem.mp hk' with rfl | hk'
    · exact hkm
    · exact hk k' hk'
  rintro ρ rfl
  refine ⟨fun ρ=>∃ (o:Option Int) (ws:List Int) (u7:Option Sl),ws.length=m∧ρ=SK f ks a b c (some (.v (.str k.1))) (some (.v (.int k.2.1))) (some (.v (opD o))) (some (.v (.tup (ws.map D.int)))) u7,⟨fun h=>⟨_,rfl,some _,k.2.2.2,_,hkm,rfl⟩,fun h=>⟨fun h0=>?_,fun _=>⟨k.2.2.1,k.2.2.2,_,hkm,rfl⟩⟩⟩,?_⟩
  · have hpw:0<k.2.2.2.length:=by
      cases hw:k.2.2.2 with
      | nil=>rw [hw] at h0;cases h0
      | cons x r=>exact Nat.succ_pos _
    obtain ⟨n2,x,hn2,k1,k2,k3⟩:=qel D.int a hpw
    have hlt2:=qao hn2
    refine ⟨_,rfl,k3,_,qoL D.int (by omega) k2,_,rfl,?_,_,qfA D.int _ (-1 - c),_,qoT D.int hlt2 k2,?_,_,qnZ D.int _ _,k.2.2.1,qlp k.2.2.2 n2 (-1 - c),_,by rw [qgc hlt2];exact hkm,rfl⟩
    · rw [List.length_map,List.length_take];exact qdd (by show _+1≤1000;omega)
    · rw [List.length_map,List.length_map,List.length_append,List.length_take,List.length_drop];exact qdd (by show _+1+_≤1000;omega)
  rintro ρ ⟨o,ws,u7,hws,rfl⟩
  refine ⟨_,rfl,h3,_,qoL kiD (by omega) h2,?_,_,qfA kiD _ (k.1,k.2.1,o,ws),_,qoT kiD hlt h2,?_,_,qnZ kiD _ _,?_⟩
  · rw [List.length_map,List.length_take];exact qdd (by show _+1≤1000;omega)
  · rw [List.length_map,List.length_map,List.length_append,List.length_take,List.length_drop];exact qdd (by show _+1+_≤1000;omega)
  refine q (qlp ks n (k.1,k.2.1,o,ws)) (by rw [qgc hlt];omega) fun k' hk'=>?_
  rcases qmf hk' with rfl | hk'
  · exact hws
  · exact hk k' hk'
theorem qea {f:D→D→Option Bool}:∀ {xs:List D},(∀ x∈xs,f x x=some true)→cmL f xs xs=some true
  | [],_=>rfl
  | x::xs,h=>by
    show ((f x x).bind fun b=>(cmL f xs xs).map (b && ·))=_
    rw [h x List.mem_cons_self,qea fun y hy=>h y (List.mem_cons_of_mem _ hy)]
    rfl
theorem qfd {n:Nat} (i:Int):cmB (n+1) (.int i) (.int i)=some true:=by
  show some (i == i)=_
  rw [beq_self_eq_true]
theorem qdt {n:Nat} {xs:List D} (h:∀ x∈xs,cmB n x x=some true):cmB (n+1) (.tup xs) (.tup xs)=some true:=qea h
theorem qi4 (xs:List Int):cmB 40 (.tup (xs.map D.int)) (.tup (xs.map D.int))=some true:=qdt fun x hx=>by
  obtain ⟨i,_,rfl⟩:=List.mem_map.mp hx
  exact qfd i
theorem qfs {d:D} {X Y:Prop} (h:cmB 40 d d=some true) (k:Y):zNe d d fun d=>match d with | .bl b=>(b=true→X)∧(b=false→Y) | _=>False:=by
  unfold zNe
  rw [h]
  exact ⟨fun h=>ff h,fun _=>k⟩
theorem qes {nm:Str} {b1 b2 b3 b4 b5 b6 b7 b8:Bool} (h1:qcW nm "TooGreat"=b1) (h2:qcW nm "Twice"=b2) (h3:qcW nm "NoName"=b3) (h4:qcW nm "BelowNought"=b4) (h5:qcW nm "NoText"=b5) (h6:qcW nm "NoNumber"=b6) (h7:qcW nm "NoRow"=b7) (h8:qcW nm "NoChange"=b8):[D.bl b1,.bl b2,.bl b3,.bl b4,.bl b5,.bl b6,.bl b7,.bl b8,.bl true]=qa4 nm:=by
  subst h1 h2 h3 h4 h5 h6 h7 h8
  rfl
theorem qla:[D.bl true,.bl false,.bl false,.bl false,.bl false,.bl false,.bl false,.bl false,.bl true]=qa4 "TooGreat":=qes (by decide +kernel) (by decide +kernel) (by decide +kernel) (by decide +kernel) (by decide +kernel) (by decide +kernel) (by decide +kernel) (by decide +kernel)
theorem qko:[D.bl false,.bl true,.bl false,.bl false,.bl false,.bl false,.bl false,.bl false,.bl true]=qa4 "Twice":=qes (by decide +kernel) (by decide +kernel) (by decide +kernel) (by decide +kernel) (by decide +kernel) (by decide +kernel) (by decide +kernel) (by decide +kernel)
theorem qnK {n:Nat} (b:Bool):cmB (n+1) (.bl b) (.bl b)=some true:=by cases b <;> rfl
theorem qlc {n:Nat} {xs:List D} (h:∀ x∈xs,cmB n x x=some true):cmB (n+1) (.lst xs) (.lst xs)=some true:=by
  show (if xs.length=xs.length then cmL (cmB n) xs xs else some false)=some true
  rw [if_pos rfl]
  exact qea h
theorem qgo (nm:Str):∀ k∈qa4 nm,∃ b,k=D.bl b:=fun k hk=>by
  unfold qa4 at hk
  rcases List.mem_append.mp hk with hk | hk
  · obtain ⟨c,_,rfl⟩:=List.mem_map.mp hk
    exact ⟨_,rfl⟩
  · rw [List.mem_singleton.mp hk];exact ⟨_,rfl⟩
theorem qip {d:D} {R:D→Prop} (h:cmB 40 d d=some true) (k:R (.bl true)):zEq d d R:=by
  unfold zEq
  rw [h]
  exact k
theorem qkB {ls:List Th} {ks:List Ki} {nm:Str} {a:Option D} (h:SackBad ls ks nm a):nm∈exN∧qcW nm "YardError"=true:=by
  cases h <;> exact ⟨by decide +kernel,by decide +kernel⟩
def qiy (nm:Str):Int:=if nm="TooGreat" then 0 else if nm="Twice" then 1 else 3
theorem qlF:qiy "TooGreat"=0:=by decide +kernel
theorem qlM:qiy "Twice"=1:=by decide +kernel
theorem qkm:qiy "BelowNought"=3:=by decide +kernel
theorem qif {xs:List Str} {n:Nat} (h:n=xs.length):decide ((qg6 (xs.map Sum.inr):Int)<(n:Int))=!decide xs.Nodup:=by
  have e:=qkG (ks:=xs.map Sum.inr)
  rw [List.length_map] at e
  subst h
  rw [e]
  have:(xs.map (Sum.inr (α:=Int))).Nodup↔xs.Nodup:=by
    unfold List.Nodup
    rw [List.pairwise_map]
    exact ⟨fun h=>h.imp fun z e=>z (by rw [e]),fun h=>h.imp fun z e=>z (Sum.inr.inj e)⟩
  by_cases c:xs.Nodup
  · rw [decide_eq_true c,decide_eq_true (this.mpr c)]
  · rw [decide_eq_false c,decide_eq_false fun z=>c (this.mp z)]
def qnY:Option Int→Bool
  | none=>false
  | some i=>decide (i<0)
theorem neg_most {ks:List Ki}:(ks.any fun k=>qnY k.2.2.1)=true↔∃ x∈qcq ks,x<0:=by
  rw [List.any_eq_true]
  unfold qcq
  constructor
  · rintro ⟨k,hk,h⟩
    cases e:k.2.2.1 with
    | none=>rw [e] at h;cases h
    | some i=>rw [e] at h;exact ⟨i,List.mem_filterMap.mpr ⟨k,hk,e⟩,of_decide_eq_true h⟩
  · rintro ⟨x,hx,h⟩
    obtain ⟨k,hk,e⟩:=List.mem_filterMap.mp hx
    exact ⟨k,hk,by rw [e];exact decide_eq_true h⟩
def qbP:SpD:=fun ds R=>∃ (ls:List Th) (ks:List Ki),ds=[.lst (ls.map thD),.lst (ks.map kiD)]∧ls.length≤100∧ks.length≤100∧(∀ nm a,SackBad ls ks nm a→R (.int (qiy nm)))∧(SackOk ls ks→R .non)
theorem qcR {n:Nat} {f:Addr} {fd:FuncData} (F:Fun K "_law_class_due" "_law_class_due" qax f fd) (z_any:mg "any"=none) (z_len:mg "len"=none) (z_set:mg "set"=none) (z_min:mg "min"=none):FnOk P w K mg base CX0 (n+1) f fd ["_law_limits_here","_law_kinds"] (lSp K qbP):=by
  refine F.okD qcM (fun ds R h=>?_) (fun cdv A outer s H E ds R hr h=>?_)
  · obtain ⟨ls,ks,rfl,_⟩:=h;rfl
  obtain ⟨ls,ks,rfl,hl,hk,qb,qo⟩:=h
  refine ⟨_,(qbq (qcp (PWD.td (qhx (qa6 qkx (PD.q (qau qbp rfl z_len PySem.boot_len (qam (dvq 0) qaq qaa) qaa qaf)) (PD.q qab) (qaE _)) (qdH (qa6 qkx (PD.q (qau qbp rfl z_len PySem.boot_len (qam (dvq 1) qaq qaa) qaa qaf)) (PD.q qab) (qaE _))))) (qaz (qa7 qab)) qbg)
      (qbq (qcp (PWD.td (qhx (qa6 qj4 (PD.q (qgb rfl rfl z_len rfl z_set (PF.d (qaB (k:=1) (N':=["_law_one"]) (cap:=[none]) rfl (.ok (show qaI ["_law_limits_here","_law_kinds"] (qad qax) _ ["_law_one"] [none]=true by decide +kernel)) (by decide +kernel) (qaJ (by decide)) (qa0 (dv 0)) (fun _ _ _ _ _=>(qat (i:=0) (show List.Nodup (["_law_one"]:List Str) by decide +kernel) rfl (Or.inl rfl))) (fun _ _ _ _ _=>(qaS (dvq 0) (PD.q qab) (fun _ _=>rfl))))) qag qak)) (PD.q (qau qbp rfl z_len PySem.boot_len (qam (dvq 0) qaq qaa) qaa qaf)) (qaE _)) (qdH (qa6 qj4 (PD.q (qgb rfl rfl z_len rfl z_set (PF.d (qaB (k:=1) (N':=["_law_one"]) (cap:=[none]) rfl (.ok (show qaI ["_law_limits_here","_law_kinds"] (qad qax) _ ["_law_one"] [none]=true by decide +kernel)) (by decide +kernel) (qaJ (by decide)) (qa0 (dv 1)) (fun _ _ _ _ _=>(qat (i:=0) (show List.Nodup (["_law_one"]:List Str) by decide +kernel) rfl (Or.inl rfl))) (fun _ _ _ _ _=>(qaS (dvq 0) (PD.q qab) (fun _ _=>rfl))))) qag qak)) (PD.q (qau qbp rfl z_len PySem.boot_len (qam (dvq 1) qaq qaa) qaa qaf)) (qaE _))))) (qaz (qa7 qab)) qbg)
      (qbq (qcp (PWD.td (qhx (qbz (PD.q (qau (qgQ rfl) rfl z_any PyProof.Rows.boot_any (qam (PD.q (PF.d (qaB (k:=1) (N':=["_law_one"]) (cap:=[none]) rfl (.ok (show qaI ["_law_limits_here","_law_kinds"] (qad qax) _ ["_law_one"] [none]=true by decide +kernel)) (by decide +kernel) (qaJ (by decide)) (qa0 (dv 0)) (fun _ _ _ _ _=>(qat (i:=0) (show List.Nodup (["_law_one"]:List Str) by decide +kernel) rfl (Or.inl rfl))) (fun _ _ _ _ _=>(qdl qj4 (PD.q (qaS (dvq 0) (PD.q qab) (fun _ _=>rfl))) (PD.q qab) (qaE _)))))) qaq qag) qag qaf)) (fun _=>rfl)) (qdH (qbz (PD.q (qau (qgQ rfl) rfl z_any PyProof.Rows.boot_any (qam (PD.q (PF.d (qaB (k:=1) (N':=["_law_one"]) (cap:=[none]) rfl (.ok (show qaI ["_law_limits_here","_law_kinds"] (qad qax) _ ["_law_one"] [none]=true by decide +kernel)) (by decide +kernel) (qaJ (by decide)) (qa0 (dv 1)) (fun _ _ _ _ _=>(qat (i:=0) (show List.Nodup (["_law_one"]:List Str) by decide +kernel) rfl (Or.inl rfl))) (fun _ _ _ _ _=>(qgY (qdl qcT (PD.q (qaS (dvq 0) (PD.q qab) (fun _ _=>rfl))) (PD.q qbW) (qaE _)) (qii (qdl qj4 (PD.q (qaS (dvq 0) (PD.q qab) (fun _ _=>rfl))) (PD.q qab) (qaE _)))))))) qaq qag) qag qaf)) (fun _=>rfl))))) (qaz (qa7 qab)) qbg)
      (qbq (qcp (qbz (PD.q (qau (qgQ rfl) rfl z_any PyProof.Rows.boot_any (qam (PD.q (PF.d (qaB (k:=1) (N':=["_law_one"]) (cap:=[none]) rfl (.ok (show qaI ["_law_limits_here","_law_kinds"] (qad qax) _ ["_law_one"] [none]=true by decide +kernel)) (by decide +kernel) (qaJ (by decide)) (qa0 (dv 1)) (fun _ _ _ _ _=>(qat (i:=0) (show List.Nodup (["_law_one"]:List Str) by decide +kernel) rfl (Or.inl rfl))) (fun _ _ _ _ _=>(qdl qj4 (PD.q (qlC rfl rfl z_min (PD.q (qaS (dvq 0) (PD.q qab) (fun _ _=>rfl))) qah)) (PD.q qab) (qaE _)))))) qaq qag) qag qaf)) (fun _=>rfl)) (qaz (qa7 qab)) qbg)
      (qaz (qa7 qbW)))))),?_⟩
  have tL:(((ls.map thD).length:Nat):Int)=ls.length:=by rw [List.length_map]
  have oL:(((ks.map kiD).length:Nat):Int)=ks.length:=by rw [List.length_map]
  have q0:(12<ls.length∨8<ks.length)→R (.int 0):=fun h=>by have:=qb _ _ (.great h);rwa [qlF] at this
  refine ⟨fun ρ=>(ls.length≤12∧ks.length≤8)∧ρ=[some (.v (.lst (ls.map thD))),some (.v (.lst (ks.map kiD)))],⟨fun h=>⟨fun _=>q0 (.inl (by have:=of_decide_eq_true h;omega)),fun h=>tf h⟩,fun h=>⟨fun h2=>q0 (.inr (by have:=of_decide_eq_true h2;omega)),fun h2=>⟨⟨by have:=of_decide_eq_false h;omega,by have:=of_decide_eq_false h2;omega⟩,rfl⟩⟩⟩,?_⟩
  rintro ρ ⟨⟨l1,l2⟩,rfl⟩
  have q1:(¬ (ls.map (·.1)).Nodup∨¬ (ks.map (·.1)).Nodup)→R (.int 1):=fun h=>by have:=qb _ _ (.twice l1 l2 h);rwa [qlM] at this
  refine ⟨fun ρ=>((ls.map (·.1)).Nodup∧(ks.map (·.1)).Nodup)∧ρ=[some (.v (.lst (ls.map thD))),some (.v (.lst (ks.map kiD)))],?_,?_⟩
  · refine qaw (f:=thD) (fun t=>D.str t.1) (qan (by omega)) (fun t _=>⟨_,rfl,rfl⟩) ?_
    refine ⟨(ls.map (·.1)).map Sum.inr,by rw [qhe,qfu],by rw [List.length_map,List.length_map];omega,?_⟩
    have e1:=qif (xs:=ls.map (·.1)) (n:=(ls.map thD).length) (by rw [List.length_map,List.length_map])
    refine ⟨fun h=>⟨fun _=>q1 (.inl fun z=>?_),fun h=>tf h⟩,fun h=>?_⟩
    · have h:decide ((qg6 ((ls.map (·.1)).map Sum.inr):Int)<((ls.map thD).length:Int))=true:=h
      rw [e1,decide_eq_true z] at h
      cases h
    have h:decide ((qg6 ((ls.map (·.1)).map Sum.inr):Int)<((ls.map thD).length:Int))=false:=h
    have n1:(ls.map (·.1)).Nodup:=by
      by_cases c:(ls.map (·.1)).Nodup
      · exact c
      · rw [e1,decide_eq_false c] at h;cases h
    refine qaw (f:=kiD) (fun t=>D.str t.1) (qan (by omega)) (fun t _=>⟨_,rfl,rfl⟩) ?_
    refine ⟨(ks.map (·.1)).map Sum.inr,by rw [qim,qfu],by rw [List.length_map,List.length_map];omega,?_⟩
    have e2:=qif (xs:=ks.map (·.1)) (n:=(ks.map kiD).length) (by rw [List.length_map,List.length_map])
    refine ⟨fun h=>q1 (.inr fun z=>?_),fun h=>⟨⟨n1,?_⟩,rfl⟩⟩
    · have h:decide ((qg6 ((ks.map (·.1)).map Sum.inr):Int)<((ks.map kiD).length:Int))=true:=h
      rw [e2,decide_eq_true z] at h
      cases h
    · have h:decide ((qg6 ((ks.map (·.1)).map Sum.inr):Int)<((ks.map kiD).length:Int))=false:=h
      by_cases c:(ks.map (·.1)).Nodup
      · exact c
      · rw [e2,decide_eq_false c] at h;cases h
  rintro ρ ⟨⟨n1,n2⟩,rfl⟩
  have q3:((∃ x∈ls.map (·.2),x<0)∨(∃ x∈qcq ks,x<0)∨∃ k∈ks,∃ x∈k.2.2.2,x<0)→R (.int 3):=fun h=>by have:=qb _ _ (.below l1 l2 n1 n2 h);rwa [qkm] at this
  refine ⟨fun ρ=>((∀ x∈ls.map (·.2),0≤x)∧∀ x∈qcq ks,0≤x)∧ρ=[some (.v (.lst (ls.map thD))),some (.v (.lst (ks.map kiD)))],?_,?_⟩
  · refine qaw (f:=thD) (fun t=>D.bl (decide (t.2<0))) (qan (by omega)) (fun t _=>⟨_,rfl,rfl⟩) ?_
    refine ⟨ls.map fun t=>decide (t.2<0),by rw [List.map_map];rfl,fun h=>⟨fun _=>?_,fun h=>tf h⟩,fun h=>?_⟩
    · obtain ⟨t,ht,e⟩:=List.any_eq_true.mp (qc0 h)
      exact q3 (.inl ⟨t.2,List.mem_map.mpr ⟨t,ht,rfl⟩,of_decide_eq_true e⟩)
    have r1:∀ x∈ls.map (·.2),0≤x:=fun x hx=>by
      obtain ⟨t,ht,rfl⟩:=List.mem_map.mp hx
      exact Int.not_lt.mp fun z=>List.any_eq_false.mp (qc0 h) t ht (decide_eq_true z)
    refine qaw (f:=kiD) (fun k=>D.bl (qnY k.2.2.1)) (qan (by omega)) (fun k _=>?_) ?_
    · obtain ⟨x,v,o,ws⟩:=k
      refine ⟨_,rfl,?_⟩
      cases o with
      | none=>exact ⟨fun h=>(by cases h),fun _=>rfl⟩
      | some i=>exact ⟨fun _=>⟨_,rfl,rfl⟩,fun h=>(by cases h)⟩
    refine ⟨ks.map fun k=>qnY k.2.2.1,by rw [List.map_map];rfl,fun h=>?_,fun h=>⟨⟨r1,fun x hx=>?_⟩,rfl⟩⟩
    · exact q3 (.inr (.inl (neg_most.mp (qc0 h))))
    · refine Int.not_lt.mp fun z=>?_
      have:=qc0 h
      rw [neg_most.mpr ⟨x,hx,z⟩] at this
      cases this
  rintro ρ ⟨⟨r1,r2⟩,rfl⟩
  refine ⟨fun ρ=>(∀ k∈ks,∀ x∈k.2.2.2,0≤x)∧ρ=[some (.v (.lst (ls.map thD))),some (.v (.lst (ks.map kiD)))],?_,?_⟩
  · refine qaw (f:=kiD) (fun k=>D.bl (k.2.2.2.any fun x=>decide (x<0))) (qan (by omega)) (fun k _=>?_) ?_
    · refine ⟨_,rfl,k.2.2.2,rfl,fun e=>by rw [e];rfl,fun m hm hmin=>?_⟩
      show D.bl (decide (m<0))=_
      congr 1
      by_cases c:m<0
      · rw [decide_eq_true c];exact (List.any_eq_true.mpr ⟨m,hm,decide_eq_true c⟩).symm
      · rw [decide_eq_false c]
        exact (List.any_eq_false.mpr fun x hx z=>by have:=hmin x hx;have:=of_decide_eq_true z;omega).symm
    refine ⟨ks.map fun k=>k.2.2.2.any fun x=>decide (x<0),by rw [List.map_map];rfl,fun h=>?_,fun h=>⟨fun k hk x hx=>?_,rfl⟩⟩
    · obtain ⟨k,hk,e⟩:=List.any_eq_true.mp (qc0 h)
      obtain ⟨x,hx,e⟩:=List.any_eq_true.mp e
      exact q3 (.inr (.inr ⟨k,hk,x,hx,of_decide_eq_true e⟩))
    · exact Int.not_lt.mp fun z=>List.any_eq_false.mp (qc0 h) k hk (List.any_eq_true.mpr ⟨x,hx,decide_eq_true z⟩)
  rintro ρ ⟨r3,rfl⟩
  exact qo ⟨l1,l2,n1,n2,r1,r2,r3⟩
def qdD (nm:Str):List D:=((List.range 8).map fun i:Nat=>D.bl ((0+(i:Int)) == qiy nm))++[.bl true]
theorem qkA:qdD "TooGreat"=qa4 "TooGreat":=by
  have h:=qla
  rw [← h]
  unfold qdD
  rw [qlF]
  rfl
theorem qk5:qdD "Twice"=qa4 "Twice":=by
  have h:=qko
  rw [← h]
  unfold qdD
  rw [qlM]
  rfl
theorem qky:[D.bl false,.bl false,.bl false,.bl true,.bl false,.bl false,.bl false,.bl false,.bl true]=qa4 "BelowNought":=qes (by decide +kernel) (by decide +kernel) (by decide +kernel) (by decide +kernel) (by decide +kernel) (by decide +kernel) (by decide +kernel) (by decide +kernel)
theorem qlf:qdD "BelowNought"=qa4 "BelowNought":=by
  have h:=qky
  rw [← h]
  unfold qdD
  rw [qkm]
  rfl
structure Tail (nm:Str) (a:Option D):Prop where
  r:qdD nm=qa4 nm
  c:((qcW nm "TooGreat"=true∨qcW nm "Twice"=true)∧qiy nm<2∧a=some .non)∨(qcW nm "TooGreat"=false∧qcW nm "Twice"=false∧qiy nm=3)
theorem qkk {ls:List Th} {ks:List Ki} {nm:Str} {a:Option D} (h:SackBad ls ks nm a):Tail nm a:=by
  cases h with
  | great _=>exact ⟨qkA,.inl ⟨.inl (by decide +kernel),by decide +kernel,rfl⟩⟩
  | twice _ _ _=>exact ⟨qk5,.inl ⟨.inr (by decide +kernel),by decide +kernel,rfl⟩⟩
  | below _ _ _ _ _=>exact ⟨qlf,.inr ⟨by decide +kernel,by decide +kernel,qkm⟩⟩
theorem qjX {nm:Str} {xs:List D} (h:xs=qa4 nm∨xs=qa4 nm++[.non]):cmB 40 (.lst xs) (.lst xs)=some true:=qlc fun x hx=>by
  have:(∃ b,x=.bl b)∨x=.non:=by
    rcases h with rfl | rfl
    · exact .inl (qgo nm x hx)
    · rcases List.mem_append.mp hx with hx | hx
      · exact .inl (qgo nm x hx)
      · exact .inr (List.mem_singleton.mp hx)
  rcases this with ⟨b,rfl⟩ | rfl
  · exact qnK b
  · rfl
theorem qoc (nm:Str):atI (qa4 nm) 0=some (.bl (qcW nm "TooGreat")):=rfl
theorem qnI (nm:Str):atI (qa4 nm) 1=some (.bl (qcW nm "Twice")):=rfl
theorem qkQ (nm:Str):(qa4 nm).length=9:=rfl
theorem qmh (nm:Str) (d:D):(qa4 nm).length+[d].length≤sizeLine:=by rw [qkQ,sizeLine_eq];show 9+1≤_;decide
theorem qot (i:Nat) {ρ:Rho} {xs:List D} {b0 b1:Bool} {R:Bool→Prop} (h:ρ[i]?=some (some (.v (.lst xs)))) (h0:atI xs 0=some (.bl b0)) (h1:atI xs 1=some (.bl b1)) (k:R (b0 || b1)) :
    zOr (qlI (dOp zIx (qcH i) (dC (.int 0)))) (qlI (dOp zIx (qcH i) (dC (.int 1)))) ρ R:=by
  have e:∀ (R:D→Prop),R (.lst xs)→qcH i ρ R:=fun R hR=>by unfold qcH;rw [h];exact hR
  refine e _ ⟨_,h0,fun z=>?_,fun z=>e _ ⟨_,h1,?_⟩⟩
  · have z:b0=true:=z
    rw [z,Bool.true_or] at k
    exact k
  · have z:b0=false:=z
    rw [z,Bool.false_or] at k
    exact k
theorem qfU (i:Nat) {t u:TSM} {De:EndsM} {ρ:qaV} {xs:List D} {b0 b1:Bool} (h:(prR ρ)[i]?=some (some (.v (.lst xs)))) (h0:atI xs 0=some (.bl b0)) (h1:atI xs 1=some (.bl b1)) (k:((b0 || b1)=true→t De ρ)∧((b0 || b1)=false→u De ρ)) :
    mIf (xB (zOr (qlI (dOp zIx (qcH i) (dC (.int 0)))) (qlI (dOp zIx (qcH i) (dC (.int 1)))))) t u De ρ:=by
  unfold mIf xB
  exact qot i h h0 h1 k
theorem qhT {De:EndsM} {ρ:qaV} {xs:List D} (h3:(prR ρ)[3]?=some (some (.v (.lst xs)))) (h4:(prR ρ)[4]?=some (some (.v (.lst xs)))) (h5:(prR ρ)[5]?=some (some (.v (.lst xs)))) (hc:cmB 40 (.lst xs) (.lst xs)=some true) (k:De.rt (.v (.bl true)) ρ) :
    qon (xD (qoN (dOp zEq (qcH 4) (qcH 3)) (dOp zEq (qcH 5) (qcH 3)))) De ρ:=by
  have e:∀ (i:Nat) (R:D→Prop),(prR ρ)[i]?=some (some (.v (.lst xs)))→R (.lst xs)→qcH i (prR ρ) R:=fun i R h hR=>by unfold qcH;rw [h];exact hR
  unfold qon xD
  refine e 4 _ h4 (e 3 _ h3 ?_)
  refine qip hc ⟨fun _=>?_,fun h=>tf h⟩
  refine e 5 _ h5 (e 3 _ h3 ?_)
  exact qip hc k
def qbr:SpD:=fun ds R=>∃ (ls:List Th) (ks:List Ki) (nm:Str) (a:Option D),ds=[.lst (ls.map thD),.lst (ks.map kiD),.int (qiy nm)]∧SackBad ls ks nm a∧ls.length≤100∧ks.length≤100∧(∀ k∈ks,k.2.2.2.length≤100)∧R (.bl true)
theorem qcb {n:Nat} {f:Addr} {fd:FuncData} (F:Fun K "_law_refused_well" "_law_refused_well" qaK f fd) (U_sack_plan:ClX P w K mg base (n+1) "sack_plan" ["limits","kinds"] (orX qbI qcj)) (U_sack:ClX P w K mg base (n+1) "sack" ["limits","kinds"] (orX qm6 qj1)) (V__law_kinds_of:ClH P w K mg base "_law_kinds_of" ["_law_e"] qb1) (z_tuple:mg "tuple"=none) (z_range:mg "range"=none) (Ex:Exs K mg qcW exN) (Is:Isa K mg qcW exN) (e_YardError:∃ D,mg "YardError"=some (.ref D)):FnOk P w K mg base CX0 (n+2) f fd ["_law_limits_here","_law_kinds","_law_due"] (qnB K (zM qbr)):=by
  refine F.okM sc__law_refused_well (fun as R Rx h=>?_) (fun cdv A outer s H E as R Rx qs hcd hr h hqs=>?_)
  · obtain ⟨_,rfl,ls,ks,nm,a,rfl,_⟩:=h;rfl
  obtain ⟨_,rfl,ls,ks,nm,a,rfl,hb,hl,hk,hw,q⟩:=h
  obtain rfl:=qpg hqs
  refine ⟨_,(qa1 (qcI (i:=3) sc__law_refused_well.nd rfl (Or.inl rfl) (qco (qaU qa2 (PD.q (PF.d (qaB (k:=1) (N':=["_law_k","_law_due"]) (cap:=[none,some 2]) rfl (.ok (show qaI ["_law_limits_here","_law_kinds","_law_due","_law_right","_law_here","_law_there","_law_told","_law_e"] (qad qaK) _ ["_law_k","_law_due"] [none,some 2]=true by decide +kernel)) (by decide +kernel) (qaJ (by decide)) (qgx rfl z_range (qac qab qap qae)) (fun _ _ _ _ _=>(qat (i:=0) (show List.Nodup (["_law_k","_law_due"]:List Str) by decide +kernel) rfl (Or.inl rfl))) (fun _ _ _ _ _=>(qdl (qiz hr.units) (dvq 0) (dvq 1) (qaE _)))))) (PD.q (PF.d (qbw (qac qdR qap qae)))))))
      (qa1 (qcI (i:=4) sc__law_refused_well.nd rfl (Or.inl rfl) (qco (PF.d (qbw qap))))
      (qa1 (qcI (i:=5) sc__law_refused_well.nd rfl (Or.inl rfl) (qco (PF.d (qbw qap))))
      (qa1 (qmm (fun _ _=>(qbC (qcI (i:=6) sc__law_refused_well.nd rfl (Or.inl rfl) (qbs U_sack_plan hr rfl rfl (qaX (qco (qaM qaT rfl z_tuple PyProof.Rows.boot_tuple (qam (dvq 0) qaq qaa) qaa qaf)) (qaX (qco (qaM qaT rfl z_tuple PyProof.Rows.boot_tuple (qam (dvq 1) qaq qaa) qaa qaf)) qb5 qak) qak) qak (qai qak qaf))))) (qj3 7 Ex e_YardError (by decide +kernel) rfl sc__law_refused_well.nd (fun _ _=>(qa1 (qcI (i:=4) sc__law_refused_well.nd rfl (Or.inl rfl) (qco (qjR V__law_kinds_of ((hr.toH _).mono (by omega)) rfl (qac (dv 7) qap qaa) qaa qaf)))
      (qbC (qkP (qg0 (PWD.td (qhx (qbz (PD.q (qaS (dvq 4) (PD.q qab) (fun _ _=>rfl))) (fun _=>rfl)) (qdH (qbz (PD.q (qaS (dvq 4) (PD.q qab) (fun _ _=>rfl))) (fun _=>rfl)))))) (qbC (qcI (i:=4) sc__law_refused_well.nd rfl (Or.inl rfl) (qco (qaU qa2 (dvq 4) (PD.q (PF.d (qbw (qac (qnd Ex Is (dv 7)) qap qcZ)))))))) qfD)))) qj2) rfl rfl)
      (qa1 (qmm (fun _ _=>(qbC (qcI (i:=6) sc__law_refused_well.nd rfl (Or.inl rfl) (qbs U_sack hr rfl rfl (qaX (qco (qaM qaT rfl z_tuple PyProof.Rows.boot_tuple (qam (dvq 0) qaq qaa) qaa qaf)) (qaX (qco (qaM qaT rfl z_tuple PyProof.Rows.boot_tuple (qam (dvq 1) qaq qaa) qaa qaf)) qb5 qak) qak) qak (qai qak qaf))))) (qj3 7 Ex e_YardError (by decide +kernel) rfl sc__law_refused_well.nd (fun _ _=>(qa1 (qcI (i:=5) sc__law_refused_well.nd rfl (Or.inl rfl) (qco (qjR V__law_kinds_of ((hr.toH _).mono (by omega)) rfl (qac (dv 7) qap qaa) qaa qaf)))
      (qbC (qkP (qg0 (PWD.td (qhx (qbz (PD.q (qaS (dvq 5) (PD.q qab) (fun _ _=>rfl))) (fun _=>rfl)) (qdH (qbz (PD.q (qaS (dvq 5) (PD.q qab) (fun _ _=>rfl))) (fun _=>rfl)))))) (qbC (qcI (i:=5) sc__law_refused_well.nd rfl (Or.inl rfl) (qco (qaU qa2 (dvq 5) (PD.q (PF.d (qbw (qac (qnd Ex Is (dv 7)) qap qcZ)))))))) qfD)))) qj2) rfl rfl)
      (qkI (qkP (qg0 (qa6 qj4 (dvq 2) (PD.q qab) (qaE _))) (qbC (qcI (i:=3) sc__law_refused_well.nd rfl (Or.inl rfl) (qco (qaU qa2 (dvq 3) (PD.q (PF.d (qbw (qac qbW qap qae)))))))) qfD)
      (qbC (qli (qco (qgY (qdl (qiz hr.units) (dvq 4) (dvq 3) (qaE _)) (qii (qdl (qiz hr.units) (dvq 5) (dvq 3) (qaE _))))))))))))),?_⟩
  obtain ⟨h1,h2⟩:=qkB hb
  obtain ⟨tr,tc⟩:=qkk hb
  have sz1:8+1≤sizeLine:=by rw [sizeLine_eq];decide
  refine ⟨by decide,?_⟩
  refine qfO (lo:=0) (n:=8) (fun i=>D.bl ((0+(i:Int)) == qiy nm)) (by rw [sizeLine_eq];decide) (fun i _=>rfl) ?_
  refine ⟨sz1,_,(show _=qa4 nm from tr),?_⟩
  have no:¬ (qcW nm "YardError"=false):=fun h=>by rw [h2] at h;cases h
  generalize qiy nm=due at tc
  have k0:=qoc nm
  have k1:=qnI nm
  have ksz:=qmh nm .non
  have cmA:=qjX (nm:=nm) (xs:=qa4 nm) (.inl rfl)
  have cmN:=qjX (nm:=nm) (xs:=qa4 nm++[.non]) (.inr rfl)
  generalize hkl:qa4 nm=kl at *
  dsimp only [qbo,List.set]
  refine .inr ⟨nm,a,ls,ks,rfl,hb,hl,hk,hw,h1,fun _=>⟨nm,_,rfl,h1,?_⟩,fun h=>no h⟩
  rw [hkl]
  dsimp only [qbo,List.set]
  rcases tc with ⟨c1,c2,rfl⟩ | ⟨c1,c2,c3⟩
  · have hor:(qcW nm "TooGreat" || qcW nm "Twice")=true:=by
      rcases c1 with c1 | c1
      · rw [c1,Bool.true_or]
      · rw [c1,Bool.or_true]
    refine qfU 4 rfl k0 k1 ?_
    rw [hor]
    refine ⟨fun _=>?_,fun h=>tf h⟩
    refine ⟨nm,.non,rfl,h1,trivial,ksz,_,rfl,?_⟩
    dsimp only [qbo,List.set]
    refine .inr ⟨nm,_,ls,ks,rfl,hb,hl,hk,hw,h1,fun _=>⟨nm,_,rfl,h1,?_⟩,fun h=>no h⟩
    rw [hkl]
    dsimp only [qbo,List.set]
    refine qfU 5 rfl k0 k1 ?_
    rw [hor]
    refine ⟨fun _=>?_,fun h=>tf h⟩
    refine ⟨nm,.non,rfl,h1,trivial,ksz,_,rfl,?_⟩
    dsimp only [qbo,List.set]
    refine ⟨fun ρ=>ρ=[some (.v (.lst (ls.map thD))),some (.v (.lst (ks.map kiD))),some (.v (.int due)),some (.v (.lst (kl++[.non]))),some (.v (.lst (kl++[.non]))),some (.v (.lst (kl++[.non]))),none,none],⟨fun _=>⟨ksz,_,rfl,rfl⟩,fun h=>absurd c2 (of_decide_eq_false h)⟩,?_⟩
    rintro ρ rfl
    exact qhT rfl rfl rfl cmN q
  · have hor:(qcW nm "TooGreat" || qcW nm "Twice")=false:=by rw [c1,c2];rfl
    refine qfU 4 rfl k0 k1 ?_
    rw [hor]
    refine ⟨fun h=>ff h,fun _=>?_⟩
    unfold qmM
    dsimp only [qbo,List.set]
    refine .inr ⟨nm,_,ls,ks,rfl,hb,hl,hk,hw,h1,fun _=>⟨nm,_,rfl,h1,?_⟩,fun h=>no h⟩
    rw [hkl]
    dsimp only [qbo,List.set]
    refine qfU 5 rfl k0 k1 ?_
    rw [hor]
    refine ⟨fun h=>ff h,fun _=>?_⟩
    dsimp only [qbo,List.set]
    refine ⟨fun ρ=>ρ=[some (.v (.lst (ls.map thD))),some (.v (.lst (ks.map kiD))),some (.v (.int due)),some (.v (.lst kl)),some (.v (.lst kl)),some (.v (.lst kl)),none,none],⟨fun h=>absurd (of_decide_eq_true h) (by rw [c3];decide),fun _=>rfl⟩,?_⟩
    rintro ρ rfl
    exact qhT rfl rfl rfl cmA q
theorem qiP (ks:List Ki):cmB 40 (.tup (qiu ks)) (.tup (qiu ks))=some true:=qdt fun x hx=>by
  obtain ⟨k,_,rfl⟩:=List.mem_map.mp hx
  refine qdt fun y hy=>?_
  simp only [List.mem_cons,List.not_mem_nil,or_false] at hy
  rcases hy with rfl | rfl
  · exact qfd _
  · cases k.2.2.1 with
    | none=>rfl
    | some i=>exact qfd i
theorem ql2 (r:List Int × Int):cmB 40 (qiL r) (qiL r)=some true:=qdt fun y hy=>by
  simp only [List.mem_cons,List.not_mem_nil,or_false] at hy
  rcases hy with rfl | rfl
  · exact qdt fun x hx=>by
      obtain ⟨i,_,rfl⟩:=List.mem_map.mp hx
      exact qfd i
  · exact qfd _
def qbQ:SpD:=fun ds R=>∃ (ls:List Th) (ks:List Ki),ds=[.lst (ls.map thD),.lst (ks.map kiD)]∧SackOk ls ks∧(∀ k∈ks,k.2.2.2.length=ls.length)∧R (.bl true)
abbrev SP (ls:List Th) (ks:List Ki) (u3 u4 u5 u6 u7:Option Sl):Rho:=[some (.v (.lst (ls.map thD))),some (.v (.lst (ks.map kiD))),some (.v (qnj ls ks)),u3,u4,u5,u6,u7]
abbrev SQ (ls:List Th) (ks:List Ki) (u6 u7:Option Sl):Rho:=SP ls ks (some (.v (.tup (qiu ks)))) (some (.v (.tup ((qa5 ls ks ls.length).map qiL)))) (some (.v (.tup ((ks.map (·.2.1)).map D.int)))) u6 u7
theorem qcO {n:Nat} {f:Addr} {fd:FuncData} (F:Fun K "_law_plan_well" "_law_plan_well" qay f fd) (Q_sack_plan:Cl P w K mg base n "sack_plan" ["limits","kinds"] qbI) (Q__law_wholes:Cl P w K mg base n "_law_wholes" ["_law_told","_law_size"] qcA) (Q__law_whole:Cl P w K mg base n "_law_whole" ["_law_told"] qbY) (z_any:mg "any"=none) (z_enumerate:mg "enumerate"=none) (z_tuple:mg "tuple"=none) (z_isinstance:mg "isinstance"=none) (z_len:mg "len"=none) (z_all:mg "all"=none):FnOk P w K mg base CX0 (n+1) f fd ["_law_limits_here","_law_kinds"] (lSp K qbQ):=by
  refine F.okD sc__law_plan_well (fun ds R h=>?_) (fun cdv A outer s H E ds R hr h=>?_)
  · obtain ⟨ls,ks,rfl,_⟩:=h;rfl
  obtain ⟨ls,ks,rfl,hc,hw,q⟩:=h
  refine ⟨_,(qar (qaP (i:=2) sc__law_plan_well.nd rfl (Or.inl rfl) (qaD Q_sack_plan hr rfl (qac (qaM qaT rfl z_tuple PyProof.Rows.boot_tuple (qam (dvq 0) qaq qaa) qaa qaf) (qac (qaM qaT rfl z_tuple PyProof.Rows.boot_tuple (qam (dvq 1) qaq qaa) qaa qaf) qap qak) qak) qak (qai qak qaf)))
      (qbq (qcp (PWD.td (qhx (qe9 (qbz (PD.q (qh8 rfl z_isinstance (dvq 2) (qcQ (v:=.ty "tuple") rfl z_tuple PyProof.Rows.boot_tuple rfl) qaa qaa)) (fun _=>rfl))) (qdH (qa6 (qm5 hr.units) (PD.q (qau qbp rfl z_len PySem.boot_len (qam (dvq 2) qaq qaa) qaa qaf)) (PD.q qab) (qaE _))))) (qaz (qa7 qdR)) qbg)
      (qar (qmF (dv 2) (qfw (n:=3) rfl (qaY (qat (i:=3) sc__law_plan_well.nd rfl (Or.inl rfl)) (qaY (qat (i:=4) sc__law_plan_well.nd rfl (Or.inl rfl)) (qaY (qat (i:=5) sc__law_plan_well.nd rfl (Or.inl rfl)) qdr)))))
      (qbq (qcp (PWD.td (qhx (qa6 (qm5 hr.units) (dvq 3) (PD.q (qaM qaT rfl z_tuple PyProof.Rows.boot_tuple (qam (PD.q (PF.d (qaB (k:=1) (N':=["_law_one"]) (cap:=[none]) rfl (.ok (show qaI ["_law_limits_here","_law_kinds","_law_plan","_law_bounds","_law_rows","_law_goal","_law_at","_law_limit"] (qad qay) _ ["_law_one"] [none]=true by decide +kernel)) (by decide +kernel) (qaJ (by decide)) (qa0 (dv 1)) (fun _ _ _ _ _=>(qat (i:=0) (show List.Nodup (["_law_one"]:List Str) by decide +kernel) rfl (Or.inl rfl))) (fun _ _ _ _ _=>(qbS (qac qab (qac (qaS (dvq 0) (PD.q qab) (fun _ _=>rfl)) qap qah) qae)))))) qaq qag) qag qaf)) (qaE _)) (qdH (qe9 (qbz (PD.q (qau (qlR rfl) rfl z_all PyProof.Rows.boot_all (qam (PD.q (PF.d (qaB (k:=1) (N':=["_law_one"]) (cap:=[none]) rfl (.ok (show qaI ["_law_limits_here","_law_kinds","_law_plan","_law_bounds","_law_rows","_law_goal","_law_at","_law_limit"] (qad qay) _ ["_law_one"] [none]=true by decide +kernel)) (by decide +kernel) (qaJ (by decide)) (qa0 (dv 3)) (fun _ _ _ _ _=>(qat (i:=0) (show List.Nodup (["_law_one"]:List Str) by decide +kernel) rfl (Or.inl rfl))) (fun _ _ _ _ _=>(qaD Q__law_whole hr rfl (qac (qaS (dvq 0) (PD.q qab) (fun _ _=>rfl)) qap qah) qah qaf))))) qaq qag) qag qaf)) (fun _=>rfl)))))) (qaz (qa7 qdR)) qbg)
      (qbq (qcp (qbz (PD.q (qau (qgQ rfl) rfl z_any PyProof.Rows.boot_any (qam (PD.q (PF.d (qaB (k:=1) (N':=["_law_one"]) (cap:=[none]) rfl (.ok (show qaI ["_law_limits_here","_law_kinds","_law_plan","_law_bounds","_law_rows","_law_goal","_law_at","_law_limit"] (qad qay) _ ["_law_one"] [none]=true by decide +kernel)) (by decide +kernel) (qaJ (by decide)) (qa0 (dv 3)) (fun _ _ _ _ _=>(qat (i:=0) (show List.Nodup (["_law_one"]:List Str) by decide +kernel) rfl (Or.inl rfl))) (fun _ _ _ _ _=>(qgY (qdl qcT (PD.q (qaS (dvq 0) (PD.q qab) (fun _ _=>rfl))) (PD.q qbW) (qaE _)) (qii (qmY (PD.q (qaD Q__law_whole hr rfl (qac (qaS (dvq 0) (PD.q qab) (fun _ _=>rfl)) qap qah) qah qaf))))))))) qaq qag) qag qaf)) (fun _=>rfl)) (qaz (qa7 qdR)) qbg)
      (qbq (qcp (PWD.td (qhx (qe9 (qbz (PD.q (qaD Q__law_wholes hr rfl (qac (dv 5) (qac (qau qbp rfl z_len PySem.boot_len (qam (dvq 1) qaq qaa) qaa qaf) qap qak) qaa) qaa (qai qak qaf))) (fun _=>rfl))) (qdH (qa6 (qm5 hr.units) (dvq 5) (PD.q (qaM qaT rfl z_tuple PyProof.Rows.boot_tuple (qam (PD.q (PF.d (qaB (k:=1) (N':=["_law_one"]) (cap:=[none]) rfl (.ok (show qaI ["_law_limits_here","_law_kinds","_law_plan","_law_bounds","_law_rows","_law_goal","_law_at","_law_limit"] (qad qay) _ ["_law_one"] [none]=true by decide +kernel)) (by decide +kernel) (qaJ (by decide)) (qa0 (dv 1)) (fun _ _ _ _ _=>(qat (i:=0) (show List.Nodup (["_law_one"]:List Str) by decide +kernel) rfl (Or.inl rfl))) (fun _ _ _ _ _=>(qaS (dvq 0) (PD.q qab) (fun _ _=>rfl)))))) qaq qag) qag qaf)) (qaE _))))) (qaz (qa7 qdR)) qbg)
      (qbq (qcp (PWD.td (qhx (qe9 (qbz (PD.q (qh8 rfl z_isinstance (dvq 4) (qcQ (v:=.ty "tuple") rfl z_tuple PyProof.Rows.boot_tuple rfl) qaa qaa)) (fun _=>rfl))) (qdH (qa6 (qm5 hr.units) (PD.q (qau qbp rfl z_len PySem.boot_len (qam (dvq 4) qaq qaa) qaa qaf)) (PD.q (qau qbp rfl z_len PySem.boot_len (qam (dvq 0) qaq qaa) qaa qaf)) (qaE _))))) (qaz (qa7 qdR)) qbg)
      (qar (qfB PassesOwn.never rfl (qdo rfl z_enumerate (qac (dv 0) qap qaa)) (qfw (n:=2) rfl (qaY (qat (i:=6) sc__law_plan_well.nd rfl (Or.inr rfl)) (qaY (qat (i:=7) sc__law_plan_well.nd rfl (Or.inl rfl)) qdr))) (qbq (qcp (qa6 (qm5 hr.units) (PD.q (qaS (dvq 4) (dvq 6) (fun _ _=>rfl))) (PD.q (qbS (qac (qaM qaT rfl z_tuple PyProof.Rows.boot_tuple (qam (PD.q (PF.d (qaB (k:=1) (N':=["_law_one","_law_at"]) (cap:=[none,some 6]) rfl (.ok (show qaI ["_law_limits_here","_law_kinds","_law_plan","_law_bounds","_law_rows","_law_goal","_law_at","_law_limit"] (qad qay) _ ["_law_one","_law_at"] [none,some 6]=true by decide +kernel)) (by decide +kernel) (qaJ (by decide)) (qa0 (dv 1)) (fun _ _ _ _ _=>(qat (i:=0) (show List.Nodup (["_law_one","_law_at"]:List Str) by decide +kernel) rfl (Or.inl rfl))) (fun _ _ _ _ _=>(qeb (PD.q (qaS (PD.q (qaS (dvq 0) (PD.q qab) (fun _ _=>rfl))) (dvq 1) (fun _ _=>rfl)))))))) qaq qag) qag qaf) (qac (qeb (PD.q (qaS (dvq 7) (PD.q qab) (fun _ _=>rfl)))) qap qcU) qak))) (qaE _)) (qaz (qa7 qdR)) qbg)
      (qaz (qcp (PWD.td (qhx (qe9 (qbz (PD.q (qaD Q__law_wholes hr rfl (qac (qaS (PD.q (qaS (dvq 4) (dvq 6) (fun _ _=>rfl))) (PD.q qab) (fun _ _=>rfl)) (qac (qau qbp rfl z_len PySem.boot_len (qam (dvq 1) qaq qaa) qaa qaf) qap qak) qah) qah (qai qak qaf))) (fun _=>rfl))) (qdH (qe9 (qbz (PD.q (qaD Q__law_whole hr rfl (qac (qaS (PD.q (qaS (dvq 4) (dvq 6) (fun _ _=>rfl))) (PD.q qab) (fun _ _=>rfl)) qap qah) qah qaf)) (fun _=>rfl)))))) (qaz (qa7 qdR)) qbg))))
      (qaz (qa7 qdR)))))))))),?_⟩
  have h1:=hc.ll
  have h2:=hc.kl
  have oL:(((ks.map kiD).length:Nat):Int)=ks.length:=by rw [List.length_map]
  refine ⟨ls,ks,rfl,hc,hw,?_⟩
  refine ⟨fun ρ=>ρ=SP ls ks none none none none none,⟨true,qhl _,fun h=>ff h,fun _=>⟨fun h=>(by cases h),fun _=>rfl⟩⟩,?_⟩
  rintro ρ rfl
  refine ⟨rfl,fun ρ=>ρ=SQ ls ks none none,?_,?_⟩
  · refine qaw (f:=kiD) (fun k=>.tup [.int 0,opD k.2.2.1]) (qan (by omega)) (fun t _=>⟨_,rfl,rfl⟩) ?_
    refine qfs (qiP ks) ?_
    refine qaw (f:=fun k:Ki=>D.tup [.int 0,opD k.2.2.1]) (fun _=>.bl true) (qan (by omega)) (fun t _=>⟨_,rfl,0,rfl,rfl⟩) ?_
    refine ⟨ks.map fun _=>true,by rw [List.map_map];rfl,?_⟩
    have e:(fun bs:List Bool=>bs.all id) (ks.map fun _=>true)=true:=List.all_eq_true.mpr fun b hb=>by
      obtain ⟨_,_,rfl⟩:=List.mem_map.mp hb
      rfl
    rw [e]
    exact ⟨fun h=>(by cases h),fun _=>rfl⟩
  rintro ρ rfl
  refine ⟨fun ρ=>ρ=SQ ls ks none none,?_,?_⟩
  · refine qaw (f:=fun k:Ki=>D.tup [.int 0,opD k.2.2.1]) (fun _=>.bl false) (qan (by omega)) (fun t _=>?_) ?_
    · obtain ⟨x,v,o,ws⟩:=t
      refine ⟨_,rfl,?_⟩
      cases o with
      | none=>exact ⟨fun h=>(by cases h),fun _=>rfl⟩
      | some i=>exact ⟨fun _=>⟨_,rfl,i,rfl,rfl⟩,fun h=>(by cases h)⟩
    refine ⟨ks.map fun _=>false,by rw [List.map_map];rfl,?_⟩
    have e:(fun bs:List Bool=>bs.any id) (ks.map fun _=>false)=false:=List.any_eq_false.mpr fun b hb=>by
      obtain ⟨_,_,rfl⟩:=List.mem_map.mp hb
      exact Bool.false_ne_true
    rw [e]
    exact ⟨fun h=>(by cases h),fun _=>rfl⟩
  rintro ρ rfl
  refine ⟨fun ρ=>ρ=SQ ls ks none none,⟨ks.map (·.2.1),_,rfl,by rw [oL,List.length_map],by rw [List.length_map];omega,fun h=>ff h,fun _=>?_⟩,?_⟩
  · refine qcy (f:=kiD) (fun k=>k.2.1) (qan (by omega)) (fun k _=>⟨_,rfl,rfl⟩) ?_
    exact qfs (qi4 _) rfl
  rintro ρ rfl
  refine ⟨fun ρ=>ρ=SQ ls ks none none,⟨true,qhl _,fun h=>ff h,fun _=>⟨fun h=>?_,fun _=>rfl⟩⟩,?_⟩
  · have h':(!((((qa5 ls ks ls.length).map qiL).length:Int) == ((ls.map thD).length:Int)))=true:=h
    rw [List.length_map,qc5,List.length_map,beq_self_eq_true] at h'
    cases h'
  rintro ρ rfl
  refine ⟨fun i ρ=>∃ u6 u7:Option Sl,ρ=SQ ls ks u6 u7,⟨_,_,rfl⟩,?_,?_⟩
  · rintro i d ρ hd ⟨u6,u7,rfl⟩
    obtain ⟨e,he,rfl⟩:=qcF hd
    obtain ⟨l,rfl,hl⟩:=qbm he
    have hi:=qao hl
    have el:ls.getD i ("",0)=l:=by rw [List.getD_eq_getElem?_getD,hl];rfl
    have er:(qa5 ls ks ls.length)[i]?=some (ks.map (fun k=>-(k.2.2.2.getD i 0)),-l.2):=by
      unfold qa5
      rw [List.getElem?_map,List.getElem?_range hi,← el]
      rfl
    have ea:atI ((qa5 ls ks ls.length).map qiL) (i:Int)=some (qiL (ks.map (fun k=>-(k.2.2.2.getD i 0)),-l.2)):=qcE (i:=i) er rfl
    refine ⟨rfl,?_⟩
    refine ⟨fun ρ=>ρ=SQ ls ks (some (.v (.int (i:Int)))) (some (.v (thD l))),⟨_,ea,?_⟩,?_⟩
    · refine qcy (f:=kiD) (fun k=>-(k.2.2.2.getD i 0)) (qan (by omega)) (fun k hk=>⟨_,rfl,_,qcE (i:=i) (qfP (d:=0) (by rw [hw k hk];exact hi)) rfl,rfl⟩) ?_
      exact ⟨_,rfl,qfs (ql2 (ks.map (fun k=>-(k.2.2.2.getD i 0)),-l.2)) rfl⟩
    rintro ρ rfl
    refine ⟨_,ea,_,rfl,_,_,rfl,by rw [oL,List.length_map],by rw [List.length_map];omega,fun h=>ff h,fun _=>⟨_,ea,_,rfl,_,rfl,fun h=>ff h,fun _=>⟨_,_,rfl⟩⟩⟩
  rintro ρ ⟨u6,u7,rfl⟩
  exact q
theorem qnh {x:Int} (h:0≤x∧x<4):∃ b:Int,atI [D.int 9,D.int 9,D.int 9,D.int (10 ^ (30:Int).toNat)] x=some (D.int b)∧0<b∧b≤2 ^ 200:=by
  have:x=0∨x=1∨x=2∨x=3:=by omega
  rcases this with rfl | rfl | rfl | rfl
  · exact ⟨9,rfl,by decide,by decide⟩
  · exact ⟨9,rfl,by decide,by decide⟩
  · exact ⟨9,rfl,by decide,by decide⟩
  · exact ⟨10 ^ 30,rfl,by decide,by decide⟩
theorem qka {ds:List Int} {z1 z2 z3 z4 z5 z6 z7 z8 z9 z10 z11 z12 z13:Int} (h:Drawn ds [z1,z2,z3,z4,z5,z6,z7,z8,z9,z10,z11,z12,z13]):∃ x1 x2 x3 x4 x5 x6 x7 x8 x9 x10 x11 x12 x13:Int,ds=[x1,x2,x3,x4,x5,x6,x7,x8,x9,x10,x11,x12,x13]∧Dr x1 z1∧Dr x2 z2∧Dr x5 z5:=by
  cases h with | cons h1 h=>cases h with | cons h2 h=>cases h with | cons h3 h=>cases h with | cons h4 h=>cases h with | cons h5 h=>cases h with | cons h6 h=>cases h with | cons h7 h=>cases h with | cons h8 h=>cases h with | cons h9 h=>cases h with | cons h10 h=>cases h with | cons h11 h=>cases h with | cons h12 h=>cases h with | cons h13 h =>
  cases h
  exact ⟨_,_,_,_,_,_,_,_,_,_,_,_,_,rfl,h1,h2,h5⟩
abbrev sp_law:=qmz
abbrev qnH:=qjU
abbrev SL (ns sh:List Int) (f g:Int) (u3 u4 u5 u6 u7 u8:Option Sl):Rho:=[some (.v (.fzl (ns.map D.int))),some (.v (.lst (sh.map D.int))),some (.v (.lst [.int f,.int g])),u3,u4,u5,u6,u7,u8]
abbrev I (i:Int):Option Sl:=some (.v (.int i))
theorem qng {n:Nat} {f:Addr} {fd:FuncData} (F:Fun K "law" "law" qjC f fd) (Q__law_draws:Cl P w K mg base n "_law_draws" ["_law_cell_here","_law_salt","_law_sizes"] qbl) (Q__law_limits:Cl P w K mg base n "_law_limits" ["_law_cell_here","_law_names_here","_law_big"] qcD) (Q__law_faulty_limits:Cl P w K mg base n "_law_faulty_limits" ["_law_fault","_law_limits_here","_law_places"] qbn) (Q__law_kinds_by:Cl P w K mg base n "_law_kinds_by" ["_law_script","_law_first_cell","_law_names_here","_law_many","_law_heavy","_law_big"] qb0) (Q__law_faulty_kinds:Cl P w K mg base n "_law_faulty_kinds" ["_law_fault","_law_kinds","_law_places"] qbv) (Q__law_class_due:Cl P w K mg base n "_law_class_due" ["_law_limits_here","_law_kinds"] qbP) (Q__law_plan_well:Cl P w K mg base n "_law_plan_well" ["_law_limits_here","_law_kinds"] qbQ) (Q__law_cell:Cl P w K mg base n "_law_cell" ["_law_script","_law_k"] qck) (Q__law_names:Cl P w K mg base n "_law_names" ["_law_cell_here","_law_salt","_law_many"] qcY) (Q__law_refused_well:Cl P w K mg base n "_law_refused_well" ["_law_limits_here","_law_kinds","_law_due"] qbr) (z_len:mg "len"=none):FnOk P w K mg base CX0 (n+1) f fd ["_law_script"] (lSp K qnH):=by
  refine F.okD sc_law (fun ds R h=>?_) (fun cdv A outer s H E ds R hr h=>?_)
  · obtain ⟨ns,rfl,_⟩:=h;rfl
  obtain ⟨ns,rfl,hz,q⟩:=h
  refine ⟨_,(qar (qaP (i:=1) sc_law.nd rfl (Or.inl rfl) (qaD Q__law_draws hr rfl (qac (qaD Q__law_cell hr rfl (qac (dv 0) (qac qab qap qae) qaa) qaa (qai qae qaf)) (qac qab (qac (PF.d (qbw (qac qab (qac qab (qac qab (qac qab (qac qab (qac qab (qac qab (qac qab (qac qab (qac qab (qac qab (qac qab (qac qab qap qae) qae) qae) qae) qae) qae) qae) qae) qae) qae) qae) qae) qae))) qap qit) qae) qak) qak (qai qae (qai qit qaf))))
      (qar (qaP (i:=2) sc_law.nd rfl (Or.inl rfl) (qgX (dvq 1) (qa8 (PD.q qab)) (qa8 (PD.q qab))))
      (qar (qaP (i:=3) sc_law.nd rfl (Or.inl rfl) (qaS (dvq 1) (PD.q qab) (fun _ _=>rfl)))
      (qar (qaP (i:=4) sc_law.nd rfl (Or.inl rfl) (qaS (dvq 1) (PD.q qab) (fun _ _=>rfl)))
      (qbq (qcp (PWD.td (qkl (qa6 (qiz hr.units) (PD.q (qaS (dvq 1) (PD.q qab) (fun _ _=>rfl))) (PD.q qab) (qaE _)) (qhn (qa6 qfo (PD.q qab) (dvq 2) (by with_unfolding_all rfl))))) (qaz (qaP (i:=3) sc_law.nd rfl (Or.inl rfl) qab)) qbg)
      (qbq (qcp (PWD.td (qkl (qa6 (qiz hr.units) (PD.q (qaS (dvq 1) (PD.q qab) (fun _ _=>rfl))) (PD.q qab) (qaE _)) (qhn (qa6 qfo (PD.q qab) (dvq 2) (by with_unfolding_all rfl))))) (qaz (qaP (i:=4) sc_law.nd rfl (Or.inl rfl) qab)) qbg)
      (qbq (qcp (qa6 qol (PD.q qab) (dvq 2) (by with_unfolding_all rfl)) (qaz (qaP (i:=3) sc_law.nd rfl (Or.inl rfl) qab)) qbg)
      (qbq (qcp (qa6 qol (PD.q qab) (dvq 2) (by with_unfolding_all rfl)) (qaz (qaP (i:=4) sc_law.nd rfl (Or.inl rfl) qab)) qbg)
      (qar (qaP (i:=5) sc_law.nd rfl (Or.inl rfl) (qaS (PD.q (PF.d (qbw (qac qab (qac qab (qac qab (qac (qaU qnb (PD.q qab) (PD.q qab)) qap qaC) qae) qae) qae)))) (PD.q (qaS (dvq 1) (PD.q qab) (fun _ _=>rfl))) (fun _ _=>rfl)))
      (qar (qaP (i:=6) sc_law.nd rfl (Or.inl rfl) (qaD Q__law_limits hr rfl (qac (qaD Q__law_cell hr rfl (qac (dv 0) (qac qab qap qae) qaa) qaa (qai qae qaf)) (qac (qaD Q__law_names hr rfl (qac (qaD Q__law_cell hr rfl (qac (dv 0) (qac qab qap qae) qaa) qaa (qai qae qaf)) (qac qab (qac (dv 3) qap qaa) qae) qak) qak (qai qae (qai qaa qaf))) (qac (dv 5) qap qaa) qak) qak) qak (qai qak (qai qaa qaf))))
      (qar (qaP (i:=6) sc_law.nd rfl (Or.inl rfl) (qaD Q__law_faulty_limits hr rfl (qac (qaS (dvq 2) (PD.q qab) (fun _ _=>rfl)) (qac (dv 6) (qac (qgX (dvq 1) (qa8 (PD.q qab)) (qa8 (PD.q qab))) qap qah) qaa) qah) qah (qai qaa (qai qah qaf))))
      (qar (qaP (i:=6) sc_law.nd rfl (Or.inl rfl) (qaD Q__law_faulty_limits hr rfl (qac (qaS (dvq 2) (PD.q qab) (fun _ _=>rfl)) (qac (dv 6) (qac (qgX (dvq 1) (qa8 (PD.q qab)) (qa8 (PD.q qab))) qap qah) qaa) qah) qah (qai qaa (qai qah qaf))))
      (qar (qaP (i:=7) sc_law.nd rfl (Or.inl rfl) (qaD Q__law_kinds_by hr rfl (qac (dv 0) (qac qab (qac (qaD Q__law_names hr rfl (qac (qaD Q__law_cell hr rfl (qac (dv 0) (qac qab qap qae) qaa) qaa (qai qae qaf)) (qac qab (qac (dv 4) qap qaa) qae) qak) qak (qai qae (qai qaa qaf))) (qac (qau qbp rfl z_len PySem.boot_len (qam (dvq 6) qaq qaa) qaa qaf) (qac (dv 5) (qac (dv 5) qap qaa) qaa) qak) qak) qae) qaa) qaa (qai qae (qai qak (qai qak (qai qaa (qai qaa qaf)))))))
      (qar (qaP (i:=7) sc_law.nd rfl (Or.inl rfl) (qaD Q__law_faulty_kinds hr rfl (qac (qaS (dvq 2) (PD.q qab) (fun _ _=>rfl)) (qac (dv 7) (qac (qgX (dvq 1) (qa8 (PD.q qab)) (qa8 (PD.q qab))) qap qah) qaa) qah) qah (qai qaa (qai qah qaf))))
      (qar (qaP (i:=7) sc_law.nd rfl (Or.inl rfl) (qaD Q__law_faulty_kinds hr rfl (qac (qaS (dvq 2) (PD.q qab) (fun _ _=>rfl)) (qac (dv 7) (qac (qgX (dvq 1) (qa8 (PD.q qab)) (qa8 (PD.q qab))) qap qah) qaa) qah) qah (qai qaa (qai qah qaf))))
      (qar (qaP (i:=8) sc_law.nd rfl (Or.inl rfl) (qaD Q__law_class_due hr rfl (qac (dv 6) (qac (dv 7) qap qaa) qaa) qaa (qai qaa qaf)))
      (qbq (qcp (qa6 qcT (dvq 8) (PD.q qbW) (qaE _)) (qaz (qa7 (qaD Q__law_refused_well hr rfl (qac (dv 6) (qac (dv 7) (qac (dv 8) qap qaa) qaa) qaa) qaa (qai qaa (qai qaa qaf))))) qbg)
      (qaz (qa7 (qaD Q__law_plan_well hr rfl (qac (dv 6) (qac (dv 7) qap qaa) qaa) qaa (qai qaa qaf))))))))))))))))))))),?_⟩
  refine ⟨ns,0,rfl,hz,by decide,fun c0=>?_⟩
  refine ⟨c0,1,[11,7,9,9,4,13,9,5,13,9,5,4,4],rfl,by decide,by decide,by decide,by decide +kernel,fun es hD=>?_⟩
  obtain ⟨x1,x2,x3,x4,x5,x6,x7,x8,x9,x10,x11,x12,x13,rfl,d1,d2,d5⟩:=qka hD
  obtain ⟨n1,rfl⟩:=Int.eq_ofNat_of_zero_le d1.1
  obtain ⟨n2,rfl⟩:=Int.eq_ofNat_of_zero_le d2.1
  have b1:n1≤13:=by have:=d1.2;omega
  have b2:n2≤9:=by have:=d2.2;omega
  refine ⟨[.int x3,.int x4],rfl,_,rfl,_,rfl,?_⟩
  refine ⟨fun ρ=>∃ m:Nat,m≤13∧ρ=SL ns [n1,n2,x3,x4,x5,x6,x7,x8,x9,x10,x11,x12,x13] x3 x4 (I m) (I n2) none none none none,⟨_,rfl,fun _=>⟨.inl 2,[.inl x3,.inl x4],rfl,rfl,fun _=>⟨12,by decide,rfl⟩,fun _=>⟨n1,b1,rfl⟩⟩,fun _=>⟨fun h=>ff h,fun _=>⟨n1,b1,rfl⟩⟩⟩,?_⟩
  rintro ρ ⟨m,hm,rfl⟩
  refine ⟨fun ρ=>∃ r:Nat,r≤9∧ρ=SL ns [n1,n2,x3,x4,x5,x6,x7,x8,x9,x10,x11,x12,x13] x3 x4 (I m) (I r) none none none none,⟨_,rfl,fun _=>⟨.inl 3,[.inl x3,.inl x4],rfl,rfl,fun _=>⟨8,by decide,rfl⟩,fun _=>⟨n2,b2,rfl⟩⟩,fun _=>⟨fun h=>ff h,fun _=>⟨n2,b2,rfl⟩⟩⟩,?_⟩
  rintro ρ ⟨r,hr9,rfl⟩
  refine ⟨fun ρ=>∃ m:Nat,m≤13∧ρ=SL ns [n1,n2,x3,x4,x5,x6,x7,x8,x9,x10,x11,x12,x13] x3 x4 (I m) (I r) none none none none,⟨.inl 0,[.inl x3,.inl x4],rfl,rfl,fun _=>⟨13,by decide,rfl⟩,fun _=>⟨m,hm,rfl⟩⟩,?_⟩
  rintro ρ ⟨m,hm,rfl⟩
  refine ⟨fun ρ=>∃ r:Nat,r≤9∧ρ=SL ns [n1,n2,x3,x4,x5,x6,x7,x8,x9,x10,x11,x12,x13] x3 x4 (I m) (I r) none none none none,⟨.inl 1,[.inl x3,.inl x4],rfl,rfl,fun _=>⟨9,by decide,rfl⟩,fun _=>⟨r,hr9,rfl⟩⟩,?_⟩
  rintro ρ ⟨r,hr9,rfl⟩
  obtain ⟨big,eb,hb0,hb1⟩:=qnh d5
  refine ⟨⟨by decide,by decide +kernel⟩,_,rfl,_,eb,?_⟩
  refine ⟨ns,1,rfl,hz,by decide,fun c1=>⟨ns,2,rfl,hz,by decide,fun c2=>⟨c2,73,m,rfl,by decide,by decide,by omega,fun N hN _=>?_⟩⟩⟩
  refine ⟨c1,N,big,rfl,by omega,hb0,hb1,fun ls0 hl0=>?_⟩
  refine ⟨_,rfl,[.int x6,.int x7,.int x8],rfl,x3,ls0,x6,x7,x8,rfl,by omega,fun ls1 hl1=>?_⟩
  refine ⟨_,rfl,[.int x9,.int x10,.int x11],rfl,x4,ls1,x9,x10,x11,rfl,by omega,fun ls2 hl2=>?_⟩
  have eL:(((ls2.map thD).length:Nat):Int)=ls2.length:=by rw [List.length_map]
  refine ⟨ns,3,rfl,hz,by decide,fun c3=>⟨c3,74,r,rfl,by decide,by decide,by omega,fun N2 hN2 _=>?_⟩⟩
  refine ⟨ns,4,N2,ls2.length,big,by rw [eL],hz,by decide,by omega,by omega,hb0,hb1,fun ks0 hk0 hw0=>?_⟩
  refine ⟨_,rfl,[.int x6,.int x7,.int x8],rfl,x3,ks0,x6,x7,x8,ls2.length,rfl,by omega,by omega,hw0,fun ks1 hk1 hw1=>?_⟩
  refine ⟨_,rfl,[.int x9,.int x10,.int x11],rfl,x4,ks1,x9,x10,x11,ls2.length,rfl,by omega,by omega,hw1,fun ks2 hk2 hw2=>?_⟩
  have hw9:∀ k∈ks2,k.2.2.2.length≤100:=fun k hk=>by rw [hw2 k hk];omega
  refine ⟨ls2,ks2,rfl,by omega,by omega,fun nm a hbad=>?_,fun hok=>?_⟩
  · refine ⟨fun ρ=>False,⟨fun _=>⟨ls2,ks2,nm,a,rfl,hbad,by omega,by omega,hw9,q⟩,fun h=>(by cases h)⟩,fun ρ h=>h.elim⟩
  · refine ⟨fun ρ=>ρ=SL ns [n1,n2,x3,x4,x5,x6,x7,x8,x9,x10,x11,x12,x13] x3 x4 (I m) (I r) (I big) (some (.v (.lst (ls2.map thD)))) (some (.v (.lst (ks2.map kiD)))) (some (.v .non)),⟨fun h=>(by cases h),fun _=>rfl⟩,?_⟩
    rintro ρ rfl
    exact ⟨ls2,ks2,rfl,hok,hw2,q⟩
end
theorem qly {A:Type} {p:List A→Prop} (h:∀ a0,p [a0]):∀ us:List A,us.length=1→p us
  | [a0],_=>h a0
theorem qgm {A:Type} {p:List A→Prop} (h:∀ a0 a1,p [a0,a1]):∀ us:List A,us.length=2→p us
  | [a0,a1],_=>h a0 a1
theorem qkS {A:Type} {p:List A→Prop} (h:∀ a0 a1 a2,p [a0,a1,a2]):∀ us:List A,us.length=3→p us
  | [a0,a1,a2],_=>h a0 a1 a2
theorem qpa {A:Type} {p:List A→Prop} (h:∀ a0 a1 a2 a3 a4 a5,p [a0,a1,a2,a3,a4,a5]):∀ us:List A,us.length=6→p us
  | [a0,a1,a2,a3,a4,a5],_=>h a0 a1 a2 a3 a4 a5
theorem all_mk {l:PySem.W.OpenLaw} {w:World} {K:PySem.W.Frag} {h:Heap} {mg:Str→Option Value} {fa:Addr} (X:K.In h) (G:h.Ns mainGlobals mg) (hfa:mg "law"=some (.ref fa))

    (a1:Has K qbd "refuse_more")
    (a2:Has K qa3 "refuse_twice")
    (a3:Has K qaN "refuse_below")
    (a4:Has K qav "refuse_sack")
    (a5:Has K qaL "sack_plan")
    (a6:Has K qgr "sack")
    (a7:Has K qbL "_law_cell")
    (a8:Has K qbx "_law_draws")
    (a9:Has K qby "_law_whole")
    (a10:Has K qbf "_law_wholes")
    (a11:Has K qbi "_law_names")
    (a12:Has K qbe "_law_kinds_of")
    (a13:Has K qba "_law_limits")
    (a14:Has K qbb "_law_kinds_by")
    (a15:Has K qb8 "_law_put")
    (a16:Has K qaH "_law_faulty_limits")
    (a17:Has K qaQ "_law_faulty_kinds")
    (a18:Has K qax "_law_class_due")
    (a19:Has K qaK "_law_refused_well")
    (a20:Has K qay "_law_plan_well")
    (a21:Has K qjC "law")
    (y_any:PySem.W.nsIn K mainGlobals "any"=some none)
    {tk_MOST_ROWS:Tok} (y_MOST_ROWS:PySem.W.nsIn K mainGlobals "MOST_ROWS"=some (some (.int 12 tk_MOST_ROWS)))
    {tk_MOST_UNKNOWNS:Tok} (y_MOST_UNKNOWNS:PySem.W.nsIn K mainGlobals "MOST_UNKNOWNS"=some (some (.int 8 tk_MOST_UNKNOWNS)))
    (y_len:PySem.W.nsIn K mainGlobals "len"=some none)
    (y_tuple:PySem.W.nsIn K mainGlobals "tuple"=some none)
    (y_enumerate:PySem.W.nsIn K mainGlobals "enumerate"=some none)
    (y_max:PySem.W.nsIn K mainGlobals "max"=some none)
    (y_abs:PySem.W.nsIn K mainGlobals "abs"=some none)
    (y_isinstance:PySem.W.nsIn K mainGlobals "isinstance"=some none)
    (y_int:PySem.W.nsIn K mainGlobals "int"=some none)
    (y_bool:PySem.W.nsIn K mainGlobals "bool"=some none)
    (y_all:PySem.W.nsIn K mainGlobals "all"=some none)
    (y_range:PySem.W.nsIn K mainGlobals "range"=some none)
    (y_ValueError:PySem.W.nsIn K mainGlobals "ValueError"=some none)
    (y_zip:PySem.W.nsIn K mainGlobals "zip"=some none)
    (y_set:PySem.W.nsIn K mainGlobals "set"=some none)
    (y_min:PySem.W.nsIn K mainGlobals "min"=some none)
    (ex9:qfT K qcW exN=true)
    {EC_TooGreat fi_TooGreat:Addr} {eod_TooGreat ean_TooGreat:Option Addr} {ekV_TooGreat edc_TooGreat epm_TooGreat ecd_TooGreat ect_TooGreat:Value} {esl_TooGreat:Array (Option Value)} (eg_TooGreat:PySem.W.nsIn K mainGlobals "TooGreat"=some (some (.ref EC_TooGreat))) (ef_TooGreat:PySem.W.findIn K (.ref EC_TooGreat) "__init__"=some (some (.ref fi_TooGreat))) (el_TooGreat:K.lookup fi_TooGreat=some ⟨.type "function",eod_TooGreat,.func (PySem.W.fnOf "__init__" "TooGreat.__init__" (qbh qbt) (qaO qbt) (qad qbt) .none ekV_TooGreat edc_TooGreat epm_TooGreat ean_TooGreat ecd_TooGreat ect_TooGreat),esl_TooGreat⟩) (ec_TooGreat:PySem.W.codeIn K ecd_TooGreat "TooGreat.__init__"=true) (ek_TooGreat:PySem.W.keepIn K (.ref fi_TooGreat)=true) (ei_TooGreat:initOf K "TooGreat"=some (some (.ref fi_TooGreat)))
    {EC_Twice fi_Twice:Addr} {eod_Twice ean_Twice:Option Addr} {ekV_Twice edc_Twice epm_Twice ecd_Twice ect_Twice:Value} {esl_Twice:Array (Option Value)} (eg_Twice:PySem.W.nsIn K mainGlobals "Twice"=some (some (.ref EC_Twice))) (ef_Twice:PySem.W.findIn K (.ref EC_Twice) "__init__"=some (some (.ref fi_Twice))) (el_Twice:K.lookup fi_Twice=some ⟨.type "function",eod_Twice,.func (PySem.W.fnOf "__init__" "Twice.__init__" (qbh qct) (qaO qct) (qad qct) .none ekV_Twice edc_Twice epm_Twice ean_Twice ecd_Twice ect_Twice),esl_Twice⟩) (ec_Twice:PySem.W.codeIn K ecd_Twice "Twice.__init__"=true) (ek_Twice:PySem.W.keepIn K (.ref fi_Twice)=true) (ei_Twice:initOf K "Twice"=some (some (.ref fi_Twice)))
    (ei_BelowNought:initOf K "BelowNought"=some none) :
    ∃ fd:FuncData,(∀ (s:Shared) (v:Value),BindsTo s fd ⟨[v],[]⟩ [("_law_script",v)])∧∀ base:Heap,K.In base→base.Ns mainGlobals mg→FnOk l.prog w K mg base CX0 8 fa fd ["_law_script"] (sp_law K):=by
  obtain ⟨f1,d1,F1,m1,_⟩:=a1.fn X G
  obtain ⟨f2,d2,F2,m2,_⟩:=a2.fn X G
  obtain ⟨f3,d3,F3,m3,_⟩:=a3.fn X G
  obtain ⟨f4,d4,F4,m4,_⟩:=a4.fn X G
  obtain ⟨f5,d5,F5,m5,_⟩:=a5.fn X G
  have b5:=F5.binds (ps:=["limits","kinds"]) <| fun _ _ _ _ _ _=>qgm fun _ _=>rfl
  obtain ⟨f6,d6,F6,m6,_⟩:=a6.fn X G
  obtain ⟨f7,d7,F7,m7,_⟩:=a7.fn X G
  obtain ⟨f8,d8,F8,m8,_⟩:=a8.fn X G
  obtain ⟨f9,d9,F9,m9,_⟩:=a9.fn X G
  obtain ⟨f10,d10,F10,m10,_⟩:=a10.fn X G
  obtain ⟨f11,d11,F11,m11,_⟩:=a11.fn X G
  obtain ⟨f12,d12,F12,m12,_⟩:=a12.fn X G
  obtain ⟨f13,d13,F13,m13,_⟩:=a13.fn X G
  obtain ⟨f14,d14,F14,m14,_⟩:=a14.fn X G
  obtain ⟨f15,d15,F15,m15,_⟩:=a15.fn X G
  obtain ⟨f16,d16,F16,m16,_⟩:=a16.fn X G
  obtain ⟨f17,d17,F17,m17,_⟩:=a17.fn X G
  obtain ⟨f18,d18,F18,m18,_⟩:=a18.fn X G
  obtain ⟨f19,d19,F19,m19,_⟩:=a19.fn X G
  obtain ⟨f20,d20,F20,m20,_⟩:=a20.fn X G
  obtain ⟨f21,d21,F21,m21,_,_,_,e⟩:=a21.fn X G
  cases hfa.symm.trans m21
  refine ⟨d21,fun s v=>by rw [e];exact .of_eq rfl,fun base _ _=>?_⟩
  have z_any:=PySem.W.mg_none_of X G y_any
  have z_MOST_ROWS:∃ tk,mg "MOST_ROWS"=some (.int 12 tk):=⟨_,PySem.W.mg_of X G y_MOST_ROWS⟩
  have z_MOST_UNKNOWNS:∃ tk,mg "MOST_UNKNOWNS"=some (.int 8 tk):=⟨_,PySem.W.mg_of X G y_MOST_UNKNOWNS⟩
  have z_len:=PySem.W.mg_none_of X G y_len
  have z_tuple:=PySem.W.mg_none_of X G y_tuple
  have z_enumerate:=PySem.W.mg_none_of X G y_enumerate
  have z_max:=PySem.W.mg_none_of X G y_max
  have z_abs:=PySem.W.mg_none_of X G y_abs
  have z_isinstance:=PySem.W.mg_none_of X G y_isinstance
  have z_int:=PySem.W.mg_none_of X G y_int
  have z_bool:=PySem.W.mg_none_of X G y_bool
  have z_all:=PySem.W.mg_none_of X G y_all
  have z_range:=PySem.W.mg_none_of X G y_range
  have z_ValueError:=PySem.W.mg_none_of X G y_ValueError
  have z_zip:=PySem.W.mg_none_of X G y_zip
  have z_set:=PySem.W.mg_none_of X G y_set
  have z_min:=PySem.W.mg_none_of X G y_min
  have Ex:=qkC X G ex9
  have Is:=qle X G ex9
  have e_YardError:=qbK X G ex9 (nm:="YardError") (by decide +kernel)
  have e_NoNumber:=qbK X G ex9 (nm:="NoNumber") (by decide +kernel)
  have e_NoName:=qbK X G ex9 (nm:="NoName") (by decide +kernel)
  have e_Twice:=qbK X G ex9 (nm:="Twice") (by decide +kernel)
  have e_TooGreat:=qbK X G ex9 (nm:="TooGreat") (by decide +kernel)
  have e_NoText:=qbK X G ex9 (nm:="NoText") (by decide +kernel)
  have e_NoRow:=qbK X G ex9 (nm:="NoRow") (by decide +kernel)
  have e_NoChange:=qbK X G ex9 (nm:="NoChange") (by decide +kernel)
  have e_BelowNought:=qbK X G ex9 (nm:="BelowNought") (by decide +kernel)
  have Z_TooGreat:Rz1 l.prog w K mg base "TooGreat":=qhY X G ex9 (by decide +kernel) ei_TooGreat el_TooGreat rfl ec_TooGreat ek_TooGreat qeO rfl (Or.inl rfl) (Or.inl rfl) (fun _=>rfl) (fun _ _ _ _ _ _=>qgm fun _ _=>rfl)
  have Z_Twice:Rz1 l.prog w K mg base "Twice":=qhY X G ex9 (by decide +kernel) ei_Twice el_Twice rfl ec_Twice ek_Twice qhP rfl (Or.inl rfl) (Or.inl rfl) (fun _=>rfl) (fun _ _ _ _ _ _=>qgm fun _ _=>rfl)
  have Z_BelowNought:Rz0 K mg "BelowNought":=qks X G ex9 (by decide +kernel) ei_BelowNought
  have H1:=qd0 (P:=l.prog) (w:=w) (mg:=mg) (base:=base) (n:=2) F1
  have Q1:=F1.cl m1 H1 <| fun _ _ _ _ _ _=>qgm fun _ _=>rfl
  have HX1:=qdG (P:=l.prog) (w:=w) (mg:=mg) (base:=base) (n:=0) F1 Z_TooGreat
  have U1:=F1.clX m1 (H1.orX HX1) <| fun _ _ _ _ _ _=>qgm fun _ _=>rfl
  have H2:=qdz (P:=l.prog) (w:=w) (mg:=mg) (base:=base) (n:=2) F2
  have Q2:=F2.cl m2 H2 <| fun _ _ _ _ _ _=>qly fun _=>rfl
  have HX2:=qdb (P:=l.prog) (w:=w) (mg:=mg) (base:=base) (n:=0) F2 Z_Twice
  have U2:=F2.clX m2 (H2.orX HX2) <| fun _ _ _ _ _ _=>qly fun _=>rfl
  have H3:=qdw (P:=l.prog) (w:=w) (mg:=mg) (base:=base) (n:=0) F3 z_any
  have Q3:=F3.cl m3 H3 <| fun _ _ _ _ _ _=>qly fun _=>rfl
  have HX3:=qc9 (P:=l.prog) (w:=w) (mg:=mg) (base:=base) (n:=0) F3 z_any Z_BelowNought
  have U3:=F3.clX m3 (H3.orX HX3) <| fun _ _ _ _ _ _=>qly fun _=>rfl
  have H4:=qdY (P:=l.prog) (w:=w) (mg:=mg) (base:=base) (n:=3) F4 (Q1.mono (by decide)) (Q2.mono (by decide)) (Q3.mono (by decide)) z_MOST_ROWS z_MOST_UNKNOWNS z_len
  have Q4:=F4.cl m4 H4 <| fun _ _ _ _ _ _=>qgm fun _ _=>rfl
  have HX4:=qds (P:=l.prog) (w:=w) (mg:=mg) (base:=base) (n:=3) F4 (U1.mono (by decide)) (U2.mono (by decide)) (U3.mono (by decide)) z_MOST_ROWS z_MOST_UNKNOWNS z_len
  have U4:=F4.clX m4 (H4.orX HX4) <| fun _ _ _ _ _ _=>qgm fun _ _=>rfl
  have H5:=qeF (P:=l.prog) (w:=w) (mg:=mg) (base:=base) (n:=4) F5 (Q4.mono (by decide)) z_tuple z_enumerate
  have Q5:=F5.cl m5 H5 <| fun _ _ _ _ _ _=>qgm fun _ _=>rfl
  have HX5:=qem (P:=l.prog) (w:=w) (mg:=mg) (base:=base) (n:=4) F5 (U4.mono (by decide)) z_tuple z_enumerate
  have U5:=F5.clX m5 (H5.orX HX5) <| fun _ _ _ _ _ _=>qgm fun _ _=>rfl
  have HX6:=qiT (P:=l.prog) (w:=w) (mg:=mg) (base:=base) (n:=5) F6 (U5.mono (by decide))
  have U6:=F6.clX m6 (FnOk.orN (fun _ _ h=>h) HX6) <| fun _ _ _ _ _ _=>qgm fun _ _=>rfl
  have H7:=qe6 (P:=l.prog) (w:=w) (mg:=mg) (base:=base) (n:=0) F7 z_len
  have Q7:=F7.cl m7 H7 <| fun _ _ _ _ _ _=>qgm fun _ _=>rfl
  have H8:=qed (P:=l.prog) (w:=w) (mg:=mg) (base:=base) (n:=0) F8 z_max z_enumerate z_abs
  have Q8:=F8.cl m8 H8 <| fun _ _ _ _ _ _=>qkS fun _ _ _=>rfl
  have H9:=qec (P:=l.prog) (w:=w) (mg:=mg) (base:=base) (n:=0) F9 z_isinstance z_int z_bool
  have Q9:=F9.cl m9 H9 <| fun _ _ _ _ _ _=>qly fun _=>rfl
  have H10:=qdU (n:=1) F10 (Q9.mono (by decide)) z_isinstance z_tuple z_all z_len
  have Q10:=F10.cl m10 H10 <| fun _ _ _ _ _ _=>qgm fun _ _=>rfl
  have H11:=qeq (n:=1) F11 (Q8.mono (by decide)) z_range
  have Q11:=F11.cl m11 H11 <| fun _ _ _ _ _ _=>qkS fun _ _ _=>rfl
  have HH12:=qcS (P:=l.prog) (w:=w) (mg:=mg) (base:=base) F12 z_isinstance z_ValueError Ex Is e_TooGreat e_Twice e_NoName e_BelowNought e_NoText e_NoNumber e_NoRow e_NoChange
  have V12:=F12.clH m12 HH12 <| fun _ _ _ _ _ _=>qly fun _=>rfl
  have H13:=qdZ (n:=1) F13 (Q8.mono (by decide)) z_zip z_len
  have Q13:=F13.cl m13 H13 <| fun _ _ _ _ _ _=>qkS fun _ _ _=>rfl
  have H14:=qc7 (n:=1) F14 (Q8.mono (by decide)) (Q7.mono (by decide)) z_enumerate z_tuple
  have Q14:=F14.cl m14 H14 <| fun _ _ _ _ _ _=>qpa fun _ _ _ _ _ _=>rfl
  have H15:=qfv (P:=l.prog) (w:=w) (mg:=mg) (base:=base) (n:=0) F15 z_len
  have Q15:=F15.cl m15 H15 <| fun _ _ _ _ _ _=>qkS fun _ _ _=>rfl
  have H16:=qb3 (n:=1) F16 (Q15.mono (by decide)) z_len
  have Q16:=F16.cl m16 H16 <| fun _ _ _ _ _ _=>qkS fun _ _ _=>rfl
  have H17:=qcc (n:=1) F17 (Q15.mono (by decide)) z_len
  have Q17:=F17.cl m17 H17 <| fun _ _ _ _ _ _=>qkS fun _ _ _=>rfl
  have H18:=qcR (P:=l.prog) (w:=w) (mg:=mg) (base:=base) (n:=0) F18 z_any z_len z_set z_min
  have Q18:=F18.cl m18 H18 <| fun _ _ _ _ _ _=>qgm fun _ _=>rfl
  have H19:=qcb (P:=l.prog) (w:=w) (mg:=mg) (base:=base) (n:=5) F19 (U5.mono (by decide)) (U6.mono (by decide)) V12 z_tuple z_range Ex Is e_YardError
  have Q19:=F19.cl m19 (H19.imp qkU) <| fun _ _ _ _ _ _=>qkS fun _ _ _=>rfl
  have H20:=qcO (n:=5) F20 (Q5.mono (by decide)) (Q10.mono (by decide)) (Q9.mono (by decide)) z_any z_enumerate z_tuple z_isinstance z_len z_all
  have Q20:=F20.cl m20 H20 <| fun _ _ _ _ _ _=>qgm fun _ _=>rfl
  have H21:=qng (n:=7) F21 (Q8.mono (by decide)) (Q13.mono (by decide)) (Q16.mono (by decide)) (Q14.mono (by decide)) (Q17.mono (by decide)) (Q18.mono (by decide)) (Q20.mono (by decide)) (Q7.mono (by decide)) (Q11.mono (by decide)) (Q19.mono (by decide)) z_len
  exact H21.imp qjs
theorem walk {l:PySem.W.OpenLaw} {q:Program} {loose:List Str} {XP:(Str→Option Value)→Heap→Prop} {YP:World→Heap→Prop} {d:DefRec} {K:Params→PySem.W.Frag} (hn:l.most=some 63) (hdf:d.params.defaults=[]) (him:PyProof.Rows.importsNone q=true)
    (hY:∀ (w:World) (h:Heap),YP w h→(K w.params).In h) (hN:∀ w:World,qjL (K w.params)=[])
    (F:∀ (w:World) (mg:Str→Option Value) (fa:Addr) (h:Heap),(K w.params).In h→h.Ns mainGlobals mg→mg d.name=some (.ref fa) →
      ∃ fd:FuncData,(∀ (s:Shared) (u:Value),BindsTo s fd ⟨[u],[]⟩ [("_law_script",u)])∧∀ base:Heap,(K w.params).In base→base.Ns mainGlobals mg→FnOk l.prog w (K w.params) mg base CX0 8 fa fd ["_law_script"] (sp_law (K w.params))) :
    PySem.W.WalkO q loose XP YP l.row.toRowW d [] (fun f vs=>PySem.call f vs) :=
  L2.walk_of (n:=63) (k:=8) (x:="_law_script") (CX:=fun _=>CX0) (sp:=fun w=>sp_law (K w.params)) hn (by decide) hdf him ⟨rfl,by decide,by decide⟩ hY F (fun w H a ns hl _ hS=>⟨a,ns,rfl,hS,hl,(fun t ht=>by rw [hN w] at ht;cases ht),fun _=>rfl⟩) fun _ _ _ _ _ z=>z
end Kx
namespace Kx
open PySem PySem.W L2
def KK:Params→Frag:=fun P =>
  (nat_lit 2,⟨.none,none,(.dict #[] 0),#[]⟩) ::
  (nat_lit 3,⟨(.type "dict"),none,(.dict #[dE P "__name__" 165 ((.str "law_cutyard_k54_sack_plan" 1396)),dE P "__doc__" 166 (.none),dE P "__package__" 167 (.none),dE P "__loader__" 168 ((.builtin "__main__.__loader__#opaque")),dE P "__spec__" 169 (.none),dE P "__annotations__" 170 ((.ref 6)),dE P "__builtins__" 171 ((.ref 4)),dE P "__file__" 173 ((.str "/claim/cut.py" 172)),dE P "__cached__" 174 (.none),dE P "YardError" 206 ((.ref 24)),dE P "NoNumber" 222 ((.ref 37)),dE P "NoName" 247 ((.ref 56)),dE P "Twice" 272 ((.ref 75)),dE P "TooGreat" 297 ((.ref 94)),dE P "NoText" 322 ((.ref 113)),dE P "NoRow" 338 ((.ref 125)),dE P "NoChange" 354 ((.ref 137)),dE P "BelowNought" 370 ((.ref 149)),dE P "refuse_more" 380 ((.ref 158)),dE P "refuse_twice" 389 ((.ref 165)),dE P "common_of_two" 402 ((.ref 172)),dE P "common" 411 ((.ref 179)),dE P "up" 419 ((.ref 186)),dE P "nearest" 427 ((.ref 193)),dE P "lowest" 433 ((.ref 198)),dE P "unit" 441 ((.ref 203)),dE P "width" 448 ((.ref 210)),dE P "left" 454 ((.ref 215)),dE P "meets" 462 ((.ref 222)),dE P "turned" 468 ((.ref 227)),dE P "evened" 474 ((.ref 232)),dE P "MOST_UNKNOWNS" 478 ((.int 8 477)),dE P "MOST_ROWS" 480 ((.int 12 479)),dE P "givens" 486 ((.ref 237)),dE P "worth" 494 ((.ref 244)),dE P "Stand" 531 ((.ref 261)),dE P "beginning" 537 ((.ref 270)),dE P "growths" 543 ((.ref 275)),dE P "over" 551 ((.ref 282)),dE P "missed_row" 561 ((.ref 289)),dE P "least_grown" 567 ((.ref 294)),dE P "stopping_row" 583 ((.ref 301)),dE P "moved" 589 ((.ref 306)),dE P "exchanged" 595 ((.ref 311)),dE P "fallen" 601 ((.ref 316)),dE P "in_lowest" 607 ((.ref 321)),dE P "none_ending" 617 ((.ref 328)),dE P "best_ending" 626 ((.ref 335)),dE P "endless_ending" 632 ((.ref 340)),dE P "next_step" 646 ((.ref 347)),dE P "walk_on" 658 ((.ref 354)),dE P "walk" 666 ((.ref 361)),dE P "first" 674 ((.ref 368)),dE P "less" 682 ((.ref 373)),dE P "Basis" 762 ((.ref 423)),dE P "plain_basis" 768 ((.ref 432)),dE P "greatest_first" 776 ((.ref 437)),dE P "gather" 782 ((.ref 442)),dE P "levels" 794 ((.ref 449)),dE P "Lengths" 888 ((.ref 506)),dE P "lean_off" 899 ((.ref 517)),dE P "shorten" 910 ((.ref 524)),dE P "Side" 945 ((.ref 541)),dE P "walk_side" 953 ((.ref 552)),dE P "side_with" 959 ((.ref 557)),dE P "Choice" 993 ((.ref 574)),dE P "shut_lines" 1001 ((.ref 585)),dE P "broken_form" 1010 ((.ref 592)),dE P "near_choice" 1016 ((.ref 597)),dE P "PARTS" 1020 ((.int 1048576 1019)),dE P "MOST_FITTINGS" 1022 ((.int 6 1021)),dE P "parts_between" 1032 ((.ref 604)),dE P "reaches" 1038 ((.ref 609)),dE P "Shape" 1138 ((.ref 676)),dE P "fitted_shape" 1147 ((.ref 687)),dE P "summed" 1155 ((.ref 692)),dE P "divided" 1161 ((.ref 697)),dE P "ask_still" 1167 ((.ref 702)),dE P "inner" 1181 ((.ref 709)),dE P "FEW_CHOICES" 1185 ((.int 40 1184)),dE P "MOST_SHAPES" 1187 ((.int 100 1186)),dE P "tied_basis" 1193 ((.ref 714)),dE P "corner_spot" 1199 ((.ref 719)),dE P "search_by_forms" 1216 ((.ref 726)),dE P "search" 1222 ((.ref 731)),dE P "along_ray" 1228 ((.ref 736)),dE P "found" 1234 ((.ref 741)),dE P "raised_stand" 1242 ((.ref 746)),dE P "raised_side" 1254 ((.ref 753)),dE P "Climb" 1343 ((.ref 806)),dE P "settled" 1358 ((.ref 817)),dE P "refuse_below" 1366 ((.ref 822)),dE P "refuse_sack" 1372 ((.ref 827)),dE P "sack_plan" 1378 ((.ref 832)),dE P "endless_kind" 1384 ((.ref 837)),dE P "sack" 1395 ((.ref 844)),dE P "_law_cell" 1405 ((.ref 851)),dE P "_law_draws" 1419 ((.ref 858)),dE P "_law_whole" 1426 ((.ref 865)),dE P "_law_wholes" 1432 ((.ref 870)),dE P "_law_names" 1438 ((.ref 875)),dE P "_law_kinds_of" 1446 ((.ref 882)),dE P "_law_limits" 1452 ((.ref 887)),dE P "_law_kinds_by" 1469 ((.ref 894)),dE P "_law_put" 1478 ((.ref 901)),dE P "_law_faulty_limits" 1484 ((.ref 906)),dE P "_law_faulty_kinds" 1498 ((.ref 913)),dE P "_law_class_due" 1504 ((.ref 918)),dE P "_law_refused_well" 1510 ((.ref 923)),dE P "_law_plan_well" 1516 ((.ref 928)),dE P "law" 1531 ((.ref 935))] 111),#[]⟩) ::
  (nat_lit 15,⟨(.type "tuple"),none,(.seq #[(.type "ValueError")] 0),#[]⟩) ::
  (nat_lit 22,⟨(.type "tuple"),none,(.seq #[] 0),#[]⟩) ::
  (nat_lit 23,⟨(.type "dict"),none,(.dict #[dE P "__module__" 196 ((.str "cutyard.errors" 187)),dE P "__firstlineno__" 200 ((.int 2 199)),dE P "__static_attributes__" 201 ((.ref 22)),dE P "__weakref__" 203 ((.ref 25)),dE P "__doc__" 204 (.none)] 3),#[]⟩) ::
  (nat_lit 24,⟨(.type "type"),none,(.cls ⟨"YardError",[(.type "ValueError")],[(.ref 24),(.type "ValueError"),(.type "Exception"),(.type "BaseException"),(.type "object")],23,"YardError",true,[],[(.ref 37),(.ref 56),(.ref 75),(.ref 94),(.ref 113),(.ref 125),(.ref 137),(.ref 149)],false,none,false⟩),#[(some (.ref 15)),none,(some (.str "YardError" 189)),(some (.str "YardError" 197)),(some (.builtin "ValueError.__new__")),(some (.bool true))]⟩) ::
  (nat_lit 25,⟨(.type "getset_descriptor"),none,(.fields #[(.str "__weakref__" 202),(.ref 24),(.builtin "ExceptionGroup.__weakref__"),.none]),#[]⟩) ::
  (nat_lit 28,⟨(.type "tuple"),none,(.seq #[(.ref 24)] 0),#[]⟩) ::
  (nat_lit 35,⟨(.type "tuple"),none,(.seq #[] 0),#[]⟩) ::
  (nat_lit 36,⟨(.type "dict"),none,(.dict #[dE P "__module__" 214 ((.str "cutyard.errors" 187)),dE P "__firstlineno__" 218 ((.int 4 217)),dE P "__static_attributes__" 219 ((.ref 35)),dE P "__doc__" 220 (.none)] 2),#[]⟩) ::
  (nat_lit 37,⟨(.type "type"),none,(.cls ⟨"NoNumber",[(.ref 24)],[(.ref 37),(.ref 24),(.type "ValueError"),(.type "Exception"),(.type "BaseException"),(.type "object")],36,"NoNumber",true,[],[],false,none,false⟩),#[(some (.ref 28)),none,(some (.str "NoNumber" 207)),(some (.str "NoNumber" 215)),(some (.builtin "ValueError.__new__")),(some (.bool true))]⟩) ::
  (nat_lit 40,⟨(.type "tuple"),none,(.seq #[(.ref 24)] 0),#[]⟩) ::
(nat_lit 52,cO "__init__" 235 "NoName.__init__" 236 237 8 2 3 47 181 48 (.ref 49) (.ref 50) 51 240 241) ::
  (nat_lit 53,fO qiw "__init__" "NoName.__init__" "cutyard.errors" 187 52) ::
  (nat_lit 54,⟨(.type "tuple"),none,(.seq #[(.str "at" 243)] 0),#[]⟩) ::
  (nat_lit 55,⟨(.type "dict"),none,(.dict #[dE P "__module__" 230 ((.str "cutyard.errors" 187)),dE P "__firstlineno__" 234 ((.int 6 233)),dE P "__init__" 242 ((.ref 53)),dE P "__static_attributes__" 244 ((.ref 54)),dE P "__doc__" 245 (.none)] 2),#[]⟩) ::
  (nat_lit 56,⟨(.type "type"),none,(.cls ⟨"NoName",[(.ref 24)],[(.ref 56),(.ref 24),(.type "ValueError"),(.type "Exception"),(.type "BaseException"),(.type "object")],55,"NoName",true,[],[],false,none,false⟩),#[(some (.ref 40)),none,(some (.str "NoName" 223)),(some (.str "NoName" 231)),(some (.builtin "ValueError.__new__")),(some (.bool true))]⟩) ::
  (nat_lit 59,⟨(.type "tuple"),none,(.seq #[(.ref 24)] 0),#[]⟩) ::
(nat_lit 71,cO "__init__" 260 "Twice.__init__" 261 262 12 2 3 66 181 67 (.ref 68) (.ref 69) 70 265 266) ::
  (nat_lit 72,fO qct "__init__" "Twice.__init__" "cutyard.errors" 187 71) ::
  (nat_lit 73,⟨(.type "tuple"),none,(.seq #[(.str "at" 268)] 0),#[]⟩) ::
  (nat_lit 74,⟨(.type "dict"),none,(.dict #[dE P "__module__" 255 ((.str "cutyard.errors" 187)),dE P "__firstlineno__" 259 ((.int 10 258)),dE P "__init__" 267 ((.ref 72)),dE P "__static_attributes__" 269 ((.ref 73)),dE P "__doc__" 270 (.none)] 2),#[]⟩) ::
  (nat_lit 75,⟨(.type "type"),none,(.cls ⟨"Twice",[(.ref 24)],[(.ref 75),(.ref 24),(.type "ValueError"),(.type "Exception"),(.type "BaseException"),(.type "object")],74,"Twice",true,[],[],false,none,false⟩),#[(some (.ref 59)),none,(some (.str "Twice" 248)),(some (.str "Twice" 256)),(some (.builtin "ValueError.__new__")),(some (.bool true))]⟩) ::
  (nat_lit 78,⟨(.type "tuple"),none,(.seq #[(.ref 24)] 0),#[]⟩) ::
(nat_lit 90,cO "__init__" 285 "TooGreat.__init__" 286 287 16 2 3 85 181 86 (.ref 87) (.ref 88) 89 290 291) ::
  (nat_lit 91,fO qbt "__init__" "TooGreat.__init__" "cutyard.errors" 187 90) ::
  (nat_lit 92,⟨(.type "tuple"),none,(.seq #[(.str "at" 293)] 0),#[]⟩) ::
  (nat_lit 93,⟨(.type "dict"),none,(.dict #[dE P "__module__" 280 ((.str "cutyard.errors" 187)),dE P "__firstlineno__" 284 ((.int 14 283)),dE P "__init__" 292 ((.ref 91)),dE P "__static_attributes__" 294 ((.ref 92)),dE P "__doc__" 295 (.none)] 2),#[]⟩) ::
  (nat_lit 94,⟨(.type "type"),none,(.cls ⟨"TooGreat",[(.ref 24)],[(.ref 94),(.ref 24),(.type "ValueError"),(.type "Exception"),(.type "BaseException"),(.type "object")],93,"TooGreat",true,[],[],false,none,false⟩),#[(some (.ref 78)),none,(some (.str "TooGreat" 273)),(some (.str "TooGreat" 281)),(some (.builtin "ValueError.__new__")),(some (.bool true))]⟩) ::
  (nat_lit 97,⟨(.type "tuple"),none,(.seq #[(.ref 24)] 0),#[]⟩) ::
(nat_lit 109,cO "__init__" 310 "NoText.__init__" 311 312 20 2 3 104 181 105 (.ref 106) (.ref 107) 108 315 316) ::
  (nat_lit 110,fO qic "__init__" "NoText.__init__" "cutyard.errors" 187 109) ::
  (nat_lit 111,⟨(.type "tuple"),none,(.seq #[(.str "at" 318)] 0),#[]⟩) ::
  (nat_lit 112,⟨(.type "dict"),none,(.dict #[dE P "__module__" 305 ((.str "cutyard.errors" 187)),dE P "__firstlineno__" 309 ((.int 18 308)),dE P "__init__" 317 ((.ref 110)),dE P "__static_attributes__" 319 ((.ref 111)),dE P "__doc__" 320 (.none)] 2),#[]⟩) ::
  (nat_lit 113,⟨(.type "type"),none,(.cls ⟨"NoText",[(.ref 24)],[(.ref 113),(.ref 24),(.type "ValueError"),(.type "Exception"),(.type "BaseException"),(.type "object")],112,"NoText",true,[],[],false,none,false⟩),#[(some (.ref 97)),none,(some (.str "NoText" 298)),(some (.str "NoText" 306)),(some (.builtin "ValueError.__new__")),(some (.bool true))]⟩) ::
  (nat_lit 116,⟨(.type "tuple"),none,(.seq #[(.ref 24)] 0),#[]⟩) ::
  (nat_lit 123,⟨(.type "tuple"),none,(.seq #[] 0),#[]⟩) ::
  (nat_lit 124,⟨(.type "dict"),none,(.dict #[dE P "__module__" 330 ((.str "cutyard.errors" 187)),dE P "__firstlineno__" 334 ((.int 22 333)),dE P "__static_attributes__" 335 ((.ref 123)),dE P "__doc__" 336 (.none)] 2),#[]⟩) ::
  (nat_lit 125,⟨(.type "type"),none,(.cls ⟨"NoRow",[(.ref 24)],[(.ref 125),(.ref 24),(.type "ValueError"),(.type "Exception"),(.type "BaseException"),(.type "object")],124,"NoRow",true,[],[],false,none,false⟩),#[(some (.ref 116)),none,(some (.str "NoRow" 323)),(some (.str "NoRow" 331)),(some (.builtin "ValueError.__new__")),(some (.bool true))]⟩) ::
  (nat_lit 128,⟨(.type "tuple"),none,(.seq #[(.ref 24)] 0),#[]⟩) ::
  (nat_lit 135,⟨(.type "tuple"),none,(.seq #[] 0),#[]⟩) ::
  (nat_lit 136,⟨(.type "dict"),none,(.dict #[dE P "__module__" 346 ((.str "cutyard.errors" 187)),dE P "__firstlineno__" 350 ((.int 24 349)),dE P "__static_attributes__" 351 ((.ref 135)),dE P "__doc__" 352 (.none)] 2),#[]⟩) ::
  (nat_lit 137,⟨(.type "type"),none,(.cls ⟨"NoChange",[(.ref 24)],[(.ref 137),(.ref 24),(.type "ValueError"),(.type "Exception"),(.type "BaseException"),(.type "object")],136,"NoChange",true,[],[],false,none,false⟩),#[(some (.ref 128)),none,(some (.str "NoChange" 339)),(some (.str "NoChange" 347)),(some (.builtin "ValueError.__new__")),(some (.bool true))]⟩) ::
  (nat_lit 140,⟨(.type "tuple"),none,(.seq #[(.ref 24)] 0),#[]⟩) ::
  (nat_lit 147,⟨(.type "tuple"),none,(.seq #[] 0),#[]⟩) ::
  (nat_lit 148,⟨(.type "dict"),none,(.dict #[dE P "__module__" 362 ((.str "cutyard.errors" 187)),dE P "__firstlineno__" 366 ((.int 26 365)),dE P "__static_attributes__" 367 ((.ref 147)),dE P "__doc__" 368 (.none)] 2),#[]⟩) ::
  (nat_lit 149,⟨(.type "type"),none,(.cls ⟨"BelowNought",[(.ref 24)],[(.ref 149),(.ref 24),(.type "ValueError"),(.type "Exception"),(.type "BaseException"),(.type "object")],148,"BelowNought",true,[],[],false,none,false⟩),#[(some (.ref 140)),none,(some (.str "BelowNought" 355)),(some (.str "BelowNought" 363)),(some (.builtin "ValueError.__new__")),(some (.bool true))]⟩) ::
(nat_lit 157,cO "refuse_more" 373 "refuse_more" 374 375 29 2 3 152 181 153 (.ref 154) (.ref 155) 156 378 379) ::
  (nat_lit 158,fO qbd "refuse_more" "refuse_more" "cutyard.doors" 371 157) ::
(nat_lit 164,cO "refuse_twice" 381 "refuse_twice" 382 383 32 1 3 159 181 160 (.ref 161) (.ref 162) 163 387 388) ::
  (nat_lit 165,fO qa3 "refuse_twice" "refuse_twice" "cutyard.doors" 371 164) ::
  (nat_lit 259,⟨(.type "tuple"),none,(.seq #[(.str "bottom" 520),(.str "held" 521),(.str "tops" 522),(.str "ways" 523)] 0),#[]⟩) ::
  (nat_lit 262,⟨(.type "getset_descriptor"),none,(.fields #[(.str "__dict__" 525),(.ref 261),(.builtin "function.__dict__"),(.builtin "function.__dict__#set")]),#[]⟩) ::
  (nat_lit 263,⟨(.type "getset_descriptor"),none,(.fields #[(.str "__weakref__" 527),(.ref 261),(.builtin "ExceptionGroup.__weakref__"),.none]),#[]⟩) ::
  (nat_lit 421,⟨(.type "tuple"),none,(.seq #[(.str "columns" 753),(.str "turns" 754)] 0),#[]⟩) ::
  (nat_lit 424,⟨(.type "getset_descriptor"),none,(.fields #[(.str "__dict__" 756),(.ref 423),(.builtin "function.__dict__"),(.builtin "function.__dict__#set")]),#[]⟩) ::
  (nat_lit 425,⟨(.type "getset_descriptor"),none,(.fields #[(.str "__weakref__" 758),(.ref 423),(.builtin "ExceptionGroup.__weakref__"),.none]),#[]⟩) ::
  (nat_lit 504,⟨(.type "tuple"),none,(.seq #[(.str "sizes" 879),(.str "slants" 880)] 0),#[]⟩) ::
  (nat_lit 507,⟨(.type "getset_descriptor"),none,(.fields #[(.str "__dict__" 882),(.ref 506),(.builtin "function.__dict__"),(.builtin "function.__dict__#set")]),#[]⟩) ::
  (nat_lit 508,⟨(.type "getset_descriptor"),none,(.fields #[(.str "__weakref__" 884),(.ref 506),(.builtin "ExceptionGroup.__weakref__"),.none]),#[]⟩) ::
  (nat_lit 539,⟨(.type "tuple"),none,(.seq #[(.str "numbers" 935),(.str "rows" 936),(.str "stand" 937)] 0),#[]⟩) ::
  (nat_lit 542,⟨(.type "getset_descriptor"),none,(.fields #[(.str "__dict__" 939),(.ref 541),(.builtin "function.__dict__"),(.builtin "function.__dict__#set")]),#[]⟩) ::
  (nat_lit 543,⟨(.type "getset_descriptor"),none,(.fields #[(.str "__weakref__" 941),(.ref 541),(.builtin "ExceptionGroup.__weakref__"),.none]),#[]⟩) ::
  (nat_lit 572,⟨(.type "tuple"),none,(.seq #[(.str "line" 983),(.str "one" 984),(.str "other" 985)] 0),#[]⟩) ::
  (nat_lit 575,⟨(.type "getset_descriptor"),none,(.fields #[(.str "__dict__" 987),(.ref 574),(.builtin "function.__dict__"),(.builtin "function.__dict__#set")]),#[]⟩) ::
  (nat_lit 576,⟨(.type "getset_descriptor"),none,(.fields #[(.str "__weakref__" 989),(.ref 574),(.builtin "ExceptionGroup.__weakref__"),.none]),#[]⟩) ::
  (nat_lit 674,⟨(.type "tuple"),none,(.seq #[(.str "basis" 1127),(.str "ends" 1128),(.str "points" 1129),(.str "side" 1130)] 0),#[]⟩) ::
  (nat_lit 677,⟨(.type "getset_descriptor"),none,(.fields #[(.str "__dict__" 1132),(.ref 676),(.builtin "function.__dict__"),(.builtin "function.__dict__#set")]),#[]⟩) ::
  (nat_lit 678,⟨(.type "getset_descriptor"),none,(.fields #[(.str "__weakref__" 1134),(.ref 676),(.builtin "ExceptionGroup.__weakref__"),.none]),#[]⟩) ::
  (nat_lit 804,⟨(.type "tuple"),none,(.seq #[(.str "basis" 1328),(.str "bound" 1329),(.str "divisor" 1330),(.str "goal" 1331),(.str "ray" 1332),(.str "rows" 1333),(.str "side" 1334),(.str "spot" 1335)] 0),#[]⟩) ::
  (nat_lit 807,⟨(.type "getset_descriptor"),none,(.fields #[(.str "__dict__" 1337),(.ref 806),(.builtin "function.__dict__"),(.builtin "function.__dict__#set")]),#[]⟩) ::
  (nat_lit 808,⟨(.type "getset_descriptor"),none,(.fields #[(.str "__weakref__" 1339),(.ref 806),(.builtin "ExceptionGroup.__weakref__"),.none]),#[]⟩) ::
(nat_lit 821,cO "refuse_below" 1361 "refuse_below" 1362 1363 623 1 3 818 181 819 .none .none 820 1364 1365) ::
  (nat_lit 822,fO qaN "refuse_below" "refuse_below" "cutyard.sacks" 1359 821) ::
(nat_lit 826,cO "refuse_sack" 1367 "refuse_sack" 1368 1369 626 2 3 823 181 824 .none .none 825 1370 1371) ::
  (nat_lit 827,fO qav "refuse_sack" "refuse_sack" "cutyard.sacks" 1359 826) ::
(nat_lit 831,cO "sack_plan" 1373 "sack_plan" 1374 1375 635 2 3 828 181 829 .none .none 830 1376 1377) ::
  (nat_lit 832,fO qaL "sack_plan" "sack_plan" "cutyard.sacks" 1359 831) ::
(nat_lit 843,cO "sack" 1385 "sack" 1386 1387 647 2 3 838 181 839 (.ref 840) (.ref 841) 842 1393 1394) ::
  (nat_lit 844,fO qgr "sack" "sack" "cutyard.sacks" 1359 843) ::
(nat_lit 850,cO "_law_cell" 1398 "_law_cell" 1399 1400 655 2 3 845 181 846 (.ref 847) (.ref 848) 849 1403 1404) ::
  (nat_lit 851,fO qbL "_law_cell" "_law_cell" "law_cutyard_k54_sack_plan" 1396 850) ::
(nat_lit 857,cO "_law_draws" 1406 "_law_draws" 1407 1408 659 3 3 852 181 853 (.ref 854) (.ref 855) 856 1417 1418) ::
  (nat_lit 858,fO qbx "_law_draws" "_law_draws" "law_cutyard_k54_sack_plan" 1396 857) ::
(nat_lit 864,cO "_law_whole" 1420 "_law_whole" 1421 1422 675 1 3 859 181 860 (.ref 861) (.ref 862) 863 1424 1425) ::
  (nat_lit 865,fO qby "_law_whole" "_law_whole" "law_cutyard_k54_sack_plan" 1396 864) ::
(nat_lit 869,cO "_law_wholes" 1427 "_law_wholes" 1428 1429 677 2 3 866 181 867 .none .none 868 1430 1431) ::
  (nat_lit 870,fO qbf "_law_wholes" "_law_wholes" "law_cutyard_k54_sack_plan" 1396 869) ::
(nat_lit 874,cO "_law_names" 1433 "_law_names" 1434 1435 679 3 3 871 181 872 .none .none 873 1436 1437) ::
  (nat_lit 875,fO qbi "_law_names" "_law_names" "law_cutyard_k54_sack_plan" 1396 874) ::
(nat_lit 881,cO "_law_kinds_of" 1439 "_law_kinds_of" 1440 1441 689 1 3 876 181 877 (.ref 878) (.ref 879) 880 1444 1445) ::
  (nat_lit 882,fO qbe "_law_kinds_of" "_law_kinds_of" "law_cutyard_k54_sack_plan" 1396 881) ::
(nat_lit 886,cO "_law_limits" 1447 "_law_limits" 1448 1449 693 3 3 883 181 884 .none .none 885 1450 1451) ::
  (nat_lit 887,fO qba "_law_limits" "_law_limits" "law_cutyard_k54_sack_plan" 1396 886) ::
(nat_lit 893,cO "_law_kinds_by" 1453 "_law_kinds_by" 1454 1455 695 6 3 888 181 889 (.ref 890) (.ref 891) 892 1467 1468) ::
  (nat_lit 894,fO qbb "_law_kinds_by" "_law_kinds_by" "law_cutyard_k54_sack_plan" 1396 893) ::
(nat_lit 900,cO "_law_put" 1470 "_law_put" 1471 1472 704 3 3 895 181 896 (.ref 897) (.ref 898) 899 1476 1477) ::
  (nat_lit 901,fO qb8 "_law_put" "_law_put" "law_cutyard_k54_sack_plan" 1396 900) ::
(nat_lit 905,cO "_law_faulty_limits" 1479 "_law_faulty_limits" 1480 1481 707 3 3 902 181 903 .none .none 904 1482 1483) ::
  (nat_lit 906,fO qaH "_law_faulty_limits" "_law_faulty_limits" "law_cutyard_k54_sack_plan" 1396 905) ::
(nat_lit 912,cO "_law_faulty_kinds" 1485 "_law_faulty_kinds" 1486 1487 716 3 3 907 181 908 (.ref 909) (.ref 910) 911 1496 1497) ::
  (nat_lit 913,fO qaQ "_law_faulty_kinds" "_law_faulty_kinds" "law_cutyard_k54_sack_plan" 1396 912) ::
(nat_lit 917,cO "_law_class_due" 1499 "_law_class_due" 1500 1501 729 2 3 914 181 915 .none .none 916 1502 1503) ::
  (nat_lit 918,fO qax "_law_class_due" "_law_class_due" "law_cutyard_k54_sack_plan" 1396 917) ::
(nat_lit 922,cO "_law_refused_well" 1505 "_law_refused_well" 1506 1507 739 3 3 919 181 920 .none .none 921 1508 1509) ::
  (nat_lit 923,fO qaK "_law_refused_well" "_law_refused_well" "law_cutyard_k54_sack_plan" 1396 922) ::
(nat_lit 927,cO "_law_plan_well" 1511 "_law_plan_well" 1512 1513 758 2 3 924 181 925 .none .none 926 1514 1515) ::
  (nat_lit 928,fO qay "_law_plan_well" "_law_plan_well" "law_cutyard_k54_sack_plan" 1396 927) ::
(nat_lit 934,cO "law" 1517 "law" 1518 1519 777 1 3 929 181 930 (.ref 931) (.ref 932) 933 1529 1530) ::
  (nat_lit 935,fO qjC "law" "law" "law_cutyard_k54_sack_plan" 1396 934)::[]
end Kx
def PySem.W.Fast.tw10458025652912128113:=PySem.Challenge.pw_cutyard_k54_sack_plan
theorem PySem.W.Fast.te10458025652912128113:PySem.Challenge.pw_cutyard_k54_sack_plan=PySem.W.Fast.tw10458025652912128113:=rfl
def PySem.W.Fast.tw5385739360559341639:=Kx.KK
theorem PySem.W.Fast.te5385739360559341639:Kx.KK=PySem.W.Fast.tw5385739360559341639:=rfl
theorem PySem.W.Fast.tw10083607738715760824:True:=trivial
theorem PySem.W.Fast.tw10773163350099966701:True:=trivial
theorem PySem.W.Fast.tw11022952003510271494:True:=trivial
theorem PySem.W.Fast.tw11166604691804533824:True:=trivial
theorem PySem.W.Fast.tw11764163627840185801:True:=trivial
theorem PySem.W.Fast.tw12171841576076764511:True:=trivial
theorem PySem.W.Fast.tw12230419200719466938:True:=trivial
theorem PySem.W.Fast.tw12885676909774355687:True:=trivial
theorem PySem.W.Fast.tw13077140099284151709:True:=trivial
theorem PySem.W.Fast.tw13108269190226341433:True:=trivial
theorem PySem.W.Fast.tw13644827003720010956:True:=trivial
theorem PySem.W.Fast.tw13758420940279325838:True:=trivial
theorem PySem.W.Fast.tw13832974943633882335:True:=trivial
theorem PySem.W.Fast.tw13893668023044605390:True:=trivial
theorem PySem.W.Fast.tw13914744087694682310:True:=trivial
theorem PySem.W.Fast.tw14076512170418391600:True:=trivial
theorem PySem.W.Fast.tw14218035529610687222:True:=trivial
theorem PySem.W.Fast.tw14241708501055947077:True:=trivial
theorem PySem.W.Fast.tw14312935804506460238:True:=trivial
theorem PySem.W.Fast.tw14665361547011216142:True:=trivial
theorem PySem.W.Fast.tw14738852798312709559:True:=trivial
theorem PySem.W.Fast.tw14885674200714149634:True:=trivial
theorem PySem.W.Fast.tw15040667328908177858:True:=trivial
theorem PySem.W.Fast.tw15230748323600724335:True:=trivial
theorem PySem.W.Fast.tw15493839421443915017:True:=trivial
theorem PySem.W.Fast.tw1578470069499137212:True:=trivial
theorem PySem.W.Fast.tw15824843713155695533:True:=trivial
theorem PySem.W.Fast.tw15846508871658260501:True:=trivial
theorem PySem.W.Fast.tw15949502224400123220:True:=trivial
theorem PySem.W.Fast.tw16024370207771877748:True:=trivial
theorem PySem.W.Fast.tw16077141704765362183:True:=trivial
theorem PySem.W.Fast.tw16102560250375207684:True:=trivial
theorem PySem.W.Fast.tw16315287764224828828:True:=trivial
theorem PySem.W.Fast.tw16490918505243245473:True:=trivial
theorem PySem.W.Fast.tw1655319816464071790:True:=trivial
theorem PySem.W.Fast.tw17181828102960008461:True:=trivial
theorem PySem.W.Fast.tw17280557749176672541:True:=trivial
theorem PySem.W.Fast.tw17557726385489722925:True:=trivial
theorem PySem.W.Fast.tw17721867364959458577:True:=trivial
theorem PySem.W.Fast.tw19059950434476018:True:=trivial
theorem PySem.W.Fast.tw191314684498155953:True:=trivial
theorem PySem.W.Fast.tw1963823737861188006:True:=trivial
theorem PySem.W.Fast.tw201294201655409101:True:=trivial
theorem PySem.W.Fast.tw2114950914561329506:True:=trivial
theorem PySem.W.Fast.tw2303323781501017886:True:=trivial
theorem PySem.W.Fast.tw3568070907330696965:True:=trivial
theorem PySem.W.Fast.tw3873612220265659325:True:=trivial
theorem PySem.W.Fast.tw4389161180777864184:True:=trivial
theorem PySem.W.Fast.tw4418188548714338789:True:=trivial
theorem PySem.W.Fast.tw4757620519033723373:True:=trivial
theorem PySem.W.Fast.tw5023655493205811826:True:=trivial
theorem PySem.W.Fast.tw5038409817984478502:True:=trivial
theorem PySem.W.Fast.tw5249394878969315076:True:=trivial
theorem PySem.W.Fast.tw5660780576366187430:True:=trivial
theorem PySem.W.Fast.tw5980988220042133683:True:=trivial
theorem PySem.W.Fast.tw6124099146833863090:True:=trivial
theorem PySem.W.Fast.tw6381706937612164126:True:=trivial
theorem PySem.W.Fast.tw6547767159283063269:True:=trivial
theorem PySem.W.Fast.tw6605821002262657222:True:=trivial
theorem PySem.W.Fast.tw6731103684313864842:True:=trivial
theorem PySem.W.Fast.tw6784493398348187531:True:=trivial
theorem PySem.W.Fast.tw7013082062426099368:True:=trivial
theorem PySem.W.Fast.tw7149934968882874429:True:=trivial
theorem PySem.W.Fast.tw7225155892670341038:True:=trivial
theorem PySem.W.Fast.tw760194205125389317:True:=trivial
theorem PySem.W.Fast.tw7689041399325014562:True:=trivial
theorem PySem.W.Fast.tw826284665474501946:True:=trivial
theorem PySem.W.Fast.tw8308363116081868921:True:=trivial
theorem PySem.W.Fast.tw859711008543942718:True:=trivial
theorem PySem.W.Fast.tw8992394190004780352:True:=trivial
theorem PySem.W.Fast.tw9082569558922221166:True:=trivial
theorem PySem.W.Fast.tw9107929460189244116:True:=trivial
theorem PySem.W.Fast.tw9629372755450288611:True:=trivial
open PySem PySem.W PyProof.Rows
set_option maxRecDepth 100000 in
set_option maxHeartbeats 0 in
theorem PySem.Challenge.cw_cutyard_k54_sack_plan_holds : PySem.Challenge.rw_cutyard_k54_sack_plan.Holds := by
  w_on;o_law;o_head (kHook Kx.KK (2::3::15::22::23::24::25::28::35::36::37::40::52::53::54::55::56::59::71::72::73::74::75::78::90::91::92::93::94::97::109::110::111::112::113::116::123::124::125::128::135::136::137::140::147::148::149::157::158::164::165::259::262::263::421::424::425::504::507::508::539::542::543::572::575::576::674::677::678::804::807::808::821::822::826::827::831::832::843::844::850::851::857::858::864::865::869::870::874::875::881::882::886::887::893::894::900::901::905::906::912::913::917::918::922::923::927::928::934::935::[]) (fun _=>by kernel_rfl));(case hw=>w_witness2)
  k_fill
  refine Kx.walk (l:=PySem.Challenge.rw_cutyard_k54_sack_plan) rfl rfl (by decide +kernel) (fun w h Y=>PySem.W.kIn_of Y) (fun w=>?N1) ?F
  (case N1=>kernel_rfl)
  case F =>
    intro w mg fa h KX G hmg
    refine' Kx.all_mk KX G hmg ?a1 ?a2 ?a3 ?a4 ?a5 ?a6 ?a7 ?a8 ?a9 ?a10 ?a11 ?a12 ?a13 ?a14 ?a15 ?a16 ?a17 ?a18 ?a19 ?a20 ?a21 ?y_any ?y_MOST_ROWS ?y_MOST_UNKNOWNS ?y_len ?y_tuple ?y_enumerate ?y_max ?y_abs ?y_isinstance ?y_int ?y_bool ?y_all ?y_range ?y_ValueError ?y_zip ?y_set ?y_min ?ex9 ?eg_TooGreat ?ef_TooGreat ?el_TooGreat ?ec_TooGreat ?ek_TooGreat ?ei_TooGreat ?eg_Twice ?ef_Twice ?el_Twice ?ec_Twice ?ek_Twice ?ei_Twice ?ei_BelowNought
    (case y_any=>k_is)
    (case y_MOST_ROWS=>k_is)
    (case y_MOST_UNKNOWNS=>k_is)
    (case y_len=>k_is)
    (case y_tuple=>k_is)
    (case y_enumerate=>k_is)
    (case y_max=>k_is)
    (case y_abs=>k_is)
    (case y_isinstance=>k_is)
    (case y_int=>k_is)
    (case y_bool=>k_is)
    (case y_all=>k_is)
    (case y_range=>k_is)
    (case y_ValueError=>k_is)
    (case y_zip=>k_is)
    (case y_set=>k_is)
    (case y_min=>k_is)
    (case eg_TooGreat=>k_is);(case ef_TooGreat=>k_is);(case el_TooGreat=>k_is);(case ec_TooGreat=>k_is);(case ek_TooGreat=>k_is);(case ei_TooGreat=>kernel_rfl)
    (case eg_Twice=>k_is);(case ef_Twice=>k_is);(case el_Twice=>k_is);(case ec_Twice=>k_is);(case ek_Twice=>k_is);(case ei_Twice=>kernel_rfl)
    (case ei_BelowNought=>kernel_rfl)
    (case ex9=>kernel_rfl)
    all_goals (refine' L2.Has.of ?a ?l ?c;(case a=>k_is);(case l=>k_is);(case c=>k_is))

