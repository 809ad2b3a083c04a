import PyProof.Rows.All
import Wide.All
import OpenK.AllK
import Wide.FinOn
import Lean
import PyProof.EqAt
import PyProof.EqKinds
import PyProof.TupleCall
import PyProof.NeKinds
import KE.KLam
import KE.KMinKey
import KE.KSortTup
import PyProof.AutoListH
import PyProof.MeetsStr
import PyProof.StrLawsJoin
import PyProof.FitsReplace
import PyProof.Rows.TupDisplay
import PyProof.ListRange
import PyProof.ZipIter
import PyProof.ListNew
import KE.KSortKey
import PyProof.StationsW
import PyProof.ExcClass2
import PyProof.ExcInit
import PyProof.ExcBaseAll.ValueError
import PyProof.RulesAs
import PyProof.NsDelKeeps
import PyProof.ExcAttrAll.ValueError
import PyProof.IsiBase
import KE.KIsAll
import PyProof.InstStoreFacts
import PyProof.Rows.SetFrom
import PyProof.SetRoads
import KE.KRevIter
import PySem.Challenge.RW_cutyard_k66_a_yard_changed
set_option Elab.async false
set_option linter.all false
set_option maxRecDepth 100000
namespace L2
open PySem PySem.Spec PyProof.Rows
abbrev Key:=Sum Int Str
def qko:Key→Value→Bool
  | .inl k,v=>Value.isInt k v
  | .inr x,v=>Value.isStrOf x v
def qoQ (w:World):Key→Int
  | .inl k=>hashInt k
  | .inr x=>hashStr w x
theorem qaO:∀ {k:Key} {v:Value},qko k v=true→(∃ i t,k=Sum.inl i∧v=Value.int i t)∨(∃ x t,k=Sum.inr x∧v=Value.str x t)
  | .inl i,v,h=>by
    obtain ⟨t,e⟩:=Value.isInt_shape (k:=i) (v:=v) h
    exact .inl ⟨i,t,rfl,e⟩
  | .inr x,v,h=>by
    obtain ⟨t,e⟩:=Value.isStrOf_shape (x:=x) (v:=v) h
    exact .inr ⟨x,t,rfl,e⟩
theorem qls (a b:Int):decide ((Sum.inl a:Key)=Sum.inl b)=(a == b):=by
  by_cases e:a=b
  · subst e;simp
  · have h:¬ (Sum.inl a:Key)=Sum.inl b:=fun q=>e (Sum.inl.inj q)
    rw [decide_eq_false h]
    exact (beq_eq_false_iff_ne.mpr e).symm
theorem qlh (a b:Str):decide ((Sum.inr a:Key)=Sum.inr b)=decide (a=b):=by
  by_cases e:a=b
  · subst e;simp
  · have h:¬ (Sum.inr a:Key)=Sum.inr b:=fun q=>e (Sum.inr.inj q)
    rw [decide_eq_false h,decide_eq_false e]
theorem qlQ (a:Int) (b:Str):decide ((Sum.inl a:Key)=Sum.inr b)=false:=decide_eq_false (fun q=>nomatch q)
theorem qlR (a:Str) (b:Int):decide ((Sum.inr a:Key)=Sum.inl b)=false:=decide_eq_false (fun q=>nomatch q)
def qfp (prog:Program) (w:World):PySem.KeyKind prog w Key where
  is:=qko
  hash:=qoQ w
  inj:=fun v a b ha hb=>by
    rcases qaO ha with ⟨i,t,rfl,rfl⟩ | ⟨x,t,rfl,rfl⟩
    · rcases qaO hb with ⟨j,u,rfl,e⟩ | ⟨y,u,rfl,e⟩
      · injection e with e1 _;rw [e1]
      · exact nomatch e
    · rcases qaO hb with ⟨j,u,rfl,e⟩ | ⟨y,u,rfl,e⟩
      · exact nomatch e
      · injection e with e1 _;rw [e1]
  byValue:=fun k v h=>by
    rcases qaO h with ⟨i,t,rfl,rfl⟩ | ⟨x,t,rfl,rfl⟩ <;> rfl
  pyHash:=fun hv h=>by
    rcases qaO hv with ⟨i,t,rfl,rfl⟩ | ⟨x,t,rfl,rfl⟩
    · exact wpAny_pyHash_int h
    · exact wpAny_pyHash_str h
  eqBool:=fun hu hv h=>by
    rcases qaO hu with ⟨i,t,rfl,rfl⟩ | ⟨x,t,rfl,rfl⟩
    · rcases qaO hv with ⟨j,u,rfl,rfl⟩ | ⟨y,u,rfl,rfl⟩
      · rw [qls] at h;exact wpAny_eqBool_int h
      · rw [qlQ] at h;exact SeqAt.EqAt.int_str i t y u _ _ _ _ h
    · rcases qaO hv with ⟨j,u,rfl,rfl⟩ | ⟨y,u,rfl,rfl⟩
      · rw [qlR] at h;exact SeqAt.EqAt.str_int x t j u _ _ _ _ h
      · rw [qlh] at h;exact wpAny_eqBool_str h
  «strs»:=fun k x t v h=>by
    rcases qaO h with ⟨i,u,rfl,e⟩ | ⟨y,u,rfl,e⟩
    · exact nomatch e
    · injection e with e1 _
      subst e1
      cases v <;> rfl
inductive V where
  | non | bl (b:Bool) | int (i:Int) | str (x:Str) | byt (b:Array UInt8) | flt (b:UInt64) | ref (a:Addr) | ty (n:String)
  deriving DecidableEq
def RelV:V→Value→Prop
  | .non,u=>u=Value.none
  | .bl b,u=>u=Value.bool b
  | .int i,u=>∃ t,u=Value.int i t
  | .str x,u=>∃ t,u=Value.str x t
  | .byt b,u=>∃ t,u=Value.bytes b t
  | .flt b,u=>∃ t,u=Value.float b t
  | .ref a,u=>u=Value.ref a
  | .ty n,u=>u=Value.type n
abbrev Vals:List V→List Value→Prop:=Paired RelV
theorem Vals.length {xs:List V} {us:List Value} (r:Vals xs us):xs.length=us.length:=Paired.length r
theorem Vals.get:∀ {xs:List V} {us:List Value} {i:Nat} {x:V},Vals xs us→xs[i]?=some x→∃ u,us[i]?=some u∧RelV x u
  | _,_,_,_,.nil,e=>by simp at e
  | _,_,0,_,.cons r _,e=>by simp at e;subst e;exact ⟨_,rfl,r⟩
  | _,_,i+1,x,.cons _ t,e=>by
    obtain ⟨u,h1,h2⟩:=Vals.get (i:=i) (x:=x) t (by simpa using e)
    exact ⟨u,by simpa using h1,h2⟩
theorem Vals.set {x:V} {u:Value} (r:RelV x u):∀ {xs:List V} {us:List Value} (i:Nat),Vals xs us→Vals (xs.set i x) (us.set i u)
  | _,_,_,.nil=>.nil
  | _,_,0,.cons _ t=>.cons r t
  | _,_,i+1,.cons q t=>.cons q (Vals.set r i t)
theorem Vals.append:∀ {xs ys:List V} {us ws:List Value},Vals xs us→Vals ys ws→Vals (xs++ys) (us++ws)
  | _,_,_,_,.nil,s=>s
  | _,_,_,_,.cons r t,s=>.cons r (Vals.append t s)
theorem Vals.take:∀ {xs:List V} {us:List Value} (n:Nat),Vals xs us→Vals (xs.take n) (us.take n)
  | _,_,0,_=>.nil
  | _,_,_+1,.nil=>.nil
  | _,_,n+1,.cons r t=>.cons r (Vals.take n t)
theorem Vals.drop:∀ {xs:List V} {us:List Value} (n:Nat),Vals xs us→Vals (xs.drop n) (us.drop n)
  | _,_,0,r=>r
  | _,_,_+1,.nil=>.nil
  | _,_,n+1,.cons _ t=>Vals.drop n t
def RelO:Option V→Option Value→Prop
  | some v,some u=>RelV v u
  | none,none=>True
  | _,_=>False
def KV {κ:Type}:List (κ × V)→List (κ × Value)→Prop:=Paired fun (p:κ × V) (q:κ × Value)=>p.1=q.1∧RelV p.2 q.2
def kV:Key→V
  | .inl i=>.int i
  | .inr x=>.str x
inductive HO where
    | lst (xs:List V)
    | tup (xs:List V)
    | dK (kvs:List (Key × V)) | dT (kvs:List (List Key × V))
    | set (S:Int→Bool) (n:Nat)
    | ins (C dx:Addr) (fs:List (Str × V))
    | own (x:Addr)
    | xd (fs:List (Str × V))
    | met (f x:Addr)
    | rng (lo hi:Int)
    | frz (o:Obj) (u:HO)
    | tbl (ps:Array Value)
    | ext (φ:Heap→Prop)
abbrev Hp:=Addr→Option HO
def upd (H:Hp) (a:Addr) (o:HO):Hp:=fun b=>if b=a then some o else H b
theorem qai {H:Hp} {a:Addr} {o:HO}:upd H a o a=some o:=by unfold upd;rw [if_pos rfl]
theorem qag {H:Hp} {a b:Addr} {o:HO} (h:b≠a):upd H a o b=H b:=by unfold upd;rw [if_neg h]
theorem qjl {H:Hp} {a:Addr} {o u:HO}:upd (upd H a o) a u=upd H a u:=by
  funext b;unfold upd;split <;> rfl
theorem qan {H:Hp} {a b:Addr} {o:HO} (h:H a=some o) (h':H b=none):a≠b:=by
  intro e;subst e;rw [h] at h';cases h'
def IsTupD (h:Heap) (a:Addr) (items:Array Value):Prop:=∃ o,h.get? a=some o∧(o.cls=.type "tuple"∧o.dict=none)∧∃ n,o.data=.seq items n
theorem IsTupD.tup {h:Heap} {a:Addr} {items:Array Value} (x:IsTupD h a items):IsTup h a items:=let ⟨o,e,c,d⟩:=x;⟨o,e,c.1,d⟩
theorem IsTupD.lt {h:Heap} {a:Addr} {items:Array Value} (x:IsTupD h a items):a<h.objs.size:=x.tup.lt
theorem IsTupD.new (h:Heap) (items:Array Value):IsTupD (h.push { cls:=.type "tuple",data:=.seq items }) h.objs.size items:=⟨_,Heap.get?_push_size _ rfl,⟨rfl,rfl⟩,_,rfl⟩
section
variable (P : Program) (w : World)
def ObjOk (H:Hp) (h:Heap) (a:Addr):HO→Prop
  | .lst xs=>xs.length≤sizeLine∧∃ (its:List Value) (n:Nat),Vals xs its∧h.get? a=some { cls:=.type "list",data:=.seq its.toArray n }
  | .tup xs=>xs.length≤sizeLine∧∃ its:List Value,Vals xs its∧IsTupD h a its.toArray
  | .dK kvs=>kvs.length≤sizeLine∧(a == sysModules)=false∧∃ vs,KV kvs vs∧h.DictOf (qfp P w) a vs
  | .dT kvs=>kvs.length≤sizeLine∧(a == sysModules)=false∧∃ xs:List (List Key × Addr × Value),
      Paired (fun (p:List Key × V) (q:List Key × Addr × Value)=>p.1=q.1∧H q.2.1=some (.tup (p.1.map kV))∧RelV p.2 q.2.2) kvs xs ∧
      ∃ o es ep,h.get? a=some o∧o.ExactDict∧o.data=.dict es ep∧es.toList=xs.map (entryOfKey (tupleKind (qfp P w)))∧(xs.map (·.1)).Nodup
  | .set S n=>h.SetOf (intKind P w) a S n
  | .ins C dx fs=>H dx=some (.own a)∧fs.length≤1000∧dx≠a∧h.get? a=some (PySem.W.instObj C dx) ∧
      ∃ mA,h.Ns1 dx mA∧(∀ f,RelO (fs.lookup f) (mA f))∧PySem.Within mA (fs.map (·.1))
  | .own _=>∃ o,h.get? a=some o
  | .xd fs=>∃ mA,h.Ns1 a mA∧∀ f,RelO (fs.lookup f) (mA f)
  | .rng lo hi=>∃ t u v,h.get? a=some { cls:=.type "range",data:=.fields #[.int lo t,.int hi u,.int 1 v] }
  | .frz o u=>h.get? a=some o∧ObjOk H h a u
  | .tbl ps=>h.get? a=some { cls:=.none,data:=.fields #[] }∨∃ (c:Addr) (o:Obj) (vs:Array Value) (x y:Value) (q:Str) (t t':Tok),ps=#[x,y,.str q t]∧H c=some (.frz o (.own a)) ∧
      h.get? a=some { cls:=.none,data:=.fields #[x,y,.ref c] }∧o.data=.fields vs∧vs[1]?=some (.str q t')
  | .met f x=>h.get? a=some (PySem.W.methodObj (.ref f) (.ref x))
  | .ext φ=>φ h∧(∃ o,h.get? a=some o)∧∀ h1 h2:Heap,φ h1→(∀ o,h1.get? a=some o→h2.get? a=some o)→φ h2
def HOk (H:Hp) (h:Heap):Prop:=∀ a o,H a=some o→ObjOk P w H h a o
end
section
variable {P : Program} {w : World} {H H' : Hp} {h h' : Heap} {a : Addr} {o : HO}
theorem ObjOk.lt (x:ObjOk P w H h a o):a<h.objs.size:=by
  cases o with
  | lst xs=>obtain ⟨_,_,_,_,e⟩:=x;exact Heap.lt_size e
  | tup xs=>obtain ⟨_,_,_,p⟩:=x;exact p.lt
  | dK kvs=>obtain ⟨_,_,_,_,o,_,_,e,_⟩:=x;exact Heap.lt_size e
  | dT kvs=>obtain ⟨_,_,_,_,o,_,_,e,_⟩:=x;exact Heap.lt_size e
  | set S n=>obtain ⟨o,_,_,_,e,_⟩:=x;exact Heap.lt_size e
  | ins C dx fs=>obtain ⟨_,_,_,e,_⟩:=x;exact Heap.lt_size e
  | own y=>obtain ⟨_,e⟩:=x;exact Heap.lt_size e
  | xd fs=>obtain ⟨_,⟨_,_,_,e,_⟩,_⟩:=x;exact Heap.lt_size e
  | rng lo hi=>obtain ⟨_,_,_,e⟩:=x;exact Heap.lt_size e
  | frz ob u=>obtain ⟨e,_⟩:=x;exact Heap.lt_size e
  | tbl ps=>rcases x with x | ⟨_,_,_,_,_,_,_,_,_,_,x,_⟩ <;> exact Heap.lt_size x
  | met f y=>exact Heap.lt_size (show h.get? a=some _ from x)
  | ext φ=>obtain ⟨_,⟨_,e⟩,_⟩:=x;exact Heap.lt_size e
theorem Paired.mapP {α β:Type} {F G:α→β→Prop}:∀ {l₁:List α} {l₂:List β},Paired F l₁ l₂→(∀ a b,F a b→G a b)→Paired G l₁ l₂
  | _,_,.nil,_=>.nil
  | _,_,.cons r t,f=>.cons (f _ _ r) (Paired.mapP t f)
theorem ObjOk.stay (x:ObjOk P w H h a o) (k:∀ b u,(b=a∨H b=some (.own a))→h.get? b=some u→h'.get? b=some u)
    (ho:∀ b,H b=some (.own a)→H' b=some (.own a)) (ht:∀ b xs,H b=some (.tup xs)→H' b=some (.tup xs)) (hf:∀ b o u,H b=some (.frz o u)→H' b=some (.frz o u)):ObjOk P w H' h' a o:=by
  induction o with
  | lst xs=>obtain ⟨z,its,n,r,e⟩:=x;exact ⟨z,its,n,r,k _ _ (.inl rfl) e⟩
  | tup xs=>obtain ⟨z,its,r,ob,e,c⟩:=x;exact ⟨z,its,r,ob,k _ _ (.inl rfl) e,c⟩
  | dK kvs=>obtain ⟨z,y,vs,r,ob,es,ep,e,c⟩:=x;exact ⟨z,y,vs,r,ob,es,ep,k _ _ (.inl rfl) e,c⟩
  | dT kvs =>
    obtain ⟨z,y,xs,r,ob,es,ep,e,c⟩:=x
    exact ⟨z,y,xs,Paired.mapP r fun p q z=>⟨z.1,ht _ _ z.2.1,z.2.2⟩,ob,es,ep,k _ _ (.inl rfl) e,c⟩
  | set S n=>obtain ⟨ob,es,ep,t,e,c⟩:=x;exact ⟨ob,es,ep,t,k _ _ (.inl rfl) e,c⟩
  | ins C dx fs =>
    obtain ⟨d,z,ne,e,mA,⟨od,es,ep,e2,c⟩,r⟩:=x
    exact ⟨ho _ d,z,ne,k _ _ (.inl rfl) e,mA,⟨od,es,ep,k _ _ (.inr d) e2,c⟩,r⟩
  | own y=>obtain ⟨ob,e⟩:=x;exact ⟨ob,k _ _ (.inl rfl) e⟩
  | xd fs=>obtain ⟨mA,⟨od,es,ep,e,c⟩,r⟩:=x;exact ⟨mA,⟨od,es,ep,k _ _ (.inl rfl) e,c⟩,r⟩
  | rng lo hi=>obtain ⟨t,u,v,e⟩:=x;exact ⟨t,u,v,k _ _ (.inl rfl) e⟩
  | frz ob u ih=>obtain ⟨e,q⟩:=x;exact ⟨k _ _ (.inl rfl) e,ih q⟩
  | tbl ps =>
    rcases x with x | ⟨c,o,vs,y,z,q,t,t',e1,e2,e3,e4⟩
    · exact .inl (k a _ (.inl rfl) x)
    · exact .inr ⟨c,o,vs,y,z,q,t,t',e1,hf _ _ _ e2,k a _ (.inl rfl) e3,e4⟩
  | met f y =>
    have e:h.get? a=some (PySem.W.methodObj (.ref f) (.ref y)):=x
    show h'.get? a=some (PySem.W.methodObj (.ref f) (.ref y))
    exact k a _ (.inl rfl) e
  | ext φ=>obtain ⟨p,⟨o,e⟩,st⟩:=x;exact ⟨st _ _ p fun o q=>k _ _ (.inl rfl) q,⟨o,k _ _ (.inl rfl) e⟩,st⟩
theorem HOk.lt (x:HOk P w H h) (e:H a=some o):a<h.objs.size:=(x a o e).lt
theorem HOk.fresh (x:HOk P w H h) (e:h.objs.size≤a):H a=none:=by
  cases q:H a with
  | none=>rfl
  | some u=>exact absurd (Nat.lt_of_lt_of_le (x.lt q) e) (Nat.lt_irrefl _)
theorem HOk.kept (x:HOk P w H h) (k:∀ b u,h.get? b=some u→h'.get? b=some u):HOk P w H h':=fun a o e =>
  (x a o e).stay (fun b u _ q=>k b u q) (fun _ q=>q) (fun _ _ q=>q) fun _ _ _ q=>q
theorem HOk.laid (x:HOk P w H h) (k:∀ b u,h.get? b=some u→h'.get? b=some u) (hp:h.objs.size≤a) (new:ObjOk P w (upd H a o) h' a o):HOk P w (upd H a o) h':=fun b u e=>by
  have hn:=x.fresh hp
  by_cases hb:b=a
  · subst hb;rw [qai] at e;cases e;exact new
  · rw [qag hb] at e
    exact (x b u e).stay (fun c v _ q=>k c v q) (fun c q=>by rw [qag (qan q hn)];exact q) (fun c xs q=>by rw [qag (qan q hn)];exact q) fun c ob w' q=>by rw [qag (qan q hn)];exact q
end
def Rd (H:Hp) (a:Addr) (u:HO):Prop:=H a=some u∨∃ o,H a=some (.frz o u)
theorem Rd.ok {P:Program} {w:World} {H:Hp} {h:Heap} {a:Addr} {u:HO} (r:Rd H a u) (x:HOk P w H h):ObjOk P w H h a u:=by
  rcases r with r | ⟨o,r⟩
  · exact x a u r
  · obtain ⟨_,q⟩:=x a _ r
    exact q
def Mut:Option HO→Prop
  | some (.lst _)=>True
  | some (.dK _)=>True
  | some (.dT _)=>True
  | some (.set _ _)=>True
  | some (.ins _ _ _)=>True
  | some (.ext _)=>True
  | _=>False
section
variable {P : Program} {w : World} {H : Hp} {h h' : Heap} {x e : Addr} {o' : HO}
theorem HOk.write (ok:HOk P w H h) (mu:Mut (H x)) (he:e=x∨H e=some (.own x)) (k:∀ b u,b≠e→h.get? b=some u→h'.get? b=some u) (heo:∃ u,h'.get? e=some u)
    (new:ObjOk P w (upd H x o') h' x o'):HOk P w (upd H x o') h':=fun b u q=>by
  have nown:∀ c y,H c=some (.own y)→c≠x:=fun c y r z=>by subst z;rw [r] at mu;exact mu
  have ntup:∀ c xs,H c=some (.tup xs)→c≠x:=fun c xs r z=>by subst z;rw [r] at mu;exact mu
  have nfrz:∀ c ob w',H c=some (.frz ob w')→c≠x:=fun c ob w' r z=>by subst z;rw [r] at mu;exact mu
  by_cases hb:b=x
  · subst hb;rw [qai] at q;cases q;exact new
  · rw [qag hb] at q
    by_cases hbe:b=e
    · have q':H b=some (.own x):=by
        rcases he with z | z
        · exact absurd (hbe.trans z) hb
        · rw [hbe];exact z
      rw [q] at q';cases q'
      obtain ⟨v,hv⟩:=heo
      exact ⟨v,by rw [hbe];exact hv⟩
    · refine (ok b u q).stay (fun c v hc r=>k c v ?_ r) (fun c r=>by rw [qag (nown c b r)];exact r) (fun c xs r=>by rw [qag (ntup c xs r)];exact r) fun c ob w' r=>by rw [qag (nfrz c ob w' r)];exact r
      rcases hc with rfl | hc
      · exact hbe
      · rintro rfl
        rcases he with z | z
        · exact nown c b hc z
        · rw [hc] at z;cases z;exact hb rfl
end
structure Un (fs ex:List Addr) (H H':Hp) (h h':Heap):Prop where
  keep:∀ b o,h.get? b=some o→H b=none→b∉fs→b∉ex→h'.get? b=some o
  slot:∀ b o,h.get? b=some o→H b=none→b∈fs→b∉ex→∃ sl,h'.get? b=some { o with slots:=sl }
  free:∀ b o,h.get? b=some o→H b=none→b∉ex→H' b=none
  there:∀ b o,h.get? b=some o→b∉ex→∃ o',h'.get? b=some o'
  tups:∀ b xs,H b=some (.tup xs)→H' b=some (.tup xs)
  frzs:∀ b o u,H b=some (.frz o u)→H' b=some (.frz o u)
  tbls:∀ b ps,H b=some (.tbl ps)→H' b=some (.tbl ps)
section
variable {fs fs' ex ex' : List Addr} {H H1 H2 : Hp} {h h1 h2 h' : Heap} {a x e : Addr} {o : HO}
theorem Un.any (u:Un fs ex H H1 h h1) {b:Addr} {ob:Obj} (q:h.get? b=some ob) (n:H b=none) (hx:b∉ex):∃ sl,h1.get? b=some { ob with slots:=sl }:=by
  by_cases hb:b∈fs
  · exact u.slot b ob q n hb hx
  · exact ⟨ob.slots,u.keep b ob q n hb hx⟩
theorem Un.kept (k:∀ b u,h.get? b=some u→h'.get? b=some u):Un fs ex H H h h' :=
  ⟨fun b ob q _ _ _=>k b ob q,fun b ob q _ _ _=>⟨ob.slots,k b ob q⟩,fun _ _ _ n _=>n,fun b ob q _=>⟨ob,k b ob q⟩,fun _ _ q=>q,fun _ _ _ q=>q,fun _ _ q=>q⟩
theorem Un.refl:Un fs ex H H h h:=Un.kept fun _ _ q=>q
theorem Un.laid (k:∀ b u,h.get? b=some u→h'.get? b=some u) (hp:h.objs.size≤a) (hn:H a=none):Un fs ex H (upd H a o) h h' where
  keep:=fun b u q _ _ _=>k b u q
  slot:=fun b u q _ _ _=>⟨u.slots,k b u q⟩
  free:=fun b u q n _=>by rw [qag (Nat.ne_of_lt (Nat.lt_of_lt_of_le (Heap.lt_size q) hp))];exact n
  there:=fun b u q _=>⟨u,k b u q⟩
  tups:=fun b xs q=>by rw [qag (qan q hn)];exact q
  frzs:=fun b u xs q=>by rw [qag (qan q hn)];exact q
  tbls:=fun b ps q=>by rw [qag (qan q hn)];exact q
theorem Un.write (mu:Mut (H x)) (he:e=x∨H e=some (.own x)) (k:∀ b u,b≠e→h.get? b=some u→h'.get? b=some u) (heo:∃ u,h'.get? e=some u):Un fs ex H (upd H x o) h h':=by
  have hx:∀ b,H b=none→b≠x:=fun b n z=>by subst z;rw [n] at mu;exact mu
  have hb:∀ b,H b=none→b≠e:=fun b n z=>by
    subst z
    rcases he with r | r
    · exact hx b n r
    · rw [n] at r;cases r
  have hm:∀ b u,H b=some u→¬ Mut (some u)→b≠x:=fun b u q nm z=>by subst z;rw [q] at mu;exact nm mu
  refine ⟨fun b u q n _ _=>k b u (hb b n) q,fun b u q n _ _=>⟨u.slots,k b u (hb b n) q⟩,fun b u q n _=>by rw [qag (hx b n)];exact n,fun b u q _=>?_,
    fun b xs q=>by rw [qag (hm b _ q fun z=>z)];exact q,fun b u xs q=>by rw [qag (hm b _ q fun z=>z)];exact q,fun b ps q=>by rw [qag (hm b _ q fun z=>z)];exact q⟩
  by_cases hbe:b=e
  · subst hbe;exact heo
  · exact ⟨u,k b u hbe q⟩
end
def trk (h:Heap) (H:Hp):List Addr:=(List.range h.objs.size).filter fun a=>(H a).isSome
def qhK (h:Heap) (H:Hp):Heap:=PySem.W.hideAll h (trk h H)
theorem qhg (h:Heap) (H:Hp):(qhK h H).objs.size=h.objs.size:=PySem.W.hideAll_size _ _
theorem qhX {h:Heap} {H:Hp} {b:Addr} {o:Obj} (e:h.get? b=some o) (n:H b=none):(qhK h H).get? b=some o :=
  PySem.W.hideAll_get _ e fun hm=>by
    have q:(H b).isSome=true:=(List.mem_filter.mp hm).2
    rw [n] at q;simp at q
theorem qkc {h:Heap} {H:Hp} {b:Addr} {o:Obj} (e:(qhK h H).get? b=some o):h.get? b=some o∧H b=none:=by
  have e':h.get? b=some o:=PySem.W.of_hideAll (trk h H) e
  refine ⟨e',?_⟩
  cases q:H b with
  | none=>rfl
  | some x =>
    have hm:b∈trk h H:=List.mem_filter.mpr ⟨List.mem_range.mpr (Heap.lt_size e'),by simp [q]⟩
    have z:(qhK h H).get? b=none:=PySem.W.hideAll_none (trk h H) hm
    rw [z] at e;cases e
structure Mod (K:PySem.W.Frag) (mg:Str→Option Value) (base:Heap):Prop where
  kin:K.In base
  glob:base.Ns mainGlobals mg
  blt:∃ mb,base.Ns builtinsNs mb∧∀ x:Str,x≠"__name__"→mb x=bootBuiltins x
  nolimit:base.NoLimit
  bmod:∃ bm ob,mg "__builtins__"=some (.ref bm)∧bm≠builtinsNs∧base.get? bm=some ob∧ob.cls=.type "module"∧ob.dict=some builtinsNs∧ob.data=.plain
  seer:base.NoSeer
  dig:∃ mc,base.Ns cStatics mc∧mc "sys.int_max_str_digits"=none
structure Cx where
  prog:Program
  w:World
  K:PySem.W.Frag
  mg:Str→Option Value
  base:Heap
  A:Around
  N:List Str
  s₀:Shared
  H₀:Hp
  env:Env
  outer:List Env
  stack:List Env
  ex:List Addr
  fn:Str→Bool
  calm:Bool
  pn:List (Addr × Obj)
  xe:Value→Shared→Prop
def frs (l:List Env):List Addr:=l.filterMap (·.frame)
abbrev Cx.fs (X:Cx):List Addr:=frs X.outer
def Vis (sc:Scope) (x:Str):Prop:=sc.names.lookup x=some .local∨sc.names.lookup x=some .cell∨sc.names.lookup x=some .free
def Loc (sc:Scope) (x:Str):Prop:=sc.names.lookup x=some .local∨sc.names.lookup x=some .cell
def qoM (env:Env) (h:Heap) (m:Str→Option Value) (x:Str) (u:Value):Prop :=
  (env.kindOf x=some .local∧m x=some u)∨((env.kindOf x=some .cell∨env.kindOf x=some .free)∧∃ c,env.cells.lookup x=some c∧h.IsCell c (some u))
structure Cx.Ok (X:Cx):Prop where
  mod:Mod X.K X.mg X.base
  kind:X.env.scope.kind=.function
  glob:X.env.globals=mainGlobals
  blt:X.env.builtins=builtinsNs
  above:X.s₀.heap.objs.size≤X.env.locals
  inj:∀ x y c,X.env.cells.lookup x=some c→X.env.cells.lookup y=some c→x=y
  has:∀ x,(X.env.kindOf x=some .cell∨X.env.kindOf x=some .free)→∃ c,X.env.cells.lookup x=some c
  cab:∀ x c,X.fn x=true→X.env.cells.lookup x=some c→X.s₀.heap.objs.size≤c
  hd:X.calm=true→X.A.handled=none
  frames:X.A.frames=some X.stack
  stk:X.stack=X.outer∨(X.stack=X.env::X.outer∧X.env.frame=some X.env.locals)
  exf:∀ b∈X.ex,b≠X.env.locals∧∀ x c,X.env.cells.lookup x=some c→c≠b
  bs:∀ b o,X.base.get? b=some o→X.s₀.heap.get? b=some o∧X.H₀ b=none
  bsz:X.base.objs.size≤X.s₀.heap.objs.size
  noex:∀ b o,X.base.get? b=some o→b∉X.ex
  exfs:∀ b∈X.ex,b∉X.fs
  funs:X.s₀.heap.FunFrames X.base X.outer
  frf:∀ b∈X.fs,X.H₀ b=none
structure Inv (X:Cx) (pins:List (Addr × Obj)) (σ:List (Option V)) (H:Hp) (s:Shared):Prop where
  ok:X.Ok
  os:s.os=X.s₀.os
  bare:AllBare s.gens
  base:Un X.fs X.ex X.H₀ H X.s₀.heap s.heap
  loc:∃ m,s.heap.Ns X.env.locals m∧∀ (i:Nat) (x:Str) (v:V),X.N[i]?=some x→σ[i]?=some (some v)→Vis X.env.scope x→∃ u,RelV v u∧qoM X.env s.heap m x u
  cell:∀ x c,X.env.cells.lookup x=some c→∃ v,s.heap.IsCell c v
  free:H X.env.locals=none
  freeC:∀ x c,X.env.cells.lookup x=some c→H c=none
  pin:∀ p∈X.pn++pins,s.heap.get? p.1=some p.2∧H p.1=none∧p.1≠X.env.locals∧p.1∉X.fs∧∀ v,p.2.data≠.cell v
  hok:HOk X.prog X.w H s.heap
  len:σ.length=X.N.length
section
variable {X : Cx} {pins : List (Addr × Obj)} {σ : List (Option V)} {H H' : Hp} {s : Shared} {h' : Heap}
theorem Cx.Ok.nofr (ok:X.Ok) {b:Addr} {o:Obj} (e:X.base.get? b=some o):b∉X.fs:=fun hb=>by
  have:=(ok.funs.mem hb).1
  rw [e] at this;cases this
theorem Inv.bs (I:Inv X pins σ H s):∀ b o,X.base.get? b=some o→s.heap.get? b=some o∧H b=none:=fun b o e =>
  ⟨I.base.keep b o (I.ok.bs b o e).1 (I.ok.bs b o e).2 (I.ok.nofr e) (I.ok.noex b o e),I.base.free b o (I.ok.bs b o e).1 (I.ok.bs b o e).2 (I.ok.noex b o e)⟩
theorem Inv.bk (I:Inv X pins σ H s):∀ b o,X.base.get? b=some o→s.heap.get? b=some o:=fun b o e=>(I.bs b o e).1
theorem Inv.mod (I:Inv X pins σ H s):Mod X.K X.mg X.base:=I.ok.mod
theorem Inv.kIn (I:Inv X pins σ H s):X.K.In s.heap:=I.ok.mod.kin.keeps I.bk
theorem Inv.lt (I:Inv X pins σ H s):X.env.locals<s.heap.objs.size:=let ⟨_,hn,_⟩:=I.loc;hn.lt
theorem Inv.sz (I:Inv X pins σ H s):X.s₀.heap.objs.size≤s.heap.objs.size:=Nat.le_trans I.ok.above (Nat.le_of_lt I.lt)
theorem Inv.nofs (I:Inv X pins σ H s) {a:Addr} (h:s.heap.objs.size≤a):a∉X.fs:=fun hb=>by
  obtain ⟨_,o,ho,_⟩:=I.ok.funs.mem hb
  exact absurd (Nat.lt_of_lt_of_le (Heap.lt_size ho) (Nat.le_trans I.sz h)) (Nat.lt_irrefl _)
theorem Inv.cne (I:Inv X pins σ H s):∀ x c,X.env.cells.lookup x=some c→c≠X.env.locals:=fun x c e z=>by
  obtain ⟨v,o,ho,hd⟩:=I.cell x c e
  obtain ⟨m,⟨o',es,ep,ho',hd',_⟩,_⟩:=I.loc
  rw [z,ho'] at ho;cases ho;rw [hd'] at hd;cases hd
theorem Inv.funs (I:Inv X pins σ H s):s.heap.FunFrames X.base X.outer:=by
  have all:∀ (l:List Env),(∀ b∈frs l,b∈X.fs)→X.s₀.heap.FunFrames X.base l→s.heap.FunFrames X.base l:=by
    intro l
    induction l with
    | nil=>intro _ _;trivial
    | cons env r ih =>
      intro hs hl
      obtain ⟨hk,⟨L,o,hf,hn,ho,hd⟩,hr⟩:=hl
      have hL:L∈X.fs:=hs L (by unfold frs;rw [List.filterMap_cons,hf];exact List.mem_cons_self)
      obtain ⟨sl,e⟩:=I.base.slot L o ho (I.ok.frf L hL) hL fun z=>I.ok.exfs L z hL
      exact ⟨hk,⟨L,_,hf,hn,e,hd⟩,ih (fun b hb=>hs b (by unfold frs;rw [List.filterMap_cons,hf];exact List.mem_cons_of_mem _ hb)) hr⟩
  exact all X.outer (fun _ hb=>hb) I.ok.funs
theorem Inv.stack (I:Inv X pins σ H s):s.heap.FunFrames X.base X.stack:=by
  rcases I.ok.stk with e | ⟨e,hf⟩
  · rw [e];exact I.funs
  · rw [e]
    obtain ⟨m,hn,_⟩:=I.loc
    refine .cons (by rw [I.ok.kind];decide) hf hn ?_ I.funs
    exact Heap.get?_none_of_le (Nat.le_trans I.ok.bsz I.ok.above)
theorem Inv.stkSub (I:Inv X pins σ H s):∀ b∈frs X.stack,b∈X.env.locals::X.fs:=fun b hb=>by
  rcases I.ok.stk with e | ⟨e,hf⟩
  · rw [e] at hb;exact List.mem_cons_of_mem _ hb
  · rw [e] at hb
    unfold frs at hb
    rw [List.filterMap_cons,hf] at hb
    exact hb
theorem Inv.stkFree (I:Inv X pins σ H s):∀ b∈frs X.stack,H b=none:=fun b hb=>by
  rcases List.mem_cons.mp (I.stkSub b hb) with e | hb
  · rw [e];exact I.free
  · obtain ⟨_,o,ho,_⟩:=I.ok.funs.mem hb
    exact I.base.free b o ho (I.ok.frf b hb) fun z=>I.ok.exfs b z hb
theorem Inv.step {g':Array GenState} {t':Nat} {d':Drawn} {ch:List Addr} (I:Inv X pins σ H s)
    (hch:∀ b∈ch,(b∈X.ex∨X.s₀.heap.objs.size≤b)∧b≠X.env.locals∧(∀ x c,X.env.cells.lookup x=some c→c≠b)∧∀ p∈X.pn++pins,p.1≠b)
    (keep:∀ b o,b≠X.env.locals→b∉X.fs→b∉ch→s.heap.get? b=some o→H b=none→h'.get? b=some o)
    (slot:∀ b o,b≠X.env.locals→b∈X.fs→b∉ch→s.heap.get? b=some o→H b=none→∃ sl,h'.get? b=some { o with slots:=sl }) (free:∀ b o,b∉ch→s.heap.get? b=some o→H b=none→H' b=none)
    (there:∀ b o,b∉ch→s.heap.get? b=some o→∃ o',h'.get? b=some o')
    (tups:∀ b xs,H b=some (.tup xs)→H' b=some (.tup xs)) (frzs:∀ b o u,H b=some (.frz o u)→H' b=some (.frz o u)) (tbls:∀ b ps,H b=some (.tbl ps)→H' b=some (.tbl ps))
    (ns:∀ m,s.heap.Ns X.env.locals m→h'.Ns X.env.locals m) (hok:HOk X.prog X.w H' h') (hg:AllBare g') :
    Inv X pins σ H' { s with heap:=h',gens:=g',drawn:=d',toks:=t' }:=by
  have neL:∀ b o,X.s₀.heap.get? b=some o→b≠X.env.locals:=fun b o e=>Nat.ne_of_lt (Nat.lt_of_lt_of_le (Heap.lt_size e) I.ok.above)
  have neC:∀ b o,X.s₀.heap.get? b=some o→b∉X.ex→b∉ch:=fun b o e hx hb=>by
    rcases (hch b hb).1 with z | z
    · exact hx z
    · exact absurd (Nat.lt_of_lt_of_le (Heap.lt_size e) z) (Nat.lt_irrefl _)
  have cellK:∀ x c,X.env.cells.lookup x=some c→∀ v,s.heap.IsCell c v→h'.IsCell c v:=fun x c e v hq0=>by
    obtain ⟨o,ho,hd⟩:=hq0
    have nch:c∉ch:=fun z=>(hch c z).2.2.1 x c e rfl
    by_cases hc:c∈X.fs
    · obtain ⟨sl,q⟩:=slot c o (I.cne x c e) hc nch ho (I.freeC x c e)
      exact ⟨_,q,hd⟩
    · exact ⟨o,keep c o (I.cne x c e) hc nch ho (I.freeC x c e),hd⟩
  refine ⟨I.ok,I.os,hg,⟨fun b o e n hb hx=>?_,fun b o e n hb hx=>?_,fun b o e n hx=>?_,fun b o e hx=>?_,fun b xs e=>tups b xs (I.base.tups b xs e),fun b o xs e=>frzs b o xs (I.base.frzs b o xs e),fun b ps e=>tbls b ps (I.base.tbls b ps e)⟩,?_,fun x c e=>?_,?_,fun x c e=>?_,fun p hp=>?_,hok,I.len⟩
  · exact keep b o (neL b o e) hb (neC b o e hx) (I.base.keep b o e n hb hx) (I.base.free b o e n hx)
  · obtain ⟨sl,e1⟩:=I.base.slot b o e n hb hx
    obtain ⟨sl',e2⟩:=slot b _ (neL b o e) hb (neC b o e hx) e1 (I.base.free b o e n hx)
    exact ⟨sl',e2⟩
  · obtain ⟨o',e1⟩:=I.base.there b o e hx
    exact free b o' (neC b o e hx) e1 (I.base.free b o e n hx)
  · obtain ⟨o',e1⟩:=I.base.there b o e hx
    exact there b o' (neC b o e hx) e1
  · obtain ⟨m,hn,hl⟩:=I.loc
    refine ⟨m,ns m hn,fun i x v e1 e2 e3=>?_⟩
    obtain ⟨u,r,l⟩:=hl i x v e1 e2 e3
    refine ⟨u,r,?_⟩
    rcases l with l | ⟨k,c,e,z⟩
    · exact .inl l
    · exact .inr ⟨k,c,e,cellK x c e _ z⟩
  · obtain ⟨v,z⟩:=I.cell x c e
    exact ⟨v,cellK x c e v z⟩
  · obtain ⟨m,⟨o,_,_,ho,_⟩,_⟩:=I.loc
    exact free _ o (fun z=>(hch _ z).2.1 rfl) ho I.free
  · obtain ⟨v,o,ho,hd⟩:=I.cell x c e
    exact free c o (fun z=>(hch c z).2.2.1 x c e rfl) ho (I.freeC x c e)
  · obtain ⟨e,n,ne,nf,d⟩:=I.pin p hp
    have nch:p.1∉ch:=fun z=>(hch p.1 z).2.2.2 p hp rfl
    exact ⟨keep p.1 p.2 ne nf nch e n,free p.1 p.2 nch e n,ne,nf,d⟩
theorem Inv.un {t':Nat} (I:Inv X pins σ H s) (u:Un X.fs [] H H' s.heap h') (hok:HOk X.prog X.w H' h'):Inv X pins σ H' { s with heap:=h',toks:=t' }:=by
  obtain ⟨m,⟨o,es,ep,ho,r⟩,_⟩:=id I.loc
  obtain ⟨sl,hL⟩:=u.any ho I.free (by simp)
  exact I.step (g':=s.gens) (d':=s.drawn) (ch:=[]) (fun _ z=>nomatch z) (fun b o _ hb _ e n=>u.keep b o e n hb (by simp)) (fun b o _ hb _ e n=>u.slot b o e n hb (by simp)) (fun b o _ e n=>u.free b o e n (by simp)) (fun b o _ e=>u.there b o e (by simp)) u.tups u.frzs u.tbls (fun m' hm=>by
    obtain ⟨o',es',ep',ho',r'⟩:=hm
    rw [ho] at ho';cases ho'
    exact ⟨_,es',ep',hL,r'⟩) hok I.bare
theorem Inv.call {g':Array GenState} {t':Nat} {d':Drawn} {ch:List Addr} (I:Inv X pins σ H s) (u:Un (frs X.stack) ch H H' s.heap h') (hok:HOk X.prog X.w H' h') (hg:AllBare g')
    (hch:∀ b∈ch,(b∈X.ex∨X.s₀.heap.objs.size≤b)∧b≠X.env.locals∧(∀ x c,X.env.cells.lookup x=some c→c≠b)∧∀ p∈X.pn++pins,p.1≠b) :
    Inv X pins σ H' { s with heap:=h',gens:=g',drawn:=d',toks:=t' }:=by
  obtain ⟨m,⟨o,es,ep,ho,r⟩,_⟩:=id I.loc
  obtain ⟨sl,hL⟩:=u.any ho I.free fun z=>(hch _ z).2.1 rfl
  exact I.step (ch:=ch) hch (fun b o hL hb hc e n=>u.keep b o e n (fun z=>(List.mem_cons.mp (I.stkSub b z)).elim hL hb) hc) (fun b o _ _ hc e n=>u.any e n hc) (fun b o hc e n=>u.free b o e n hc) (fun b o hc e=>u.there b o e hc) u.tups u.frzs u.tbls (fun m' hm=>by
    obtain ⟨o',es',ep',ho',r'⟩:=hm
    rw [ho] at ho';cases ho'
    exact ⟨_,es',ep',hL,r'⟩) hok hg
theorem Inv.turned {t':Nat} {it:Addr} (I:Inv X pins σ H s) (k:∀ b o,b≠it→s.heap.get? b=some o→h'.get? b=some o) (hn:H it=none) (hL:it≠X.env.locals)
    (h1:it∈X.ex∨X.s₀.heap.objs.size≤it) (h2:∀ x c,X.env.cells.lookup x=some c→c≠it) (h3:∀ p∈X.pn++pins,p.1≠it):Inv X pins σ H { s with heap:=h',toks:=t' }:=by
  have nit:∀ b u,H b=some u→b≠it:=fun b u e z=>by rw [z,hn] at e;cases e
  refine I.step (g':=s.gens) (d':=s.drawn) (ch:=[it]) (fun b hb=>?_) (fun b o _ _ hc e _=>k b o (fun z=>hc (by simp [z])) e) (fun b o _ _ hc e _=>⟨o.slots,k b o (fun z=>hc (by simp [z])) e⟩) (fun _ _ _ _ n=>n)
    (fun b o hc e=>⟨o,k b o (fun z=>hc (by simp [z])) e⟩) (fun _ _ e=>e) (fun _ _ _ e=>e) (fun b ps e=>e) (fun m hm=>?_) (fun b u e=>?_) I.bare
  · have e:b=it:=by simpa using hb
    subst e
    exact ⟨h1,hL,h2,h3⟩
  · obtain ⟨o,es,ep,ho,r⟩:=hm
    exact ⟨o,es,ep,k _ o (Ne.symm hL) ho,r⟩
  · refine (I.hok b u e).stay (fun c v hc q=>k c v ?_ q) (fun _ q=>q) (fun _ _ q=>q) fun _ _ _ q=>q
    rcases hc with z | z
    · rw [z];exact nit b u e
    · exact nit c _ z
theorem Inv.tok (I:Inv X pins σ H s) (t:Nat):Inv X pins σ H { s with toks:=t }:=I.un (h':=s.heap) (t':=t) Un.refl I.hok
theorem Inv.kept {t':Nat} (I:Inv X pins σ H s) (k:∀ b u,s.heap.get? b=some u→h'.get? b=some u):Inv X pins σ H { s with heap:=h',toks:=t' }:=I.un (Un.kept k) (I.hok.kept k)
theorem Inv.laid {a:Addr} {o:HO} {t':Nat} (I:Inv X pins σ H s) (k:∀ b u,s.heap.get? b=some u→h'.get? b=some u) (hp:s.heap.objs.size≤a) (new:ObjOk X.prog X.w (upd H a o) h' a o) :
    Inv X pins σ (upd H a o) { s with heap:=h',toks:=t' }:=I.un (Un.laid k hp (I.hok.fresh hp)) (I.hok.laid k hp new)
theorem Inv.write {x e:Addr} {o:HO} {t':Nat} (I:Inv X pins σ H s) (mu:Mut (H x)) (he:e=x∨H e=some (.own x)) (k:∀ b u,b≠e→s.heap.get? b=some u→h'.get? b=some u) (heo:∃ u,h'.get? e=some u)
    (new:ObjOk X.prog X.w (upd H x o) h' x o):Inv X pins σ (upd H x o) { s with heap:=h',toks:=t' }:=I.un (Un.write mu he k heo) (I.hok.write mu he k heo new)
theorem Inv.pins_of {pins':List (Addr × Obj)} (I:Inv X pins σ H s) (h:∀ p∈pins',s.heap.get? p.1=some p.2∧H p.1=none∧p.1≠X.env.locals∧p.1∉X.fs∧∀ v,p.2.data≠.cell v):Inv X pins' σ H s :=
  ⟨I.ok,I.os,I.bare,I.base,I.loc,I.cell,I.free,I.freeC,fun p hp=>(List.mem_append.mp hp).elim (fun z=>I.pin p (List.mem_append_left _ z)) (h p),I.hok,I.len⟩
theorem qfD {N:List Str} (hN:N.Nodup) {i j:Nat} {x:Str} (a:N[i]?=some x) (b:N[j]?=some x):i=j:=by
  obtain ⟨h1,e1⟩:=List.getElem?_eq_some_iff.mp a
  obtain ⟨h2,e2⟩:=List.getElem?_eq_some_iff.mp b
  exact (List.getElem_inj hN).mp (e1.trans e2.symm)
theorem qeQ {M:Model} {A:Around} {E:Value→Shared→Prop} {i:Nat} {x:Str} {v:V} {u:Value} {Q:Unit→Shared→Prop} (I:Inv X pins σ H s) (hN:X.N.Nodup) (hi:X.N[i]?=some x) (hx:Loc X.env.scope x) (r:RelV v u)
    (h:∀ s',Inv X pins (σ.set i (some v)) H s'→(∃ a,Heap.SameBut a s.heap s'.heap∧(a=X.env.locals∨X.env.cells.lookup x=some a))→Q () s') (hf:X.fn x=true∨X.env.scope.names.lookup x=some .local:=by first | exact .inl rfl | exact .inr rfl | assumption):wpAny M A (storeName X.env x u) Q E s:=by
  obtain ⟨m,hn,hl⟩:=id I.loc
  have hcls:(X.env.scope.kind == .class || (X.env.scope.kind == .module && X.env.locals != X.env.globals))=false:=by rw [I.ok.kind];rfl
  have hiσ:i<σ.length:=by rw [I.len];exact (List.getElem?_eq_some_iff.mp hi).1
  have cne:=I.cne
  have tracked:∀ {a:Addr} {h':Heap},(∃ o,s.heap.get? a=some o∧H a=none)→Heap.SameBut a s.heap h'→HOk X.prog X.w H h':=fun {a h'} ha hs b ob e=>by
    obtain ⟨_,_,hfree⟩:=ha
    refine (I.hok b ob e).stay (fun c w' hc q=>(hs.2 c ?_).trans q) (fun _ q=>q) (fun _ _ q=>q) fun _ _ _ q=>q
    rintro rfl
    rcases hc with rfl | hc
    · rw [hfree] at e;cases e
    · rw [hfree] at hc;cases hc
  rcases hx with hk | hk
  · refine wpAny_storeName_local hk hn (fun h' hn' hs=>?_) hcls
    obtain ⟨oL,_,_,hoL,_⟩:=id hn
    refine h _ ⟨I.ok,I.os,I.bare,⟨fun b o e n hb hx=>?_,fun b o e n hb hx=>?_,I.base.free,fun b o e hx=>?_,I.base.tups,I.base.frzs,I.base.tbls⟩,⟨_,hn',fun j y v' e1 e2 e3=>?_⟩,fun y c e=>?_,I.free,I.freeC,fun p hp=>?_,tracked ⟨oL,hoL,I.free⟩ hs,by simpa using I.len⟩ ⟨_,hs,.inl rfl⟩
    · exact (hs.2 b (Nat.ne_of_lt (Nat.lt_of_lt_of_le (Heap.lt_size e) I.ok.above))).trans (I.base.keep b o e n hb hx)
    · obtain ⟨sl,e1⟩:=I.base.slot b o e n hb hx
      exact ⟨sl,(hs.2 b (Nat.ne_of_lt (Nat.lt_of_lt_of_le (Heap.lt_size e) I.ok.above))).trans e1⟩
    · obtain ⟨o',e1⟩:=I.base.there b o e hx
      exact ⟨o',(hs.2 b (Nat.ne_of_lt (Nat.lt_of_lt_of_le (Heap.lt_size e) I.ok.above))).trans e1⟩
    · by_cases hj:j=i
      · subst hj
        rw [hi] at e1;cases e1
        rw [List.getElem?_set_self hiσ] at e2
        cases e2
        exact ⟨u,r,.inl ⟨hk,by simp⟩⟩
      · rw [List.getElem?_set_ne (Ne.symm hj)] at e2
        obtain ⟨u',r',q⟩:=hl j y v' e1 e2 e3
        refine ⟨u',r',?_⟩
        rcases q with ⟨k,e⟩ | ⟨k,c,e,z⟩
        · refine .inl ⟨k,?_⟩
          have:y≠x:=fun e=>hj (qfD hN e1 (e ▸ hi))
          simp [this,e]
        · exact .inr ⟨k,c,e,z.sameBut hs (cne y c e)⟩
    · obtain ⟨w',z⟩:=I.cell y c e
      exact ⟨w',z.sameBut hs (cne y c e)⟩
    · obtain ⟨e,n,ne,nf,d⟩:=I.pin p hp
      exact ⟨(hs.2 p.1 ne).trans e,n,ne,nf,d⟩
  · have hfn:X.fn x=true:=by
      rcases hf with z | z
      · exact z
      · rw [z] at hk;cases hk
    obtain ⟨c,hc⟩:=I.ok.has x (.inl hk)
    obtain ⟨w',z⟩:=I.cell x c hc
    refine wpAny_storeName_cell I.ok.kind hk hc z (fun h' hc' hs=>?_)
    obtain ⟨oc,hoc,hocd⟩:=id z
    refine h { s with heap:=h' } ⟨I.ok,I.os,I.bare,⟨fun b o e n hb hx=>?_,fun b o e n hb hx=>?_,I.base.free,fun b o e hx=>?_,I.base.tups,I.base.frzs,I.base.tbls⟩,⟨m,hn.sameBut hs (Ne.symm (cne x c hc)),fun j y v' e1 e2 e3=>?_⟩,fun y c' e=>?_,I.free,I.freeC,fun p hp=>?_,tracked ⟨oc,hoc,I.freeC x c hc⟩ hs,by simpa using I.len⟩ ⟨c,hs,.inr hc⟩
    · exact (hs.2 b (Nat.ne_of_lt (Nat.lt_of_lt_of_le (Heap.lt_size e) (I.ok.cab x c hfn hc)))).trans (I.base.keep b o e n hb hx)
    · obtain ⟨sl,e1⟩:=I.base.slot b o e n hb hx
      exact ⟨sl,(hs.2 b (Nat.ne_of_lt (Nat.lt_of_lt_of_le (Heap.lt_size e) (I.ok.cab x c hfn hc)))).trans e1⟩
    · obtain ⟨o',e1⟩:=I.base.there b o e hx
      exact ⟨o',(hs.2 b (Nat.ne_of_lt (Nat.lt_of_lt_of_le (Heap.lt_size e) (I.ok.cab x c hfn hc)))).trans e1⟩
    · by_cases hj:j=i
      · subst hj
        rw [hi] at e1;cases e1
        rw [List.getElem?_set_self hiσ] at e2
        cases e2
        exact ⟨u,r,.inr ⟨.inl hk,c,hc,hc'⟩⟩
      · rw [List.getElem?_set_ne (Ne.symm hj)] at e2
        obtain ⟨u',r',q⟩:=hl j y v' e1 e2 e3
        refine ⟨u',r',?_⟩
        rcases q with q | ⟨k,c',e,z'⟩
        · exact .inl q
        · refine .inr ⟨k,c',e,z'.sameBut hs ?_⟩
          rintro rfl
          exact hj (qfD hN e1 (I.ok.inj _ _ _ e hc ▸ hi))
    · by_cases hcc:c'=c
      · subst hcc;exact ⟨_,hc'⟩
      · obtain ⟨w2,z2⟩:=I.cell y c' e
        exact ⟨w2,z2.sameBut hs hcc⟩
    · obtain ⟨e,n,ne,nf,d⟩:=I.pin p hp
      refine ⟨(hs.2 p.1 ?_).trans e,n,ne,nf,d⟩
      intro q
      rw [q,hoc] at e
      have q':oc=p.2:=Option.some.inj e
      exact d w' (by rw [← q'];exact hocd)
theorem qei {M:Model} {A:Around} {E:Value→Shared→Prop} {i:Nat} {x:Str} {v:V} {u:Value} {Q:Unit→Shared→Prop} (I:Inv X pins σ H s) (hN:X.N.Nodup) (hi:X.N[i]?=some x) (hx:Loc X.env.scope x) (r:RelV v u)
    (h:∀ s',Inv X pins (σ.set i (some v)) H s'→Q () s') (hf:X.fn x=true∨X.env.scope.names.lookup x=some .local:=by first | exact .inl rfl | exact .inr rfl | assumption):wpAny M A (storeName X.env x u) Q E s :=
  qeQ I hN hi hx r (fun s' I' _=>h s' I') hf
theorem Inv.call' {s':Shared} {ch:List Addr} (I:Inv X pins σ H s) (ho:s'.os=s.os) (u:Un (frs X.stack) ch H H' s.heap s'.heap) (hok:HOk X.prog X.w H' s'.heap) (hg:AllBare s'.gens)
    (hch:∀ b∈ch,(b∈X.ex∨X.s₀.heap.objs.size≤b)∧b≠X.env.locals∧(∀ x c,X.env.cells.lookup x=some c→c≠b)∧∀ p∈X.pn++pins,p.1≠b):Inv X pins σ H' s':=by
  obtain ⟨h',g',d',t',o'⟩:=s'
  have e:o'=s.os:=ho
  subst e
  exact I.call (g':=g') (t':=t') (d':=d') u hok hg hch
end
abbrev XK:=Value→Option Addr→Hp→Prop
abbrev St:=List (Option V)
abbrev VK:=V→Hp→Prop
abbrev TE:=St→Hp→VK→Prop
abbrev TT:=St→Hp→(Bool→Hp→Prop)→Prop
abbrev TA:=St→Hp→(List V→Hp→Prop)→Prop
structure Ends where
  nx:St→Hp→Prop
  rt:VK
  bk:St→Hp→Prop:=fun _ _=>False
  ct:St→Hp→Prop:=fun _ _=>False
abbrev TS:=Ends→St→Hp→Prop
def EP (X:Cx) (pins:List (Addr × Obj)) (σ:St) (Q:VK) (u:Value) (s':Shared):Prop:=∃ v H',Inv X pins σ H' s'∧RelV v u∧Q v H'
def TP (X:Cx) (pins:List (Addr × Obj)) (σ:St) (Q:Bool→Hp→Prop) (b:Bool) (s':Shared):Prop:=∃ H',Inv X pins σ H' s'∧Q b H'
def AP (X:Cx) (pins:List (Addr × Obj)) (σ:St) (Q:List V→Hp→Prop) (us:List Value) (s':Shared):Prop:=∃ vs H',Inv X pins σ H' s'∧Vals vs us∧Q vs H'
def SP (X:Cx) (pins:List (Addr × Obj)) (D:Ends) (f:Flow) (s':Shared):Prop :=
  match f with
  | .next=>∃ σ' H',Inv X pins σ' H' s'∧D.nx σ' H'
  | .brk=>∃ σ' H',Inv X pins σ' H' s'∧D.bk σ' H'
  | .cont=>∃ σ' H',Inv X pins σ' H' s'∧D.ct σ' H'
  | .ret u=>∃ v σ' H',Inv X pins σ' H' s'∧RelV v u∧D.rt v H'
def PE (X:Cx) (e:Expr) (t:TE):Prop :=
  ∀ (pins:List (Addr × Obj)) (s:Shared) (σ:St) (H:Hp) (Q:VK),Inv X pins σ H s→t σ H Q→wpAny (model X.prog X.w) X.A (eval e X.env) (EP X pins σ Q) X.xe s
def PT (X:Cx) (e:Expr) (t:TT):Prop :=
  ∀ (pins:List (Addr × Obj)) (s:Shared) (σ:St) (H:Hp) (Q:Bool→Hp→Prop),Inv X pins σ H s→t σ H Q→wpAny (model X.prog X.w) X.A (isTrue e X.env (eval e X.env)) (TP X pins σ Q) X.xe s
def PW (X:Cx) (e:Expr) (t:TT):Prop :=
  ∀ (whole:Sem Value) (pins:List (Addr × Obj)) (s:Shared) (σ:St) (H:Hp) (Q:Bool→Hp→Prop),Inv X pins σ H s→t σ H Q→wpAny (model X.prog X.w) X.A (isTrue e X.env whole) (TP X pins σ Q) X.xe s
theorem PW.pt {X:Cx} {e:Expr} {t:TT} (h:PW X e t):PT X e t:=h _
def PA (X:Cx) (es:List Expr) (t:TA):Prop :=
  ∀ (pos:Pos) (pins:List (Addr × Obj)) (s:Shared) (σ:St) (H:Hp) (Q:List V→Hp→Prop),Inv X pins σ H s→t σ H Q→wpAny (model X.prog X.w) X.A (spliced (backTo pos (starEach es X.env))) (AP X pins σ Q) X.xe s
def PS (X:Cx) (st:Stmt) (t:TS):Prop :=
  ∀ (pins:List (Addr × Obj)) (s:Shared) (σ:St) (H:Hp) (D:Ends),Inv X pins σ H s→t D σ H→wpAny (model X.prog X.w) X.A (exec st X.env) (SP X pins D) X.xe s
def PSs (X:Cx) (st:List Stmt) (t:TS):Prop :=
  ∀ (pins:List (Addr × Obj)) (s:Shared) (σ:St) (H:Hp) (D:Ends),Inv X pins σ H s→t D σ H→wpAny (model X.prog X.w) X.A (execs st X.env) (SP X pins D) X.xe s
theorem thn {α:Type} {t:Sem α} {Q Q':α→Shared→Prop} {M:Model} {A:Around} {E:Value→Shared→Prop} {s:Shared} (h:wpAny M A t Q E s) (hQ:∀ a s,Q a s→Q' a s):wpAny M A t Q' E s:=wpAny_mono h hQ fun _ _ x=>x
section
variable {X : Cx}
def qma (i:Nat):TE:=fun σ H Q=>∃ v,σ[i]?=some (some v)∧Q v H
def tC (v:V):TE:=fun _ H Q=>Q v H
theorem qgG {i:Nat} {x:Str} {pos:Pos} (hN:X.N[i]?=some x) (hv:Vis X.env.scope x) (hd:(x == ("__debug__":Str))=false:=by decide) (hcd:(x == ("__classdict__":Str))=false:=by decide):PE X (.Name x pos) (qma i):=by
  intro pins s σ H Q I h
  obtain ⟨v,e,h⟩:=h
  obtain ⟨m,hn,hl⟩:=I.loc
  obtain ⟨u,r,l⟩:=hl i x v hN e hv
  have fin:EP X pins σ Q u s:=⟨v,H,I,r,h⟩
  rcases l with ⟨hk,hm⟩ | ⟨hk,c,hc,hcell⟩
  · exact wpAny_Name (wpAny_loadName_local I.ok.kind hk hn hm fin) hd
  · rcases hk with hk | hk
    · exact wpAny_Name (wpAny_loadName_cell I.ok.kind hk hc hcell fin) hd
    · exact wpAny_Name (wpAny_loadName_free I.ok.kind hk hc hcell fin hcd) hd
theorem qkN {i j pos}:PE X (.Constant (.int i) j pos) (tC (.int i)):=fun _ _ _ H _ I h=>wpAny_Constant_int ⟨.int i,H,I.tok _,⟨_,rfl⟩,h⟩
theorem qmD {b j pos}:PE X (.Constant (.bool b) j pos) (tC (.bl b)):=fun _ _ _ H _ I h=>Constant_bool ⟨.bl b,H,I,rfl,h⟩
theorem qlf {j pos}:PE X (.Constant .none j pos) (tC .non):=fun _ _ _ H _ I h=>Constant_none ⟨.non,H,I,rfl,h⟩
theorem qky {x j pos}:PE X (.Constant (.str x) j pos) (tC (.str x)):=fun _ _ _ H _ I h=>Calls.Constant_str ⟨.str x,H,I.tok _,⟨_,rfl⟩,h⟩
def Gl (X:Cx) (x:Str):Prop:=X.env.kindOf x=some .globalImplicit
theorem qbS {E:Value→Shared→Prop} {pins:List (Addr × Obj)} {s:Shared} {σ:St} {H:Hp} {x:Str} {u:Value} {pos:Pos} {Q:Value→Shared→Prop} (I:Inv X pins σ H s) (hg:Gl X x) (hm:X.mg x=some u) (h:Q u s)
    (hd:(x == ("__debug__":Str))=false:=by decide):wpAny (model X.prog X.w) X.A (eval (.Name x pos) X.env) Q E s :=
  Calls.Name_function_global I.ok.kind hg (Calls.loadGlobal_global (by rw [I.ok.glob];exact I.mod.glob.keeps I.bk) hm h) hd
theorem qev {E:Value→Shared→Prop} {pins:List (Addr × Obj)} {s:Shared} {σ:St} {H:Hp} {x:Str} {u:Value} {pos:Pos} {Q:Value→Shared→Prop} (I:Inv X pins σ H s) (hg:Gl X x) (hm:X.mg x=none) (hv:bootBuiltins x=some u) (h:Q u s)
    (hn:x≠"__name__":=by decide) (hd:(x == ("__debug__":Str))=false:=by decide):wpAny (model X.prog X.w) X.A (eval (.Name x pos) X.env) Q E s:=by
  obtain ⟨mb,h1,h2⟩:=I.mod.blt
  exact Calls.Name_function_global I.ok.kind hg (Calls.loadGlobal_builtin (by rw [I.ok.glob];exact I.mod.glob.keeps I.bk) hm (by rw [I.ok.blt];exact h1.keeps I.bk) ((h2 x hn).trans hv) h) hd
theorem qgD {x:Str} {v:V} {u:Value} {pos:Pos} (hg:Gl X x) (hm:X.mg x=some u) (r:RelV v u) (hd:(x == ("__debug__":Str))=false:=by decide):PE X (.Name x pos) (tC v) :=
  fun _ _ _ H _ I h=>qbS I hg hm ⟨v,H,I,r,h⟩ hd
theorem qci {x:Str} {v:V} {u:Value} {pos:Pos} (hg:Gl X x) (hm:X.mg x=none) (hv:bootBuiltins x=some u) (r:RelV v u) (hn:x≠"__name__":=by decide) (hd:(x == ("__debug__":Str))=false:=by decide):PE X (.Name x pos) (tC v) :=
  fun _ _ _ H _ I h=>qev I hg hm hv ⟨v,H,I,r,h⟩ hn hd
variable {a b : Expr} {ta tb : TE} {pos : Pos}
variable {tA tB' : TT} {rest : List Expr}
def qnZ (t u:TT):TT:=fun σ H Q=>t σ H fun c H1=>if c=true then u σ H1 Q else Q false H1
def tOr (t u:TT):TT:=fun σ H Q=>t σ H fun c H1=>if c=true then Q true H1 else u σ H1 Q
def qoq (t:TT):TT:=fun σ H Q=>t σ H fun c H1=>Q (!c) H1
theorem qgZ (ha:PT X a tA):PW X (.BoolOp .And [a] pos) tA:=by
  intro wh pins s σ H Q I h
  refine isTrue_and (thn (ha pins s σ H Q I h) fun c s1 e=>?_)
  cases c with
  | true=>exact isTrue_and_nil e
  | false=>exact e
theorem qiK (ha:PT X a tA):PW X (.BoolOp .Or [a] pos) tA:=by
  intro wh pins s σ H Q I h
  refine isTrue_or (thn (ha pins s σ H Q I h) fun c s1 e=>?_)
  cases c with
  | false=>exact isTrue_or_nil e
  | true=>exact e
theorem qiN (ha:PT X a tA) (hb:PW X (.BoolOp .And (b::rest) pos) tB'):PW X (.BoolOp .And (a::b::rest) pos) (qnZ tA tB'):=by
  intro wh pins s σ H Q I h
  refine isTrue_and (thn (ha pins s σ H _ I h) fun c s1 hq0=>?_)
  obtain ⟨H1,I1,q1⟩:=hq0
  cases c with
  | true=>exact hb wh pins s1 σ H1 Q I1 q1
  | false=>exact ⟨H1,I1,q1⟩
theorem qlD (ha:PT X a tA) (hb:PW X (.BoolOp .Or (b::rest) pos) tB'):PW X (.BoolOp .Or (a::b::rest) pos) (tOr tA tB'):=by
  intro wh pins s σ H Q I h
  refine isTrue_or (thn (ha pins s σ H _ I h) fun c s1 hq0=>?_)
  obtain ⟨H1,I1,q1⟩:=hq0
  cases c with
  | true=>exact ⟨H1,I1,q1⟩
  | false=>exact hb wh pins s1 σ H1 Q I1 q1
theorem qiT (ha:PT X a tA):PT X (.UnaryOp .Not a pos) (qoq tA):=by
  intro pins s σ H Q I h
  exact isTrue_not (ha pins s σ H (fun c H1=>Q (!c) H1) I h)
def qmp (ta tb:TE):TE:=fun σ H Q=>ta σ H fun x H1=>∃ c,x=.bl c∧if c=true then tb σ H1 Q else Q (.bl false) H1
def qnf (ta:TE):TE:=fun σ H Q=>ta σ H fun x H1=>∃ c,x=.bl c∧Q (.bl (!c)) H1
theorem qlS {op} {t:TE} (h:PE X a t):PE X (.BoolOp op [a] pos) t:=fun pins s σ H Q I hw=>BoolOp_one (h pins s σ H Q I hw)
theorem qlr (ha:PE X a ta) (hb:PE X (.BoolOp .And (b::rest) pos) tb):PE X (.BoolOp .And (a::b::rest) pos) (qmp ta tb):=by
  intro pins s σ H Q I h
  refine BoolOp_and (thn (ha pins s σ H _ I h) fun v s1 hq0=>?_)
  obtain ⟨x,H1,I1,r1,q1⟩:=hq0
  obtain ⟨c,rfl,q1⟩:=q1
  cases r1
  refine wpAny_truthy_bool ?_
  cases c with
  | true=>exact hb pins s1 σ H1 Q I1 q1
  | false=>exact ⟨.bl false,H1,I1,rfl,q1⟩
theorem qll (ha:PE X a ta):PE X (.UnaryOp .Not a pos) (qnf ta):=by
  intro pins s σ H Q I h
  refine UnaryOp_ (thn (ha pins s σ H _ I h) fun v s1 hq0=>?_)
  obtain ⟨x,H1,I1,r1,q1⟩:=hq0
  obtain ⟨c,rfl,q1⟩:=q1
  cases r1
  exact not_of (wpAny_truthy_bool ⟨.bl (!c),H1,I1,rfl,q1⟩)
def tIf (t:TT) (ta tb:TE):TE:=fun σ H Q=>t σ H fun c H1=>if c=true then ta σ H1 Q else tb σ H1 Q
theorem qii {c:Expr} (hc:PT X c tA) (ha:PE X a ta) (hb:PE X b tb):PE X (.IfExp c a b pos) (tIf tA ta tb):=by
  intro pins s σ H Q I h
  refine wpAny_IfExp (thn (hc pins s σ H _ I h) fun d s1 hq0=>?_)
  obtain ⟨H1,I1,q1⟩:=hq0
  cases d with
  | true=>exact ha pins s1 σ H1 Q I1 q1
  | false=>exact hb pins s1 σ H1 Q I1 q1
end
def SqL (K:PySem.W.Frag) (H:Hp) (a:Addr) (xs:List V):Prop :=
  Rd H a (.lst xs) ∨
    ∃ (o:Obj) (its:Array Value) (n:Nat),K.lookup a=some o∧o.cls=.type "list"∧o.dict=none∧o.data=.seq its n∧its.size≤sizeLine∧Vals xs its.toList
def SqT (K:PySem.W.Frag) (H:Hp) (a:Addr) (xs:List V):Prop :=
  Rd H a (.tup xs) ∨
    ∃ (o:Obj) (its:Array Value) (n:Nat),K.lookup a=some o∧o.cls=.type "tuple"∧o.data=.seq its n∧its.size≤sizeLine∧Vals xs its.toList
def qom:Value→Option V
  | .none=>some .non
  | .bool b=>some (.bl b)
  | .int i _=>some (.int i)
  | .str x _=>some (.str x)
  | .bytes b _=>some (.byt b)
  | .float b _=>some (.flt b)
  | .ref a=>some (.ref a)
  | .type n=>some (.ty n)
  | _=>none
theorem RelV.abs {x:V} {u:Value} (r:RelV x u):qom u=some x:=by
  cases x with
  | non=>cases r;rfl
  | bl _=>cases r;rfl
  | int _=>obtain ⟨t,rfl⟩:=r;rfl
  | str _=>obtain ⟨t,rfl⟩:=r;rfl
  | byt _=>obtain ⟨t,rfl⟩:=r;rfl
  | flt _=>obtain ⟨t,rfl⟩:=r;rfl
  | ref _=>cases r;rfl
  | ty _=>cases r;rfl
theorem RelV.inj {x y:V} {u:Value} (r:RelV x u) (q:RelV y u):x=y:=Option.some.inj (r.abs.symm.trans q.abs)
theorem Vals.inj:∀ {xs ys:List V} {us:List Value},Vals xs us→Vals ys us→xs=ys
  | _,_,_,.nil,.nil=>rfl
  | _,_,_,.cons r t,.cons r' t'=>by rw [r.inj r',Vals.inj t t']
section
variable {X : Cx} {pins : List (Addr × Obj)} {σ : St} {H : Hp} {s : Shared} {a : Addr} {xs ys : List V}
theorem SqL.of {K:PySem.W.Frag} (h:H a=some (.lst xs)):SqL K H a xs:=.inl (.inl h)
theorem SqT.of {K:PySem.W.Frag} (h:H a=some (.tup xs)):SqT K H a xs:=.inl (.inl h)
theorem Inv.list (I:Inv X pins σ H s) (h:SqL X.K H a xs):∃ its:List Value,Vals xs its∧PlainL s.heap a its.toArray∧xs.length≤sizeLine:=by
  rcases h with h | ⟨o,its,n,hk,hc,hd,hs,hz,r⟩
  · obtain ⟨z,its,n,r,e⟩:=h.ok I.hok
    exact ⟨its,r,⟨_,n,e,rfl,rfl,rfl⟩,z⟩
  · refine ⟨its.toList,r,⟨o,n,I.kIn a o hk,hc,hd,by simpa using hs⟩,?_⟩
    have e:=r.length
    simp only [Array.length_toList] at e
    omega
theorem Inv.tuple (I:Inv X pins σ H s) (h:SqT X.K H a xs):∃ its:List Value,Vals xs its∧IsTup s.heap a its.toArray∧xs.length≤sizeLine:=by
  rcases h with h | ⟨o,its,n,hk,hc,hs,hz,r⟩
  · obtain ⟨z,its,r,p⟩:=h.ok I.hok
    exact ⟨its,r,p.tup,z⟩
  · refine ⟨its.toList,r,⟨o,I.kIn a o hk,hc,n,by simpa using hs⟩,?_⟩
    have e:=r.length
    simp only [Array.length_toList] at e
    omega
theorem Inv.list_inj (I:Inv X pins σ H s) (h:SqL X.K H a xs) (h':SqL X.K H a ys):xs=ys:=by
  obtain ⟨its,r,⟨o,n,e,_,_,d⟩,_⟩:=I.list h
  obtain ⟨its',r',⟨o',n',e',_,_,d'⟩,_⟩:=I.list h'
  rw [e] at e';cases e'
  rw [d] at d'
  injection d' with d1 _
  have:its=its':=by simpa using congrArg Array.toList d1
  subst this
  exact r.inj r'
theorem Inv.tuple_inj (I:Inv X pins σ H s) (h:SqT X.K H a xs) (h':SqT X.K H a ys):xs=ys:=by
  obtain ⟨its,r,⟨o,e,_,n,d⟩,_⟩:=I.tuple h
  obtain ⟨its',r',⟨o',e',_,n',d'⟩,_⟩:=I.tuple h'
  rw [e] at e';cases e'
  rw [d] at d'
  injection d' with d1 _
  have:its=its':=by simpa using congrArg Array.toList d1
  subst this
  exact r.inj r'
end
abbrev Cx.wish (X:Cx) (E:Value→Shared→Prop):Cx:={ X with xe:=E }
abbrev Cx.nox (X:Cx):Cx:=X.wish fun _ _=>False
theorem Cx.Ok.wish {X:Cx} (ok:X.Ok) (E:Value→Shared→Prop):(X.wish E).Ok :=
  ⟨ok.mod,ok.kind,ok.glob,ok.blt,ok.above,ok.inj,ok.has,ok.cab,ok.hd,ok.frames,ok.stk,ok.exf,ok.bs,ok.bsz,ok.noex,ok.exfs,ok.funs,ok.frf⟩
theorem Cx.Ok.unwish {X:Cx} {E:Value→Shared→Prop} (ok:(X.wish E).Ok):X.Ok :=
  ⟨ok.mod,ok.kind,ok.glob,ok.blt,ok.above,ok.inj,ok.has,ok.cab,ok.hd,ok.frames,ok.stk,ok.exf,ok.bs,ok.bsz,ok.noex,ok.exfs,ok.funs,ok.frf⟩
section
variable {X : Cx} {pins : List (Addr × Obj)} {σ : St} {H : Hp} {s : Shared} {E : Value → Shared → Prop}
theorem Inv.wish (I:Inv X pins σ H s) (E:Value→Shared→Prop):Inv (X.wish E) pins σ H s:=⟨I.ok.wish E,I.os,I.bare,I.base,I.loc,I.cell,I.free,I.freeC,I.pin,I.hok,I.len⟩
theorem Inv.unwish (I:Inv (X.wish E) pins σ H s):Inv X pins σ H s:=⟨I.ok.unwish,I.os,I.bare,I.base,I.loc,I.cell,I.free,I.freeC,I.pin,I.hok,I.len⟩
theorem SP.unwish {D:Ends} {f:Flow} {s':Shared} (h:SP (X.wish E) pins D f s'):SP X pins D f s':=by
  cases f with
  | next=>obtain ⟨σ',H',I,q⟩:=h;exact ⟨σ',H',I.unwish,q⟩
  | brk=>obtain ⟨σ',H',I,q⟩:=h;exact ⟨σ',H',I.unwish,q⟩
  | cont=>obtain ⟨σ',H',I,q⟩:=h;exact ⟨σ',H',I.unwish,q⟩
  | ret u=>obtain ⟨v,σ',H',I,r,q⟩:=h;exact ⟨v,σ',H',I.unwish,r,q⟩
theorem PSs.nox {st:List Stmt} {t:TS} (h:PSs X.nox st t):PSs X st t:=fun pins s σ H D I hw =>
  wpAny_mono (h pins s σ H D (I.wish _) hw) (fun _ _ q=>q.unwish) fun _ _ z=>False.elim z
end
section
variable {X : Cx} {st : Stmt} {rest : List Stmt} {t u : TS} {e : Expr} {te : TE} {pos : Pos}
def qnt:TS:=fun D σ H=>D.nx σ H
def qoN (t u:TS):TS:=fun D σ H=>t { D with nx:=u D } σ H
theorem pss_nil:PSs X [] qnt:=fun _ _ σ H _ I h=>wpAny_execs_nil ⟨σ,H,I,h⟩
theorem qc0 (h1:PS X st t) (h2:PSs X rest u):PSs X (st::rest) (qoN t u):=by
  intro pins s σ H D I h
  refine wpAny_execs_cons (thn (h1 pins s σ H { D with nx:=u D } I h) fun f s1 q=>?_)
  cases f with
  | next =>
    obtain ⟨σ',H',I',q⟩:=q
    exact h2 pins s1 σ' H' D I' q
  | ret v=>exact q
  | brk=>exact q
  | cont=>exact q
theorem qe5 (h1:PS X st t):PSs X [st] t:=by
  intro pins s σ H D I h
  refine wpAny_execs_cons (thn (h1 pins s σ H D I h) fun f s1 q=>?_)
  cases f with
  | next=>exact wpAny_execs_nil q
  | ret v=>exact q
  | brk=>exact q
  | cont=>exact q
theorem Inv.quiet {pins:List (Addr × Obj)} {σ:St} {H:Hp} {s:Shared} (I:Inv X pins σ H s):interactive X.env=false:=by simp [interactive,I.ok.kind]
def qmX (te:TE):TS:=fun D σ H=>te σ H fun _ H1=>D.nx σ H1
theorem qfn (he:PE X e te) (hs:swapsWith e none pos.line X.env=pure false:=by rfl):PS X (.Expr e pos) (qmX te):=by
  intro pins s σ H D I h
  exact wpAny_Expr_any (thn (he pins s σ H _ I h) fun v s1 hq0=>by obtain ⟨x,H1,I1,r1,q1⟩:=hq0;exact ⟨σ,H1,I1,q1⟩) I.quiet hs
def qoE (te:TE):TS:=fun D σ H=>te σ H D.rt
theorem qi4 (he:PE X e te):PS X (.Return (some e) pos) (qoE te):=by
  intro pins s σ H D I h
  exact wpAny_Return_some (thn (he pins s σ H _ I h) fun v s1 hq0=>by obtain ⟨x,H1,I1,r1,q1⟩:=hq0;exact ⟨x,σ,H1,I1,r1,q1⟩)
def qoR (c:TT) (t u:TS):TS:=fun D σ H=>c σ H fun b H1=>if b=true then t D σ H1 else u D σ H1
theorem qkF {c:Expr} {a b:List Stmt} {tc:TT} (hc:PT X c tc) (ha:PSs X a t) (hb:PSs X b u):PS X (.If c a b pos) (qoR tc t u):=by
  intro pins s σ H D I h
  refine wpAny_If (thn (hc pins s σ H _ I h) fun d s1 hq0=>?_)
  obtain ⟨H1,I1,q1⟩:=hq0
  cases d with
  | true=>exact ha pins s1 σ H1 D I1 q1
  | false=>exact hb pins s1 σ H1 D I1 q1
def qkL:TS:=fun _ _ _=>False
theorem ps_never:PS X st qkL:=fun _ _ _ _ _ _ h=>h.elim
end
abbrev TG:=V→St→Hp→(St→Hp→Prop)→Prop
abbrev TGs:=List V→St→Hp→(St→Hp→Prop)→Prop
def PG (X:Cx) (target:Expr) (t:TG):Prop :=
  ∀ (pins:List (Addr × Obj)) (s:Shared) (σ:St) (H:Hp) (v:V) (u:Value) (Q:St→Hp→Prop),Inv X pins σ H s→RelV v u→t v σ H Q →
    wpAny (model X.prog X.w) X.A (assign target X.env u) (fun _ s'=>∃ σ' H',Inv X pins σ' H' s'∧Q σ' H') X.xe s
def PGs (X:Cx) (ts:List Expr) (t:TGs):Prop :=
  ∀ (pins:List (Addr × Obj)) (s:Shared) (σ:St) (H:Hp) (vs:List V) (us:List Value) (Q:St→Hp→Prop),Inv X pins σ H s→Vals vs us→t vs σ H Q →
    wpAny (model X.prog X.w) X.A (assignInOrder ((assignEach ts X.env).map (·.2)) us) (fun _ s'=>∃ σ' H',Inv X pins σ' H' s'∧Q σ' H') X.xe s
abbrev qlw:=V→V→V→Hp→(Hp→Prop)→Prop
def qmM (X:Cx) (t:qlw):Prop :=
  ∀ (pins:List (Addr × Obj)) (s:Shared) (σ:St) (H:Hp) (o i v:V) (ov iv u:Value) (Q:Hp→Prop),Inv X pins σ H s→RelV o ov→RelV i iv→RelV v u→t o i v H Q →
    wpAny (model X.prog X.w) X.A (setItem ov iv u) (fun _ s'=>∃ H',Inv X pins σ H' s'∧Q H') X.xe s
abbrev TIp:=V→V→Hp→VK→Prop
def PIp (X:Cx) (op:Operator) (t:TIp):Prop :=
  ∀ (pins:List (Addr × Obj)) (s:Shared) (σ:St) (H:Hp) (x y:V) (v u:Value) (Q:VK),Inv X pins σ H s→RelV x v→RelV y u→t x y H Q →
    wpAny (model X.prog X.w) X.A (inplaceOp op v u) (EP X pins σ Q) X.xe s
section
variable {X : Cx} {pos : Pos}
def qj8 (i:Nat):TG:=fun v σ H Q=>Q (σ.set i (some v)) H
theorem qhf {i:Nat} {x:Str} (hN:X.N.Nodup) (hi:X.N[i]?=some x) (hx:Loc X.env.scope x) (hf:X.fn x=true∨X.env.scope.names.lookup x=some .local:=by first | exact .inl rfl | exact .inr rfl | assumption):PG X (.Name x pos) (qj8 i):=by
  intro pins s σ H v u Q I r h
  exact wpAny_assign_Name (qei I hN hi hx r (fun s' I'=>⟨_,H,I',h⟩) hf)
def qos:TGs:=fun vs σ H Q=>vs=[]∧Q σ H
def qmY (t:TG) (u:TGs):TGs:=fun vs σ H Q=>∃ v r,vs=v::r∧t v σ H fun σ' H'=>u r σ' H' Q
theorem pgs_nil:PGs X [] qos:=by
  intro pins s σ H vs us Q I r h
  obtain ⟨e,h⟩:=h
  subst e
  cases r
  exact assignInOrder_nil ⟨σ,H,I,h⟩
theorem qfF {e:Expr} {es:List Expr} {t:TG} {u:TGs} (h1:PG X e t) (h2:PGs X es u)
    (hs:(assignEach (e::es) X.env).map (·.2)=assign e X.env::(assignEach es X.env).map (·.2):=by rfl):PGs X (e::es) (qmY t u):=by
  intro pins s σ H vs us Q I r h
  obtain ⟨v,vr,e1,h⟩:=h
  subst e1
  cases r with
  | cons r rr =>
    rw [hs]
    refine assignInOrder_cons (thn (h1 pins s σ H _ _ _ I r h) fun _ s1 hq0=>?_)
    obtain ⟨σ1,H1,I1,q1⟩:=hq0
    exact h2 pins s1 σ1 H1 _ _ Q I1 rr q1
def qnb (K:PySem.W.Frag) (n:Nat) (t:TGs):TG:=fun v σ H Q=>∃ a xs,v=.ref a∧SqT K H a xs∧xs.length=n∧t xs σ H Q
theorem qkM {es:List Expr} {k:Nat} {t:TGs} {n:Nat} (hc:X.calm=true) (h:PGs X es t)
    (hn:(assignEach es X.env).length=n:=by rfl) (hst:(assignEach es X.env).findIdx? (·.1)=none:=by rfl):PG X (.Tuple es k pos) (qnb X.K n t):=by
  intro pins s σ H v u Q I r hw
  obtain ⟨a,xs,e1,hq,hl,hw⟩:=hw
  subst e1
  cases r
  obtain ⟨its,rv,ht,hz⟩:=I.tuple hq
  refine assign_Tuple_tuple (I.ok.hd hc) ht (by simp [hn,← hl,rv.length]) hst fun h' hx=>?_
  have I1:Inv X pins σ H { s with heap:=h' }:=I.kept (t':=s.toks) fun b o e=>hx b o (Nat.ne_of_lt (Heap.lt_size e)) e
  exact h pins _ σ H xs _ Q I1 (by simpa using rv) hw
def qoG (to ti:TE) (t:qlw):TG:=fun v σ H Q=>to σ H fun o H1=>ti σ H1 fun i H2=>t o i v H2 fun H3=>Q σ H3
theorem qln {o i:Expr} {to ti:TE} {t:qlw} (ho:PE X o to) (hi:PE X i ti) (hs:qmM X t)
    (ha:∀ v,assign (.Subscript o i pos) X.env v=(do
      let ov ← holding [v] (eval o X.env)
      let iv ← holding [v,ov] (eval i X.env)
      standAt pos
      holding [v,ov,iv] (setItem ov iv v)
      release [v,ov,iv] []):=by intro _;rfl):PG X (.Subscript o i pos) (qoG to ti t):=by
  intro pins s σ H v u Q I r h
  rw [ha]
  refine wpAny_bind (wpAny_holding (thn (ho pins s σ H _ I h) fun ov s1 hq0=>?_))
  obtain ⟨x,H1,I1,r1,q1⟩:=hq0
  refine wpAny_bind (wpAny_holding (thn (hi pins s1 σ H1 _ I1 q1) fun iv s2 hq1=>?_))
  obtain ⟨y,H2,I2,r2,q2⟩:=hq1
  refine wpAny_bind (wpAny_standAt (wpAny_bind (wpAny_holding (thn (hs pins s2 σ H2 x y v ov iv u _ I2 r1 r2 r q2) fun _ s3 hq2=>?_))))
  obtain ⟨H3,I3,q3⟩:=hq2
  exact wpAny_release ⟨σ,H3,I3,q3⟩
def qml (te:TE) (g:TG):TS:=fun D σ H=>te σ H fun x H1=>g x σ H1 D.nx
theorem qi0 {tg e:Expr} {te:TE} {g:TG} (he:PE X e te) (hg:PG X tg g) (hs:swapsWithSole [tg] e pos.line X.env=pure false:=by rfl) (hw:swappedStores [tg] e X.env=pure none:=by rfl)
    (h1:(assignEach [tg] X.env).map (·.2)=[assign tg X.env]:=by rfl):PS X (.Assign [tg] e pos) (qml te g):=by
  intro pins s σ H D I h
  refine wpAny_Assign_stores (thn (he pins s σ H _ I h) fun v s1 hq0=>?_) hs hw
  obtain ⟨x,H1,I1,r1,q1⟩:=hq0
  rw [h1]
  exact thn (hg pins s1 σ H1 x v _ I1 r1 q1) fun _ s2 q=>q
theorem qk6 {i:Nat} {x:Str} {e:Expr} {te:TE} {pos':Pos} (hN:X.N.Nodup) (hi:X.N[i]?=some x) (hx:Loc X.env.scope x) (he:PE X e te) (hs:swapsWith e (some (.Name x pos')) pos.line X.env=pure false:=by rfl) (hf:X.fn x=true∨X.env.scope.names.lookup x=some .local:=by first | exact .inl rfl | exact .inr rfl | assumption) :
    PS X (.Assign [.Name x pos'] e pos) (qml te (qj8 i)):=by
  intro pins s σ H D I h
  refine wpAny_Assign_Name (thn (he pins s σ H _ I h) fun v s1 hq0=>?_) hs
  obtain ⟨y,H1,I1,r1,q1⟩:=hq0
  exact qei I1 hN hi hx r1 (fun s2 I2=>⟨_,H1,I2,q1⟩) hf
def qnd (to ti te:TE) (tget:V→V→Hp→VK→Prop) (tip:TIp) (tset:qlw):TS:=fun D σ H=>to σ H fun o H1=>ti σ H1 fun i H2=>tget o i H2 fun x H3=>te σ H3 fun y H4=>tip x y H4 fun z H5=>tset o i z H5 fun H6=>D.nx σ H6
def qmH (X:Cx) (t:V→V→Hp→VK→Prop):Prop :=
  ∀ (pins:List (Addr × Obj)) (s:Shared) (σ:St) (H:Hp) (o i:V) (ov iv:Value) (Q:VK),Inv X pins σ H s→RelV o ov→RelV i iv→t o i H Q →
    wpAny (model X.prog X.w) X.A (getItem ov iv) (EP X pins σ Q) X.xe s
theorem qjK {o i e:Expr} {to ti te:TE} {tget:V→V→Hp→VK→Prop} {tip:TIp} {tset:qlw} {op:Operator} {tpos:Pos} (ho:PE X o to) (hi:PE X i ti) (hg:qmH X tget) (he:PE X e te) (hp:PIp X op tip) (hs:qmM X tset)
    (ha:∀ ov iv new,augStore i ov iv new=(do holding [new,ov,iv] (setItem ov iv new);release [new,ov,iv] [];pure .next):=by intros;rfl):PS X (.AugAssign (.Subscript o i tpos) op e pos) (qnd to ti te tget tip tset):=by
  intro pins s σ H D I h
  refine wpAny_AugAssign_SubscriptAny (thn (ho pins s σ H _ I h) fun ov s1 hq0=>?_) ha
  obtain ⟨x1,H1,I1,r1,q1⟩:=hq0
  refine thn (hi pins s1 σ H1 _ I1 q1) fun iv s2 hq1=>?_
  obtain ⟨x2,H2,I2,r2,q2⟩:=hq1
  refine thn (hg pins s2 σ H2 x1 x2 ov iv _ I2 r1 r2 q2) fun old s3 hq2=>?_
  obtain ⟨x3,H3,I3,r3,q3⟩:=hq2
  refine thn (he pins s3 σ H3 _ I3 q3) fun v s4 hq3=>?_
  obtain ⟨x4,H4,I4,r4,q4⟩:=hq3
  refine thn (hp pins s4 σ H4 x3 x4 old v _ I4 r3 r4 q4) fun new s5 hq4=>?_
  obtain ⟨x5,H5,I5,r5,q5⟩:=hq4
  exact thn (hs pins s5 σ H5 x1 x2 x5 ov iv new _ I5 r1 r2 r5 q5) fun _ s6 hq5=>by obtain ⟨H6,I6,q6⟩:=hq5;exact ⟨σ,H6,I6,q6⟩
def ipI (f:Int→Int→Int):TIp:=fun x y H Q=>∃ i j,x=.int i∧y=.int j∧Q (.int (f i j)) H
theorem ql0:PIp X .Add (ipI fun i j=>i+j):=by
  intro pins s σ H x y v u Q I r1 r2 h
  obtain ⟨i,j,e1,e2,q⟩:=h
  subst e1;subst e2
  obtain ⟨t,rfl⟩:=r1
  obtain ⟨t',rfl⟩:=r2
  exact iadd_int ⟨.int _,H,I.tok _,⟨_,rfl⟩,q⟩
end
section
variable {X : Cx} {pos : Pos}
def qkE (c:TT) (tb:TS):TS:=fun D σ H=>∃ W:Nat→St→Hp→Prop,(∃ m,W m σ H)∧∀ m σ H,W m σ H →
  c σ H fun b H1=>if b=true then ∃ N:St→Hp→Prop,(∀ σ' H',N σ' H'→∃ m',m'<m∧W m' σ' H')∧tb { D with nx:=N,ct:=N,bk:=D.nx } σ H1 else D.nx σ H1
theorem qir {c:Expr} {body:List Stmt} {tc:TT} {tb:TS} (hp:PassesOwn (model X.prog X.w) X.A X.env X.xe) (hc:PT X c tc) (hb:PSs X body tb):PS X (.While c body [] pos) (qkE tc tb):=by
  intro pins s σ H D I h
  obtain ⟨W,⟨m0,w0⟩,turn⟩:=h
  refine wpAny_While (codeAny_whileLoop (fun n s'=>∃ σ' H',Inv X pins σ' H' s'∧W n σ' H') ?_ m0 ⟨σ,H,I,w0⟩)
  rintro n s1 ⟨σ1,H1,I1,w1⟩
  refine wpAny_passesOwn hp (thn (hc pins s1 σ1 H1 _ I1 (turn n σ1 H1 w1)) fun b s2 hq0=>?_)
  obtain ⟨H2,I2,q2⟩:=hq0
  cases b with
  | true =>
    obtain ⟨N,hN,q2⟩:=q2
    rw [if_pos rfl]
    refine wpAny_passesOwn hp (thn (hb pins s2 σ1 H2 _ I2 q2) fun f s3 q3=>?_)
    cases f with
    | next =>
      obtain ⟨σ3,H3,I3,n3⟩:=q3
      obtain ⟨m',hm,w3⟩:=hN σ3 H3 n3
      exact ⟨m',hm,σ3,H3,I3,w3⟩
    | cont =>
      obtain ⟨σ3,H3,I3,n3⟩:=q3
      obtain ⟨m',hm,w3⟩:=hN σ3 H3 n3
      exact ⟨m',hm,σ3,H3,I3,w3⟩
    | brk=>exact q3
    | ret v=>exact q3
  | false =>
    rw [if_neg Bool.false_ne_true]
    exact wpAny_execs_nil ⟨σ1,H2,I2,q2⟩
end
structure It where
  go:Nat→Hp→Prop
  yld:Nat→Hp→V→Hp→Prop
  stop:Nat→Hp→Prop
def qfN (X:Cx) (pins:List (Addr × Obj)) (H:Hp) (b:Addr):Prop :=
  H b=none∧b≠X.env.locals∧b∉X.fs∧(b∈X.ex∨X.s₀.heap.objs.size≤b)∧(∀ x c,X.env.cells.lookup x=some c→c≠b)∧∀ p∈X.pn++pins,p.1≠b
theorem Inv.fpOk {X:Cx} {pins:List (Addr × Obj)} {σ:St} {H H':Hp} {s:Shared} {b:Addr} (I:Inv X pins σ H s) (hb:s.heap.objs.size≤b) (hn:H' b=none):qfN X pins H' b:=by
  refine ⟨hn,Nat.ne_of_gt (Nat.lt_of_lt_of_le I.lt hb),I.nofs hb,.inr (Nat.le_trans I.sz hb),fun x c e z=>?_,fun p hp z=>?_⟩
  · obtain ⟨v,q⟩:=I.cell x c e
    exact absurd (Nat.lt_of_lt_of_le q.lt (by rw [z];exact hb)) (Nat.lt_irrefl _)
  · exact absurd (Nat.lt_of_lt_of_le (Heap.lt_size (I.pin p hp).1) (by rw [z];exact hb)) (Nat.lt_irrefl _)
structure Turn (P:Program) (w:World) (K:PySem.W.Frag) (tg:Expr) (J:It) (fp:List Addr) (it:Addr) (tn:Nat→Heap→Prop):Prop where
  mem:it∈fp
  obj:∀ i h,tn i h→∀ b∈fp,∃ o,h.get? b=some o∧∀ v,o.data≠.cell v
  keep:∀ i h h',tn i h→(∀ b∈fp,∀ o,h.get? b=some o→h'.get? b=some o)→tn i h'
  item:∀ (X:Cx),X.prog=P→X.w=w→X.K=K→X.calm=true→∀ (i:Nat) (pins:List (Addr × Obj)) (s:Shared) (σ:St) (H:Hp) (E:Value→Shared→Prop),Inv X pins σ H s→(∀ b∈fp,qfN X pins H b)→tn i s.heap→J.go i H →
    wpAny (model P w) X.A (pyNext (.ref it)) (fun r s1=>∃ u,r=some u ∧
      wpAny (model P w) X.A (letOwnedTupleGo tg (.ref it) u) (fun _ s2=>∃ x H',Inv X pins σ H' s2∧RelV x u∧J.yld i H x H'∧tn (i+1) s2.heap∧∀ b∈fp,H' b=none) E s1) E s
  done:∀ (X:Cx),X.prog=P→X.w=w→X.K=K→X.calm=true→∀ (i:Nat) (pins:List (Addr × Obj)) (s:Shared) (σ:St) (H:Hp) (E:Value→Shared→Prop),Inv X pins σ H s→(∀ b∈fp,qfN X pins H b)→tn i s.heap→J.stop i H →
    wpAny (model P w) X.A (pyNext (.ref it)) (fun r s1=>r=none∧Inv X pins σ H s1) E s
  self:∀ (A:Around) (i:Nat) (s:Shared) (Q:Value→Shared→Prop) (E:Value→Shared→Prop),tn i s.heap→Q (.ref it) s→wpAny (model P w) A (pyIter (.ref it)) Q E s
abbrev TI:=St→Hp→(It→Hp→Prop)→Prop
def PIE (X:Cx) (pins:List (Addr × Obj)) (σ:St) (tg:Expr) (R:It→Hp→Prop) (itv:Value) (s2:Shared):Prop :=
  ∃ (it:Addr) (fp:List Addr) (tn:Nat→Heap→Prop) (J:It) (H':Hp),itv=.ref it∧Inv X pins σ H' s2∧Turn X.prog X.w X.K tg J fp it tn∧tn 0 s2.heap∧(∀ b∈fp,qfN X pins H' b)∧R J H'
def PI (X:Cx) (tg iter:Expr) (wi:TI):Prop :=
  ∀ (pins:List (Addr × Obj)) (s:Shared) (σ:St) (H:Hp) (R:It→Hp→Prop),Inv X pins σ H s→wi σ H R →
    wpAny (model X.prog X.w) X.A (eval iter X.env) (fun v s1=>wpAny (model X.prog X.w) X.A (pyIter v) (PIE X pins σ tg R) X.xe s1) X.xe s
theorem qm7 {M:Model} {A:Around} {E:Value→Shared→Prop} {s:Shared} {tg:Expr} {it:Addr} {u:Value} {o:Obj} {n:String} {vs:Array Value} {Q:Unit→Shared→Prop} (ho:s.heap.get? it=some o) (hc:o.cls=.type n) (hd:o.data=.fields vs)
    (hn:["enumerate","zip","dict_itemiterator","dict_reverseitemiterator","odict_iterator","itertools.zip_longest","itertools.pairwise"].contains n=false) (hQ:Q () s):wpAny M A (letOwnedTupleGo tg (.ref it) u) Q E s:=by
  unfold letOwnedTupleGo
  cases tg <;> first
    | exact wpAny_pure hQ
    | (cases u <;> first
        | exact wpAny_pure hQ
        | (refine wpAny_bind (wpAny_load ho ?_)
           rw [hc,hd]
           show wpAny M A (if (["enumerate","zip","dict_itemiterator","dict_reverseitemiterator","odict_iterator","itertools.zip_longest","itertools.pairwise"].contains n && vs[0]? == some (rawInt _))=true then _ else _) Q E s
           rw [if_neg (by intro h;rw [hn,Bool.false_and] at h;cases h)]
           exact wpAny_pure hQ))
def Itr (lo:Int) (n:Nat):It:=⟨fun i _=>i<n,fun i H x H'=>H'=H∧x=.int (lo+i),fun i _=>n≤i⟩
theorem qgq {P:Program} {w:World} {K:PySem.W.Frag} {tg:Expr} (it:Addr) (lo:Int) (n:Nat):Turn P w K tg (Itr lo n) [it] it (fun i h=>IsRangeIter h it (lo+(i:Nat)*1) ((n:Int) - (i:Nat)) 1) where
  mem:=by simp
  obj:=fun i h st b hb=>by
    have e:b=it:=by simpa using hb
    subst e
    exact ⟨_,st,fun v z=>by
      have z':Data.fields _=Data.cell v:=z
      cases z'⟩
  keep:=fun i h h' st k=>k it (by simp) _ st
  item:=by
    intro X hP hw hK hc i pins s σ H E I hf st hg
    subst hP hw hK
    obtain ⟨f0,f1,f2,f3,f4,f5⟩:=hf it (by simp)
    have W:=Walks.range (prog:=X.prog) (w:=X.w) (I.ok.hd hc) it lo 1 n
    refine W.item i s _ _ hg st fun v h' tk hv st' kk=>?_
    obtain ⟨t,rfl⟩:=hv
    have I1:Inv X pins σ H { s with heap:=h',toks:=tk }:=I.turned (fun b o hb e=>kk b o (by simpa using hb) e) f0 f1 f3 f4 f5
    refine ⟨_,rfl,qm7 (s:={ s with heap:=h',toks:=tk }) (n:="range_iterator") st' rfl rfl (by decide) ⟨.int (lo+i),H,I1,⟨t,?_⟩,⟨rfl,rfl⟩,st',fun b hb=>(hf b hb).1⟩⟩
    rw [Int.mul_one]
  done:=by
    intro X hP hw hK hc i pins s σ H E I hf st hg
    subst hP hw hK
    obtain ⟨f0,f1,f2,f3,f4,f5⟩:=hf it (by simp)
    exact wpAny_pyNext_range_end (I.ok.hd hc) st (by have:n≤i:=hg;omega) fun h' eb=>⟨rfl,I.turned (t':=s.toks) (fun b o hb e=>eb b o hb e) f0 f1 f3 f4 f5⟩
  self:=fun _ _ _ _ _ st h=>wpAny_pyIter_rangeiter st h
section
variable {X : Cx} {tg : Expr}
theorem qhU {pins:List (Addr × Obj)} {σ:St} {H:Hp} {s:Shared} {R:It→Hp→Prop} {E:Value→Shared→Prop} {lo hi:Int} {t u v:Tok} {tk:Nat} (I:Inv X pins σ H s) (h1:-(2 ^ 62)≤lo) (h2:lo<2 ^ 62) (h3:-(2 ^ 62)≤hi) (h4:hi<2 ^ 62)
    (q:R (Itr lo (hi - lo).toNat) H):wpAny (model X.prog X.w) X.A (pyIter (.ref s.heap.objs.size)) (PIE X pins σ tg R) E { s with heap:=s.heap.push { cls:=.type "range",data:=.fields #[.int lo t,.int hi u,.int 1 v] },toks:=tk }:=by
  refine wpAny_pyIter_range (IsRange.new ..) (small_one h1 h2 h3 h4) ?_
  have I1:Inv X pins σ H { s with heap:=s.heap.push { cls:=.type "range",data:=.fields #[.int lo t,.int hi u,.int 1 v] },toks:=tk }:=I.kept fun b o e=>Heap.get?_push_of_some _ e
  refine ⟨(s.heap.push { cls:=.type "range",data:=.fields #[.int lo t,.int hi u,.int 1 v] }).objs.size,[(s.heap.push { cls:=.type "range",data:=.fields #[.int lo t,.int hi u,.int 1 v] }).objs.size],_,_,H,rfl,
    I1.kept (t':=tk) fun b o e=>Heap.get?_push_of_some _ e,qgq _ lo (hi - lo).toNat,?_,fun b hb=>?_,q⟩
  · have e1:lo+((0:Nat):Int)*1=lo:=by simp
    have e2:(((hi - lo).toNat:Nat):Int) - ((0:Nat):Int)=Builtin.Range.rangeSize lo hi 1:=by rw [rangeSize_one];split <;> omega
    show IsRangeIter _ _ (lo+((0:Nat):Int)*1) ((((hi - lo).toNat:Nat):Int) - ((0:Nat):Int)) 1
    rw [e1,e2]
    exact Heap.get?_push_size _ rfl
  · have e:b=(s.heap.push { cls:=.type "range",data:=.fields #[.int lo t,.int hi u,.int 1 v] }).objs.size:=by simpa using hb
    subst e
    exact I1.fpOk (Nat.le_refl _) (I1.hok.fresh (Nat.le_refl _))
def qmS (ta:TA):TI:=fun σ H R=>ta σ H fun vs H1=>∃ j:Int,vs=[.int j]∧-(2 ^ 62)≤j∧j<2 ^ 62∧R (Itr 0 j.toNat) H1
theorem qeE {a:Expr} {ta:TA} {p pos:Pos} (hg:Gl X "range") (hm:X.mg "range"=none) (ha:PA X [a] ta) (hs:starEach [a] X.env=[(false,eval a X.env)]:=by rfl):PI X tg (.Call (.Name "range" p) [a] [] pos) (qmS ta):=by
  intro pins s σ H R I h
  refine Call_ (qev I hg hm boot_range (PyProof.Rows.callWith_type1 (thn (ha pos pins s σ H _ I h) fun us s1 hq0=>?_) hs rfl))
  obtain ⟨vs,H1,I1,r1,q1⟩:=hq0
  obtain ⟨j,e,q1,q2,q⟩:=q1
  subst e
  cases r1 with
  | cons r rr =>
    cases rr
    obtain ⟨t,rfl⟩:=r
    exact call_range_1 (qhU I1 (by omega) (by omega) q1 q2 (by simpa using q))
def qow (wi:TI) (g:TG) (tb:TS):TS:=fun D σ H=>wi σ H fun J H1=>∃ W:Nat→Nat→St→Hp→Prop,(∃ m,W 0 m σ H1)∧∀ i m σ H,W i m σ H →
  (J.stop i H∧D.nx σ H)∨(J.go i H∧∃ N:St→Hp→Prop,(∀ σ' H',N σ' H'→∃ m',m'<m∧W (i+1) m' σ' H')∧∀ x H',J.yld i H x H'→g x σ H' fun σ2 H2=>tb { D with nx:=N,ct:=N,bk:=D.nx } σ2 H2)
def qeW (fp:List Addr) (h:Heap):List (Addr × Obj):=fp.filterMap fun b=>(h.get? b).map fun o=>(b,o)
theorem qb7 {fp:List Addr} {h:Heap} {b:Addr} {o:Obj} (hb:b∈fp) (e:h.get? b=some o):(b,o)∈qeW fp h:=List.mem_filterMap.mpr ⟨b,hb,by rw [e];rfl⟩
theorem qgX {fp:List Addr} {h:Heap} {p:Addr × Obj} (hp:p∈qeW fp h):p.1∈fp∧h.get? p.1=some p.2:=by
  obtain ⟨b,hb,e⟩:=List.mem_filterMap.mp hp
  cases q:h.get? b with
  | none=>rw [q] at e;cases e
  | some o =>
    rw [q] at e
    have e':(b,o)=p:=Option.some.inj e
    subst e'
    exact ⟨hb,q⟩
theorem Inv.pinned {pins:List (Addr × Obj)} {σ:St} {H:Hp} {s:Shared} {fp:List Addr} (I:Inv X pins σ H s) (hf:∀ b∈fp,qfN X pins H b) (ho:∀ b∈fp,∃ o,s.heap.get? b=some o∧∀ v,o.data≠.cell v):Inv X (pins++qeW fp s.heap) σ H s :=
  I.pins_of fun p hp=>(List.mem_append.mp hp).elim (fun z=>I.pin p (List.mem_append_right _ z)) fun z=>by
    obtain ⟨hb,e⟩:=qgX z
    obtain ⟨f0,f1,f2,_⟩:=hf p.1 hb
    obtain ⟨o,e',d⟩:=ho p.1 hb
    rw [e] at e';cases e'
    exact ⟨e,f0,f1,f2,d⟩
theorem Inv.unpinned {pins pl:List (Addr × Obj)} {σ:St} {H:Hp} {s:Shared} (I:Inv X (pins++pl) σ H s):Inv X pins σ H s:=I.pins_of fun p hp=>I.pin p (List.mem_append_right _ (List.mem_append_left _ hp))
theorem qiX {iter:Expr} {body:List Stmt} {wi:TI} {g:TG} {tb:TS} {pos:Pos} (hp:PassesOwn (model X.prog X.w) X.A X.env X.xe) (hc:X.calm=true) (hi:PI X tg iter wi) (hg:PG X tg g) (hb:PSs X body tb)
    (hs:∀ x,foldedSetIterable iter X.env x=pure x:=by intro _;rfl):PS X (.For tg iter body [] pos) (qow wi g tb):=by
  intro pins s σ H D I h
  refine wpAny_For (thn (hi pins s σ H _ I h) fun v s1 h1=>thn h1 fun itv s2 h2=>?_) hs
  obtain ⟨it,fp,tn,J,H2,e,I2,T,st2,f2,W,⟨m0,w0⟩,turn⟩:=h2
  subst e
  have stat:∀ {H':Hp},(∀ b∈fp,H' b=none)→∀ b∈fp,qfN X pins H' b:=fun hn b hb=>⟨hn b hb,(f2 b hb).2⟩
  refine codeAny_forLoop_any (fun n s'=>∃ i σ' H',Inv X pins σ' H' s'∧tn i s'.heap∧(∀ b∈fp,H' b=none)∧W i n σ' H') ?_ m0 ⟨0,σ,H2,I2,st2,fun b hb=>(f2 b hb).1,w0⟩
  rintro n s3 ⟨i,σ3,H3,I3,st3,fr3,w3⟩
  rcases turn i n σ3 H3 w3 with ⟨stop,qn⟩ | ⟨go,N,hN,step⟩
  · refine wpAny_passesOwn hp (thn (T.done X rfl rfl rfl hc i pins s3 σ3 H3 X.xe I3 (stat fr3) st3 stop) fun r s4 hq0=>?_)
    obtain ⟨hr,I4⟩:=hq0
    subst hr
    exact wpAny_execs_nil ⟨σ3,H3,I4,qn⟩
  · refine wpAny_passesOwn hp (thn (T.item X rfl rfl rfl hc i pins s3 σ3 H3 X.xe I3 (stat fr3) st3 go) fun r s4 hq1=>?_)
    obtain ⟨u,hr,h4⟩:=hq1
    subst hr
    refine wpAny_passesOwn hp (thn h4 fun _ s5 hq2=>?_)
    obtain ⟨x,H5,I5,r5,y5,st5,fr5⟩:=hq2
    have I5':=I5.pinned (stat fr5) (T.obj _ _ st5)
    refine wpAny_passesOwn hp (thn (hg _ s5 σ3 H5 x u _ I5' r5 (step x H5 y5)) fun _ s6 hq3=>?_)
    obtain ⟨σ6,H6,I6,q6⟩:=hq3
    refine wpAny_passesOwn hp (thn (hb _ s6 σ6 H6 _ I6 q6) fun f s7 q7=>?_)
    have again:∀ {σ7:St} {H7:Hp},Inv X (pins++qeW fp s5.heap) σ7 H7 s7→N σ7 H7→∃ m,m<n∧∃ i σ' H',Inv X pins σ' H' s7∧tn i s7.heap∧(∀ b∈fp,H' b=none)∧W i m σ' H':=fun {σ7 H7} I7 n7=>by
      obtain ⟨m',hm,w7⟩:=hN σ7 H7 n7
      refine ⟨m',hm,i+1,σ7,H7,I7.unpinned,T.keep _ _ _ st5 fun b hb o e=>(I7.pin (b,o) (List.mem_append_right _ (List.mem_append_right _ (qb7 hb e)))).1,fun b hb=>?_,w7⟩
      obtain ⟨o,e,d⟩:=T.obj _ _ st5 b hb
      exact (I7.pin (b,o) (List.mem_append_right _ (List.mem_append_right _ (qb7 hb e)))).2.1
    cases f with
    | next=>obtain ⟨σ7,H7,I7,n7⟩:=q7;exact again I7 n7
    | cont=>obtain ⟨σ7,H7,I7,n7⟩:=q7;exact again I7 n7
    | brk=>obtain ⟨σ7,H7,I7,q7⟩:=q7;exact ⟨σ7,H7,I7.unpinned,q7⟩
    | ret v=>obtain ⟨x7,σ7,H7,I7,r7,q7⟩:=q7;exact ⟨x7,σ7,H7,I7.unpinned,r7,q7⟩
end
abbrev R2:=V→V→Hp→VK→Prop
def OpR (X:Cx) (f:Value→Value→Sem Value) (r:R2):Prop :=
  ∀ (pins:List (Addr × Obj)) (s:Shared) (σ:St) (H:Hp) (x y:V) (v u:Value) (Q:VK),Inv X pins σ H s→RelV x v→RelV y u→r x y H Q →
    wpAny (model X.prog X.w) X.A (f v u) (EP X pins σ Q) X.xe s
def qdF (X:Cx) (f:Value) (r:List V→Hp→VK→Prop):Prop :=
  ∀ (pins:List (Addr × Obj)) (s:Shared) (σ:St) (H:Hp) (xs:List V) (us:List Value) (Q:VK),Inv X pins σ H s→Vals xs us→r xs H Q →
    wpAny (model X.prog X.w) X.A (call f us) (EP X pins σ Q) X.xe s
def qov (X:Cx) (r:V→Hp→(Bool→Hp→Prop)→Prop):Prop :=
  ∀ (pins:List (Addr × Obj)) (s:Shared) (σ:St) (H:Hp) (x:V) (v:Value) (Q:Bool→Hp→Prop),Inv X pins σ H s→RelV x v→r x H Q →
    wpAny (model X.prog X.w) X.A (truthy v) (TP X pins σ Q) X.xe s
def tOp (r:R2) (ta tb:TE):TE:=fun σ H Q=>ta σ H fun x H1=>tb σ H1 fun y H2=>r x y H2 Q
def rI (C:Int→Int→Prop) (g:Int→Int→V):R2:=fun x y H Q=>∃ i j,x=.int i∧y=.int j∧C i j∧Q (g i j) H
def rI0 (g:Int→Int→V):R2:=fun x y H Q=>∃ i j,x=.int i∧y=.int j∧Q (g i j) H
section
variable {X : Cx} {a b c : Expr} {ta tb tc : TE} {pos : Pos}
theorem qns (ha:PE X a ta) (hb:PE X b tb) {pins:List (Addr × Obj)} {s:Shared} {σ:St} {H:Hp} {R:V→V→Hp→Prop} (I:Inv X pins σ H s)
    (h:ta σ H fun x H1=>tb σ H1 fun y H2=>R x y H2) {Q:Value→Shared→Prop} {f:Value→Value→Sem Value}
    (hf:∀ v u s2 x y H2,Inv X pins σ H2 s2→RelV x v→RelV y u→R x y H2→wpAny (model X.prog X.w) X.A (f v u) Q X.xe s2) :
    wpAny (model X.prog X.w) X.A (eval a X.env) (fun v s₁=>wpAny (model X.prog X.w) X.A (eval b X.env) (fun u s₂=>wpAny (model X.prog X.w) X.A (f v u) Q X.xe s₂) X.xe s₁) X.xe s:=by
  refine thn (ha pins s σ H _ I h) fun v s1 hq0=>?_
  obtain ⟨x,H1,I1,r1,q1⟩:=hq0
  refine thn (hb pins s1 σ H1 _ I1 q1) fun u s2 hq1=>?_
  obtain ⟨y,H2,I2,r2,q2⟩:=hq1
  exact hf v u s2 x y H2 I2 r1 r2 q2
theorem qlq {op:Operator} {r:R2} (ho:OpR X (binaryOp op) r) (ha:PE X a ta) (hb:PE X b tb):PE X (.BinOp a op b pos) (tOp r ta tb):=by
  intro pins s σ H Q I h
  exact wpAny_BinOp (qns ha hb I h fun v u s2 x y H2 I2 rx ry q=>ho pins s2 σ H2 x y v u Q I2 rx ry q)
theorem opI {f:Value→Value→Sem Value} {C:Int→Int→Prop} {g:Int→Int→Int}
    (rule:∀ (i j:Int) (t u:Tok) (s:Shared) (Q:Value→Shared→Prop) (E:Value→Shared→Prop),C i j→Q (.int (g i j) s.toks) { s with toks:=s.toks+1 }→wpAny (model X.prog X.w) X.A (f (.int i t) (.int j u)) Q E s) :
    OpR X f (rI C fun i j=>.int (g i j)):=by
  intro pins s σ H x y v u Q I rx ry h
  obtain ⟨i,j,rfl,rfl,hc,q⟩:=h
  obtain ⟨t,rfl⟩:=rx
  obtain ⟨t',rfl⟩:=ry
  exact rule i j t t' s _ _ hc ⟨.int (g i j),H,I.tok _,⟨_,rfl⟩,q⟩
theorem qnQ {f:Value→Value→Sem Value} {g:Int→Int→Int}
    (rule:∀ (i j:Int) (t u:Tok) (s:Shared) (Q:Value→Shared→Prop) (E:Value→Shared→Prop),Q (.int (g i j) s.toks) { s with toks:=s.toks+1 }→wpAny (model X.prog X.w) X.A (f (.int i t) (.int j u)) Q E s) :
    OpR X f (rI0 fun i j=>.int (g i j)):=by
  intro pins s σ H x y v u Q I rx ry h
  obtain ⟨i,j,rfl,rfl,q⟩:=h
  obtain ⟨t,rfl⟩:=rx
  obtain ⟨t',rfl⟩:=ry
  exact rule i j t t' s _ _ ⟨.int (g i j),H,I.tok _,⟨_,rfl⟩,q⟩
theorem qm4 {f:Value→Value→Sem Value} {g:Int→Int→Bool}
    (rule:∀ (i j:Int) (t u:Tok) (s:Shared) (Q:Value→Shared→Prop) (E:Value→Shared→Prop),Q (.bool (g i j)) s→wpAny (model X.prog X.w) X.A (f (.int i t) (.int j u)) Q E s) :
    OpR X f (rI0 fun i j=>.bl (g i j)):=by
  intro pins s σ H x y v u Q I rx ry h
  obtain ⟨i,j,rfl,rfl,q⟩:=h
  obtain ⟨t,rfl⟩:=rx
  obtain ⟨t',rfl⟩:=ry
  exact rule i j t t' s _ _ ⟨.bl (g i j),H,I,rfl,q⟩
def qnB (i j:Int):Prop:=0≤j∧j≤1000000∧i.natAbs<2 ^ 64
theorem ql5:OpR X (binaryOp .Add) (rI0 fun i j=>.int (i+j)):=qnQ fun _ _ _ _ _ _ _ q=>add_int q
theorem qkD:OpR X (binaryOp .Sub) (rI0 fun i j=>.int (i - j)):=qnQ fun _ _ _ _ _ _ _ q=>sub_int q
theorem qk5:OpR X (binaryOp .Mod) (rI (fun _ j=>0<j) fun i j=>.int (i % j)):=opI fun i j _ _ _ _ _ hc q=>by
  have h1:(0:Int)<j:=hc
  exact mod_int' (by omega) (by rw [Int.fmod_eq_emod_of_nonneg i (by omega)];exact q)
theorem qlb:OpR X (binaryOp .Pow) (rI qnB fun i j=>.int (i ^ j.toNat)):=opI fun _ _ _ _ _ _ _ hc q=>pow_int_small hc.1 hc.2.1 hc.2.2 q
end
section
variable {X : Cx} {a b c : Expr} {ta tb tc : TE} {pos : Pos}
theorem qfz {pins:List (Addr × Obj)} {σ:St} {H:Hp} {s:Shared} {Q:VK} {k k':Bool} (I:Inv X pins σ H s) (q:Q (.bl k) H) (e:k=k'):EP X pins σ Q (.bool k') s:=by
  subst e
  exact ⟨.bl k,H,I,rfl,q⟩
theorem qmm:OpR X (compareOp .Lt) (rI0 fun i j=>.bl (decide (i<j))):=qm4 fun _ _ _ _ _ _ _ q=>lt_int q
theorem qmZ:OpR X (compareOp .Gt) (rI0 fun i j=>.bl (decide (j<i))):=qm4 fun _ _ _ _ _ _ _ q=>gt_int q
theorem qnu:OpR X (compareOp .GtE) (rI0 fun i j=>.bl (decide (j≤i))):=qm4 fun _ _ _ _ _ _ _ q=>ge_int q
theorem qkw:OpR X (compareOp .Is) (fun x y H Q=>y=.non∧Q (.bl (decide (x=.non))) H):=by
  intro pins s σ H x y v u Q I rx ry h
  obtain ⟨rfl,q⟩:=h
  cases ry
  refine is_none_gen (qfz I q ?_)
  cases x <;> first
    | (cases rx;rfl)
    | (obtain ⟨t,rfl⟩:=rx;rfl)
theorem qjt:OpR X (compareOp .IsNot) (fun x y H Q=>y=.non∧Q (.bl (!decide (x=.non))) H):=by
  intro pins s σ H x y v u Q I rx ry h
  obtain ⟨rfl,q⟩:=h
  cases ry
  refine isnot_none_gen (qfz I q ?_)
  cases x <;> first
    | (cases rx;rfl)
    | (obtain ⟨t,rfl⟩:=rx;rfl)
theorem qam (b:Expr) {op:CmpOp} (h:op≠.In:=by decide) (h2:op≠.NotIn:=by decide):behindInMarks op b=false:=by
  have e1:(op == CmpOp.In)=false:=by cases op <;> first | rfl | exact absurd rfl h
  have e2:(op == CmpOp.NotIn)=false:=by cases op <;> first | rfl | exact absurd rfl h2
  cases b <;> simp [behindInMarks,e1,e2]
theorem qht {op:CmpOp} {r:R2} (ho:OpR X (compareOp op) r) (ha:PE X a ta) (hb:PE X b tb) (hm:behindInMarks op b=false):PE X (.Compare a [op] [b] pos) (tOp r ta tb):=by
  intro pins s σ H Q I h
  exact wpAny_Compare1 (qns ha hb I h fun v u s2 x y H2 I2 rx ry q=>ho pins s2 σ H2 x y v u Q I2 rx ry q) hm
def qh3 (t:TE):TT:=fun σ H Q=>t σ H fun x H'=>∃ k,x=.bl k∧Q k H'
theorem qhy {op:CmpOp} {r:R2} (ho:OpR X (compareOp op) r) (ha:PE X a ta) (hb:PE X b tb) (hm:behindInMarks op b=false):PT X (.Compare a [op] [b] pos) (qh3 (tOp r ta tb)):=by
  intro pins s σ H Q I h
  refine wpAny_isTrue_Compare1 (thn (ha pins s σ H _ I h) fun v s1 ⟨x,H1,I1,r1,q1⟩=>thn (hb pins s1 σ H1 _ I1 q1) fun u s2 ⟨y,H2,I2,r2,q2⟩ =>
    thn (ho pins s2 σ H2 x y v u _ I2 r1 r2 q2) fun c s3 ⟨z,H3,I3,r3,k,e,q3⟩=>?_) hm
  subst e
  cases r3
  exact wpAny_truthy_bool ⟨H3,I3,q3⟩
def qkU (r r':R2) (ta tb tc:TE):TE:=fun σ H Q=>ta σ H fun x H1=>tb σ H1 fun y H2=>r x y H2 fun z H3=>∃ k,z=.bl k ∧
  (if k=true then tc σ H3 fun w' H4=>r' y w' H4 Q else Q (.bl false) H3)
theorem qh6 {op op':CmpOp} {r r':R2} (ho:OpR X (compareOp op) r) (ho':OpR X (compareOp op') r') (ha:PE X a ta) (hb:PE X b tb) (hc:PE X c tc)
    (hm:lastMarks [op,op'] [b,c]=false:=by with_unfolding_all rfl):PT X (.Compare a [op,op'] [b,c] pos) (qh3 (qkU r r' ta tb tc)):=by
  intro pins s σ H Q I h
  refine isTrue_chain (thn (ha pins s σ H _ I h) fun v s1 ⟨x,H1,I1,r1,q1⟩=>test_link (thn (hb pins s1 σ H1 _ I1 q1) fun u s2 ⟨y,H2,I2,r2,q2⟩ =>
    thn (ho pins s2 σ H2 x y v u _ I2 r1 r2 q2) fun d s3 ⟨z,H3,I3,r3,k,e,q3⟩=>?_)) hm
  subst e
  cases r3
  refine wpAny_truthy_bool ?_
  cases k with
  | false =>
    obtain ⟨k',e',q'⟩:=q3
    cases e'
    exact ite_ff ⟨H3,I3,q'⟩
  | true =>
    refine ite_tt (test_last (thn (hc pins s3 σ H3 _ I3 q3) fun w' s4 ⟨z',H4,I4,r4,q4⟩=>thn (ho' pins s4 σ H4 y z' u w' _ I4 r2 r4 q4) fun d' s5 ⟨z2,H5,I5,r5,k2,e2,q5⟩=>?_))
    subst e2
    cases r5
    exact wpAny_truthy_bool ⟨H5,I5,q5⟩
def qmv (K:PySem.W.Frag) (x:V) (H:Hp) (k:Bool):Prop :=
  match x with
  | .non=>k=false
  | .bl b=>k=b
  | .int i=>k=(i != 0)
  | .str y=>y.length≤sizeLine∧k=((y.length:Int) != 0)
  | .byt y=>y.size≤sizeLine∧k=((y.size:Int) != 0)
  | .ref p=>(∃ xs,SqL K H p xs∧k=!xs.isEmpty)∨(∃ xs,SqT K H p xs∧k=!xs.isEmpty)∨∃ kvs,H p=some (.dK kvs)∧k=!kvs.isEmpty
  | _=>False
theorem qf6 {κ:Type} {kvs:List (κ × V)} {vs:List (κ × Value)} (r:KV kvs vs):(!vs.isEmpty)=!kvs.isEmpty:=by
  cases r <;> rfl
theorem qdO {xs:List V} {its:List Value} (r:Vals xs its):(!its.toArray.isEmpty)=!xs.isEmpty:=by
  cases r <;> simp
theorem qcS:(sizeLine:Nat)<2 ^ 63:=by rw [sizeLine_eq];decide
theorem qlA:qov X (fun x H Q=>∃ k,qmv X.K x H k∧Q k H):=by
  intro pins s σ H x v Q I rx h
  obtain ⟨k,e,q⟩:=h
  have hl:=qcS
  have hs:sizeLine=16777216:=sizeLine_eq
  cases x with
  | non =>
    cases rx
    have e':k=false:=e
    subst e'
    exact truthy_none ⟨H,I,q⟩
  | bl b =>
    cases rx
    have e':k=b:=e
    subst e'
    exact wpAny_truthy_bool ⟨H,I,q⟩
  | int i =>
    obtain ⟨t,rfl⟩:=rx
    have e':k=(i != 0):=e
    subst e'
    exact PySem.P.truthy_int ⟨H,I,q⟩
  | str y =>
    obtain ⟨t,rfl⟩:=rx
    obtain ⟨hy,e'⟩:y.length≤sizeLine∧k=((y.length:Int) != 0):=e
    subst e'
    exact PySem.P.truthy_str (by omega) ⟨H,I.tok _,q⟩
  | byt y =>
    obtain ⟨t,rfl⟩:=rx
    obtain ⟨hy,e'⟩:y.size≤sizeLine∧k=((y.size:Int) != 0):=e
    subst e'
    exact PySem.W.truthy_bytes (by omega) ⟨H,I.tok _,q⟩
  | ref p =>
    cases rx
    have e':(∃ xs,SqL X.K H p xs∧k=!xs.isEmpty)∨(∃ xs,SqT X.K H p xs∧k=!xs.isEmpty)∨∃ kvs,H p=some (.dK kvs)∧k=!kvs.isEmpty:=e
    rcases e' with ⟨xs,hx,e'⟩ | ⟨xs,hx,e'⟩ | ⟨kvs,hx,e'⟩
    · subst e'
      obtain ⟨its,r,pl,hz⟩:=I.list hx
      have hlen:=r.length
      exact wpAny_truthy_list pl.isList (by simp only [List.size_toArray];omega) ⟨H,I.tok _,by rw [qdO r];exact q⟩
    · subst e'
      obtain ⟨its,r,pl,hz⟩:=I.tuple hx
      have hlen:=r.length
      exact truthy_tuple pl (by simp only [List.size_toArray];omega) ⟨H,I.tok _,by rw [qdO r];exact q⟩
    · subst e'
      obtain ⟨hz,hS,vs,r,m⟩:kvs.length≤sizeLine∧(p == sysModules)=false∧∃ vs,KV kvs vs∧s.heap.DictOf (qfp X.prog X.w) p vs:=I.hok p _ hx
      have hlen:kvs.length=vs.length:=Paired.length r
      exact wpAny_truthy_dict hS m (by omega) ⟨H,I.tok _,by rw [qf6 r];exact q⟩
  | _=>exact (show False from e).elim
theorem qfP (ha:PE X a ta) (he:∀ whole,isTrue a X.env whole=(do let v ← whole;standAt a.pos;holding [v] (truthy v))) :
    PT X a (fun σ H Q=>ta σ H fun x H'=>∃ k,qmv X.K x H' k∧Q k H'):=by
  intro pins s σ H Q I h
  exact isTrue_plain (thn (ha pins s σ H _ I h) fun v s1 hq0=>by obtain ⟨x,H1,I1,r1,q1⟩:=hq0;exact qlA pins s1 σ H1 x v Q I1 r1 q1) (he _)
theorem qgj:OpR X (binaryOp .Add) (fun x y H Q=>∃ i j,x=.str i∧y=.str j∧i.length+j.length≤sizeLine∧Q (.str (i++j)) H):=by
  intro pins s σ H x y v u Q I rx ry h
  obtain ⟨i,j,rfl,rfl,hz,q⟩:=h
  obtain ⟨t,rfl⟩:=rx
  obtain ⟨t',rfl⟩:=ry
  exact add_str (fun t' tk=>⟨.str (i++j),H,I.tok _,⟨_,rfl⟩,q⟩) hz
theorem qhZ {x:V} {us:List Value} (r:Vals [x] us):∃ u,us=[u]∧RelV x u:=by
  cases r with
  | cons r1 r2=>cases r2;exact ⟨_,rfl,r1⟩
theorem qmo {x y:V} {us:List Value} (r:Vals [x,y] us):∃ u w',us=[u,w']∧RelV x u∧RelV y w':=by
  cases r with
  | cons r1 r2 =>
    cases r2 with
    | cons r3 r4=>cases r4;exact ⟨_,_,rfl,r1,r3⟩
theorem qgL (hc:X.calm=true):qdF X (.builtin "max") (fun xs H Q=>∃ i j,xs=[.int i,.int j]∧Q (.int (if j>i then j else i)) H):=by
  intro pins s σ H xs us Q I r h
  obtain ⟨i,j,rfl,q⟩:=h
  obtain ⟨u,w',rfl,⟨t,rfl⟩,⟨t',rfl⟩⟩:=qmo r
  refine max_two_ints (I.ok.hd hc) fun h' tk k=>⟨_,H,I.kept k,?_,q⟩
  by_cases hj:j>i
  · rw [if_pos hj,if_pos hj];exact ⟨_,rfl⟩
  · rw [if_neg hj,if_neg hj];exact ⟨_,rfl⟩
end
structure ObjM (h:Heap) (x dx C:Addr) (mA:Str→Option Value):Prop where
  obj:h.get? x=some (PySem.W.instObj C dx)
  ns:h.Ns1 dx mA
  ne:dx≠x
theorem qgQ {h:Heap} {dx:Addr} {mA:Str→Option Value} (n:h.Ns1 dx mA):∃ od,h.get? dx=some od∧∀ name,PySem.W.lookIn name od=some (mA name):=by
  obtain ⟨o,es,ep,ho,hd,hk,_,hm⟩:=n
  refine ⟨o,ho,fun name=>?_⟩
  have e:=hm name
  unfold nsFind findBy at e
  rw [← Array.find?_toList] at e
  unfold PySem.W.lookIn
  rw [hd]
  dsimp only
  split
  · rename_i y q
    rw [q] at e
    exact congrArg some e
  · rename_i q
    rw [q] at e
    have a:es.toList.any (·.refKey)=false:=by
      rw [List.any_eq_false]
      intro y hy
      obtain ⟨z,t,hkey⟩:=hk y (Array.mem_toList_iff.mp hy)
      simp [DictEntry.refKey,hkey]
    have a':¬ es.toList.any (·.refKey)=true:=by rw [a];exact Bool.false_ne_true
    rw [if_neg a']
    exact congrArg some e
theorem ObjM.look {h:Heap} {x dx C:Addr} {mA:Str→Option Value} (I:ObjM h x dx C mA):∃ od,PySem.W.InstAt h x (PySem.W.instObj C dx) C (some od)∧∀ name,PySem.W.lookIn name od=some (mA name) :=
  let ⟨od,ho,hl⟩:=qgQ I.ns
  ⟨od,⟨I.obj,rfl,rfl,ho⟩,hl⟩
section
variable {prog : Program} {w : World} {A : Around} {E : Value → Shared → Prop} {s : Shared} {K : PySem.W.Frag} {x dx C f : Addr} {mA : Str → Option Value} {name : Str} {v : Value}
theorem qj3 {expr:Bool} {Q:Value→Shared→Prop} (X:K.In s.heap) (I:ObjM s.heap x dx C mA) (hg:PySem.W.plainGet K C name=true) (hh:PySem.W.hasDictIn K C=true)
    (ha:PySem.W.findIn K (.ref C) name=some none) (hv:mA name=some v) (hv':PySem.W.handedIn v=true) (h:Q v { s with toks:=s.toks+1 }) :
    wpAny (model prog w) A (getAttr (.ref x) name expr) Q E s:=by
  obtain ⟨od,J,hl⟩:=I.look
  exact PySem.W.get_value X J (PySem.W.plainGet_of hg).1 (PySem.W.findObj_own hh ha rfl (by rw [hl,hv])) hv' h
theorem qh0 {pl:Sem Bool} {Q:Value × List Value→Shared→Prop} (X:K.In s.heap) (I:ObjM s.heap x dx C mA) (hg:PySem.W.plainGet K C name=true)
    (hf:PySem.W.findIn K (.ref C) name=some (some (.ref f))) (ht:PySem.W.isFn K (.ref f)=true) (hv:mA name=none) (h:Q (.ref f,[.ref x]) s) :
    wpAny (model prog w) A (getMethod (.ref x) name pl) Q E s:=by
  obtain ⟨od,J,hl⟩:=I.look
  exact PySem.W.method_fn X J (PySem.W.plainGet_of hg).1 (PySem.W.plainGet_of hg).2 hf (beq_iff_eq.mp ht) (by show (PySem.W.lookIn name od).map (·.isSome)=some false;rw [hl,hv];rfl) h
theorem qjy {ns:List Str} {Q:Unit→Shared→Prop} (X:K.In s.heap) (I:ObjM s.heap x dx C mA)
    (hs:PySem.W.findIn K (.ref C) "__setattr__"=some (some (.builtin "object.__setattr__"))) (hp:PySem.W.plainOver K C=true) (ht:PySem.W.takerIn K C name=some none) (hh:PySem.W.hasDictIn K C=true)
    (hw:PySem.Within mA ns) (hsz:ns.length≤sizeLine)
    (h:∀ h',ObjM h' x dx C (fun y=>if y=name then some v else mA y)→Heap.SameBut dx s.heap h'→Q () { s with heap:=h',toks:=s.toks+2 }) :
    wpAny (model prog w) A (setAttr (.ref x) name v) Q E s:=by
  obtain ⟨od,J,hl⟩:=I.look
  refine PySem.W.set_plain X J hs (PySem.W.osa_open (s:={ s with toks:=s.toks+1 }) (r:=none) X J hp ht fun b=>?_)
  obtain ⟨cd,hc,hd'⟩:=PySem.W.any_some hh
  have hx:s.heap.get? x=some ⟨.ref C,some dx,.plain,#[]⟩:=I.obj
  refine wpAny_bind (wpAny_pure (wpAny_bind (wpAny_bind (wpAny_loadPart hx (wpAny_bind (PySem.W.Looks.here (s:={ s with toks:=s.toks+1 }) (PySem.W.looks_clsIn X hc) ?_))))))
  rw [hd']
  refine wpAny_pure (a:=some dx) (wpAny_bind (wpAny_pure (wpAny_bind ?_)))
  refine wpAny_nsSet1 (s:={ s with toks:=s.toks+1 }) I.ns fun h' hn2 hs2=>?_
  obtain ⟨oD,esD,epD,hoD,hdD,hcD⟩:=hn2.count (PySem.Within.cons name v hw)
  refine wpAny_bind (wpAny_lookBehind hoD (by rw [hdD];exact pastItsLine_dict (Nat.le_trans hcD (by rw [List.length_cons];omega))) ?_)
  exact wpAny_pure (h _ ⟨(hs2.2 _ (Ne.symm I.ne)).trans I.obj,hn2,I.ne⟩ hs2)
theorem qid {R:Result→Shared→Prop} {vs:List Value} {kw:List (Str × Value)} (X:K.In s.heap) (hm:PySem.W.makesIn K C=true)
    (hi:PySem.W.findIn K (.ref C) "__init__"=some (some (.ref f))) (hf:PySem.W.typeIn K (.ref f)=some (.type "function"))
    (h:codeAny (model prog w) (A.under (.builtin "type.__call__" ⟨.ref C::vs,kw⟩)) (.call (.ref f) ⟨.ref (s.heap.objs.size+1)::vs,kw⟩) (PySem.W.InitBack (s.heap.objs.size+1) R)
      { s with heap:=(s.heap.push PySem.W.emptyDict).push (PySem.W.instObj C s.heap.objs.size) }) :
    codeAny (model prog w) A (.call (.ref C) ⟨vs,kw⟩) R s:=by
  obtain ⟨hh,g,d,t,os⟩:=s
  exact PySem.W.make_core (PySem.W.makes_of X hm) (PySem.W.looks_findIn X hi) (fun self=>PySem.W.bind_fn X self hf) (.inl rfl) h
end
def qc2 (f:Str) (v:V):List (Str × V)→List (Str × V)
  | []=>[(f,v)]
  | (g,x)::r=>if g=f then (g,v)::r else (g,x)::qc2 f v r
theorem qdi (f g:Str) (v:V):∀ fs:List (Str × V),(qc2 f v fs).lookup g=if g=f then some v else fs.lookup g
  | []=>by
    show List.lookup g [(f,v)]=_
    by_cases h:g=f
    · have hb:(g == f)=true:=beq_iff_eq.mpr h
      simp only [List.lookup,hb,if_pos h]
    · have hb:(g == f)=false:=beq_eq_false_iff_ne.mpr h
      simp only [List.lookup,hb,if_neg h]
  | (k,x)::r=>by
    have ih:=qdi f g v r
    rw [show qc2 f v ((k,x)::r)=(if k=f then (k,v)::r else (k,x)::qc2 f v r) from rfl]
    by_cases hk:k=f
    · rw [if_pos hk]
      by_cases h:g=k
      · have hb:(g == k)=true:=beq_iff_eq.mpr h
        simp only [List.lookup,hb,if_pos (h.trans hk)]
      · have hb:(g == k)=false:=beq_eq_false_iff_ne.mpr h
        simp only [List.lookup,hb,if_neg (fun e:g=f=>h (e.trans hk.symm))]
    · rw [if_neg hk]
      by_cases h:g=k
      · have hb:(g == k)=true:=beq_iff_eq.mpr h
        simp only [List.lookup,hb,if_neg (fun e:g=f=>hk (h.symm.trans e))]
      · have hb:(g == k)=false:=beq_eq_false_iff_ne.mpr h
        simp only [List.lookup,hb]
        exact ih
theorem qdy (f:Str) (v:V):∀ fs:List (Str × V),f∈(qc2 f v fs).map (·.1)∧∀ g,g∈fs.map (·.1)→g∈(qc2 f v fs).map (·.1)
  | []=>⟨by simp [qc2],fun g h=>by simp at h⟩
  | (k,x)::r=>by
    obtain ⟨i1,i2⟩:=qdy f v r
    rw [show qc2 f v ((k,x)::r)=(if k=f then (k,v)::r else (k,x)::qc2 f v r) from rfl]
    by_cases hk:k=f
    · rw [if_pos hk]
      subst hk
      exact ⟨by simp,fun g h=>by simpa using h⟩
    · rw [if_neg hk]
      refine ⟨?_,fun g h=>?_⟩
      · rw [List.map_cons]
        exact List.mem_cons_of_mem _ i1
      · rw [List.map_cons] at h ⊢
        rcases List.mem_cons.mp h with e | e
        · exact List.mem_cons.mpr (.inl e)
        · exact List.mem_cons_of_mem _ (i2 g e)
theorem qdw (f:Str) (v:V):∀ fs:List (Str × V),(qc2 f v fs).length≤fs.length+1
  | []=>by simp [qc2]
  | (k,x)::r=>by
    have ih:=qdw f v r
    rw [show qc2 f v ((k,x)::r)=(if k=f then (k,v)::r else (k,x)::qc2 f v r) from rfl]
    by_cases hk:k=f
    · rw [if_pos hk,List.length_cons,List.length_cons];omega
    · rw [if_neg hk,List.length_cons,List.length_cons];omega
theorem RelO.some_of {v:V} {o:Option Value} (r:RelO (some v) o):∃ u,o=some u∧RelV v u:=by
  cases o with
  | none=>exact (show False from r).elim
  | some u=>exact ⟨u,rfl,r⟩
theorem RelO.none_of {o:Option Value} (r:RelO none o):o=none:=by
  cases o with
  | none=>rfl
  | some u=>exact (show False from r).elim
theorem qg6 {v:V} {u:Value} (r:RelV v u):PySem.W.handedIn u=true:=by
  cases v with
  | non=>cases (show u=Value.none from r);rfl
  | bl b=>cases (show u=Value.bool b from r);rfl
  | int i=>obtain ⟨t,e⟩:=(show ∃ t,u=Value.int i t from r);cases e;rfl
  | str x=>obtain ⟨t,e⟩:=(show ∃ t,u=Value.str x t from r);cases e;rfl
  | byt b=>obtain ⟨t,e⟩:=(show ∃ t,u=Value.bytes b t from r);cases e;rfl
  | flt b=>obtain ⟨t,e⟩:=(show ∃ t,u=Value.float b t from r);cases e;rfl
  | ref a=>cases (show u=Value.ref a from r);rfl
  | ty n=>cases (show u=Value.type n from r);rfl
section
variable {P : Program} {w : World} {H H' : Hp} {h h' : Heap} {a C dx : Addr} {fs fs' : List (Str × V)}
theorem qfj (hok:HOk P w H h) (e:H a=some (.ins C dx fs)):∃ mA,ObjM h a dx C mA∧(∀ f,RelO (fs.lookup f) (mA f))∧PySem.Within mA (fs.map (·.1))∧fs.length≤1000∧H dx=some (.own a):=by
  obtain ⟨d,z,ne,ob,mA,n,r,q⟩:=(show ObjOk P w H h a (.ins C dx fs) from hok a _ e)
  exact ⟨mA,⟨ob,n,ne⟩,r,q,z,d⟩
end
structure Cls (K:PySem.W.Frag) (C:Addr):Prop where
  pg:PySem.W.plainGet K C Str.empty=true
  hd:PySem.W.hasDictIn K C=true
  po:PySem.W.plainOver K C=true
  sa:PySem.W.findIn K (.ref C) "__setattr__"=some (some (.builtin "object.__setattr__"))
theorem Cls.get {K:PySem.W.Frag} {C:Addr} (c:Cls K C) (f:Str):PySem.W.plainGet K C f=true:=c.pg
def NoAttr (K:PySem.W.Frag) (C:Addr) (f:Str):Prop:=PySem.W.findIn K (.ref C) f=some none
theorem NoAttr.taker {K:PySem.W.Frag} {C:Addr} {f:Str} (n:NoAttr K C f):PySem.W.takerIn K C f=some none:=by
  unfold PySem.W.takerIn
  rw [show PySem.W.findIn K (.ref C) f=some none from n]
  rfl
structure Meth (K:PySem.W.Frag) (C:Addr) (m:Str) (f:Addr):Prop where
  at_:PySem.W.findIn K (.ref C) m=some (some (.ref f))
  fn:PySem.W.isFn K (.ref f)=true
  kp:PySem.W.keepIn K (.ref f)=true
section
variable {X : Cx} {pins : List (Addr × Obj)} {σ : St} {H : Hp} {s : Shared} {a C dx : Addr} {fs : List (Str × V)} {f : Str} {v : V} {A : Around} {E : Value → Shared → Prop}
theorem qgi {b:Bool} {Q:Value→Shared→Prop} (I:Inv X pins σ H s) (e:H a=some (.ins C dx fs)) (c:Cls X.K C) (n:NoAttr X.K C f) (l:fs.lookup f=some v)
    (h:∀ u s',Inv X pins σ H s'→RelV v u→Q u s'):wpAny (model X.prog X.w) A (getAttr (.ref a) f b) Q E s:=by
  obtain ⟨mA,O,r,_,_,_⟩:=qfj I.hok e
  obtain ⟨u,hu,ru⟩:=RelO.some_of (v:=v) (o:=mA f) (by rw [← l];exact r f)
  exact qj3 I.kIn O (c.get f) c.hd n hu (qg6 ru) (h u _ (I.tok _) ru)
theorem qb4 {m:Str} {g:Addr} {pl:Sem Bool} {Q:Value × List Value→Shared→Prop} (I:Inv X pins σ H s) (e:H a=some (.ins C dx fs)) (c:Cls X.K C) (k:Meth X.K C m g) (l:fs.lookup m=none)
    (h:Q (.ref g,[.ref a]) s):wpAny (model X.prog X.w) A (getMethod (.ref a) m pl) Q E s:=by
  obtain ⟨mA,O,r,_,_,_⟩:=qfj I.hok e
  have hn:mA m=none:=RelO.none_of (by rw [← l];exact r m)
  exact qh0 I.kIn O (c.get m) k.at_ k.fn hn h
theorem qf1 {y:V} {u:Value} {Q:Unit→Shared→Prop} (I:Inv X pins σ H s) (e:H a=some (.ins C dx fs)) (c:Cls X.K C) (n:NoAttr X.K C f) (hl:fs.length<1000) (ry:RelV y u)
    (h:∀ s',Inv X pins σ (upd H a (.ins C dx (qc2 f y fs))) s'→Q () s'):wpAny (model X.prog X.w) A (setAttr (.ref a) f u) Q E s:=by
  obtain ⟨mA,O,r,wi,_,ho⟩:=qfj I.hok e
  have hz:(fs.map (·.1)).length≤sizeLine:=by rw [List.length_map,sizeLine_eq];omega
  refine qjy I.kIn O c.sa c.po n.taker c.hd wi hz fun h' O' sb=>h _ ?_
  have hd:∃ o,h'.get? dx=some o:=let ⟨o,_,_,e',_⟩:=O'.ns;⟨o,e'⟩
  refine I.write (x:=a) (e:=dx) (by rw [e];exact True.intro) (.inr ho) (fun b q hb z=>(sb.2 b hb).trans z) hd ?_
  refine ⟨by rw [qag O.ne];exact ho,?_,O.ne,O'.obj,_,O'.ns,fun g=>?_,fun g hg=>?_⟩
  · have:=qdw f y fs;omega
  · show RelO ((qc2 f y fs).lookup g) (if g=f then some u else mA g)
    rw [qdi]
    by_cases q:g=f
    · rw [if_pos q,if_pos q];exact ry
    · rw [if_neg q,if_neg q];exact r g
  · by_cases q:g=f
    · rw [q];exact (qdy f y fs).1
    · refine (qdy f y fs).2 g (wi g fun z=>hg ?_)
      show (if g=f then some u else mA g)=none
      rw [if_neg q];exact z
theorem Inv.made (I:Inv X pins σ H s):Inv X pins σ (upd (upd H s.heap.objs.size (.own (s.heap.objs.size+1))) (s.heap.objs.size+1) (.ins C s.heap.objs.size []))
    { s with heap:=(s.heap.push PySem.W.emptyDict).push (PySem.W.instObj C s.heap.objs.size) }:=by
  have e1:(s.heap.push PySem.W.emptyDict).get? s.heap.objs.size=some PySem.W.emptyDict:=Heap.get?_push_size s.heap rfl
  have e2:((s.heap.push PySem.W.emptyDict).push (PySem.W.instObj C s.heap.objs.size)).get? (s.heap.objs.size+1)=some (PySem.W.instObj C s.heap.objs.size):=by
    have:=Heap.get?_push_size (s.heap.push PySem.W.emptyDict) (o:=PySem.W.instObj C s.heap.objs.size) rfl
    rwa [Heap.size_push] at this
  have e3:(s.heap.push PySem.W.emptyDict).Ns s.heap.objs.size (fun _=>none):=⟨PySem.W.emptyDict,#[],_,e1,rfl,(fun e he=>absurd he (by simp)),fun _=>rfl⟩
  have I1:=I.laid (a:=s.heap.objs.size) (o:=.own (s.heap.objs.size+1)) (h':=s.heap.push PySem.W.emptyDict) (t':=s.toks) (fun b u q=>Heap.get?_push_of_some _ q) (Nat.le_refl _) ⟨_,e1⟩
  refine I1.laid (a:=s.heap.objs.size+1) (o:=.ins C s.heap.objs.size []) (t':=s.toks) (fun b u q=>Heap.get?_push_of_some _ q) (Nat.le_of_eq (Heap.size_push _ _)) ?_
  have ne:s.heap.objs.size≠s.heap.objs.size+1:=Nat.ne_of_lt (Nat.lt_succ_self _)
  refine ⟨by rw [qag ne,qai],Nat.zero_le _,ne,e2,fun _=>none,(Heap.Ns1.of_empty e3).at fun o q=>Heap.get?_push_of_some _ q,fun _=>True.intro,fun y hy=>absurd rfl hy⟩
theorem qhn {prog:Program} {w:World} {env:Env} {e:Expr} {f:Str} {pos:Pos} {s:Shared} {Q:Value→Shared→Prop} (hb:attributeBase e f env (eval e env)=eval e env)
    (h:wpAny (model prog w) A (eval e env) (fun o s₁=>wpAny (model prog w) A (getAttr o f true) Q E s₁) E s):wpAny (model prog w) A (eval (.Attribute e f pos) env) Q E s :=
  Attribute_any_ h (by rw [arm_eval_Attribute,hb])
end
def qnN (K:PySem.W.Frag) (ta:TE) (f:Str):TE:=fun σ H Q=>ta σ H fun x H1=>∃ a C dx fs v,x=.ref a∧H1 a=some (.ins C dx fs)∧Cls K C∧NoAttr K C f∧fs.lookup f=some v∧Q v H1
def qoS (K:PySem.W.Frag) (ta tv:TE) (f:Str):TS:=fun D σ H=>tv σ H fun y H1=>ta σ H1 fun x H2=>∃ a C dx fs,x=.ref a∧H2 a=some (.ins C dx fs)∧Cls K C∧NoAttr K C f∧fs.length<1000 ∧
  D.nx σ (upd H2 a (.ins C dx (qc2 f y fs)))
section
variable {X : Cx} {o e value : Expr} {f : Str} {pos pos' tpos : Pos} {ta tv : TE}
theorem qkG (he:PE X e ta) (hb:attributeBase e f X.env (eval e X.env)=eval e X.env):PE X (.Attribute e f pos) (qnN X.K ta f):=by
  intro pins s σ H Q I h
  refine qhn hb (thn (he pins s σ H _ I h) fun u s1 hq0=>?_)
  obtain ⟨x,H1,I1,rx,a,C,dx,fs,v,ex,ea,c,n,l,q⟩:=hq0
  subst ex
  obtain rfl:u=Value.ref a:=rx
  exact qgi I1 ea c n l fun u' s2 I2 ru=>⟨v,H1,I2,ru,q⟩
theorem qiR (ha:PE X o ta) (hv:PE X value tv) (hs:swapsWith value (some (.Attribute o f pos')) pos.line X.env=pure false):PS X (.Assign [.Attribute o f pos'] value pos) (qoS X.K ta tv f):=by
  intro pins s σ H D I h
  refine plainObj_wpAny_Assign_Attribute (thn (hv pins s σ H _ I h) fun u s1 ⟨y,H1,I1,ry,q⟩=>thn (ha pins s1 σ H1 _ I1 q) fun ov s2 ⟨x,H2,I2,rx,a,C,dx,fs,ex,ea,c,n,l,q2⟩=>?_) hs
  subst ex
  obtain rfl:ov=Value.ref a:=rx
  exact qf1 I2 ea c n l ry fun s3 I3=>⟨σ,_,I3,q2⟩
end
section
variable {X : Cx} {pins : List (Addr × Obj)} {σ : St} {H : Hp} {s : Shared} {A : Around} {E : Value → Shared → Prop} {Q : Value → Shared → Prop} {c : Value} {b : Bool}
inductive TyOf (K:PySem.W.Frag) (H:Hp):V→Value→Prop where
  | non:TyOf K H .non (.type "NoneType")
  | bl (x:Bool):TyOf K H (.bl x) (.type "bool")
  | int (i:Int):TyOf K H (.int i) (.type "int")
  | str (x:Str):TyOf K H (.str x) (.type "str")
  | flt (x:UInt64):TyOf K H (.flt x) (.type "float")
  | lst {a:Addr} {xs:List V} (e:H a=some (.lst xs)):TyOf K H (.ref a) (.type "list")
  | frz {a:Addr} {o:Obj} {xs:List V} (e:H a=some (.frz o (.lst xs))):TyOf K H (.ref a) (.type "list")
  | tup {a:Addr} {xs:List V} (e:H a=some (.tup xs)):TyOf K H (.ref a) (.type "tuple")
  | dK {a:Addr} {kvs:List (Key × V)} (e:H a=some (.dK kvs)):TyOf K H (.ref a) (.type "dict")
  | dT {a:Addr} {kvs:List (List Key × V)} (e:H a=some (.dT kvs)):TyOf K H (.ref a) (.type "dict")
  | ins {a C dx:Addr} {fs:List (Str × V)} (e:H a=some (.ins C dx fs)) (cl:Cls K C) (ha:PySem.W.findIn K (.ref C) "__class__"=some (some (.builtin "object.__class__")))
      (hn:PySem.W.specialIn K (.builtin "object.__class__") "__get__"=some (some (.builtin "getset_descriptor.__get__"))) (htk:PySem.W.takesIn K (.builtin "object.__class__")=some true)
      (hm:PySem.W.mroIn K C (.type "object")=some true):TyOf K H (.ref a) (.ref C)
end
structure Room (k:Nat) (A:Around):Prop where
  hd:A.handled=none
  dp:A.depth+3*k+5<recursionLimit
  un:A.units+16*k+200<cLine
theorem Room.mono {j k:Nat} {A:Around} (r:Room k A) (h:j≤k):Room j A:=⟨r.hd,by have:=r.dp;omega,by have:=r.un;omega⟩
theorem Room.deeper {k:Nat} {A:Around} (r:Room (k+1) A) (env:Env):Room k (A.deeper env) :=
  ⟨r.hd,by have:=r.dp;show A.depth+1+3*k+5<_;omega,by have:=r.un;show A.units+3+16*k+200<_;omega⟩
theorem qf8 {A:Around} {C:Addr} {us:List Value} {kw:List (Str × Value)}:(A.under (.builtin "type.__call__" ⟨.ref C::us,kw⟩)).depth=A.depth+1:=by
  first | rfl | simp [Around.under,Code.weight,Code.isCreation,Code.isGuard,Code.isCaller,Code.frames,Code.isFrame,guardIds]
theorem qge {A:Around} {C:Addr} {us:List Value} {kw:List (Str × Value)}:(A.under (.builtin "type.__call__" ⟨.ref C::us,kw⟩)).units=A.units+1:=by
  first | rfl | simp [Around.under,Code.cUnits,Code.frames,Code.isFrame]
theorem Room.make {k:Nat} {A:Around} (r:Room (k+1) A) (C:Addr) (us:List Value) (kw:List (Str × Value)):Room k (A.under (.builtin "type.__call__" ⟨.ref C::us,kw⟩)) :=
  ⟨r.hd,by have:=r.dp;rw [qf8];omega,by have:=r.un;rw [qge];omega⟩
theorem Room.depth {k:Nat} {A:Around} (r:Room k A):A.depth<recursionLimit:=by have:=r.dp;omega
theorem Room.units {k:Nat} {A:Around} (r:Room k A):A.units+64<cLine:=by have:=r.un;omega
def qmO:TA:=fun _ H Q=>Q [] H
def qmF (ta:TE) (tr:TA):TA:=fun σ H Q=>ta σ H fun x H1=>tr σ H1 fun xs H2=>Q (x::xs) H2
section
variable {X : Cx} {e : Expr} {es : List Expr} {te : TE} {t : TA} {pos : Pos}
theorem pa_nil:PA X [] qmO:=fun _ _ _ _ H Q I h=>Calls.spliced_nil ⟨[],H,I,.nil,h⟩
theorem qa9 (ha:PE X e te) (hr:PA X es t) (hs:starEach (e::es) X.env=(false,eval e X.env)::starEach es X.env:=by rfl):PA X (e::es) (qmF te t):=by
  intro pos pins s σ H Q I h
  rw [hs]
  show wpAny _ _ (spliced ((false,eval e X.env)::backTo pos (starEach es X.env))) _ _ s
  refine Calls.spliced_cons (thn (ha pins s σ H _ I h) fun u s1 hq0=>?_)
  obtain ⟨x,H1,I1,r1,q1⟩:=hq0
  exact thn (hr pos pins s1 σ H1 _ I1 q1) fun us s2 hq1=>by obtain ⟨xs,H2,I2,r2,q2⟩:=hq1;exact ⟨x::xs,H2,I2,.cons r1 r2,q2⟩
def qnU (t:TA):TE:=fun σ H Q=>t σ H fun xs H1=>xs.length≤sizeLine∧∀ p,H1 p=none→Q (.ref p) (upd H1 p (.tup xs))
def qn1 (t:TA):TE:=fun σ H Q=>t σ H fun xs H1=>xs.length≤sizeLine∧∀ p,H1 p=none→Q (.ref p) (upd H1 p (.lst xs))
theorem qi7 {x1} (h:PA X es t):PE X (.Tuple es x1 pos) (qnU t):=by
  intro pins s σ H Q I hq
  refine wpAny_Tuple_spliced (thn (h pos pins s σ H _ I hq) fun us s1 ⟨xs,H1,I1,r,z,q⟩=>⟨by rw [← r.length];exact z,?_⟩)
  have hf:H1 s1.heap.objs.size=none:=I1.hok.fresh (Nat.le_refl _)
  refine ⟨.ref s1.heap.objs.size,upd H1 s1.heap.objs.size (.tup xs),I1.laid (t':=s1.toks) (fun b u e=>Heap.get?_push_of_some _ e) (Nat.le_refl _) ?_,rfl,q _ hf⟩
  exact ⟨z,us,r,⟨_,Heap.get?_push_size _ rfl,⟨rfl,rfl⟩,_,rfl⟩⟩
theorem qlF (h:PA X es t):PE X (.List es pos) (qn1 t):=by
  intro pins s σ H Q I hq
  refine wpAny_List_spliced (thn (h pos pins s σ H _ I hq) fun us s1 ⟨xs,H1,I1,r,z,q⟩=>⟨by rw [← r.length];exact z,?_⟩)
  have hf:H1 s1.heap.objs.size=none:=I1.hok.fresh (Nat.le_refl _)
  refine ⟨.ref s1.heap.objs.size,upd H1 s1.heap.objs.size (.lst xs),I1.laid (t':=s1.toks) (fun b u e=>Heap.get?_push_of_some _ e) (Nat.le_refl _) ?_,rfl,q _ hf⟩
  exact ⟨z,us,0,r,Heap.get?_push_size _ rfl⟩
end
abbrev Sp:=List V→Hp→VK→XK→Prop
abbrev CXT:=List Env→Hp→Shared→XK→Value→Shared→Prop
structure Env0 (P:Program) (w:World) (K:PySem.W.Frag) (mg:Str→Option Value) (base:Heap) (A:Around) (outer:List Env) (s:Shared) (H:Hp):Prop where
  frames:A.frames=some outer
  mod:Mod K mg base
  bs:∀ b o,base.get? b=some o→s.heap.get? b=some o∧H b=none
  bsz:base.objs.size≤s.heap.objs.size
  funs:s.heap.FunFrames base outer
  frf:∀ b∈frs outer,H b=none
  hok:HOk P w H s.heap
  bare:AllBare s.gens
def CE (outer:List Env) (P:Program) (w:World) (H:Hp) (s:Shared) (Q:VK) (u:Value) (s':Shared):Prop :=
  ∃ v H',s'.os=s.os∧AllBare s'.gens∧Un (frs outer) [] H H' s.heap s'.heap∧HOk P w H' s'.heap∧RelV v u∧Q v H'
def CR (CX:CXT) (outer:List Env) (P:Program) (w:World) (H:Hp) (s:Shared) (Q:VK) (E:XK) (r:Result) (s':Shared):Prop :=
  match r with
  | .ok (.ret u)=>CE outer P w H s Q u s'
  | .ok _=>False
  | .error e=>CX outer H s E e s'
structure FnOk (P:Program) (w:World) (K:PySem.W.Frag) (mg:Str→Option Value) (base:Heap) (CX:CXT) (k:Nat) (f:Addr) (fd:FuncData) (ps:List Str) (sp:Sp):Prop where
  len:∀ vs H Q E,sp vs H Q E→vs.length=ps.length
  run:∀ (A:Around) (outer:List Env) (s:Shared) (H:Hp) (args:Args) (us:List Value) (vs:List V) (Q:VK) (E:XK),Room k A→Env0 P w K mg base A outer s H→BindsTo s fd args (ps.zip us)→Vals vs us→sp vs H Q E →
    codeAny (model P w) A (.call (.ref f) args) (CR CX outer P w H s Q E) s
theorem FnOk.mono {P:Program} {w:World} {K:PySem.W.Frag} {mg:Str→Option Value} {base:Heap} {CX:CXT} {j k:Nat} {f:Addr} {fd:FuncData} {ps:List Str} {sp:Sp} (F:FnOk P w K mg base CX j f fd ps sp) (h:j≤k) :
    FnOk P w K mg base CX k f fd ps sp:=⟨F.len,fun A outer s H args us vs Q E hr=>F.run A outer s H args us vs Q E (hr.mono h)⟩
theorem FnOk.imp {P:Program} {w:World} {K:PySem.W.Frag} {mg:Str→Option Value} {base:Heap} {CX:CXT} {k:Nat} {f:Addr} {fd:FuncData} {ps:List Str} {sp sp':Sp} (F:FnOk P w K mg base CX k f fd ps sp)
    (h:∀ vs H Q E,sp' vs H Q E→sp vs H Q E):FnOk P w K mg base CX k f fd ps sp' :=
  ⟨fun vs H Q E q=>F.len vs H Q E (h _ _ _ _ q),fun A outer s H args us vs Q E hr he hb hv hs=>F.run A outer s H args us vs Q E hr he hb hv (h _ _ _ _ hs)⟩
theorem Env0.make {P:Program} {w:World} {K:PySem.W.Frag} {mg:Str→Option Value} {base:Heap} {A:Around} {outer:List Env} {s:Shared} {H:Hp} (e:Env0 P w K mg base A outer s H) (C:Addr) (us:List Value) (kw:List (Str × Value)) :
    Env0 P w K mg base (A.under (.builtin "type.__call__" ⟨.ref C::us,kw⟩)) outer s H:=⟨by first | exact e.frames | (simpa [Around.under,Code.envs,Code.isFrame,pushEnvs] using e.frames),e.mod,e.bs,e.bsz,e.funs,e.frf,e.hok,e.bare⟩
section
variable {X : Cx} {pins : List (Addr × Obj)} {σ : St} {H : Hp} {s s' : Shared}
theorem Inv.env0 (I:Inv X pins σ H s):Env0 X.prog X.w X.K X.mg X.base X.A X.stack s H :=
  ⟨I.ok.frames,I.ok.mod,I.bs,Nat.le_trans I.ok.bsz I.sz,I.stack,I.stkFree,I.hok,I.bare⟩
theorem Inv.after {Q:VK} {u:Value} (I:Inv X pins σ H s) (h:CE X.stack X.prog X.w H s Q u s'):EP X pins σ Q u s':=by
  obtain ⟨v,H',os,bare,un,hok,r,q⟩:=h
  obtain ⟨hh,g,d,t,os'⟩:=s'
  obtain rfl:os'=s.os:=os
  exact ⟨v,H',I.call (h':=hh) (g':=g) (d':=d) (t':=t) (ch:=[]) un hok bare (fun b z=>absurd z (by simp)),r,q⟩
end
def qni (sp:Sp) (dvs:List V) (E:XK) (t:TA):TE:=fun σ H Q=>t σ H fun vs H1=>sp (vs++dvs) H1 Q E
def qkQ (C:Addr) (m:Str) (sp:Sp) (dvs:List V) (E:XK) (ta:TE) (t:TA):TE:=fun σ H Q=>ta σ H fun x H1=>∃ a dx fs,x=.ref a∧H1 a=some (.ins C dx fs)∧fs.lookup m=none ∧
  t σ H1 fun vs H2=>sp (x::(vs++dvs)) H2 Q E
def qm0 (C:Addr) (sp:Sp) (dvs:List V) (E:XK) (t:TA):TE:=fun σ H Q=>t σ H fun vs H1=>∀ x dx,H1 x=none→H1 dx=none→dx≠x →
  sp (.ref x::(vs++dvs)) (upd (upd H1 dx (.own x)) x (.ins C dx [])) (fun v H2=>v=.non∧Q (.ref x) H2) E
def Binds (K:PySem.W.Frag) (fd:FuncData) (ps:List Str) (ds:List Value):Prop :=
  ∀ (s:Shared) (us:List Value),K.In s.heap→(us++ds).length=ps.length→BindsTo s fd ⟨us,[]⟩ (ps.zip (us++ds))
theorem Binds.all {K:PySem.W.Frag} {fd:FuncData} {ps:List Str} (h:∀ us:List Value,us.length=ps.length→bindArgs fd ⟨us,[]⟩=pure (ps.zip us)):Binds K fd ps []:=fun s us _ hl=>by
  rw [List.append_nil] at hl ⊢
  exact .of_eq (h us hl)
def qcP (CX:CXT) (X:Cx) (E:XK):Prop:=∀ (pins:List (Addr × Obj)) (σ:St) (H:Hp) (s:Shared) (e:Value) (s':Shared),Inv X pins σ H s→CX X.stack H s E e s'→X.xe e s'
section
variable {X : Cx} {CX : CXT} {k : Nat} {f C : Addr} {fd : FuncData} {ps : List Str} {sp : Sp} {dvs : List V} {ds : List Value} {E : XK} {x m : Str} {p pos apos : Pos} {e o : Expr} {es : List Expr} {ta : TE} {t : TA}
theorem qhB {pins:List (Addr × Obj)} {σ:St} {H:Hp} {s:Shared} {Q:VK} {us:List Value} {vs:List V} (F:FnOk X.prog X.w X.K X.mg X.base CX k f fd ps sp) (hr:Room k X.A) (hb:Binds X.K fd ps ds) (hd:Vals dvs ds) (hx:qcP CX X E)
    (I:Inv X pins σ H s) (r:Vals vs us) (h:sp (vs++dvs) H Q E):wpAny (model X.prog X.w) X.A (call (.ref f) us) (EP X pins σ Q) X.xe s:=by
  have r2:Vals (vs++dvs) (us++ds):=r.append hd
  have hl:(us++ds).length=ps.length:=by rw [← r2.length];exact F.len _ _ _ _ h
  refine wpAny_call (codeAny_mono (F.run X.A X.stack s H ⟨us,[]⟩ (us++ds) (vs++dvs) Q E hr I.env0 (hb s us I.kIn hl) r2 h) fun r s' hq=>?_)
  cases r with
  | error e=>exact hx pins σ H s e s' I hq
  | ok fl =>
    cases fl with
    | ret u=>exact I.after hq
    | next=>exact False.elim hq
    | brk=>exact False.elim hq
    | cont=>exact False.elim hq
theorem qe3 (F:FnOk X.prog X.w X.K X.mg X.base CX k f fd ps sp) (hr:Room k X.A) (hg:Gl X x) (hm:X.mg x=some (.ref f)) (hk:PySem.W.keepIn X.K (.ref f)=true) (hb:Binds X.K fd ps ds) (hd:Vals dvs ds) (hx:qcP CX X E)
    (ha:PA X (e::es) t) (hdb:(x == ("__debug__":Str))=false:=by decide) (he:starEach (e::es) X.env=(false,eval e X.env)::starEach es X.env:=by rfl) (hpl:(backTo pos (starEach es X.env)).any (·.1)=false:=by rfl) :
    PE X (.Call (.Name x p) (e::es) [] pos) (qni sp dvs E t):=by
  intro pins s σ H Q I h
  refine wpAny_Call_Name_kw (qbS I hg hm ?_ hdb)
  refine PySem.W.callWith_K (h₀:=X.base) I.ok.mod.kin hk (thn (ha pos pins s σ H _ I h) fun us s1 ⟨vs,H1,I1,r,q⟩=>⟨I1.kIn,?_⟩) he hpl
  exact qhB F hr hb hd hx I1 r q
theorem qkg {pl:Sem Bool} (he:PE X o ta) (c:Cls X.K C) (hm:Meth X.K C m f) (F:FnOk X.prog X.w X.K X.mg X.base CX k f fd ps sp) (hr:Room k X.A) (hb:Binds X.K fd ps ds) (hd:Vals dvs ds) (hx:qcP CX X E) (ha:PA X (e::es) t)
    (hst:starEach (e::es) X.env=(false,eval e X.env)::starEach es X.env:=by rfl) (hpl:(backTo pos (starEach es X.env)).any (·.1)=false:=by rfl)
    (ht:eval (.Call (.Attribute o m apos) (e::es) [] pos) X.env=(do
      let ov ← eval o X.env
      standAt apos.atName
      let (f,first) ← holding [ov] (getMethod ov m pl)
      callWith pos f first (backTo pos (starEach (e::es) X.env)) (backToKw pos (keywordEach [] X.env))):=by rfl) :
    PE X (.Call (.Attribute o m apos) (e::es) [] pos) (qkQ C m sp dvs E ta t):=by
  intro pins s σ H Q I h
  refine PySem.W.methodCall_KW (pl:=pl) (thn (he pins s σ H _ I h) fun u s1 ⟨x,H1,I1,rx,a,dx,fs,ex,ea,l,q⟩=>?_) ht
  subst ex
  obtain rfl:u=Value.ref a:=rx
  refine qb4 I1 ea c hm l ?_
  refine PySem.W.callWith_K (first:=[.ref a]) (h₀:=X.base) I.ok.mod.kin hm.kp (thn (ha pos pins s1 σ H1 _ I1 q) fun us s2 ⟨vs,H2,I2,r,q2⟩=>⟨I2.kIn,?_⟩) hst hpl
  exact qhB (us:=.ref a::us) (vs:=.ref a::vs) F hr hb hd hx I2 (.cons rfl r) q2
theorem qih {pl:Sem Bool} (he:PE X o ta) (c:Cls X.K C) (hm:Meth X.K C m f) (F:FnOk X.prog X.w X.K X.mg X.base CX k f fd ps sp) (hr:Room k X.A) (hb:Binds X.K fd ps ds) (hd:Vals dvs ds) (hx:qcP CX X E)
    (ht:eval (.Call (.Attribute o m apos) [] [] pos) X.env=(do
      let ov ← eval o X.env
      standAt apos.atName
      let (f,first) ← holding [ov] (getMethod ov m pl)
      callWith pos f first (backTo pos (starEach [] X.env)) (backToKw pos (keywordEach [] X.env))):=by rfl) :
    PE X (.Call (.Attribute o m apos) [] [] pos) (qkQ C m sp dvs E ta qmO):=by
  intro pins s σ H Q I h
  refine PySem.W.methodCall_KW (pl:=pl) (thn (he pins s σ H _ I h) fun u s1 hq0=>?_) ht
  obtain ⟨x,H1,I1,rx,a,dx,fs,ex,ea,l,q⟩:=hq0
  subst ex
  obtain rfl:u=Value.ref a:=rx
  refine qb4 I1 ea c hm l ?_
  exact PySem.W.callWith_K0 (first:=[.ref a]) I1.kIn hm.kp (qhB (us:=[.ref a]) (vs:=[.ref a]) F hr hb hd hx I1 (.cons rfl .nil) q)
structure Mk (K:PySem.W.Frag) (C f:Addr):Prop where
  makes:PySem.W.makesIn K C=true
  init:PySem.W.findIn K (.ref C) "__init__"=some (some (.ref f))
  fn:PySem.W.isFn K (.ref f)=true
  kp:PySem.W.keepIn K (.ref C)=true
theorem qh7 {pins:List (Addr × Obj)} {σ:St} {H:Hp} {s:Shared} {Q:VK} {us:List Value} {vs:List V} (M:Mk X.K C f) (F:FnOk X.prog X.w X.K X.mg X.base CX k f fd ps sp) (hr:Room (k+1) X.A) (hb:Binds X.K fd ps ds) (hd:Vals dvs ds)
    (hx:qcP CX X E) (I:Inv X pins σ H s) (r:Vals vs us)
    (h:∀ x dx,H x=none→H dx=none→dx≠x→sp (.ref x::(vs++dvs)) (upd (upd H dx (.own x)) x (.ins C dx [])) (fun v H2=>v=.non∧Q (.ref x) H2) E) :
    wpAny (model X.prog X.w) X.A (call (.ref C) us) (EP X pins σ Q) X.xe s:=by
  have hq:=h (s.heap.objs.size+1) s.heap.objs.size (I.hok.fresh (Nat.le_succ _)) (I.hok.fresh (Nat.le_refl _)) (Nat.ne_of_lt (Nat.lt_succ_self _))
  have I2:=Inv.made (C:=C) I
  have r2:Vals (V.ref (s.heap.objs.size+1)::(vs++dvs)) (Value.ref (s.heap.objs.size+1)::(us++ds)):=.cons rfl (r.append hd)
  have hl:(Value.ref (s.heap.objs.size+1)::us++ds).length=ps.length:=by
    have e:=r2.length
    rw [F.len _ _ _ _ hq] at e
    exact e.symm
  refine wpAny_call (qid (f:=f) I.kIn M.makes M.init (beq_iff_eq.mp M.fn) (codeAny_mono (F.run _ X.stack _ _ ⟨Value.ref (s.heap.objs.size+1)::us,[]⟩ (Value.ref (s.heap.objs.size+1)::(us++ds)) _ _ E (hr.make C us [])
    (I2.env0.make C us []) (hb _ (Value.ref (s.heap.objs.size+1)::us) I2.kIn hl) r2 hq) fun r s' hq'=>?_))
  cases r with
  | error e=>exact hx pins σ _ _ e s' I2 hq'
  | ok fl =>
    cases fl with
    | ret u =>
      obtain ⟨v,H',I3,rv,ev,q3⟩:=I2.after hq'
      subst ev
      exact ⟨rv,⟨V.ref (s.heap.objs.size+1),H',I3,rfl,q3⟩⟩
    | next=>exact False.elim hq'
    | brk=>exact False.elim hq'
    | cont=>exact False.elim hq'
theorem qjx (M:Mk X.K C f) (F:FnOk X.prog X.w X.K X.mg X.base CX k f fd ps sp) (hr:Room (k+1) X.A) (hg:Gl X x) (hm:X.mg x=some (.ref C)) (hb:Binds X.K fd ps ds) (hd:Vals dvs ds) (hx:qcP CX X E)
    (ha:PA X (e::es) t) (hdb:(x == ("__debug__":Str))=false:=by decide) (he:starEach (e::es) X.env=(false,eval e X.env)::starEach es X.env:=by rfl) (hpl:(backTo pos (starEach es X.env)).any (·.1)=false:=by rfl) :
    PE X (.Call (.Name x p) (e::es) [] pos) (qm0 C sp dvs E t):=by
  intro pins s σ H Q I h
  refine wpAny_Call_Name_kw (qbS I hg hm ?_ hdb)
  refine PySem.W.callWith_K (h₀:=X.base) I.ok.mod.kin M.kp (thn (ha pos pins s σ H _ I h) fun us s1 ⟨vs,H1,I1,r,q⟩=>⟨I1.kIn,?_⟩) he hpl
  exact qh7 M F hr hb hd hx I1 r q
end
section
variable {X : Cx} {CX : CXT} {k : Nat} {f C : Addr} {fd : FuncData} {ps ks : List Str} {sp : Sp} {E : XK} {x m : Str} {p pos apos kpos : Pos} {e o : Expr} {es : List Expr} {kws : List Keyword} {te ta : TE} {t tk : TA} {nm : Option Str}
variable {g : List Value → List Value → List Value} {gV : List V → List V → List V}
end
structure FnScope (N P:List Str) (sc:Scope):Prop where
  kind:sc.kind=.function
  co:sc.isCoroutine=false
  gen:sc.isGenerator=false
  nd:N.Nodup
  pre:N.take P.length=P
  par:∀ x∈P,sc.names.lookup x=some .local∨sc.names.lookup x=some .cell
  nofree:∀ y∈sc.names,y.2≠.free
theorem qeN {kindOf:Str→Option NameKind} {x:Str}:∀ {binds:List (Str × Value)} {m:Str→Option Value},(∀ v,(x,v)∉binds)→bindL kindOf binds m x=m x
  | [],_,_=>rfl
  | (n,v)::r,m,h=>by
    unfold bindL
    rw [qeN fun w hw=>h w (List.mem_cons_of_mem _ hw)]
    split
    · have:x≠n:=by rintro rfl;exact h v List.mem_cons_self
      simp [this]
    · rfl
theorem qeJ {kindOf:Str→Option NameKind} {x:Str}:∀ {binds:List (Str × Value)} {m:Str→Option Value},(∀ v,(x,v)∉binds)→bindC kindOf binds m x=m x
  | [],_,_=>rfl
  | (n,v)::r,m,h=>by
    unfold bindC
    rw [qeJ fun w hw=>h w (List.mem_cons_of_mem _ hw)]
    split
    · rfl
    · have:x≠n:=by rintro rfl;exact h v List.mem_cons_self
      simp [this]
theorem qeS {kindOf:Str→Option NameKind} {x:Str} {v:Value}:∀ {P:List Str} {vs:List Value} {i:Nat} {m:Str→Option Value},P.Nodup→P[i]?=some x→vs[i]?=some v→kindOf x=some .local →
    bindL kindOf (P.zip vs) m x=some v
  | [],_,_,_,_,h,_,_=>by simp at h
  | _::_,[],_,_,_,_,h,_=>by simp at h
  | p::P,w::vs,0,m,nd,h1,h2,hk=>by
    simp at h1 h2;subst h1;subst h2
    show bindL kindOf ((p,w)::P.zip vs) m p=_
    unfold bindL
    rw [qeN fun v hv=>(List.nodup_cons.mp nd).1 (List.of_mem_zip hv).1,if_pos hk]
    simp
  | p::P,w::vs,i+1,m,nd,h1,h2,hk=>by
    show bindL kindOf ((p,w)::P.zip vs) m x=_
    unfold bindL
    exact qeS (i:=i) (List.nodup_cons.mp nd).2 (by simpa using h1) (by simpa using h2) hk
theorem qey {kindOf:Str→Option NameKind} {x:Str} {v:Value}:∀ {P:List Str} {vs:List Value} {i:Nat} {m:Str→Option Value},P.Nodup→P[i]?=some x→vs[i]?=some v→kindOf x≠some .local →
    bindC kindOf (P.zip vs) m x=some v
  | [],_,_,_,_,h,_,_=>by simp at h
  | _::_,[],_,_,_,_,h,_=>by simp at h
  | p::P,w::vs,0,m,nd,h1,h2,hk=>by
    simp at h1 h2;subst h1;subst h2
    show bindC kindOf ((p,w)::P.zip vs) m p=_
    unfold bindC
    rw [qeJ fun v hv=>(List.nodup_cons.mp nd).1 (List.of_mem_zip hv).1,if_neg hk]
    simp
  | p::P,w::vs,i+1,m,nd,h1,h2,hk=>by
    show bindC kindOf ((p,w)::P.zip vs) m x=_
    unfold bindC
    exact qey (i:=i) (List.nodup_cons.mp nd).2 (by simpa using h1) (by simpa using h2) hk
def qca (N:List Str) (vs:List V):St:=vs.map some++List.replicate (N.length - vs.length) none
def qgy (CX:CXT) (P:Program) (w:World) (K:PySem.W.Frag) (mg:Str→Option Value) (base:Heap) (N:List Str) (qual:Str) (scope:Scope) (f:Addr) (cd:Value) (A:Around) (outer:List Env) (s:Shared) (H:Hp) (E:XK):Cx where
  prog:=P
  w:=w
  K:=K
  mg:=mg
  base:=base
  A:=A.deeper (envOfC qual scope s.heap.objs.size f cd)
  N:=N
  s₀:=s
  H₀:=H
  env:=envOfC qual scope s.heap.objs.size f cd
  outer:=outer
  stack:=envOfC qual scope s.heap.objs.size f cd::outer
  ex:=[]
  calm:=true
  fn:=fun _=>true
  pn:=[]
  xe:=fun e s'=>wpAny (model P w) (A.deeper (envOfC qual scope s.heap.objs.size f cd)) (leaving (envOfC qual scope s.heap.objs.size f cd) e) (fun _ s''=>CX outer H s E e s'') (fun e' s''=>CX outer H s E e' s'') s'
theorem qen {sc:Scope} {n:Nat} {x:Str} (h:sc.names.lookup x=some .cell):∃ c,(cellsFrom n sc.names []).lookup x=some c:=by
  have q:=PySem.W.cellsFrom_some sc.names n [] (.inl h)
  exact Option.isSome_iff_exists.mp q
theorem qg0 {CX:CXT} {P:Program} {w:World} {K:PySem.W.Frag} {mg:Str→Option Value} {base:Heap} {N ps:List Str} {qual:Str} {scope:Scope} {f:Addr} {cd:Value} {A:Around} {outer:List Env} {s s1:Shared} {H:Hp} {E:XK} {us:List Value} {vs:List V}
    (S:FnScope N ps scope) (hd:A.handled=none) (e0:Env0 P w K mg base A outer s H) (hl:vs.length=ps.length) (r:Vals vs us)
    (x:InCallC s s.heap.objs.size (bindL (envOfC qual scope s.heap.objs.size f cd).kindOf (ps.zip us) fun _=>none) (cellsFrom (s.heap.objs.size+1) scope.names []) (bindC (envOfC qual scope s.heap.objs.size f cd).kindOf (ps.zip us) fun _=>none) s1) :
    Inv (qgy CX P w K mg base N qual scope f cd A outer s H E) [] (qca N vs) H s1:=by
  have hpl:ps.length≤N.length:=by have:=congrArg List.length S.pre;rw [List.length_take] at this;omega
  obtain ⟨h1,tk,rfl,hk⟩:=x.done
  have noA:∀ b:Addr,b∉(qgy CX P w K mg base N qual scope f cd A outer s H E).ex:=fun b z=>absurd (show b∈([]:List Addr) from z) (by simp)
  refine ⟨⟨e0.mod,S.kind,rfl,rfl,Nat.le_refl _,fun y z c h1 h2=>?_,fun y hy=>?_,fun y c _ h=>?_,fun _=>hd,Around.frames_deeper e0.frames,.inr ⟨rfl,rfl⟩,fun b z=>absurd z (noA b),e0.bs,e0.bsz,fun b _ _=>noA b,fun b z=>absurd z (noA b),e0.funs,e0.frf⟩,
    rfl,e0.bare,Un.kept hk,⟨_,x.toInCall.ns,fun i y v h1 h2 h3=>?_⟩,fun y c h=>⟨_,x.cell y c h⟩,e0.hok.fresh (Nat.le_refl _),fun y c h=>?_,fun p hp=>absurd (show p∈([]:List (Addr × Obj)) from hp) (by simp),e0.hok.kept hk,?_⟩
  · exact name_of_addr x.apart (PySem.mem_of_lookup h1) (PySem.mem_of_lookup h2)
  · have hy:scope.names.lookup y=some .cell∨scope.names.lookup y=some .free:=hy
    rcases hy with hy | hy
    · exact qen hy
    · exact absurd rfl (S.nofree _ (PySem.mem_of_lookup hy))
  · exact Nat.le_of_lt (x.above y c (PySem.mem_of_lookup h))
  · have hi:i<vs.length:=by
      unfold qca at h2
      by_cases hi:i<vs.length
      · exact hi
      · rw [List.getElem?_append_right (by simpa using hi)] at h2
        rw [List.getElem?_replicate] at h2
        split at h2 <;> cases h2
    have ha:vs[i]?=some v:=by
      unfold qca at h2
      rw [List.getElem?_append_left (by simpa using hi),List.getElem?_map] at h2
      cases e:vs[i]? with
      | none=>rw [e] at h2;cases h2
      | some a=>rw [e] at h2;cases h2;rfl
    obtain ⟨u,hu,rv⟩:=r.get ha
    have hp:ps[i]?=some y:=by
      rw [← S.pre,List.getElem?_take_of_lt (by omega)];exact h1
    have ndP:ps.Nodup:=by rw [← S.pre];exact S.nd.sublist (List.take_sublist _ _)
    refine ⟨u,rv,?_⟩
    rcases S.par y (List.mem_of_getElem? hp) with k | k
    · exact .inl ⟨k,qeS ndP hp hu k⟩
    · obtain ⟨c,e⟩:=qen (n:=s.heap.objs.size+1) k
      refine .inr ⟨.inl k,c,e,?_⟩
      have q:=x.cell y c e
      rw [qey ndP hp hu (by show scope.names.lookup y≠_;rw [k];decide)] at q
      exact q
  · exact e0.hok.fresh (Nat.le_of_lt (x.above y c (PySem.mem_of_lookup h)))
  · unfold qca
    show _=N.length
    rw [List.length_append,List.length_map,List.length_replicate]
    omega
theorem qiv {CX:CXT} {P:Program} {w:World} {K:PySem.W.Frag} {mg:Str→Option Value} {base:Heap} {k:Nat} {f:Addr} {name qual:Str} {params:Arguments} {body:List Stmt} {scope:Scope} {dV kV doc pm cdv ct oc:Value} {an od:Option Addr}
    {osl:Array (Option Value)} {N ps:List Str} {sp:Sp} (lk:K.lookup f=some ⟨oc,od,.func (PySem.W.fnOf name qual params body scope dV kV doc pm an cdv ct),osl⟩) (hcd:PySem.W.codeIn K cdv qual=true) (S:FnScope N ps scope)
    (len:∀ vs H Q E,sp vs H Q E→vs.length=ps.length)
    (hbody:∀ (A:Around) (outer:List Env) (s:Shared) (H:Hp) (vs:List V) (Q:VK) (E:XK),Room k (A.deeper (envOfC qual scope s.heap.objs.size f cdv))→sp vs H Q E →
      ∃ t,PSs (qgy CX P w K mg base N qual scope f cdv A outer s H E) body t∧t { nx:=fun _ H'=>Q .non H',rt:=Q } (qca N vs) H) :
    FnOk P w K mg base CX (k+1) f (PySem.W.fnOf name qual params body scope dV kV doc pm an cdv ct) ps sp:=by
  refine ⟨len,fun A outer s H args us vs Q E hr e0 hb r hsp=>?_⟩
  have hl:=len _ _ _ _ hsp
  have KX:K.In s.heap:=e0.mod.kin.keeps fun b o e=>(e0.bs b o e).1
  have lim:s.heap.NoLimit:=e0.mod.nolimit.keeps fun b o e=>(e0.bs b o e).1
  have hkind:∀ y∈ps.zip us,scope.names.lookup y.1=some .local∨(scope.names.lookup y.1=some .cell∧((cellsFrom (s.heap.objs.size+1) scope.names []).lookup y.1).isSome=true):=fun hq0 hy=>by
    obtain ⟨n,v⟩:=hq0
    rcases S.par n (List.of_mem_zip hy).1 with q | q
    · exact .inl q
    · exact .inr ⟨q,PySem.W.cellsFrom_some _ _ _ (.inl q)⟩
  refine codeAny_call_function hr.depth (KX _ _ lk) rfl S.co S.gen rfl (PySem.W.codeRec_of KX hcd) (hb _ _ _ _ ?_)
  refine wpAny_newFunctionEnv_cells S.kind hkind fun env he s1 x=>?_
  subst he
  refine ⟨lim.keeps x.toInCall.keep,codeAny_func ?_⟩
  obtain ⟨t,ht,hq⟩:=hbody A outer s H vs Q E (hr.deeper _) hsp
  have I:Inv (qgy CX P w K mg base N qual scope f cdv A outer s H E) [] (qca N vs) H s1:=qg0 S hr.hd e0 hl r x
  refine wpAny_mono (ht [] s1 (qca N vs) H _ I hq) (fun fl s' hs=>?_) fun e s' hs=>hs
  have fin:∀ {σ':St} {H':Hp} {v:V} {u:Value},Inv (qgy CX P w K mg base N qual scope f cdv A outer s H E) [] σ' H' s'→RelV v u→Q v H'→CE outer P w H s Q u s' :=
    fun {σ' H' v u} J rv q=>⟨v,H',J.os,J.bare,J.base,J.hok,rv,q⟩
  cases fl with
  | ret u =>
    obtain ⟨v,σ',H',J,rv,q⟩:=hs
    exact fin J rv q
  | next =>
    obtain ⟨σ',H',J,q⟩:=hs
    exact fin (v:=V.non) (u:=Value.none) J rfl q
  | brk =>
    obtain ⟨_,_,_,q⟩:=hs
    exact False.elim q
  | cont =>
    obtain ⟨_,_,_,q⟩:=hs
    exact False.elim q
section
variable {X : Cx} {x : Str} {p pos : Pos} {e : Expr} {es : List Expr} {t : TA} {id T : String} {r : List V → Hp → VK → Prop}
def tCB (r:List V→Hp→VK→Prop) (t:TA):TE:=fun σ H Q=>t σ H fun vs H1=>r vs H1 Q
theorem qco (hc:qdF X (.builtin id) r) (hg:Gl X x) (hm:X.mg x=none) (hv:bootBuiltins x=some (.builtin id)) (ha:PA X (e::es) t) (hn:x≠"__name__":=by decide) (hdb:(x == ("__debug__":Str))=false:=by decide)
    (he:starEach (e::es) X.env=(false,eval e X.env)::starEach es X.env:=by rfl) (hpl:(backTo pos (starEach es X.env)).any (·.1)=false:=by rfl):PE X (.Call (.Name x p) (e::es) [] pos) (tCB r t):=by
  intro pins s σ H Q I h
  refine wpAny_Call_Name_kw (qev I hg hm hv ?_ hn hdb)
  exact PyProof.Rows.callWith_builtin1 (thn (ha pos pins s σ H _ I h) fun us s1 hq0=>by obtain ⟨vs,H1,I1,r1,q1⟩:=hq0;exact hc pins s1 σ H1 vs us Q I1 r1 q1) he hpl
theorem qeK (hc:qdF X (.type T) r) (hg:Gl X x) (hm:X.mg x=none) (hv:bootBuiltins x=some (.type T)) (ha:PA X (e::es) t) (hn:x≠"__name__":=by decide) (hdb:(x == ("__debug__":Str))=false:=by decide)
    (he:starEach (e::es) X.env=(false,eval e X.env)::starEach es X.env:=by rfl) (hpl:(backTo pos (starEach es X.env)).any (·.1)=false:=by rfl):PE X (.Call (.Name x p) (e::es) [] pos) (tCB r t):=by
  intro pins s σ H Q I h
  refine wpAny_Call_Name_kw (qev I hg hm hv ?_ hn hdb)
  exact PyProof.Rows.callWith_type1 (thn (ha pos pins s σ H _ I h) fun us s1 hq0=>by obtain ⟨vs,H1,I1,r1,q1⟩:=hq0;exact hc pins s1 σ H1 vs us Q I1 r1 q1) he hpl
end
end L2
namespace HT
open PySem PyProof.Rows
section
open PySem.SeqAt
open PySem.AutoSeq1 (wpAny_loadPart')
open PySem.MeetsSeq PySem.MeetsSeq2 PySem.MeetsSeq3
end
section
variable {prog : Program} {w : World} {A : Around} {E : Value → Shared → Prop} {s : Shared}
theorem cat_tup {t b:Addr} {vs ws:List Value} {Q:Value→Shared→Prop} (ht:IsTup s.heap t vs.toArray) (hb:IsTup s.heap b ws.toArray) (hv:vs≠[])
    (h1:ws=[]→Q (.ref t) s) (h2:ws≠[]→Q (.ref s.heap.objs.size) { s with heap:=s.heap.push { cls:=.type "tuple",data:=.seq (vs++ws).toArray } })
    (hsz:vs.length+ws.length≤sizeLine):wpAny (model prog w) A (binaryOp .Add (.ref t) (.ref b)) Q E s:=by
  obtain ⟨⟨cls,dd,data,sl⟩,ho,hc,n,hd⟩:=id ht
  obtain ⟨⟨cls2,dd2,data2,sl2⟩,ho2,hc2,n2,hd2⟩:=id hb
  simp only at hc hd hc2 hd2
  subst hc hd hc2 hd2
  have e:vs.toArray++ws.toArray=(vs++ws).toArray:=by simp
  by_cases hw:ws=[]
  · exact concat_meets ⟨_,ho,rfl⟩ ⟨_,ho2,rfl⟩ noFill_tuple_add seq_tuple_add PySem.F.slot_tuple_add PySem.F.entry_tuple_add (PySem.F.args_tuple_add_2 _ _)
      (tuple_addW1 t b vs.toArray ws.toArray n n2 dd dd2 sl sl2 (by simpa using hv) (by simp [hw])) ⟨ho,ho2,h1 hw⟩
  · refine concat_meets ⟨_,ho,rfl⟩ ⟨_,ho2,rfl⟩ noFill_tuple_add seq_tuple_add PySem.F.slot_tuple_add PySem.F.entry_tuple_add (PySem.F.args_tuple_add_2 _ _)
      (tuple_addW2 t b vs.toArray ws.toArray n n2 dd dd2 sl sl2 (by simpa using hv) (by simpa using hw) (by rw [List.size_toArray,List.size_toArray];exact hsz)) ⟨ho,ho2,?_⟩
    rw [e]
    exact h2 hw
def sIx (n d:Nat):Option Int→Nat
  | none=>d
  | some v=>if v<0 then (v+(n:Int)).toNat else min v.toNat n
theorem sIx_none (n d:Nat):sIx n d none=d:=rfl
theorem sIx_nat (n d k:Nat):sIx n d (some (k:Int))=min k n:=by
  show (if (k:Int)<0 then ((k:Int)+(n:Int)).toNat else min (k:Int).toNat n)=min k n
  rw [if_neg (by omega),Int.toNat_natCast]
theorem qkX (n d:Nat) (hd:d≤n) (o:Option Int):sIx n d o≤n:=by
  cases o with
  | none=>exact hd
  | some v =>
    show (if v<0 then (v+(n:Int)).toNat else min v.toNat n)≤n
    by_cases hv:v<0
    · rw [if_pos hv];omega
    · rw [if_neg hv];exact Nat.min_le_right _ _
theorem qhj (v:Int) (n d:Nat):(if v<0 then max (v+(n:Int)) 0 else min v (n:Int))=((sIx n d (some v):Nat):Int):=by
  show (if v<0 then max (v+(n:Int)) 0 else min v (n:Int))=(((if v<0 then (v+(n:Int)).toNat else min v.toNat n):Nat):Int)
  by_cases hv:v<0
  · simp only [if_pos hv];omega
  · simp only [if_neg hv];omega
theorem qgt (lo hi:Option Int) (n:Nat):Builtin.Slice.sliceAdjust lo hi 1 (n:Int)=(((sIx n 0 lo:Nat):Int),((sIx n n hi:Nat):Int)):=by
  have h1:¬ ((1:Int)<0):=by omega
  unfold Builtin.Slice.sliceAdjust
  simp only [h1,if_false]
  refine Prod.ext ?_ ?_
  · cases lo with
    | none=>rfl
    | some v=>exact qhj v n 0
  · cases hi with
    | none=>rfl
    | some v=>exact qhj v n n
theorem qgc (i j:Nat):Builtin.Slice.slicePlaces (i:Int) (j:Int) 1=j - i:=by
  unfold Builtin.Slice.slicePlaces
  have h1:(1:Int)>0:=by omega
  simp only [h1,if_true,Int.ediv_one]
  split <;> omega
theorem qdG {v:Value} {o:Option Int} {Q:Option Int→Shared→Prop} (p:IsPart v o) (h:Q o s):wpAny (model prog w) A (Builtin.Slice.slicePartIndex v) Q E s:=by
  cases p with
  | none=>exact slicePart_none h
  | int i t=>exact slicePart_int h
theorem qbM {sl:Addr} {vl vu:Value} {lo hi:Option Int} {n:Nat} {Q:Int × Int × Nat→Shared→Prop} (hs:s.heap.IsSliceOf sl vl vu .none) (pl:IsPart vl lo) (pu:IsPart vu hi)
    (h:Q (((sIx n 0 lo:Nat):Int),1,sIx n n hi - sIx n 0 lo) s):wpAny (model prog w) A (Builtin.Slice.sliceApplied (.ref sl) (pure (n:Int))) Q E s:=by
  obtain ⟨os,hos,hcs,hds⟩:=id hs
  unfold Builtin.Slice.sliceApplied Builtin.Slice.sliceFields
  refine wpAny_bind (wpAny_bind (wpAny_field hos hds (x:=vl) rfl (wpAny_bind (wpAny_field hos hds (x:=vu) rfl (wpAny_bind (wpAny_field hos hds (x:=.none) rfl (wpAny_pure ?_)))))))
  refine wpAny_bind (slicePart_none ?_)
  show wpAny _ _ (if ((1:Int) == 0)=true then _ else _) _ _ s
  rw [if_neg (by decide)]
  refine wpAny_bind (qdG pl (wpAny_bind (qdG pu (wpAny_bind (wpAny_pure ?_)))))
  show wpAny _ _ (match Builtin.Slice.sliceAdjust lo hi 1 (n:Int) with | (lo,hi)=>pure (lo,(1:Int),Builtin.Slice.slicePlaces lo hi 1)) _ _ s
  rw [qgt lo hi n]
  show wpAny _ _ (pure (((sIx n 0 lo:Nat):Int),(1:Int),Builtin.Slice.slicePlaces ((sIx n 0 lo:Nat):Int) ((sIx n n hi:Nat):Int) 1)) _ _ s
  rw [qgc]
  exact wpAny_pure h
theorem qhV (xs:Array Value) (i k:Nat):((List.range k).filterMap fun (m:Nat)=>xs[((i:Int)+(m:Int)*1).toNat]?).toArray=((xs.toList.drop i).take k).toArray:=by
  have e:(fun (m:Nat)=>xs[((i:Int)+(m:Int)*1).toNat]?)=fun m=>xs[i+m]?:=by
    funext m
    have:((i:Int)+(m:Int)*1).toNat=i+m:=by omega
    rw [this]
  rw [e]
  have:=pick_run xs i k
  rw [List.filterMap_map] at this
  have e2:((fun x=>xs[x]?) ∘ fun x=>i+x)=fun m=>xs[i+m]?:=rfl
  rw [e2] at this
  rw [this]
theorem getItem_tuple_cut {t sl:Addr} {items:Array Value} {vl vu:Value} {lo hi:Option Int} {Q:Value→Shared→Prop} (ht:IsTup s.heap t items) (hs:s.heap.IsSliceOf sl vl vu .none) (pl:IsPart vl lo) (pu:IsPart vu hi)
    (hw:¬ (sIx items.size 0 lo=0∧sIx items.size items.size hi=items.size))
    (h:Q (.ref s.heap.objs.size) { s with heap:=s.heap.push { cls:=.type "tuple",data:=.seq ((items.toList.drop (sIx items.size 0 lo)).take (sIx items.size items.size hi - sIx items.size 0 lo)).toArray } })
    (hsz:items.size≤sizeLine):wpAny (model prog w) A (getItem (.ref t) (.ref sl)) Q E s:=by
  have htake:sizeOk (.seq ((items.toList.drop (sIx items.size 0 lo)).take (sIx items.size items.size hi - sIx items.size 0 lo)).toArray):=by
    show ((items.toList.drop (sIx items.size 0 lo)).take (sIx items.size items.size hi - sIx items.size 0 lo)).toArray.size≤sizeLine
    rw [List.size_toArray,List.length_take,List.length_drop,Array.length_toList]
    omega
  have hj:sIx items.size items.size hi≤items.size:=qkX _ _ (Nat.le_refl _) hi
  obtain ⟨os,hos,hcs,hds⟩:=id hs
  have hTs:s.TypeIs (.ref sl) "slice":=⟨os,hos,hcs⟩
  unfold getItem
  try with_reducible refine wpAny_holding ?_
  first | refine wpAny_bind (wpAny_pure ?_) | skip
  refine wpAny_bind (wpAny_sequenceKey ht.typeIs (by decide) ?_)
  refine wpAny_bind (wpAny_callSpecial?_slot (name:=Str.ofString "__getitem__") ht.typeIs PyProof.Rows.slot_tuple_getitem
    (wpAny_call_entry PyProof.Rows.slot_tuple_getitem ht.typeIs entry_tuple_getitem ?_ (args_tuple_getitem _ _)))
  show wpAny _ _ (Builtin.Tuple.tupleItemsOf (.ref t) >>= _) _ _ s
  refine wpAny_bind (tupleItemsOf_ ht ?_)
  refine wpAny_bind (wpAny_typeOf hTs ?_)
  rw [if_pos (by decide)]
  refine wpAny_bind (qbM hs pl pu ?_)
  have hno:¬ ((((sIx items.size 0 lo:Nat):Int) == 0 && (1:Int) == 1 && (sIx items.size items.size hi - sIx items.size 0 lo) == items.size)=true):=by
    intro q
    rw [Bool.and_eq_true,Bool.and_eq_true] at q
    have q1:((sIx items.size 0 lo:Nat):Int)=0:=eq_of_beq q.1.1
    have q2:sIx items.size items.size hi - sIx items.size 0 lo=items.size:=eq_of_beq q.2
    exact hw ⟨by omega,by omega⟩
  show wpAny _ _ (if (((sIx items.size 0 lo:Nat):Int) == 0 && (1:Int) == 1 && (sIx items.size items.size hi - sIx items.size 0 lo) == items.size)=true then _ else _) _ _ s
  rw [if_neg hno,qhV]
  first
    | exact wpAny_bind (m:=Builtin.Tuple.tupleExact _) (wpAny_newObj_type (wpAny_pure ⟨_,rfl,wpAny_pure h⟩) htake)
    | exact wpAny_bind (m:=Builtin.Tuple.tupleExact _) (wpAny_newObj_type (wpAny_bind (wpAny_pure (wpAny_pure ⟨_,rfl,wpAny_pure h⟩))) htake)
    | exact wpAny_bind (wpAny_bind (m:=Builtin.Tuple.tupleExact _) (wpAny_newObj_type (wpAny_pure (wpAny_pure ⟨_,rfl,wpAny_pure h⟩)) htake))
    | exact wpAny_bind (wpAny_bind (m:=Builtin.Tuple.tupleExact _) (wpAny_newObj_type (wpAny_pure ⟨_,rfl,wpAny_pure h⟩) htake))
end
end HT
namespace L2
open PySem PySem.Spec PyProof.Rows
abbrev TO:=St→Hp→(Option Int→Hp→Prop)→Prop
def PO (X:Cx) (e:Option Expr) (t:TO):Prop :=
  ∀ (pins:List (Addr × Obj)) (s:Shared) (σ:St) (H:Hp) (Q:Option Int→Hp→Prop),Inv X pins σ H s→t σ H Q →
    wpAny (model X.prog X.w) X.A (evalPart e X.env) (fun u s'=>∃ o H',Inv X pins σ H' s'∧IsPart u o∧Q o H') X.xe s
def qj9:TO:=fun _ H Q=>Q none H
def qnn (t:TE):TO:=fun σ H Q=>t σ H fun x H1=>∃ i,x=.int i∧Q (some i) H1
section
variable {X : Cx} {e : Expr} {te : TE} {lo hi : Option Expr} {tl th : TO} {pos p2 : Pos}
theorem po_none:PO X none qj9:=by
  intro pins s σ H Q I h
  rw [evalPart_none]
  exact wpAny_pure ⟨none,H,I,.none,h⟩
theorem qjz (h:PE X e te):PO X (some e) (qnn te):=by
  intro pins s σ H Q I hw
  rw [evalPart_some]
  refine thn (h pins s σ H _ I hw) fun u s1 hq0=>?_
  obtain ⟨x,H1,I1,r1,q1⟩:=hq0
  obtain ⟨i,rfl,q⟩:=q1
  obtain ⟨t,rfl⟩:=r1
  exact ⟨some i,H1,I1,.int i t,q⟩
def SlR (X:Cx) (r:V→Option Int→Option Int→Hp→VK→Prop):Prop :=
  ∀ (pins:List (Addr × Obj)) (s:Shared) (σ:St) (H:Hp) (x:V) (v vl vu:Value) (lo hi:Option Int) (sl:Addr) (Q:VK),Inv X pins σ H s→RelV x v→s.heap.IsSliceOf sl vl vu .none→IsPart vl lo→IsPart vu hi→r x lo hi H Q →
    ∃ T id,typeLookup (.type T) "__getitem__"=pure (some (.builtin id))∧s.TypeIs v T∧wpAny (model X.prog X.w) X.A (getItem v (.ref sl)) (EP X pins σ Q) X.xe s
theorem SlR.or {r r':V→Option Int→Option Int→Hp→VK→Prop} (h:SlR X r) (h':SlR X r'):SlR X (fun x lo hi H Q=>r x lo hi H Q∨r' x lo hi H Q):=by
  intro pins s σ H x v vl vu lo hi sl Q I rx hs pl pu q
  rcases q with q | q
  · exact h pins s σ H x v vl vu lo hi sl Q I rx hs pl pu q
  · exact h' pins s σ H x v vl vu lo hi sl Q I rx hs pl pu q
def tSl (r:V→Option Int→Option Int→Hp→VK→Prop) (te:TE) (tl th:TO):TE:=fun σ H Q=>te σ H fun x H1=>tl σ H1 fun l H2=>th σ H2 fun u H3=>r x l u H3 Q
theorem qic {r:V→Option Int→Option Int→Hp→VK→Prop} (hr:SlR X r) (he:PE X e te) (hl:PO X lo tl) (hu:PO X hi th):PE X (.Subscript e (.Slice lo hi none p2) pos) (tSl r te tl th):=by
  intro pins s σ H Q I h
  refine Subscript_ (thn (he pins s σ H _ I h) fun v s1 ⟨x,H1,I1,r1,q1⟩=>?_)
  refine wpAny_Slice (thn (hl pins s1 σ H1 _ I1 q1) fun vl s2 ⟨l,H2,I2,pl,q2⟩=>thn (hu pins s2 σ H2 _ I2 q2) fun vu s3 ⟨u,H3,I3,pu,q3⟩=>?_)
  rw [evalPart_none]
  refine wpAny_pure ?_
  have I4:Inv X pins σ H3 { s3 with heap:=s3.heap.push { cls:=.type "slice",data:=.fields #[vl,vu,.none] } }:=I3.kept (t':=s3.toks) fun b ob q=>Heap.get?_push_of_some _ q
  obtain ⟨T,id,hT,ht,hg⟩:=hr pins { s3 with heap:=s3.heap.push { cls:=.type "slice",data:=.fields #[vl,vu,.none] } } σ H3 x v vl vu l u s3.heap.objs.size Q I4 r1 (Heap.IsSliceOf.new ..) pl pu q3
  show wpAny (model X.prog X.w) X.A (subscriptTail e (.Slice lo hi none p2) v (.ref s3.heap.objs.size)) (EP X pins σ Q) X.xe { s3 with heap:=s3.heap.push { cls:=.type "slice",data:=.fields #[vl,vu,.none] } }
  exact tail_any (ops:=[.ref s3.heap.objs.size,v]) ht hT hg (by with_unfolding_all rfl)
def qiU (xs:List V) (lo hi:Option Int):List V:=(xs.drop (HT.sIx xs.length 0 lo)).take (HT.sIx xs.length xs.length hi - HT.sIx xs.length 0 lo)
theorem qdh (xs:List V) (lo hi:Option Int):(qiU xs lo hi).length≤xs.length:=by
  unfold qiU
  rw [List.length_take,List.length_drop]
  omega
def qnJ (K:PySem.W.Frag):V→Option Int→Option Int→Hp→VK→Prop:=fun x lo hi H Q=>∃ a xs,x=.ref a∧SqT K H a xs ∧
  ¬ (HT.sIx xs.length 0 lo=0∧HT.sIx xs.length xs.length hi=xs.length)∧∀ p,H p=none→Q (.ref p) (upd H p (.tup (qiU xs lo hi)))
theorem sl_tup:SlR X (qnJ X.K):=by
  intro pins s σ H x v vl vu lo hi sl Q I rx hs pl pu h
  obtain ⟨a,xs,rfl,hx,hw,q⟩:=h
  cases rx
  obtain ⟨its,r,ht,hz⟩:=I.tuple hx
  have hlen:its.toArray.size=xs.length:=by rw [List.size_toArray];exact r.length.symm
  refine ⟨"tuple",_,PyProof.Rows.slot_tuple_getitem.lookup,ht.typeIs,?_⟩
  refine HT.getItem_tuple_cut ht hs pl pu (by rw [hlen];exact hw) ?_ (by rw [hlen];exact hz)
  rw [hlen]
  refine ⟨.ref s.heap.objs.size,_,I.laid (t':=s.toks) (o:=.tup (qiU xs lo hi)) (fun b ob q=>Heap.get?_push_of_some _ q) (Nat.le_refl _) ?_,rfl,q _ (I.hok.fresh (Nat.le_refl _))⟩
  exact ⟨Nat.le_trans (qdh xs lo hi) hz,_,(r.drop (HT.sIx xs.length 0 lo)).take (HT.sIx xs.length xs.length hi - HT.sIx xs.length 0 lo),IsTupD.new _ _⟩
def qm3 (K:PySem.W.Frag):R2:=fun x y H Q=>∃ a b xs ys,x=.ref a∧y=.ref b∧SqT K H a xs∧SqT K H b ys∧xs≠[]∧xs.length+ys.length≤sizeLine ∧
  (ys=[]→Q (.ref a) H)∧(ys≠[]→∀ p,H p=none→Q (.ref p) (upd H p (.tup (xs++ys))))
theorem Vals.nil_iff {xs:List V} {us:List Value} (r:Vals xs us):us=[]↔xs=[]:=by
  cases r with
  | nil=>simp
  | cons _ _=>simp
theorem qi8:OpR X (binaryOp .Add) (qm3 X.K):=by
  intro pins s σ H x y v u Q I rx ry h
  obtain ⟨a,b,xs,ys,rfl,rfl,ha,hb,hx,hz,q1,q2⟩:=h
  cases rx
  cases ry
  obtain ⟨its,r1,p1,_⟩:=I.tuple ha
  obtain ⟨its2,r2,p2,_⟩:=I.tuple hb
  refine HT.cat_tup p1 p2 (fun z=>hx (r1.nil_iff.mp z)) (fun z=>⟨.ref a,H,I,rfl,q1 (r2.nil_iff.mp z)⟩) (fun z=>?_) (by rw [← r1.length,← r2.length];exact hz)
  refine ⟨.ref s.heap.objs.size,_,I.laid (t':=s.toks) (o:=.tup (xs++ys)) (fun b ob q=>Heap.get?_push_of_some _ q) (Nat.le_refl _) ?_,rfl,q2 (fun w=>z (r2.nil_iff.mpr w)) _ (I.hok.fresh (Nat.le_refl _))⟩
  exact ⟨by rw [List.length_append];exact hz,_,r1.append r2,IsTupD.new _ _⟩
end
def ixN (n:Nat) (i:Int):Option Nat:=if 0≤i then (if i<n then some i.toNat else none) else if -(n:Int)≤i then some (i+n).toNat else none
def atI {α:Type} (xs:List α) (i:Int):Option α:=(ixN xs.length i).bind fun j=>xs[j]?
theorem qhz {n:Nat} {i:Int} {j:Nat} (h:ixN n i=some j):seqIndex? i n=some j∧j<n∧-(n:Int)≤i∧i<n:=by
  unfold ixN at h
  by_cases h0:0≤i
  · rw [if_pos h0] at h
    by_cases h1:i<n
    · rw [if_pos h1] at h
      have e:i.toNat=j:=Option.some.inj h
      exact ⟨by rw [seqIndex_of h0 h1,e],by omega,by omega,h1⟩
    · rw [if_neg h1] at h;cases h
  · rw [if_neg h0] at h
    by_cases h1:-(n:Int)≤i
    · rw [if_pos h1] at h
      have e:(i+n).toNat=j:=Option.some.inj h
      exact ⟨by rw [seqIndex_neg (by omega) h1,e],by omega,h1,by omega⟩
    · rw [if_neg h1] at h;cases h
theorem qe4 {α:Type} {xs:List α} {i:Int} {v:α} (h:atI xs i=some v):∃ j,seqIndex? i xs.length=some j∧xs[j]?=some v∧j<xs.length∧-(xs.length:Int)≤i∧i<xs.length:=by
  unfold atI at h
  cases e:ixN xs.length i with
  | none=>rw [e] at h;cases h
  | some j =>
    rw [e] at h
    obtain ⟨h1,h2,h3,h4⟩:=qhz e
    exact ⟨j,h1,h,h2,h3,h4⟩
theorem qjp {α:Type} {xs:List α} {j:Nat} {v:α} (h:xs[j]?=some v):atI xs (j:Int)=some v:=by
  have hj:j<xs.length:=(List.getElem?_eq_some_iff.mp h).1
  have e:ixN xs.length (j:Int)=some j:=by
    unfold ixN
    rw [if_pos (by omega),if_pos (by omega)];simp
  unfold atI;rw [e];exact h
def qfl (b:Expr):Prop:=∀ o i,subscripted b false o i=operate [o,i] (getItem o i)
def IxR (X:Cx) (r:R2):Prop :=
  ∀ (value slice:Expr) (pins:List (Addr × Obj)) (s:Shared) (σ:St) (H:Hp) (x y:V) (v u:Value) (Q:VK),Inv X pins σ H s→RelV x v→RelV y u→r x y H Q →
    subscripted slice false v u=operate [v,u] (getItem v u)→wpAny (model X.prog X.w) X.A (subscriptTail value slice v u) (EP X pins σ Q) X.xe s
def MtR (X:Cx) (id:String) (r:V→List V→Hp→VK→Prop):Prop :=
  ∀ (pins:List (Addr × Obj)) (s:Shared) (σ:St) (H:Hp) (x:V) (xs:List V) (v:Value) (us:List Value) (Q:VK),Inv X pins σ H s→RelV x v→Vals xs us→r x xs H Q →
    wpAny (model X.prog X.w) X.A (call (.builtin id) (v::us)) (EP X pins σ Q) X.xe s
section
variable {X : Cx} {a b : Expr} {ta tb : TE} {pos : Pos}
theorem qlx {r:R2} (hr:IxR X r) (ha:PE X a ta) (hb:PE X b tb) (hs:qfl b):PE X (.Subscript a b pos) (tOp r ta tb):=by
  intro pins s σ H Q I h
  exact Subscript_ (qns ha hb I h fun v u s2 x y H2 I2 rx ry q=>hr a b pins s2 σ H2 x y v u Q I2 rx ry q (hs _ _))
def qn0 (K:PySem.W.Frag):R2:=fun x y H Q=>∃ p xs i v,x=.ref p∧y=.int i∧SqL K H p xs∧atI xs i=some v∧Q v H
def qn8 (K:PySem.W.Frag):R2:=fun x y H Q=>∃ p xs i v,x=.ref p∧y=.int i∧SqT K H p xs∧atI xs i=some v∧Q v H
def qoB:R2:=fun x y H Q=>∃ z i c,x=.str z∧y=.int i∧z.length≤sizeLine∧atI z.cps.toList i=some c∧Q (.str ⟨#[c]⟩) H
theorem qhd:IxR X (qn0 X.K):=by
  intro value slice pins s σ H x y v u Q I rx ry h hs
  obtain ⟨p,xs,i,z,rfl,rfl,hq,he,q⟩:=h
  cases rx
  obtain ⟨t,rfl⟩:=ry
  obtain ⟨its,r,pl,hz⟩:=I.list hq
  obtain ⟨j,h1,h2,h3,h4,h5⟩:=qe4 he
  obtain ⟨w,ew,rw'⟩:=r.get h2
  have hl:=r.length
  have hn:=qcS
  have fin:EP X pins σ Q w s:=⟨z,H,I,rw',q⟩
  by_cases h0:0≤i
  · have hj:i.toNat=j:=by
      rw [seqIndex_of h0 h5] at h1
      exact Option.some.inj h1
    exact item_listR pl.isList h0 (by omega) (by rw [hj];simpa using ew) fin hs
  · have hj:(i+(its.toArray.size:Int)).toNat=j:=by
      rw [seqIndex_neg (by omega) h4] at h1
      rw [List.size_toArray,← hl]
      exact Option.some.inj h1
    exact subscriptTail_builtinR (x:=w) pl.isList.typeIs slot_list_getitem.lookup
      (wpAny_getItem_list_neg (Q:=fun r s'=>r=w∧EP X pins σ Q r s') pl.isList (by omega) (by rw [List.size_toArray] <;> omega) (by omega) (by rw [hj];simpa using ew) ⟨rfl,fin⟩) hs
theorem ql7:IxR X (qn8 X.K):=by
  intro value slice pins s σ H x y v u Q I rx ry h hs
  obtain ⟨p,xs,i,z,rfl,rfl,hq,he,q⟩:=h
  cases rx
  obtain ⟨t,rfl⟩:=ry
  obtain ⟨its,r,pl,hz⟩:=I.tuple hq
  obtain ⟨j,h1,h2,h3,h4,h5⟩:=qe4 he
  obtain ⟨w,ew,rw'⟩:=r.get h2
  have hl:=r.length
  have hn:=qcS
  have fin:EP X pins σ Q w s:=⟨z,H,I,rw',q⟩
  exact subscriptTail_builtinR (x:=w) pl.typeIs slot_tuple_getitem.lookup
    (getItem_tuple (j:=j) (Q:=fun r s'=>r=w∧EP X pins σ Q r s') pl (by omega) (by omega) (by rw [List.size_toArray,← hl];exact h1) (by simpa using ew) ⟨rfl,fin⟩) hs
theorem qlV:IxR X qoB:=by
  intro value slice pins s σ H x y v u Q I rx ry h hs
  obtain ⟨z,i,c,rfl,rfl,hz,he,q⟩:=h
  obtain ⟨t,rfl⟩:=rx
  obtain ⟨t',rfl⟩:=ry
  obtain ⟨j,h1,h2,h3,h4,h5⟩:=qe4 he
  have hl:z.cps.toList.length=z.length:=by simp [Str.length]
  rw [hl] at h1 h4 h5
  have hn:=qcS
  exact tail_any (typeIs_str s z t) slot_str_getitem.lookup (getItem_str (c:=c) (by
    have e1:decide (i < -(2 ^ 63:Int))=false:=decide_eq_false (by omega)
    have e2:decide (i≥2 ^ 63)=false:=decide_eq_false (by omega)
    rw [e1,e2,Bool.or_false]) (by rw [h1];simpa using h2) ⟨.str ⟨#[c]⟩,H,I.tok _,⟨_,rfl⟩,q⟩) hs
theorem qf7 (its:List Value) (n j:Nat) (u:Value):Obj.mapSeq (·.setIfInBounds j u) { cls:=.type "list",data:=.seq its.toArray n }={ cls:=.type "list",data:=.seq (its.set j u).toArray n }:=by
  simp [Obj.mapSeq]
theorem Inv.lst {pins:List (Addr × Obj)} {σ:St} {H:Hp} {s:Shared} {p:Addr} {xs:List V} (I:Inv X pins σ H s) (h:H p=some (.lst xs)) :
    ∃ (its:List Value) (n:Nat),Vals xs its∧s.heap.get? p=some { cls:=.type "list",data:=.seq its.toArray n }∧xs.length≤sizeLine:=by
  obtain ⟨z,its,n,r,e⟩:=I.hok p _ h
  exact ⟨its,n,r,e,z⟩
theorem Inv.lstUpd {pins:List (Addr × Obj)} {σ:St} {H:Hp} {s:Shared} {p:Addr} {xs ys:List V} {its its':List Value} {n n':Nat} {f:Obj→Obj} (I:Inv X pins σ H s) (h:H p=some (.lst xs))
    (ho:s.heap.get? p=some { cls:=.type "list",data:=.seq its.toArray n }) (hf:f { cls:=.type "list",data:=.seq its.toArray n }={ cls:=.type "list",data:=.seq its'.toArray n' }) (r:Vals ys its') (hz:ys.length≤sizeLine) (t:Nat) :
    Inv X pins σ (upd H p (.lst ys)) { s with heap:=s.heap.update p f,toks:=t }:=by
  have e:(s.heap.update p f).get? p=some { cls:=.type "list",data:=.seq its'.toArray n' }:=by
    rw [Heap.get?_update_self f ho (by rw [hf] <;> rfl),hf]
  refine I.write (x:=p) (e:=p) (by rw [h];trivial) (.inl rfl) (fun b u hb q=>(Heap.get?_update_other _ _ (Ne.symm hb)).trans q) ⟨_,e⟩ ?_
  exact ⟨hz,its',n',r,e⟩
def qmA:V→V→V→Hp→(Hp→Prop)→Prop:=fun o i v H Q=>∃ p xs k j,o=.ref p∧i=.int k∧H p=some (.lst xs)∧ixN xs.length k=some j∧Q (upd H p (.lst (xs.set j v)))
theorem qfJ:qmM X qmA:=by
  intro pins s σ H o i v ov iv u Q I ro ri rv h
  obtain ⟨p,xs,k,j,rfl,rfl,hp,hj,q⟩:=h
  cases ro
  obtain ⟨t,rfl⟩:=ri
  obtain ⟨its,n,r,ho,hz⟩:=I.lst hp
  obtain ⟨h1,h2,h3,h4⟩:=qhz hj
  have hl:=r.length
  have hn:=qcS
  have I':Inv X pins σ (upd H p (.lst (xs.set j v))) { s with heap:=s.heap.update p (Obj.mapSeq (·.setIfInBounds j u)) } :=
    I.lstUpd hp ho (qf7 its n j u) (r.set rv j) (by rw [List.length_set];exact hz) s.toks
  by_cases h0:0≤k
  · have hk:k.toNat=j:=by
      rw [seqIndex_of h0 h4] at h1
      exact Option.some.inj h1
    exact PySem.W.ki_setAt ho h0 (by omega) (by rw [List.size_toArray,← hl];exact h4) (by rw [hk];exact ⟨_,I',q⟩)
  · have hk:(k+(its.toArray.size:Int)).toNat=j:=by
      rw [seqIndex_neg (by omega) h3] at h1
      rw [List.size_toArray,← hl]
      exact Option.some.inj h1
    exact PySem.W.ki_setBack ho (by omega) (by rw [List.size_toArray,← hl];exact h3) (by omega) (by rw [hk];exact ⟨_,I',q⟩)
theorem qeo (lo hi:Option Int) (n:Nat):(sliceBounds lo hi none n).1=((HT.sIx n 0 lo:Nat):Int)∧(sliceBounds lo hi none n).2.1=((HT.sIx n n hi:Nat):Int)∧(sliceBounds lo hi none n).2.2=1:=by
  refine ⟨?_,?_,rfl⟩
  · cases lo with
    | none=>simp [sliceBounds,HT.sIx]
    | some i =>
      simp only [sliceBounds,HT.sIx,Option.getD_none,show (1:Int)>0 by decide,if_true]
      by_cases h:i<0
      · simp only [h,if_true] <;> omega
      · simp only [h,if_false] <;> omega
  · cases hi with
    | none=>simp [sliceBounds,HT.sIx]
    | some i =>
      simp only [sliceBounds,HT.sIx,Option.getD_none,show (1:Int)>0 by decide,if_true]
      by_cases h:i<0
      · simp only [h,if_true] <;> omega
      · simp only [h,if_false] <;> omega
theorem qd7 (its:List Value) (lo hi:Option Int):slicePick its.toArray lo hi none=((its.drop (HT.sIx its.length 0 lo)).take (HT.sIx its.length its.length hi - HT.sIx its.length 0 lo)).toArray:=by
  obtain ⟨h1,h2,h3⟩:=qeo lo hi its.toArray.size
  unfold slicePick
  rw [h1,h2,h3]
  simp only [sliceRange_one,pick_run,List.size_toArray] <;> rfl
def qnR (K:PySem.W.Frag):V→Option Int→Option Int→Hp→VK→Prop:=fun x lo hi H Q=>∃ a xs,x=.ref a∧SqL K H a xs∧∀ p,H p=none→Q (.ref p) (upd H p (.lst (qiU xs lo hi)))
theorem sl_list:SlR X (qnR X.K):=by
  intro pins s σ H x v vl vu lo hi sl Q I rx hs pl pu h
  obtain ⟨a,xs,rfl,hx,q⟩:=h
  cases rx
  obtain ⟨its,r,ht,hz⟩:=I.list hx
  have hlen:=r.length
  refine ⟨"list",_,slot_list_getitem.lookup,ht.isList.typeIs,?_⟩
  refine wpAny_getItem_list_slice ht.isList hs pl pu .none (by simp) ?_ (by rw [List.size_toArray] <;> omega)
  rw [qd7,← hlen]
  refine ⟨.ref s.heap.objs.size,_,I.laid (t':=s.toks) (o:=.lst (qiU xs lo hi)) (fun b ob q=>Heap.get?_push_of_some _ q) (Nat.le_refl _) ?_,rfl,q _ (I.hok.fresh (Nat.le_refl _))⟩
  exact ⟨Nat.le_trans (qdh xs lo hi) hz,_,0,(r.drop (HT.sIx xs.length 0 lo)).take (HT.sIx xs.length xs.length hi - HT.sIx xs.length 0 lo),Heap.get?_push_size _ rfl⟩
theorem qbR:qdF X (.builtin "len") (fun xs H Q=>∃ p ys,xs=[.ref p]∧(SqL X.K H p ys∨SqT X.K H p ys)∧Q (.int ys.length) H):=by
  intro pins s σ H xs us Q I r h
  obtain ⟨p,ys,rfl,hq,q⟩:=h
  obtain ⟨u,rfl,rx⟩:=qhZ r
  cases rx
  have hn:=qcS
  rcases hq with hq | hq
  · obtain ⟨its,r',pl,hz⟩:=I.list hq
    have hlen:=r'.length
    exact Calls.call_len_list pl.isList (by simp only [List.size_toArray] <;> omega) ⟨.int ys.length,H,I.tok _,⟨s.toks+1,by rw [List.size_toArray,hlen]⟩,q⟩
  · obtain ⟨its,r',pl,hz⟩:=I.tuple hq
    have hlen:=r'.length
    exact len_tuple pl (by simp only [List.size_toArray] <;> omega) ⟨.int ys.length,H,I.tok _,⟨s.toks+1,by rw [List.size_toArray,hlen]⟩,q⟩
theorem qeA:qdF X (.builtin "len") (fun xs H Q=>∃ z,xs=[.str z]∧z.length≤sizeLine∧Q (.int z.length) H):=by
  intro pins s σ H xs us Q I r h
  obtain ⟨z,rfl,hz,q⟩:=h
  obtain ⟨u,rfl,t,rfl⟩:=qhZ r
  have hn:=qcS
  exact len_str (by omega) ⟨.int z.length,H,I.tok _,⟨_,rfl⟩,q⟩
theorem qbG:qdF X (.type "tuple") (fun xs H Q=>∃ p ys,xs=[.ref p]∧((SqL X.K H p ys∧∀ l,H l=none→Q (.ref l) (upd H l (.tup ys)))∨(SqT X.K H p ys∧Q (.ref p) H))):=by
  intro pins s σ H xs us Q I r h
  obtain ⟨p,ys,rfl,h⟩:=h
  obtain ⟨u,rfl,rx⟩:=qhZ r
  cases rx
  rcases h with ⟨hq,q⟩ | ⟨hq,q⟩
  · obtain ⟨its,r',pl,hz⟩:=I.list hq
    have hlen:=r'.length
    refine call_tuple_list pl.isList (fun h' kp=>?_) (by simp only [List.size_toArray] <;> omega)
    have I1:Inv X pins σ H { s with heap:=h' }:=I.kept (t':=s.toks) kp
    have I2:Inv X pins σ (upd H h'.objs.size (.tup ys)) { s with heap:=h'.push { cls:=.type "tuple",data:=.seq its.toArray } } :=
      I1.laid (t':=s.toks) (fun b o e=>Heap.get?_push_of_some _ e) (Nat.le_refl _) (show ObjOk X.prog X.w _ _ _ (.tup ys) from ⟨hz,its,r',IsTupD.new _ _⟩)
    exact ⟨.ref h'.objs.size,_,I2,rfl,q _ (I1.hok.fresh (Nat.le_refl _))⟩
  · obtain ⟨its,r',pl,hz⟩:=I.tuple hq
    exact call_tuple_same pl ⟨.ref p,H,I,rfl,q⟩
def tyV (K:PySem.W.Frag) (T:String) (x:V) (H:Hp):Prop:=match x with
  | .str _=>T="str"
  | .int _=>T="int"
  | .ref p=>(T="list"∧∃ xs,SqL K H p xs)∨(T="tuple"∧((∃ xs,H p=some (.tup xs))∨∃ o,K.lookup p=some o∧o.cls=.type "tuple"∧o.dict=none)) ∨
      (T="dict"∧((∃ kvs,H p=some (.dK kvs))∨∃ kvs,H p=some (.dT kvs)))∨(T="set"∧∃ S n,H p=some (.set S n))
  | _=>False
theorem qiV {pins:List (Addr × Obj)} {σ:St} {H:Hp} {s:Shared} {T:String} {x:V} {v:Value} (I:Inv X pins σ H s) (r:RelV x v) (ty:tyV X.K T x H) :
    s.TypeIs v T∧∀ a,v=.ref a→∃ ob,s.heap.get? a=some ob∧ob.dict=none:=by
  cases x with
  | str z =>
    obtain ⟨t,rfl⟩:=r
    cases (show T="str" from ty)
    exact ⟨typeIs_str s z t,fun _ e=>nomatch e⟩
  | int i =>
    obtain ⟨t,rfl⟩:=r
    cases (show T="int" from ty)
    exact ⟨typeIs_int s i t,fun _ e=>nomatch e⟩
  | ref p =>
    cases r
    rcases ty with ⟨rfl,xs,hq⟩ | ⟨rfl,⟨xs,hk⟩ | ⟨o,hk,hc,hd⟩⟩ | ⟨rfl,hk⟩ | ⟨rfl,S,n,hk⟩
    · obtain ⟨its,_,pl,_⟩:=I.list hq
      refine ⟨pl.isList.typeIs,fun a e=>?_⟩
      cases e
      obtain ⟨o,n,e,c,hd,_⟩:=pl
      exact ⟨o,e,hd⟩
    · obtain ⟨_,_,_,o,e,⟨c,hd⟩,_⟩:=I.hok p _ hk
      refine ⟨⟨o,e,c⟩,fun a e2=>?_⟩
      cases e2
      exact ⟨o,e,hd⟩
    · refine ⟨⟨o,I.kIn p o hk,hc⟩,fun a e=>?_⟩
      cases e
      exact ⟨o,I.kIn _ o hk,hd⟩
    · have z:∃ o,s.heap.get? p=some o∧o.ExactDict:=by
        rcases hk with ⟨kvs,hk⟩ | ⟨kvs,hk⟩
        · obtain ⟨_,_,_,_,o,_,_,e,ex,_⟩:=I.hok p _ hk
          exact ⟨o,e,ex⟩
        · obtain ⟨_,_,_,_,o,_,_,e,ex,_⟩:=I.hok p _ hk
          exact ⟨o,e,ex⟩
      obtain ⟨o,e,ex⟩:=z
      refine ⟨⟨o,e,ex.1⟩,fun a e2=>?_⟩
      cases e2
      exact ⟨o,e,ex.2.1⟩
    · obtain ⟨o,_,_,_,e,ex,_⟩:=I.hok p _ hk
      refine ⟨⟨o,e,ex.1⟩,fun a e2=>?_⟩
      cases e2
      exact ⟨o,e,ex.2.1⟩
  | _=>exact False.elim ty
def qoe (K:PySem.W.Frag) (T:String) (r:V→List V→Hp→VK→Prop) (to:TE):TE:=fun σ H Q=>to σ H fun x H1=>tyV K T x H1∧r x [] H1 Q
def tBM (K:PySem.W.Frag) (T:String) (r:V→List V→Hp→VK→Prop) (to:TE) (t:TA):TE:=fun σ H Q=>to σ H fun x H1=>tyV K T x H1∧t σ H1 fun xs H2=>r x xs H2 Q
variable {o e : Expr} {es : List Expr} {to : TE} {t : TA} {name : Str} {apos cpos : Pos} {T id : String} {r : V → List V → Hp → VK → Prop}
theorem qiJ (pa:PlainAttrs T) (slot:Slot T name id) (hty:typeOf (.builtin id)=pure (.type "method_descriptor")) (hm:MtR X id r) (ho:PE X o to)
    (hbase:attributeBase o name X.env (eval o X.env)=eval o X.env:=by rfl) (hline:(apos.endLine == cpos.line)=true:=by rfl):PE X (.Call (.Attribute o name apos) [] [] cpos) (qoe X.K T r to):=by
  intro pins s σ H Q I h
  refine wpAny_Call_method0_late hbase hline (thn (ho pins s σ H _ I h) fun v s1 hq0=>?_)
  obtain ⟨x,H1,I1,r1,ty,q1⟩:=hq0
  obtain ⟨h1,h2⟩:=qiV I1 r1 ty
  exact ⟨T,id,pa,slot,hty,h1,h2,Calls.callWith_builtin rfl (PySem.evalArgs_none (hm pins s1 σ H1 x [] v [] Q I1 r1 .nil q1))⟩
theorem qkS (pa:PlainAttrs T) (slot:Slot T name id) (hty:typeOf (.builtin id)=pure (.type "method_descriptor")) (hm:MtR X id r) (ho:PE X o to) (ha:PA X (e::es) t)
    (hbase:attributeBase o name X.env (eval o X.env)=eval o X.env:=by rfl)
    (hfew:((backTo cpos (starEach (e::es) X.env)).all (fun x=>!x.1) && (backToKw cpos (keywordEach [] X.env)).all (fun x=>x.1.isSome)
      && decide ((e::es).length+([]:List Keyword).length+(if ([]:List Keyword).isEmpty then 0 else 1)<30))=true:=by rfl)
    (hline:(apos.endLine == cpos.line)=true:=by rfl) (hs:starEach (e::es) X.env=(false,eval e X.env)::starEach es X.env:=by rfl) (hplain:(backTo cpos (starEach es X.env)).any (·.1)=false:=by rfl) :
    PE X (.Call (.Attribute o name apos) (e::es) [] cpos) (tBM X.K T r to t):=by
  intro pins s σ H Q I h
  refine wpAny_Call_method_late hbase hfew hline rfl (thn (ho pins s σ H _ I h) fun v s1 hq0=>?_)
  obtain ⟨x,H1,I1,r1,ty,q1⟩:=hq0
  obtain ⟨h1,h2⟩:=qiV I1 r1 ty
  refine ⟨T,id,pa,slot,hty,h1,h2,?_⟩
  have hA:=ha cpos pins s1 σ H1 _ I1 q1
  rw [hs] at hA ⊢
  refine Calls.callWith_builtin (by show (false || (backTo cpos (starEach es X.env)).any (·.1))=false;rw [hplain] <;> rfl) (Calls.evalArgs_plain ?_)
  exact thn hA fun us s2 hq1=>by obtain ⟨vs,H2,I2,r2,q2⟩:=hq1;exact hm pins s2 σ H2 x vs v us Q I2 r1 r2 q2
end
def MtM (X:Cx) (id:String) (r:V→List V→Hp→VK→Prop):Prop :=
  ∀ (pins:List (Addr × Obj)) (s:Shared) (σ:St) (H:Hp) (x:V) (xs:List V) (v:Value) (us:List Value) (Q:VK),Inv X pins σ H s→RelV x v→Vals xs us→r x xs H Q →
    wpAny (model X.prog X.w) X.A (call (.builtin id) (v::us)) (EP X pins σ Q) X.xe s
theorem Vals.one:∀ {x:V} {us:List Value},Vals [x] us→∃ u,us=[u]∧RelV x u
  | _,_,.cons r .nil=>⟨_,rfl,r⟩
theorem Vals.zero:∀ {us:List Value},Vals [] us→us=[]
  | _,.nil=>rfl
theorem Vals.dropLast {xs:List V} {us:List Value} (h:Vals xs us):Vals xs.dropLast us.dropLast:=by
  induction h with
  | nil=>exact .nil
  | cons r t ih =>
    cases t with
    | nil=>exact .nil
    | cons q t'=>exact .cons r ih
theorem Vals.rep {xs:List V} {us:List Value} (h:Vals xs us):∀ k:Nat,Vals (List.replicate k xs).flatten (List.replicate k us).flatten
  | 0=>.nil
  | k+1=>by
    rw [List.replicate_succ,List.replicate_succ,List.flatten_cons,List.flatten_cons]
    exact Vals.append h (Vals.rep h k)
theorem qgn {α:Type} (l:List α):l.eraseIdx (l.length - 1)=l.dropLast:=by
  induction l with
  | nil=>rfl
  | cons a r ih =>
    cases r with
    | nil=>rfl
    | cons b r =>
      have e:(a::b::r).length - 1=((b::r).length - 1)+1:=by
        have h1:(a::b::r).length=r.length+2:=rfl
        have h2:(b::r).length=r.length+1:=rfl
        omega
      rw [e,List.eraseIdx_cons_succ,ih]
      all_goals rfl
theorem qdc (its:List Value):∀ (k:Nat) (acc:List Value),
    List.foldl (fun x1 x2=>x1++x2) acc.toArray (List.replicate k its.toArray)=(acc++(List.replicate k its).flatten).toArray
  | 0,acc=>by simp
  | k+1,acc=>by
    have e:acc.toArray++its.toArray=(acc++its).toArray:=by simp
    have e2:(acc++its)++(List.replicate k its).flatten=acc++(List.replicate (k+1) its).flatten:=by
      rw [List.replicate_succ,List.flatten_cons,List.append_assoc]
    rw [← e2,← qdc its k (acc++its),← e,List.replicate_succ,List.foldl_cons]
section
variable {X : Cx} {pins : List (Addr × Obj)} {σ : St} {H : Hp} {s : Shared} {l b : Addr} {xs ys zs : List V}
theorem Inv.lset {its its':List Value} {n:Nat} {f:Array Value→Array Value} {t':Nat} (I:Inv X pins σ H s) (hH:H l=some (.lst xs))
    (e:s.heap.get? l=some { cls:=.type "list",data:=.seq its.toArray n }) (hf:f its.toArray=its'.toArray) (hv:Vals ys its') (hz:ys.length≤sizeLine) :
    Inv X pins σ (upd H l (.lst ys)) { s with heap:=s.heap.update l (Obj.mapSeq f),toks:=t' }:=by
  have q:=PySem.IsL.update e f
  rw [hf] at q
  refine I.write (x:=l) (e:=l) (by rw [hH];exact trivial) (.inl rfl) (fun b' u hb hu=>(Heap.get?_update_other s.heap (Obj.mapSeq f) (Ne.symm hb)).trans hu) ⟨_,q⟩ ?_
  exact ⟨hz,its',_,hv,q⟩
theorem Inv.lnew {its:List Value} {t':Nat} (I:Inv X pins σ H s) (hv:Vals ys its) (hz:ys.length≤sizeLine) :
    Inv X pins σ (upd H s.heap.objs.size (.lst ys)) { s with heap:=s.heap.push { cls:=.type "list",data:=.seq its.toArray },toks:=t' } :=
  I.laid (fun _ _ q=>Heap.get?_push_of_some _ q) (Nat.le_refl _) ⟨hz,its,0,hv,Heap.get?_push_size _ rfl⟩
theorem Inv.fresh (I:Inv X pins σ H s):H s.heap.objs.size=none:=I.hok.fresh (Nat.le_refl _)
theorem Inv.lstM (I:Inv X pins σ H s) (hH:H l=some (.lst xs)):xs.length≤sizeLine∧∃ (its:List Value) (n:Nat),Vals xs its∧xs.length=its.length∧s.heap.get? l=some { cls:=.type "list",data:=.seq its.toArray n }:=by
  obtain ⟨z,its,n,r,e⟩:=I.hok l _ hH
  exact ⟨z,its,n,r,r.length,e⟩
theorem qij {n:Nat} (h:n≤sizeLine):Builtin.List.listTooLong n=false:=by
  unfold Builtin.List.listTooLong
  exact decide_eq_false (by omega)
end
section
variable {X : Cx}
def qjj:V→List V→Hp→VK→Prop:=fun x vs H Q=>∃ l xs y,x=.ref l∧vs=[y]∧H l=some (.lst xs)∧xs.length<sizeLine∧Q .non (upd H l (.lst (xs++[y])))
theorem qdn:MtM X "list.append" qjj:=by
  intro pins s σ H x vs v us Q I rx rv h
  obtain ⟨l,xs,y,rfl,rfl,hH,hz,q⟩:=h
  cases rx
  obtain ⟨u,rfl,ru⟩:=rv.one
  obtain ⟨z,its,n,r,hl,e⟩:=I.lstM hH
  refine call_meets F.slot_list_append ⟨_,e,rfl⟩ F.entry_list_append (F.args_list_append_2 _ _) (PySem.list_append l its.toArray n u (by rw [List.size_toArray];omega)) ⟨e,?_⟩
  refine ⟨.non,_,I.lset (its':=its++[u]) hH e (by simp) (r.append (.cons ru .nil)) ?_,rfl,q⟩
  rw [List.length_append,List.length_singleton]
  omega
def qoO:V→List V→Hp→VK→Prop:=fun x vs H Q=>∃ l xs y,x=.ref l∧vs=[]∧H l=some (.lst xs)∧xs[xs.length - 1]?=some y∧Q y (upd H l (.lst xs.dropLast))
theorem qiP:MtM X "list.pop" qoO:=by
  intro pins s σ H x vs v us Q I rx rv h
  obtain ⟨l,xs,y,rfl,rfl,hH,hy,q⟩:=h
  cases rx
  have hus:=rv.zero
  subst hus
  obtain ⟨z,its,n,r,hl,e⟩:=I.lstM hH
  obtain ⟨u,hu,ru⟩:=r.get hy
  have hy':its.toArray[its.toArray.size - 1]?=some u:=by
    show its.toArray[its.length - 1]?=some u
    rw [← Array.getElem?_toList,← hl]
    exact hu
  refine call_meets F.slot_list_pop ⟨_,e,rfl⟩ F.entry_list_pop (F.args_list_pop_1 _) (MeetsSeq.list_pop_last l its.toArray n u hy' (by rw [List.size_toArray];omega)) ⟨e,?_⟩
  refine ⟨y,_,I.lset (its':=its.dropLast) hH e ?_ r.dropLast ?_,ru,q⟩
  · show its.toArray.eraseIdxIfInBounds (its.toArray.size - 1)=its.dropLast.toArray
    rw [List.size_toArray,List.eraseIdxIfInBounds_toArray,qgn]
  · rw [List.length_dropLast]
    omega
def qoy:R2:=fun x y H Q=>∃ l b xs zs,x=.ref l∧y=.ref b∧H l=some (.lst xs)∧H b=some (.lst zs)∧xs.length+zs.length≤sizeLine∧∀ p,H p=none→Q (.ref p) (upd H p (.lst (xs++zs)))
theorem qkv:OpR X (binaryOp .Add) qoy:=by
  intro pins s σ H x y v u Q I rx ry h
  obtain ⟨l,b,xs,zs,rfl,rfl,hH,hB,hz,q⟩:=h
  cases rx
  cases ry
  obtain ⟨z,its,n,r,hl,e⟩:=I.lstM hH
  obtain ⟨z2,its2,n2,r2,hl2,e2⟩:=I.lstM hB
  refine PySem.P.add_list e e2 ?_ (by rw [List.size_toArray,List.size_toArray];omega)
  have ea:its.toArray++its2.toArray=(its++its2).toArray:=by simp
  rw [ea]
  exact ⟨.ref _,_,I.lnew (t':=s.toks) (r.append r2) (by rw [List.length_append];omega),rfl,q _ I.fresh⟩
def qou:R2:=fun x y H Q=>∃ l k xs,x=.ref l∧y=.int k∧H l=some (.lst xs)∧-(2 ^ 63)≤k∧k<2 ^ 63∧xs.length*k.toNat≤sizeLine ∧
  ∀ p,H p=none→Q (.ref p) (upd H p (.lst (List.replicate k.toNat xs).flatten))
theorem qfd {α:Type} (xs:List α) (k:Nat):(List.replicate k xs).flatten.length=k*xs.length:=by
  induction k with
  | zero=>simp
  | succ k ih=>rw [List.replicate_succ,List.flatten_cons,List.length_append,ih,Nat.succ_mul,Nat.add_comm]
theorem qlt:OpR X (binaryOp .Mult) qou:=by
  intro pins s σ H x y v u Q I rx ry h
  obtain ⟨l,k,xs,rfl,rfl,hH,h1,h2,hz,q⟩:=h
  cases rx
  obtain ⟨t,rfl⟩:=ry
  obtain ⟨z,its,n,r,hl,e⟩:=I.lstM hH
  have hlen:its.toArray.size*k.toNat≤sizeLine:=by rw [List.size_toArray,← hl];exact hz
  have hcap:¬ its.toArray.size*k.toNat>(2 ^ 63 - 1) / 8:=by
    have:(sizeLine:Nat)≤(2 ^ 63 - 1) / 8:=by decide
    omega
  have hfit:¬ (!Builtin.List.listFitsIndex k)=true:=by
    rw [fitsIndex_both h1 h2]
    exact Bool.false_ne_true
  have hlong:¬ Builtin.List.listTooLong (its.toArray.size*k.toNat)=true:=by
    rw [qij hlen]
    exact Bool.false_ne_true
  have hnew:List.foldl (fun x1 x2=>x1++x2) #[] (List.replicate (if its.toArray.isEmpty=true then 0 else k.toNat) its.toArray)=(List.replicate k.toNat its).flatten.toArray:=by
    have f0:∀ m:Nat,List.foldl (fun x1 x2=>x1++x2) #[] (List.replicate m its.toArray)=(List.replicate m its).flatten.toArray:=fun m=>by
      have:=qdc its m []
      rw [List.nil_append] at this
      exact this
    rw [f0]
    cases its with
    | nil=>simp
    | cons a r'=>rw [if_neg (by simp)]
  refine wpAny_binaryOp_repeat_ref (T:="list") (U:="int") (by decide) ⟨_,e,rfl⟩ (fun s'=>typeIs_int s' k t) noFill_list_mul F.fills_int_mul F.slot_int_rmul repeat_list F.slot_int_index.lookup
    (call_meets F.slot_int_rmul (typeIs_int s k t) F.entry_int_rmul (F.args_int_rmul_2 _ _) (int___rmul___int_list k t l its.toArray n)
      ⟨e,rfl,⟨_,e,rfl⟩,call_meets F.slot_list_mul ⟨_,e,rfl⟩ F.entry_list_mul (F.args_list_mul_2 _ _) (AutoListH.list___mul___list_int_3 l its.toArray n k t hfit hcap hlong) ⟨e,?_⟩⟩)
  rw [hnew]
  exact ⟨.ref _,_,I.lnew (t':=s.toks) (r.rep k.toNat) (by rw [qfd,Nat.mul_comm];exact hz),rfl,q _ I.fresh⟩
end
section
variable {prog : Program} {w : World} {A : Around} {E : Value → Shared → Prop} {s : Shared}
end
section
variable {X : Cx}
end
end L2
namespace Att
open PySem PySem.W PySem.Calls PyProof.Rows
theorem qdt {P:Params} {h:Heap}:∀ (ns:List Int) (vs:List Value),WellAll P h vs (ns.map WData.int)→IntsAre vs ns:=by
  intro ns
  induction ns with
  | nil =>
    intro vs w
    rw [List.map_nil] at w
    cases w
    exact .nil
  | cons n ns ih =>
    intro vs w
    rw [List.map_cons] at w
    cases w with
    | cons a b =>
      cases a
      exact .cons _ _ (ih _ b)
theorem qhb {l:OpenLaw} {n:Nat} (hn:l.most=some n) {P:Params} {h:Heap} {args:List WData} {vals:List Value}
    (hpre:l.row.toRowW.claim.pre args=true) (hwl:WellAll P h vals args) :
    ∃ a vs ns,vals=[Value.ref a]∧args=[WData.list (ns.map WData.int)]∧h.get? a=some { cls:=.type "list",data:=.seq vs.toArray }∧IntsAre vs ns∧ns.length≤n:=by
  have hsh:WShape.hasAll [] args [.list .int]=true:=(pre_splitW hpre).1
  have hc:l.pre.holds [] { args:=args }=true:=(pre_splitW hpre).2
  obtain ⟨d,r,rfl,h1,h2⟩:=hasAllW_cons hsh
  obtain rfl:=hasAllW_nil h2
  obtain ⟨xs,rfl,h3⟩:=hasW_list h1
  obtain ⟨ns,rfl⟩:=items_int h3
  have hlen:ns.length≤n:=by
    unfold OpenLaw.pre at hc
    have h4:(WTm.not (.lt (.lit (.int (n:Int))) (.len (.arg 0)))).holds [] { args:=[.list (ns.map .int)] }=true:=by
      have h4:=(holds_andW hc).1
      rw [hn] at h4
      exact h4
    have h5:=condW_of h4 (w_not (w_lt w_lit (w_len_list (w_arg rfl))))
    rw [List.length_map] at h5
    refine Nat.le_of_not_lt fun q=>?_
    have q':(n:Int)<((ns.length:Nat):Int):=by omega
    first
      | (rw [decide_eq_true q'] at h5;exact absurd h5 (by decide))
      | (simp at h5;omega)
  cases hwl with
  | cons w1 w2 =>
    cases w2
    cases w1 with
    | list ho hall=>exact ⟨_,_,ns,rfl,rfl,ho,qdt ns _ hall,hlen⟩
theorem qhC (l:OpenLaw) (args:List WData):l.row.toRowW.claim.post args (.bool true) args=true :=
  postW_of (r:=l.row.toRowW) (X:=(true == true))
    (show WShape.has [] (.bool true) .bool=true by first | rfl | decide | simp [WShape.has,WShape.arms,WShape.armsAll])
    (show (WTm.eq .res (.lit (.bool true))).value [] { args:=args,res:=some (.bool true),after:=args }=some (.bool (true == true)) from w_eq_bool (w_res rfl) w_lit) rfl
theorem attach_call {l:OpenLaw} {n:Nat} {q:Program} {loose:List Str} {XP:(Str→Option Value)→Heap→Prop} {YP:World→Heap→Prop} {d:DefRec}
    (hn:l.most=some n) (hdf:d.params.defaults=[])
    (call:∀ (w:World) (s₀ s₁:Shared) (mg mb:Str→Option Value) (fa:Addr) (o:Obj) (pm cd doc:Value) (a:Addr) (vs:List Value) (ns:List Int),
      Ground q loose [] XP w s₀ mg mb s₁.heap→YP w s₁.heap →
      s₁.heap.get? fa=some o→o.data=.func (docDef d.name d.params d.body d.scope pm cd doc)→s₁.heap.CodeRec cd d.name→mg d.name=some (.ref fa) →
      s₁.heap.get? a=some { cls:=.type "list",data:=.seq vs.toArray }→IntsAre vs ns→ns.length≤n→s₁.gens=#[] →
      codeAny (model l.prog w) callerA (.call (.ref fa) ⟨[.ref a],[]⟩) (fun r s'=>r=.ok (.ret (.bool true))∧OldK s₁.heap s'.heap∧s'.os=s₁.os∧AllBare s'.gens) s₁) :
    WalkO q loose XP YP l.row.toRowW d [] (fun f vs=>PySem.call f vs):=by
  intro w s₀ s₁ mg mb G Y fa o pm cd doc dV kV ho hd hcd hD hmg hg args vals as hpre hlay hrd hwl hlo
  obtain rfl:dV=.none:=Dflts.none hD hdf
  obtain rfl:kV=.none:=Dflts.noKw hD
  obtain ⟨a,vs,ns,rfl,rfl,hobj,hints,hlen⟩:=qhb hn hpre hwl
  refine enter_call (codeAny_mono (call w s₀ s₁ mg mb fa o pm cd doc a vs ns G Y ho (fd_plain hd) hcd hmg hobj hints hlen hg) fun r s' hq=>?_)
  obtain ⟨rfl,h2,h3,h4⟩:=hq
  exact ⟨.inl ⟨.bool true,.bool true,[],rfl,fun _=>rfl,.bool true,qhC l _,fun _=>⟨List.Pairwise.nil,fun _ hm=>(nomatch hm)⟩⟩,h2,h3,h4⟩
section
variable {prog : Program} {w : World} {A : Around} {E : Value → Shared → Prop} {s : Shared} {K : Frag}
end
end Att
namespace L2
open PySem PySem.Spec PyProof.Rows
theorem qeM:∀ {vs:List Value} {ns:List Int},IntsAre vs ns→Vals (ns.map V.int) vs
  | _,_,.nil=>.nil
  | _,_,.cons n t h=>.cons ⟨t,rfl⟩ (qeM h)
def qnq (H:Hp):Prop:=∀ b,H b=none∨∃ o xs,H b=some (.frz o (.lst xs))
theorem qiq {P:Program} {w:World} {K:PySem.W.Frag} {mg mb:Str→Option Value} {CX:CXT} {k:Nat} {fa a:Addr} {fd:FuncData} {x:Str} {sp:Sp} {s₁:Shared} {vs:List Value} {ns:List Int}
    (KX:K.In s₁.heap) (hns:s₁.heap.Ns mainGlobals mg) (hb:s₁.heap.Ns builtinsNs mb) (hbb:∀ x:Str,x≠"__name__"→mb x=bootBuiltins x) (hlim:s₁.heap.NoLimit)
    (hbm:∃ bm ob,mg "__builtins__"=some (.ref bm)∧bm≠builtinsNs∧s₁.heap.get? bm=some ob∧ob.cls=.type "module"∧ob.dict=some builtinsNs∧ob.data=.plain) (hse:s₁.heap.NoSeer) (hdg:∃ mc,s₁.heap.Ns cStatics mc∧mc "sys.int_max_str_digits"=none) (hg:s₁.gens=#[])
    (ha:s₁.heap.get? a=some { cls:=.type "list",data:=.seq vs.toArray }) (hi:IntsAre vs ns) (hl:ns.length≤sizeLine) (hr:Room k callerA)
    (F:∀ base:Heap,K.In base→base.Ns mainGlobals mg→FnOk P w K mg base CX k fa fd [x] sp) (hbind:∀ (s:Shared) (u:Value),BindsTo s fd ⟨[u],[]⟩ [(x,u)])
    (hsp:∀ H:Hp,qnq H→SqL K H a (ns.map V.int)→sp [.ref a] H (fun v _=>v=.bl true) fun _ _ _=>False)
    (hCX:∀ H e s',CX [] H s₁ (fun _ _ _=>False) e s'→False) :
    codeAny (model P w) callerA (.call (.ref fa) ⟨[.ref a],[]⟩) (fun r s'=>r=.ok (.ret (.bool true))∧OldK s₁.heap s'.heap∧s'.os=s₁.os∧AllBare s'.gens) s₁:=by
  have rv:=qeM hi
  have lenV:=hi.length
  have core:∀ H:Hp,qnq H→SqL K H a (ns.map V.int)→HOk P w H s₁.heap→(∀ b,H b≠none→b=a)→(H a≠none→K.lookup a=none) →
      codeAny (model P w) callerA (.call (.ref fa) ⟨[.ref a],[]⟩) (fun r s'=>r=.ok (.ret (.bool true))∧OldK s₁.heap s'.heap∧s'.os=s₁.os∧AllBare s'.gens) s₁:=by
    intro H hO hS hok hA hK
    have base_of:∀ {b:Addr} {o:Obj},s₁.heap.get? b=some o→H b=none→(qhK s₁.heap H).get? b=some o:=fun e n=>qhX e n
    have noA:∀ {b:Addr} {o:Obj} {es:Array DictEntry} {ep:Nat},s₁.heap.get? b=some o→o.data=.dict es ep→H b=none:=fun {b o es ep} e d=>by
      cases q:H b with
      | none=>rfl
      | some u =>
        have e':b=a:=hA b (by rw [q];simp)
        subst e'
        rw [ha] at e;cases e
        have d':Data.seq vs.toArray _=Data.dict es ep:=d
        cases d'
    have nsK:∀ {b:Addr} {m:Str→Option Value},s₁.heap.Ns b m→(qhK s₁.heap H).Ns b m:=fun {b m} hq0=>by obtain ⟨o,es,ep,e,d,r⟩:=hq0;exact ⟨o,es,ep,base_of e (noA e d),d,r⟩
    have hKb:K.In (qhK s₁.heap H):=fun b o e=>base_of (KX b o e) (by
      cases q:H b with
      | none=>rfl
      | some u =>
        have e':b=a:=hA b (by rw [q];simp)
        subst e'
        rw [hK (by rw [q];simp)] at e;cases e)
    have hM:Mod K mg (qhK s₁.heap H):=⟨hKb,nsK hns,⟨mb,nsK hb,hbb⟩,let ⟨mc,h1,h2⟩:=hlim;⟨mc,nsK h1,h2⟩,let ⟨bm,ob,b1,b2,b3,b4,b5,b6⟩:=hbm;⟨bm,ob,b1,b2,base_of b3 (by
      cases q:H bm with
      | none=>rfl
      | some u =>
        have e':bm=a:=hA bm (by rw [q];simp)
        rw [e',ha] at b3;cases b3;injection b4 with z;exact absurd z (by decide)),b4,b5,b6⟩,
      ⟨let ⟨mc,h1,h2⟩:=hse.statics;⟨mc,nsK h1,h2⟩,let ⟨mc,h1,h2⟩:=hse.mods;⟨mc,nsK h1,h2⟩,let ⟨mc,h1,h2⟩:=hse.imp;⟨mc,nsK h1,h2⟩,let ⟨m1,bm,ob,n1,b1,b3,b4,b5⟩:=hse.main;⟨m1,bm,ob,nsK n1,b1,base_of b3 (by
      cases q:H bm with
      | none=>rfl
      | some u =>
        have e':bm=a:=hA bm (by rw [q];simp)
        rw [e',ha] at b3;cases b3;injection b4 with z;exact absurd z (by decide)),b4,b5⟩⟩,let ⟨mc,h1,h2⟩:=hdg;⟨mc,nsK h1,h2⟩⟩
    have e0:Env0 P w K mg (qhK s₁.heap H) callerA [] s₁ H:=⟨rfl,hM,fun b o e=>qkc e,Nat.le_of_eq (qhg _ _),trivial,fun b hb=>absurd (show b∈([]:List Addr) from hb) (by simp),hok,.of_eq hg⟩
    refine codeAny_mono ((F _ hKb (nsK hns)).run callerA [] s₁ H ⟨[.ref a],[]⟩ [.ref a] [.ref a] _ _ hr e0 (hbind s₁ (.ref a)) (.cons rfl .nil) (hsp H hO hS)) fun r s' h=>?_
    cases r with
    | error e=>exact (hCX H e s' h).elim
    | ok fl =>
      cases fl with
      | next=>exact False.elim h
      | brk=>exact False.elim h
      | cont=>exact False.elim h
      | ret u =>
        obtain ⟨v,H',os,bare,un,hok',r',q⟩:=h
        have q':v=.bl true:=q
        subst q'
        obtain rfl:u=Value.bool true:=r'
        refine ⟨rfl,OldK.of_keep fun b o e=>?_,os,bare⟩
        cases q:H b with
        | none=>exact un.keep b o e q (by intro z;exact absurd (show b∈([]:List Addr) from z) (by simp)) (by simp)
        | some u =>
          rcases hO b with z | ⟨ob,xs,z⟩
          · rw [q] at z;cases z
          · have z2:=un.frzs b ob _ z
            obtain ⟨e1,_⟩:=hok b _ z
            obtain ⟨e2,_⟩:=hok' b _ z2
            rw [e] at e1;cases e1
            exact e2
  cases hk:K.lookup a with
  | some o =>
    have e:=KX a o hk
    rw [ha] at e
    cases e
    refine core (fun _=>none) (fun _=>.inl rfl) (.inr ⟨_,vs.toArray,_,hk,rfl,rfl,rfl,by rw [List.size_toArray,lenV];exact hl,by simpa using rv⟩) (fun b u z=>by have z':(none:Option HO)=some u:=z;cases z') (fun b z=>absurd rfl z) fun z=>absurd rfl z
  | none =>
    refine core (fun b=>if b=a then some (.frz { cls:=.type "list",data:=.seq vs.toArray } (.lst (ns.map V.int))) else none) (fun b=>?_) (.inl (.inr ⟨{ cls:=.type "list",data:=.seq vs.toArray },if_pos rfl⟩)) (fun b u z=>?_) (fun b z=>?_) fun _=>hk
    · by_cases hb:b=a
      · exact .inr ⟨_,_,if_pos hb⟩
      · exact .inl (if_neg hb)
    · by_cases hb:b=a
      · have z':=(if_pos hb).symm.trans z
        cases z'
        subst hb
        exact ⟨ha,by rw [List.length_map];exact hl,vs,_,rv,ha⟩
      · have z':=(if_neg hb).symm.trans z
        cases z'
    · by_cases hb:b=a
      · exact hb
      · exact absurd (if_neg hb) z
theorem walk_of {l:PySem.W.OpenLaw} {n k:Nat} {q:Program} {loose:List Str} {XP:(Str→Option Value)→Heap→Prop} {YP:World→Heap→Prop} {d:DefRec} {K:Params→PySem.W.Frag} {CX:World→CXT} {sp:World→Sp} {x:Str}
    (hn:l.most=some n) (hn2:n≤sizeLine) (hdf:d.params.defaults=[]) (hi:importsNone q=true) (hr:Room k callerA)
    (hY:∀ (w:World) (h:Heap),YP w h→(K w.params).In h)
    (F:∀ (w:World) (mg:Str→Option Value) (fa:Addr) (h:Heap),(K w.params).In h→h.Ns mainGlobals mg→mg d.name=some (.ref fa) →
      ∃ fd:FuncData,(∀ (s:Shared) (u:Value),BindsTo s fd ⟨[u],[]⟩ [(x,u)]) ∧
        ∀ base:Heap,(K w.params).In base→base.Ns mainGlobals mg→FnOk l.prog w (K w.params) mg base (CX w) k fa fd [x] (sp w))
    (hsp:∀ (w:World) (H:Hp) (a:Addr) (ns:List Int),ns.length≤n→qnq H→SqL (K w.params) H a (ns.map V.int)→sp w [.ref a] H (fun v _=>v=.bl true) fun _ _ _=>False)
    (hCX:∀ (w:World) (H:Hp) (s:Shared) (e:Value) (s':Shared),CX w [] H s (fun _ _ _=>False) e s'→False) :
    PySem.W.WalkO q loose XP YP l.row.toRowW d [] (fun f vs=>PySem.call f vs):=by
  refine Att.attach_call hn hdf fun w s₀ s₁ mg mb fa o pm cd doc a vs ns G Y ho hd hcd hmg hobj hints hlen hg=>?_
  have KX:=hY w _ Y
  obtain ⟨fd,hb,hF⟩:=F w mg fa _ KX G.T.g hmg
  exact qiq KX G.T.g G.T.b G.T.builtins G.T.nolimit G.T.bmain (G.T.seer hi) G.T.nodigits hg hobj hints (Nat.le_trans hlen hn2) hr hF hb (fun H hO hS=>hsp w H a ns hlen hO hS) fun H e s'=>hCX w H s₁ e s'
end L2
/- THE LAST THEOREM (shape;LID,My.* are yours):
   My.Adr: a structure of the addresses that your layer names (classes,functions);My.Txt K t: a structure (Prop) of the equations over K;
   My.txt_mk:{K} {implicit addresses ..} (e1:nsIn K mainGlobals "law"=some (some (.ref f))) (e2:K.lookup f=some ⟨oc,od,.func (fnOf "law" "law" params body scope dV kV doc pm an cdv ct),sl⟩) (e3:codeIn K cdv "law"=true) ..:∃ t,My.Txt K t
set_option maxRecDepth 100000 in
set_option maxHeartbeats 0 in
theorem PySem.Challenge.cw_LID_holds : PySem.Challenge.rw_LID.Holds := by
  w_on;o_law;k_head;(case hw=>w_witness2)
  k_fill
  refine L2.walk_of (l:=PySem.Challenge.rw_LID) (n:=63) (k:=40) (x:="script") (CX:=fun w=>..) (sp:=fun _=>My.sp_law) rfl (by decide) rfl ⟨rfl,by decide,by decide⟩ (fun w h Y=>PySem.W.kIn_of Y) ?F ?S ?C
  case F =>
    intro w mg fa h KX G hmg
    have T:∃ t,My.Txt (L2.KOf KX) t:=by
      dsimp only [L2.KOf]                          -- K must stand as «<heap const> w.params» for k_is
      refine' My.txt_mk ?e1 ?e2 ?e3 ..
      (case e1=>PySem.W.k_is)                    -- in the order: a name -> its address -> its object -> its parts
      (case e2=>PySem.W.k_is)
      ..
    obtain ⟨t,T⟩:=T
    have e0:=hmg.symm.trans (PySem.W.mg_of KX G T.law)
    cases e0                                       -- fa is the law's own address
    exact ⟨_,fun s u=>.of_eq rfl,fun base kb nb=>My.law_fn T kb nb⟩     -- if «.of_eq rfl» comes too early: refine' ⟨_,?b,fun base kb nb=>My.law_fn T kb nb⟩;exact fun s u=>.of_eq rfl
  case S=>exact fun w H a ns hl hO hS=>..
  case C=>exact ..
(the tactic k_is has no namespace: write k_is) -/
namespace L2
open PySem PySem.Spec PyProof.Rows
def qbh (s:Stmt) (j:Nat):Stmt:=match s with
  | .ClassDef _ _ _ body _ _ _ _ _ _ _=>body.getD j (.Pass ⟨0,0,0,0⟩)
  | _=>.Pass ⟨0,0,0,0⟩
def qaP (s:Stmt):Arguments:=match s with
  | .FunctionDef _ a _ _ _ _ _ _ _ _=>a
  | _=>{ posonlyargs:=[],args:=[],vararg:=none,kwonlyargs:=[],kw_defaults:=[],kwarg:=none,defaults:=[] }
def qay (s:Stmt):List Stmt:=match s with
  | .FunctionDef _ _ b _ _ _ _ _ _ _=>b
  | _=>[]
def qae (s:Stmt):Scope:=match s with
  | .FunctionDef _ _ _ _ _ _ sc _ _ _=>sc
  | _=>{ kind:=.function,names:=[],isGenerator:=false,isCoroutine:=false }
abbrev CX0:CXT:=fun _ _ _ _ _ _=>False
abbrev E0:XK:=fun _ _ _=>False
theorem qgk {X:Cx}:qcP CX0 X E0:=fun _ _ _ _ _ _ _ h=>h.elim
structure Fun (K:PySem.W.Frag) (x qual:Str) (st:Stmt) (f:Addr) (fd:FuncData):Prop where
  ex:∃ (oc:Value) (od:Option Addr) (kV doc pm:Value) (an:Option Addr) (cdv ct:Value) (osl:Array (Option Value)),
    fd=PySem.W.fnOf x qual (qaP st) (qay st) (qae st) .none kV doc pm an cdv ct∧K.lookup f=some ⟨oc,od,.func fd,osl⟩∧PySem.W.codeIn K cdv qual=true
  kp:PySem.W.keepIn K (.ref f)=true
section
variable {P : Program} {w : World} {K : PySem.W.Frag} {mg : Str → Option Value} {base : Heap}
theorem Fun.ok {x qual:Str} {st:Stmt} {f:Addr} {fd:FuncData} {N ps:List Str} {k:Nat} {sp:Sp} (F:Fun K x qual st f fd) (S:FnScope N ps (qae st)) (len:∀ vs H Q E,sp vs H Q E→vs.length=ps.length)
    (hbody:∀ (cdv:Value) (A:Around) (outer:List Env) (s:Shared) (H:Hp) (vs:List V) (Q:VK) (E:XK),Room k (A.deeper (envOfC qual (qae st) s.heap.objs.size f cdv))→sp vs H Q E →
      ∃ t,PSs (qgy CX0 P w K mg base N qual (qae st) f cdv A outer s H E).nox (qay st) t∧t { nx:=fun _ H'=>Q .non H',rt:=Q } (qca N vs) H):FnOk P w K mg base CX0 (k+1) f fd ps sp:=by
  obtain ⟨oc,od,kV,doc,pm,an,cdv,ct,osl,rfl,lk,hcd⟩:=F.ex
  refine qiv lk hcd S len fun A outer s H vs Q E hr hsp=>?_
  obtain ⟨t,h,q⟩:=hbody cdv A outer s H vs Q E hr hsp
  exact ⟨t,h.nox,q⟩
theorem Fun.binds {x qual:Str} {st:Stmt} {f:Addr} {fd:FuncData} {ps:List Str} (F:Fun K x qual st f fd)
    (h:∀ (kV doc pm:Value) (an:Option Addr) (cdv ct:Value) (us:List Value),us.length=ps.length→bindArgs (PySem.W.fnOf x qual (qaP st) (qay st) (qae st) .none kV doc pm an cdv ct) ⟨us,[]⟩=pure (ps.zip us)):Binds K fd ps []:=by
  obtain ⟨oc,od,kV,doc,pm,an,cdv,ct,osl,rfl,lk,hcd⟩:=F.ex
  exact .all (h kV doc pm an cdv ct)
theorem qcQ {x qual:Str} {st:Stmt} {f:Addr} {oc:Value} {od an:Option Addr} {osl:Array (Option Value)} {kV doc pm cdv ct:Value} (l:K.lookup f=some ⟨oc,od,.func (PySem.W.fnOf x qual (qaP st) (qay st) (qae st) .none kV doc pm an cdv ct),osl⟩)
    (c:PySem.W.codeIn K cdv qual=true) (k:PySem.W.keepIn K (.ref f)=true):Fun K x qual st f (PySem.W.fnOf x qual (qaP st) (qay st) (qae st) .none kV doc pm an cdv ct):=⟨⟨oc,od,kV,doc,pm,an,cdv,ct,osl,rfl,l,c⟩,k⟩
end
theorem qbn {n:Nat} (h:n≤1000):n<sizeLine:=Nat.lt_of_le_of_lt h (by decide)
section
variable {X : Cx}
theorem pv (i:Nat) {x:Str} {pos:Pos} (hN:X.N[i]?=some x:=by rfl) (hv:Vis X.env.scope x:=by first | exact Or.inl rfl | exact Or.inr (Or.inl rfl) | exact Or.inr (Or.inr rfl)) (hd:(x == ("__debug__":Str))=false:=by decide)
    (hcd:(x == ("__classdict__":Str))=false:=by decide):PE X (.Name x pos) (qma i):=qgG hN hv hd hcd
end
theorem qmc {A B:Prop} (h:B):if false=true then A else B:=by
  rw [if_neg Bool.false_ne_true]
  exact h
theorem qmb {A B:Prop} (h:A):if true=true then A else B:=by
  rw [if_pos rfl]
  exact h
def Same (H H':Hp):Prop:=∀ b o,H b=some o→H' b=some o
theorem Same.refl (H:Hp):Same H H:=fun _ _ h=>h
theorem Same.trans {H H1 H2:Hp} (a:Same H H1) (b:Same H1 H2):Same H H2:=fun c o h=>b c o (a c o h)
theorem Same.free {H H':Hp} (e:Same H H') {l:Addr} (h:H' l=Option.none):H l=Option.none:=by
  cases q:H l with
  | none=>rfl
  | some o =>
    rw [e l o q] at h
    cases h
theorem Same.seq {K:PySem.W.Frag} {H H':Hp} {a:Addr} {xs:List V} (e:Same H H') (h:SqL K H a xs):SqL K H' a xs:=by
  rcases h with (h | ⟨o,h⟩) | h
  · exact .inl (.inl (e _ _ h))
  · exact .inl (.inr ⟨o,e _ _ h⟩)
  · exact .inr h
section
variable {κ : Type} [DecidableEq κ]
end
section
variable {P : Program} {w : World} {H : Hp} {h : Heap} {a : Addr}
end
section
variable {X : Cx} {pins : List (Addr × Obj)} {σ : St} {H : Hp} {s : Shared} {a : Addr} {y v : V} {u r : Value} {o : Option V} {A : Around} {E : Value → Shared → Prop}
end
section
variable {X : Cx} {pins : List (Addr × Obj)} {σ : St} {H : Hp} {s : Shared} {a : Addr} {kvs : List (Key × V)} {k : Key} {u : Value} {A : Around} {E : Value → Shared → Prop}
end
section
variable {X : Cx} {o i e value : Expr} {pos pos' tpos : Pos} {td ty tv : TE}
end
section
variable {X : Cx} {pos : Pos}
end
end L2
set_option maxHeartbeats 4000000
namespace L2
open PySem PySem.Spec PyProof.Rows
theorem qgg {env:Env} (names:List (Str × NameKind)) (hf:∀ x∈names,x.2=.free→∃ c,env.cells.lookup x.1=some c):∀ acc:List (Str × Addr),
    ∃ cl:List (Str × Addr),(forIn names acc (fun (x:Str × NameKind) cs=>if (x.2 == .free)=true then do let a ← cellOf env x.1;pure (ForInStep.yield ((x.1,a)::cs)) else pure (ForInStep.yield cs)):Sem (List (Str × Addr)))=pure cl ∧
      (∀ p∈cl,p∈acc∨env.cells.lookup p.1=some p.2)∧(∀ p∈acc,p∈cl)∧∀ x,(x,NameKind.free)∈names→∃ c,(x,c)∈cl:=by
  induction names with
  | nil=>intro acc;exact ⟨acc,rfl,fun p hp=>.inl hp,fun _ hp=>hp,fun x hx=>by simp at hx⟩
  | cons n r ih =>
    intro acc
    obtain ⟨n,k⟩:=n
    have hr:∀ x∈r,x.2=.free→∃ c,env.cells.lookup x.1=some c:=fun x hx=>hf x (List.mem_cons_of_mem _ hx)
    by_cases hk:k=.free
    · subst hk
      obtain ⟨c,hc⟩:=hf (n,.free) List.mem_cons_self rfl
      obtain ⟨cl,e,h1,h2,h3⟩:=ih hr ((n,c)::acc)
      refine ⟨cl,?_,fun p hp=>?_,fun p hp=>h2 p (List.mem_cons_of_mem _ hp),fun x hx=>?_⟩
      · rw [List.forIn_cons,← e]
        have q:cellOf env n=pure c:=by unfold cellOf;rw [hc]
        simp [q]
      · rcases h1 p hp with z | z
        · rcases List.mem_cons.mp z with rfl | z
          · exact .inr hc
          · exact .inl z
        · exact .inr z
      · rcases List.mem_cons.mp hx with z | z
        · cases z;exact ⟨c,h2 _ List.mem_cons_self⟩
        · exact h3 x z
    · obtain ⟨cl,e,h1,h2,h3⟩:=ih hr acc
      refine ⟨cl,?_,h1,h2,fun x hx=>?_⟩
      · rw [List.forIn_cons,← e]
        have q:(k == NameKind.free)=false:=by simpa using hk
        simp [q]
      · rcases List.mem_cons.mp hx with z | z
        · cases z;exact absurd rfl hk
        · exact h3 x z
theorem qd3 {cl:List (Str × Addr)} {cells:List (Str × Addr)} (h:∀ p∈cl,cells.lookup p.1=some p.2):∀ x c,cl.lookup x=some c→cells.lookup x=some c:=fun x c e=>h (x,c) (PySem.mem_of_lookup e)
theorem qgr {cl:List (Str × Addr)} {x:Str} {c:Addr}:(x,c)∈cl→∃ c',cl.lookup x=some c':=by
  induction cl with
  | nil=>intro h;simp at h
  | cons p r ih =>
    intro h
    rw [List.lookup_cons]
    cases e:x == p.1 with
    | true=>exact ⟨_,rfl⟩
    | false =>
      rcases List.mem_cons.mp h with z | z
      · subst z;simp at e
      · exact ih z
theorem qel {scope:Scope} {env:Env} (hf:∀ x∈scope.names,x.2=.free→∃ c,env.cells.lookup x.1=some c) :
    ∃ cl,closureFor scope env=pure cl∧(∀ x c,cl.lookup x=some c→env.cells.lookup x=some c)∧∀ x,(x,NameKind.free)∈scope.names→∃ c,cl.lookup x=some c:=by
  obtain ⟨cl,e,h1,_,h3⟩:=qgg (env:=env) scope.names hf []
  refine ⟨cl,?_,qd3 fun p hp=>(h1 p hp).elim (fun z=>by simp at z) id,fun x hx=>?_⟩
  · unfold closureFor
    simp only
    rw [← e]
    simp
  · obtain ⟨c,hc⟩:=h3 x hx
    exact qgr hc
theorem qck {env:Env}:∀ {names:List (Str × NameKind)} {x:Str} {k:NameKind},
    (names.map fun (n,k)=>if (k == NameKind.free && env.scope.kind == .function && env.kindOf n == some .cell) then (n,NameKind.cell) else (n,k)).lookup x=some k→(k=.cell∨k=.free)→(x,NameKind.free)∈names∨(x,NameKind.cell)∈names
  | [],_,_,h,_=>by simp at h
  | (n,k)::r,x,kk,h,hk=>by
    have ih:=@qck env r x kk
    have h:List.lookup x ((if (k == NameKind.free && env.scope.kind == .function && env.kindOf n == some .cell)=true then (n,NameKind.cell) else (n,k))::_)=_:=h
    by_cases hb:(k == NameKind.free && env.scope.kind == .function && env.kindOf n == some .cell)=true
    · rw [if_pos hb] at h
      have kf:k=.free:=by
        simp only [Bool.and_eq_true,beq_iff_eq] at hb
        exact hb.1.1
      rw [List.lookup_cons] at h
      cases e:x == n with
      | true =>
        have:x=n:=by simpa using e
        subst this;subst kf
        exact .inl List.mem_cons_self
      | false =>
        simp only [e] at h
        exact (ih h hk).imp (List.mem_cons_of_mem _) (List.mem_cons_of_mem _)
    · rw [if_neg hb] at h
      rw [List.lookup_cons] at h
      cases e:x == n with
      | true =>
        have kk':k=kk:=by simpa [e] using h
        have:x=n:=by simpa using e
        subst this
        subst kk'
        rcases hk with rfl | rfl
        · exact .inr List.mem_cons_self
        · exact .inl List.mem_cons_self
      | false =>
        simp only [e] at h
        exact (ih h hk).imp (List.mem_cons_of_mem _) (List.mem_cons_of_mem _)
def qbg (X:Cx) (scope:Scope) (N':List Str) (cl:List (Str × Addr)) (C:Addr) (s0:Shared) (H0:Hp) (fp:List Addr):Cx where
  prog:=X.prog
  w:=X.w
  K:=X.K
  mg:=X.mg
  base:=X.base
  A:=X.A
  N:=N'
  s₀:=s0
  H₀:=H0
  env:=compEnvC scope cl C X.env
  outer:=X.stack
  stack:=X.stack
  ex:=fp
  fn:=fun x=>scope.names.lookup x == some .cell
  calm:=X.calm
  pn:=[]
  xe:=fun _ _=>False
def qdu (cap:List (Option Nat)) (σ:St):St:=cap.map fun o=>o.bind fun i=>(σ[i]?).join
structure CompScope (N:List Str) (sc scope:Scope) (N':List Str) (cap:List (Option Nat)):Prop where
  kind:scope.kind=.function
  cel:∀ x∈scope.names,x.2=.cell→scope.names.lookup x.1=some .cell
  names:∀ x∈scope.names,x.2=.local→scope.names.lookup x.1=some .local
  free:∀ x∈scope.names,x.2=.free→sc.names.lookup x.1=some .cell
  fst:∀ x∈scope.names,x.2=.free→scope.names.lookup x.1=some .free
  nd:N'.Nodup
  len:cap.length=N'.length
  at_:∀ p∈cap.zip N',∀ i,p.1=some i→N[i]?=some p.2∧(p.2,NameKind.free)∈scope.names
def qme (X:Cx) (ifs:List Expr) (t:TT):Prop :=
  ∀ (pins:List (Addr × Obj)) (s:Shared) (σ:St) (H:Hp) (Q:Bool→Hp→Prop),Inv X pins σ H s→t σ H Q →
    wpAny (model X.prog X.w) X.A (forIn ifs true fun c r=>if r=true then do let ok ← isTrue c X.env (eval c X.env);pure (ForInStep.yield ok) else pure (ForInStep.yield r)) (TP X pins σ Q) X.xe s
def qog:TT:=fun _ H Q=>Q true H
theorem qhS {X:Cx}:qme X [] qog:=fun _ _ _ H _ I h=>wpAny_tests_nil ⟨H,I,h⟩
def qlX (wi:TI) (cap:List (Option Nat)) (g:TG) (tc:TT) (te:TE):TE:=fun σ H Q=>wi σ H fun J H1=>∀ D,H1 D=none→∃ W:Nat→Nat→St→Hp→Prop,(∃ m,W 0 m (qdu cap σ) (upd H1 D (.lst []))) ∧
  ∀ i m σ' H',W i m σ' H'→(J.stop i H'∧Q (.ref D) H')∨(J.go i H'∧∃ N:St→Hp→Prop,(∀ σ2 H2,N σ2 H2→∃ m',m'<m∧W (i+1) m' σ2 H2) ∧
    ∀ x H2,J.yld i H' x H2→g x σ' H2 fun σ3 H3=>tc σ3 H3 fun b H4=>if b=true then te σ3 H4 fun y H5=>∃ ys,H5 D=some (.lst ys)∧ys.length<sizeLine∧N σ3 (upd H5 D (.lst (ys++[y]))) else N σ3 H4)
theorem qfv {prog:Program} {w:World} {A:Around} {R:Result→Shared→Prop} {s:Shared} {elt target iter:Expr} {ifs:List Expr} {scope:Scope} {pos:Pos} {it acc:Value} {env:Env} (I:Nat→Shared→Prop)
    (turn:∀ n s,I n s→wpAny (model prog w) A (pyNext it) (fun r s₁=>match r with
      | none=>R (.ok .next) s₁
      | some v=>wpAny (model prog w) A (letOwnedTupleGo target it v) (fun _ s₁'=>wpAny (model prog w) A (assign target env v) (fun _ s₂ =>
          wpAny (model prog w) A (forIn ifs true fun c r=>if r=true then do let ok ← isTrue c env (eval c env);pure (ForInStep.yield ok) else pure (ForInStep.yield r)) (fun ok s₃ =>
            if ok=true then wpAny (model prog w) A (eval elt env) (fun x s₄ =>
              wpAny (model prog w) A (call (.builtin "list.append") [acc,x]) (fun _ s₅=>∃ m,m<n∧I m s₅) (fun _ _=>False) s₄) (fun _ _=>False) s₃
            else ∃ m,m<n∧I m s₃) (fun _ _=>False) s₂) (fun _ _=>False) s₁') (fun _ _=>False) s₁) (fun _ _=>False) s)
    (n:Nat) (h:I n s):codeAny (model prog w) A (.compLoop (.ListComp elt [⟨target,iter,ifs,0⟩] scope pos) 0 it acc env) R s:=by
  refine codeAny_loop rfl I (fun n s hI=>?_) n h
  show wpAny _ A ((compTurn (.ListComp elt [⟨target,iter,ifs,0⟩] scope pos) 0 it acc env).onRaise (fun x=>do noteFrame x env;theTreesLotGoes x)) _ _ s
  refine wpAny_noted ?_
  rw [compTurn_list]
  refine wpAny_bind (wpAny_standAt (wpAny_bind (wpAny_mono (turn n s hI) (fun r s₁ h₁=>?_) fun _ _ h'=>h'.elim)))
  cases r with
  | none=>exact wpAny_pure h₁
  | some v =>
    refine wpAny_bind (wpAny_mono h₁ (fun _ s₁' h₁'=>?_) fun _ _ h'=>h'.elim)
    refine wpAny_bind (wpAny_mono h₁' (fun _ s₂ h₂=>wpAny_bind (wpAny_mono h₂ (fun ok s₃ h₃=>?_) fun _ _ h'=>h'.elim)) fun _ _ h'=>h'.elim)
    cases ok with
    | false=>exact wpAny_pure ⟨rfl,h₃⟩
    | true =>
      exact wpAny_bind (wpAny_bind (wpAny_mono h₃ (fun x s₄ h₄=>wpAny_bind (wpAny_mono h₄ (fun _ s₅ h₅=>wpAny_pure (wpAny_pure ⟨rfl,h₅⟩)) fun _ _ h'=>h'.elim)) fun _ _ h'=>h'.elim))
section
variable {X : Cx} {elt tg iter : Expr} {ifs : List Expr} {scope : Scope} {pos : Pos} {N' : List Str} {cap : List (Option Nat)} {wi : TI} {g : TG} {tc : TT} {te : TE}
theorem qa5:∀ (names:List (Str × NameKind)) (n:Nat) (acc:List (Str × Addr)),cellsFrom n names acc=cellsFrom n names []++acc
  | [],_,_=>rfl
  | (x,k)::r,n,acc=>by
    unfold cellsFrom
    split
    · rw [qa5 r (n+1) ((x,n)::acc),qa5 r (n+1) [(x,n)],List.append_assoc];rfl
    · exact qa5 r n acc
theorem qbK:∀ (names:List (Str × NameKind)) (n:Nat) {x:Str} {c:Addr},(x,c)∈cellsFrom n names []→(x,NameKind.cell)∈names
  | [],_,_,_,h=>by simp [cellsFrom] at h
  | (y,k)::r,n,x,c,h=>by
    unfold cellsFrom at h
    split at h
    · rename_i hk
      rw [qa5] at h
      rcases List.mem_append.mp h with h | h
      · exact List.mem_cons_of_mem _ (qbK r _ h)
      · have e:=List.mem_singleton.mp h
        cases e
        have:k=.cell:=by simpa using hk
        subst this
        exact List.mem_cons_self
    · exact List.mem_cons_of_mem _ (qbK r _ h)
theorem qif {M:Model} {A:Around} {E:Value→Shared→Prop} {s:Shared} {globals:Addr} {cl:List (Str × Addr)} {qual:Str} {outer:Env} {Q:Env→Shared→Prop}
    (hQ:∀ h',h'.Ns s.heap.objs.size (fun _=>none)→(∀ b o,s.heap.get? b=some o→h'.get? b=some o)→CellsOk h' (s.heap.objs.size+1) (cellsFrom (s.heap.objs.size+1) scope.names []) →
      Q { scope:=scope,locals:=s.heap.objs.size,globals:=globals,cells:=cellsFrom (s.heap.objs.size+1) scope.names []++cl,qual:=qual,func:=none,code:=outer.code,frame:=outer.frame,builtins:=outer.builtins } { s with heap:=h' }) :
    wpAny M A (newFunctionEnv scope globals cl [] qual none .none (some outer)) Q E s:=by
  simp only [newFunctionEnv,Option.isSome_some,if_true]
  refine wpAny_bind (wpAny_alloc ?_)
  refine wpAny_bind (wpAny_layCells _ (fun name kind cells=>by cases hkc:kind == NameKind.cell <;> simp [hkc]) _ _ _ _ ?_)
  have ok:=cellsFrom_ok scope.names (s.heap.push { cls:=.type "dict",data:=.dict #[] }) (s.heap.objs.size+1) [] ⟨fun _ _ hm=>(nomatch hm),List.Pairwise.nil⟩ (by rw [Heap.size_push];exact Nat.le_refl _)
  rw [Heap.size_push] at ok
  rw [show ({ s with heap:=s.heap.push { cls:=.type "dict",data:=.dict #[] } }:Shared).heap.objs.size=s.heap.objs.size+1 from Heap.size_push ..,qa5]
  refine wpAny_bind ?_
  rw [List.forIn_nil]
  exact wpAny_pure (wpAny_pure (hQ _ ((Heap.Ns.new s.heap (.type "dict")).keeps (pushCells_keeps _ _)) (fun b o e=>pushCells_keeps _ _ b o (Heap.get?_push_of_some _ e)) ok))
theorem qig {pins:List (Addr × Obj)} {σ:St} {H:Hp} {s s4:Shared} {cl nw:List (Str × Addr)} {C:Addr} {fp:List Addr} {m:Str→Option Value} (S:CompScope X.N X.env.scope scope N' cap) (I:Inv X pins σ H s)
    (hcl:∀ x c,cl.lookup x=some c→X.env.cells.lookup x=some c) (hfr:∀ x,(x,NameKind.free)∈scope.names→∃ c,cl.lookup x=some c) (hC:s.heap.objs.size≤C) (hos:s4.os=s.os) (hg:s4.gens=s.gens)
    (hk:∀ b o,s.heap.get? b=some o→s4.heap.get? b=some o) (hn:s4.heap.Ns C m) (hfp:∀ b∈fp,qfN X pins H b) (hfz:∀ b∈fp,b<s.heap.objs.size) (hw:CellsOk s4.heap (C+1) nw) (hwm:∀ x c,(x,c)∈nw→(x,NameKind.cell)∈scope.names) (hwl:∀ x,(x,NameKind.cell)∈scope.names→∃ c,nw.lookup x=some c) :
    Inv (qbg X scope N' (nw++cl) C s H fp) [] (qdu cap σ) H s4:=by
  have hlk:∀ x c,(nw++cl).lookup x=some c→((x,c)∈nw∧C<c)∨(nw.lookup x=none∧X.env.cells.lookup x=some c):=fun x c h=>by
    rw [List.lookup_append] at h
    cases e:nw.lookup x with
    | none=>rw [e] at h;exact .inr ⟨rfl,hcl x c (by simpa using h)⟩
    | some c' =>
      rw [e] at h
      have:c'=c:=by simpa using h
      subst this
      exact .inl ⟨PySem.mem_of_lookup e,(hw.empty _ _ (PySem.mem_of_lookup e)).2⟩
  have hold:∀ x c,X.env.cells.lookup x=some c→c<s.heap.objs.size:=fun x c h=>by obtain ⟨v,q⟩:=I.cell x c h;exact q.lt
  have hfr':∀ x,(x,NameKind.free)∈scope.names→∃ c,(nw++cl).lookup x=some c∧X.env.cells.lookup x=some c:=fun x hx=>by
    obtain ⟨c,hc⟩:=hfr x hx
    refine ⟨c,?_,hcl x c hc⟩
    rw [List.lookup_append]
    cases e:nw.lookup x with
    | none=>simpa using hc
    | some c' =>
      have a1:=S.cel _ (hwm x c' (PySem.mem_of_lookup e)) rfl
      have a2:=S.fst _ hx rfl
      have a1:scope.names.lookup x=some .cell:=a1
      have a2:scope.names.lookup x=some .free:=a2
      rw [a1] at a2;cases a2
  refine ⟨⟨I.ok.mod,S.kind,I.ok.glob,I.ok.blt,hC,fun x y c h1 h2=>?_,fun x hx=>?_,fun x c hx h=>?_,I.ok.hd,I.ok.frames,.inl rfl,
      fun b hb=>⟨Nat.ne_of_lt (Nat.lt_of_lt_of_le (hfz b hb) hC),fun x c e=>?_⟩,I.bs,Nat.le_trans I.ok.bsz I.sz,fun b o e hb=>?_,fun b hb hf=>?_,I.stack,I.stkFree⟩,
    hos,by rw [hg];exact I.bare,Un.kept hk,⟨m,hn,fun i x v h1 h2 h3=>?_⟩,fun x c e=>?_,I.hok.fresh hC,fun x c e=>?_,fun p hp=>absurd (show p∈([]:List (Addr × Obj)) from hp) (by simp),I.hok.kept hk,?_⟩
  · rcases hlk x c h1 with ⟨a1,a2⟩ | ⟨_,a2⟩ <;> rcases hlk y c h2 with ⟨b1,b2⟩ | ⟨_,b2⟩
    · exact name_of_addr hw.apart a1 b1
    · exact absurd (hold y c b2) (Nat.not_lt.mpr (Nat.le_trans hC (Nat.le_of_lt a2)))
    · exact absurd (hold x c a2) (Nat.not_lt.mpr (Nat.le_trans hC (Nat.le_of_lt b2)))
    · exact I.ok.inj x y c a2 b2
  · have q:(x,NameKind.free)∈scope.names∨(x,NameKind.cell)∈scope.names:=by
      rcases hx with hx | hx
      · exact qck hx (.inl rfl)
      · exact qck hx (.inr rfl)
    rcases q with q | q
    · obtain ⟨c,h,_⟩:=hfr' x q
      exact ⟨c,h⟩
    · obtain ⟨c,h⟩:=hwl x q
      exact ⟨c,by show (nw++cl).lookup x=_;rw [List.lookup_append,h];rfl⟩
  · have hx:(scope.names.lookup x == some .cell)=true:=hx
    have hx:scope.names.lookup x=some .cell:=by simpa using hx
    obtain ⟨c',h'⟩:=hwl x (PySem.mem_of_lookup hx)
    rcases hlk x c h with ⟨_,a2⟩ | ⟨a1,_⟩
    · exact Nat.le_trans hC (Nat.le_of_lt a2)
    · rw [h'] at a1;cases a1
  · rcases hlk x c e with ⟨_,a2⟩ | ⟨_,a2⟩
    · exact fun z=>absurd (hfz b hb) (Nat.not_lt.mpr (Nat.le_trans hC (by rw [← z];exact Nat.le_of_lt a2)))
    · exact (hfp b hb).2.2.2.2.1 x c a2
  · rcases (hfp b hb).2.2.2.1 with z | z
    · exact I.ok.noex b o e z
    · exact absurd (Nat.lt_of_lt_of_le (Heap.lt_size e) (Nat.le_trans I.ok.bsz z)) (Nat.lt_irrefl _)
  · rcases List.mem_cons.mp (I.stkSub b hf) with z | z
    · exact (hfp b hb).2.1 z
    · exact (hfp b hb).2.2.1 z
  · have h2:(cap.map fun o=>o.bind fun i=>(σ[i]?).join)[i]?=some (some v):=h2
    rw [List.getElem?_map] at h2
    cases ec:cap[i]? with
    | none=>rw [ec] at h2;cases h2
    | some o =>
      rw [ec] at h2
      have h2:(o.bind fun i=>(σ[i]?).join)=some v:=by simpa using h2
      cases o with
      | none=>cases h2
      | some j =>
        have h2:(σ[j]?).join=some v:=h2
        have hj:σ[j]?=some (some v):=by
          cases ej:σ[j]? with
          | none=>rw [ej] at h2;cases h2
          | some y=>rw [ej] at h2;exact congrArg some h2
        have hz:(cap.zip N')[i]?=some (some j,x):=by rw [List.getElem?_zip_eq_some];exact ⟨ec,h1⟩
        obtain ⟨q1,q2⟩:=S.at_ _ (List.mem_of_getElem? hz) j rfl
        obtain ⟨mx,hnx,hl⟩:=I.loc
        have kc:=S.free _ q2 rfl
        obtain ⟨u,r,lk⟩:=hl j x v q1 hj (.inr (.inl kc))
        refine ⟨u,r,?_⟩
        rcases lk with ⟨k1,_⟩ | ⟨_,c,e,z⟩
        · have:X.env.scope.names.lookup x=some .local:=k1
          rw [kc] at this;cases this
        · obtain ⟨c',hc',hd'⟩:=hfr' x q2
          rw [e] at hd';cases hd'
          have kx:(compEnvC scope (nw++cl) C X.env).kindOf x=some .cell∨(compEnvC scope (nw++cl) C X.env).kindOf x=some .free∨(compEnvC scope (nw++cl) C X.env).kindOf x=some .local:=by
            rcases h3 with z | z | z
            · exact .inr (.inr z)
            · exact .inl z
            · exact .inr (.inl z)
          rcases kx with kx | kx | kx
          · exact .inr ⟨.inl kx,c,hc',let ⟨o,ho,hd⟩:=z;⟨o,hk c o ho,hd⟩⟩
          · exact .inr ⟨.inr kx,c,hc',let ⟨o,ho,hd⟩:=z;⟨o,hk c o ho,hd⟩⟩
          · exfalso
            have kl:(relabel scope X.env).names.lookup x=some .local:=kx
            have ml:=PySem.mem_of_lookup kl
            obtain ⟨⟨n,k⟩,hm,e2⟩:=List.mem_map.mp ml
            have e2:(if (k == NameKind.free && X.env.scope.kind == .function && X.env.kindOf n == some .cell)=true then (n,NameKind.cell) else (n,k))=(x,NameKind.local):=e2
            split at e2
            · cases e2
            · cases e2
              have a1:=S.names _ hm rfl
              have a3:scope.names.lookup x=some .free:=S.fst _ q2 rfl
              have a1:scope.names.lookup x=some .local:=a1
              rw [a3] at a1;cases a1
  · rcases hlk x c e with ⟨a1,_⟩ | ⟨_,a2⟩
    · exact ⟨none,(hw.empty x c a1).1⟩
    · obtain ⟨v,o,ho,hd⟩:=I.cell x c a2
      exact ⟨v,o,hk c o ho,hd⟩
  · rcases hlk x c e with ⟨_,a2⟩ | ⟨_,a2⟩
    · exact I.hok.fresh (Nat.le_trans hC (Nat.le_of_lt a2))
    · exact I.freeC x c a2
  · show (qdu cap σ).length=N'.length
    unfold qdu
    rw [List.length_map,S.len]
theorem qf3 {pins:List (Addr × Obj)} {σ:St} {H2:Hp} {s2:Shared} {it:Addr} {fp:List Addr} {tn:Nat→Heap→Prop} {J:It} {cl:List (Str × Addr)} {RR:Value→Addr→Result→Shared→Prop} {E:Value→Shared→Prop} (hcalm:X.calm=true) (S:CompScope X.N X.env.scope scope N' cap)
    (hg:∀ (cl:List (Str × Addr)) (C:Addr) (s0:Shared) (H0:Hp),PG (qbg X scope N' cl C s0 H0 fp) tg g) (ht:∀ (cl:List (Str × Addr)) (C:Addr) (s0:Shared) (H0:Hp),qme (qbg X scope N' cl C s0 H0 fp) ifs tc) (he:∀ (cl:List (Str × Addr)) (C:Addr) (s0:Shared) (H0:Hp),PE (qbg X scope N' cl C s0 H0 fp) elt te)
    (I2:Inv X pins σ H2 s2) (T:Turn X.prog X.w X.K tg J fp it tn) (st2:tn 0 s2.heap) (f2:∀ b∈fp,qfN X pins H2 b)
    (hcl:∀ x c,cl.lookup x=some c→X.env.cells.lookup x=some c) (hfr:∀ x,(x,NameKind.free)∈scope.names→∃ c,cl.lookup x=some c)
    {P:V→Hp→Prop}
    (w:∀ D,H2 D=none→∃ W:Nat→Nat→St→Hp→Prop,(∃ m,W 0 m (qdu cap σ) (upd H2 D (.lst []))) ∧
      ∀ i m σ' H',W i m σ' H'→(J.stop i H'∧P (.ref D) H')∨(J.go i H'∧∃ N:St→Hp→Prop,(∀ σ2 H2,N σ2 H2→∃ m',m'<m∧W (i+1) m' σ2 H2) ∧
        ∀ x H2,J.yld i H' x H2→g x σ' H2 fun σ3 H3=>tc σ3 H3 fun b H4=>if b=true then te σ3 H4 fun y H5=>∃ ys,H5 D=some (.lst ys)∧ys.length<sizeLine∧N σ3 (upd H5 D (.lst (ys++[y]))) else N σ3 H4))
    (hRR:∀ D C H' s' m',X.env.locals≠C→X.s₀.heap.objs.size≤C→(∀ x c,X.env.cells.lookup x=some c→c≠C)→(∀ p∈X.pn++pins,p.1≠C)→H' C=none→s'.heap.Ns C m'→Inv X pins σ H' s'→P (.ref D) H'→RR (.ref D) C (.ok .next) s') :
    wpAny (model X.prog X.w) X.A (newList []) (fun acc s₃=>wpAny (model X.prog X.w) X.A (newFunctionEnv scope X.env.globals cl [] X.env.qual none .none (some X.env)) (fun cenv s₄ =>
      codeAny (model X.prog X.w) X.A (.compStart (.ListComp elt [⟨tg,iter,ifs,0⟩] scope pos) 0 (.ref it) acc { cenv with scope:=relabel scope X.env }) (RR acc cenv.locals) s₄) E s₃) E s2:=by
  refine wpAny_newObj_type ?_ (by show 0≤sizeLine;decide)
  have I3:Inv X pins σ (upd H2 s2.heap.objs.size (.lst [])) { s2 with heap:=s2.heap.push { cls:=.type "list",data:=.seq ([]:List Value).toArray } }:=I2.lnew (t':=s2.toks) .nil (by show 0≤sizeLine;decide)
  have k3:∀ b o,s2.heap.get? b=some o→(s2.heap.push { cls:=.type "list",data:=.seq ([]:List Value).toArray }).get? b=some o:=fun b o e=>Heap.get?_push_of_some _ e
  have z3:(s2.heap.push { cls:=.type "list",data:=.seq ([]:List Value).toArray }).objs.size=s2.heap.objs.size+1:=Heap.size_push ..
  have hD0:H2 s2.heap.objs.size=none:=I2.fresh
  generalize hs3:({ s2 with heap:=s2.heap.push { cls:=.type "list",data:=.seq ([]:List Value).toArray } }:Shared)=s3 at I3 ⊢
  have eh3:s3.heap=s2.heap.push { cls:=.type "list",data:=.seq ([]:List Value).toArray }:=by rw [← hs3]
  have eo3:s3.os=s2.os:=by rw [← hs3]
  generalize hDD:s2.heap.objs.size=D at I3 hD0 z3 ⊢
  rw [← eh3] at k3 z3
  have live:∀ b∈fp,∃ o,s2.heap.get? b=some o∧∀ v,o.data≠.cell v:=fun b hb=>T.obj 0 _ st2 b hb
  have ltD:∀ b∈fp,b<D:=fun b hb=>by obtain ⟨o,e,_⟩:=live b hb;rw [← hDD];exact Heap.lt_size e
  have f3:∀ b∈fp,qfN X pins (upd H2 D (.lst [])) b:=fun b hb=>⟨by rw [qag (Nat.ne_of_lt (ltD b hb))];exact (f2 b hb).1,(f2 b hb).2⟩
  refine qif fun h4 hn4 k4 ok4=>?_
  generalize hnw:cellsFrom (s3.heap.objs.size+1) scope.names []=nw at ok4 ⊢
  have st4:tn 0 h4:=T.keep 0 _ _ st2 fun b _ o e=>k4 b o (k3 b o e)
  have I4:Inv (qbg X scope N' (nw++cl) s3.heap.objs.size s3 (upd H2 D (.lst [])) fp) [] (qdu cap σ) (upd H2 D (.lst [])) { s3 with heap:=h4 } :=
    qig S I3 hcl hfr (Nat.le_refl _) rfl rfl k4 hn4 f3 (fun b hb=>by rw [z3];exact Nat.lt_succ_of_lt (ltD b hb)) ok4 (fun x c h=>qbK _ _ (hnw ▸ h)) fun x h=>hnw ▸ qen (S.cel _ h rfl)
  obtain ⟨W,⟨m0,w0⟩,turn⟩:=w D hD0
  have fpY:∀ {H':Hp},(∀ b∈fp,H' b=none)→∀ b∈fp,qfN (qbg X scope N' (nw++cl) s3.heap.objs.size s3 (upd H2 D (.lst [])) fp) [] H' b:=fun hn b hb =>
    ⟨hn b hb,Nat.ne_of_lt (by show b<s3.heap.objs.size;rw [z3];exact Nat.lt_succ_of_lt (ltD b hb)),fun hf=>I4.ok.exfs b hb hf,.inl hb,fun x c e=>(I4.ok.exf b hb).2 x c e,fun p hp=>absurd (show p∈([]:List (Addr × Obj)) from hp) (by simp)⟩
  have loop:∀ s₃:Shared,s₃={ s3 with heap:=h4 } →
      codeAny (model X.prog X.w) X.A (.compLoop (.ListComp elt [⟨tg,iter,ifs,0⟩] scope pos) 0 (.ref it) (.ref D) (compEnvC scope (nw++cl) s3.heap.objs.size X.env)) (RR (.ref D) s3.heap.objs.size) s₃:=by
    rintro s₃ rfl
    refine qfv (fun n s'=>∃ i σ' H',Inv (qbg X scope N' (nw++cl) s3.heap.objs.size s3 (upd H2 D (.lst [])) fp) [] σ' H' s'∧tn i s'.heap∧(∀ b∈fp,H' b=none)∧W i n σ' H') ?_ m0
      ⟨0,qdu cap σ,upd H2 D (.lst []),I4,st4,fun b hb=>(f3 b hb).1,w0⟩
    rintro n s5 ⟨i,σ5,H5,I5,st5,fr5,w5⟩
    rcases turn i n σ5 H5 w5 with ⟨stop,qn⟩ | ⟨go,N,hN,step⟩
    · refine thn (T.done (qbg X scope N' (nw++cl) s3.heap.objs.size s3 (upd H2 D (.lst [])) fp) rfl rfl rfl hcalm i [] s5 σ5 H5 _ I5 (fpY fr5) st5 stop) fun r s6 hq0=>?_
      obtain ⟨hr,I6⟩:=hq0
      subst hr
      obtain ⟨m6,hn6,_⟩:=I6.loc
      have un:Un (frs X.stack) fp (upd H2 D (.lst [])) H5 s3.heap s6.heap:=I6.base
      refine hRR D s3.heap.objs.size H5 s6 m6 (Nat.ne_of_lt I3.lt) I3.sz (fun x c e=>?_) (fun p hp=>?_) I6.free hn6 ?_ qn
      · obtain ⟨v,q⟩:=I3.cell x c e
        exact Nat.ne_of_lt q.lt
      · exact Nat.ne_of_lt (Heap.lt_size (I3.pin p hp).1)
      · exact I3.call' I6.os un I6.hok I6.bare fun b hb=>⟨(f3 b hb).2.2.2.1,(f3 b hb).2.1,(f3 b hb).2.2.2.2.1,(f3 b hb).2.2.2.2.2⟩
    · refine thn (T.item (qbg X scope N' (nw++cl) s3.heap.objs.size s3 (upd H2 D (.lst [])) fp) rfl rfl rfl hcalm i [] s5 σ5 H5 (fun _ _=>False) I5 (fpY fr5) st5 go) fun r s6 hq1=>?_
      obtain ⟨u,hr,h6⟩:=hq1
      subst hr
      refine thn h6 fun _ s7 hq2=>?_
      obtain ⟨x,H7,I7,r7,y7,st7,fr7⟩:=hq2
      have I7':=I7.pinned (fpY fr7) (T.obj _ _ st7)
      refine thn (hg _ _ _ _ _ s7 σ5 H7 x u _ I7' r7 (step x H7 y7)) fun _ s8 hq3=>?_
      obtain ⟨σ8,H8,I8,q8⟩:=hq3
      refine thn (ht _ _ _ _ _ s8 σ8 H8 _ I8 q8) fun b s9 hq4=>?_
      obtain ⟨H9,I9,q9⟩:=hq4
      have again:∀ {σ9:St} {H9:Hp} {s9:Shared},Inv (qbg X scope N' (nw++cl) s3.heap.objs.size s3 (upd H2 D (.lst [])) fp) ([]++qeW fp s7.heap) σ9 H9 s9→N σ9 H9→∃ m,m<n∧∃ i σ' H',Inv (qbg X scope N' (nw++cl) s3.heap.objs.size s3 (upd H2 D (.lst [])) fp) [] σ' H' s9∧tn i s9.heap∧(∀ b∈fp,H' b=none)∧W i m σ' H':=fun {σ9 H9 s9} I9 n9=>by
        obtain ⟨m',hm,w9⟩:=hN σ9 H9 n9
        refine ⟨m',hm,i+1,σ9,H9,I9.unpinned,T.keep _ _ _ st7 fun b hb o e=>(I9.pin (b,o) (List.mem_append_right _ (List.mem_append_right _ (qb7 hb e)))).1,fun b hb=>?_,w9⟩
        obtain ⟨o,e,d⟩:=T.obj _ _ st7 b hb
        exact (I9.pin (b,o) (List.mem_append_right _ (List.mem_append_right _ (qb7 hb e)))).2.1
      cases b with
      | false =>
        rw [if_neg (by decide)] at q9 ⊢
        exact again I9 q9
      | true =>
        rw [if_pos rfl] at q9 ⊢
        refine thn (he _ _ _ _ _ s9 σ8 H9 _ I9 q9) fun yv s10 hq5=>?_
        obtain ⟨y,H10,I10,r10,ys,hD10,hz10,q10⟩:=hq5
        refine thn (qdn _ s10 σ8 H10 (.ref D) [y] (.ref D) [yv] (fun _ H'=>N σ8 H') I10 rfl (.cons r10 .nil) ⟨D,ys,y,rfl,rfl,hD10,hz10,q10⟩) fun _ s11 hq6=>?_
        obtain ⟨_,H11,I11,_,q11⟩:=hq6
        exact again I11 q11
  exact codeAny_compStart_list (loop _ rfl) (T.self _ 0 _ _ _ st4 (loop _ rfl))
theorem qjg (hcalm:X.calm=true) (S:CompScope X.N X.env.scope scope N' cap) (hi:PI X tg iter wi)
    (hg:∀ (cl:List (Str × Addr)) (fp:List Addr) (C:Addr) (s0:Shared) (H0:Hp),PG (qbg X scope N' cl C s0 H0 fp) tg g) (ht:∀ (cl:List (Str × Addr)) (fp:List Addr) (C:Addr) (s0:Shared) (H0:Hp),qme (qbg X scope N' cl C s0 H0 fp) ifs tc)
    (he:∀ (cl:List (Str × Addr)) (fp:List Addr) (C:Addr) (s0:Shared) (H0:Hp),PE (qbg X scope N' cl C s0 H0 fp) elt te) (hs:∀ x,foldedSetIterable iter X.env x=pure x:=by intro _;rfl) :
    PE X (.ListComp elt [⟨tg,iter,ifs,0⟩] scope pos) (qlX wi cap g tc te):=by
  intro pins s σ H Q I h
  obtain ⟨cl,ecl,hcl,hfr⟩:=qel (scope:=scope) (env:=X.env) fun x hx hf=>I.ok.has x.1 (.inl (S.free x hx hf))
  rw [eval_ListComp]
  refine wpAny_comprehension_free (use:=none) rfl hs ecl S.kind S.names (thn (hi pins s σ H _ I h) fun v s1 h1=>thn h1 fun itv s2 h2=>?_)
  obtain ⟨it,fp,tn,J,H2,e,I2,T,st2,f2,w⟩:=h2
  subst e
  refine qf3 (RR:=fun acc C=>compPost (model X.prog X.w) X.A X.xe none (EP X pins σ Q) acc C) hcalm S (fun cl=>hg cl fp) (fun cl=>ht cl fp) (fun cl=>he cl fp) I2 T st2 f2 hcl hfr (P:=Q) w ?_
  intro D C H' s' m' hL hz hcc hpp hC hn I' q
  refine ⟨m',hn,fun h' hs'=>⟨.ref D,H',I'.turned (t':=s'.toks) (fun b o hb e=>(hs'.2 b hb).trans e) hC (Ne.symm hL) (.inr hz) hcc hpp,rfl,q⟩⟩
end
open AutoSeq1 (wpAny_loadPart')
theorem Inv.turnedL {X:Cx} {pins:List (Addr × Obj)} {σ:St} {H:Hp} {s:Shared} {h':Heap} {ch:List Addr} {t':Nat} (I:Inv X pins σ H s) (k:∀ b o,b∉ch→s.heap.get? b=some o→h'.get? b=some o) (hf:∀ b∈ch,qfN X pins H b) :
    Inv X pins σ H { s with heap:=h',toks:=t' }:=by
  have nit:∀ b u,H b=some u→b∉ch:=fun b u e z=>by rw [(hf b z).1] at e;cases e
  refine I.step (g':=s.gens) (d':=s.drawn) (ch:=ch) (fun b hb=>⟨(hf b hb).2.2.2.1,(hf b hb).2.1,(hf b hb).2.2.2.2.1,(hf b hb).2.2.2.2.2⟩) (fun b o _ _ hc e _=>k b o hc e) (fun b o _ _ hc e _=>⟨o.slots,k b o hc e⟩) (fun _ _ _ _ n=>n)
    (fun b o hc e=>⟨o,k b o hc e⟩) (fun _ _ e=>e) (fun _ _ _ e=>e) (fun b ps e=>e) (fun m hm=>?_) (fun b u e=>?_) I.bare
  · obtain ⟨o,es,ep,ho,r⟩:=hm
    exact ⟨o,es,ep,k _ o (fun z=>(hf _ z).2.1 rfl) ho,r⟩
  · refine (I.hok b u e).stay (fun c v hc q=>k c v ?_ q) (fun _ q=>q) (fun _ _ q=>q) fun _ _ _ q=>q
    rcases hc with z | z
    · rw [z];exact nit b u e
    · exact nit c _ z
def SqI (b:Bool) (h:Heap) (it a:Addr) (i:Nat):Prop:=match b with | true=>h.IsListIter it a i | false=>h.IsTupleIter it a i
def SqO (b:Bool) (h:Heap) (a:Addr) (its:Array Value):Prop:=match b with | true=>h.IsList a its | false=>h.IsTuple a its
def SqB (K:PySem.W.Frag) (b:Bool) (H:Hp) (a:Addr) (xs:List V):Prop:=match b with | true=>SqL K H a xs | false=>SqT K H a xs
def qb1 (b:Bool) (a:Addr):Obj:=match b with
  | true=>{ cls:=.type "list_iterator",data:=.fields #[.ref a,.int 0 0] }
  | false=>{ cls:=.type "tuple_iterator",data:=.fields #[.ref a,.int 0 0] }
theorem SqI.at {b:Bool} {h h':Heap} {it a:Addr} {i:Nat} (x:SqI b h it a i) (k:∀ o,h.get? it=some o→h'.get? it=some o):SqI b h' it a i:=by
  cases b <;> (obtain ⟨o,e,r⟩:=x;exact ⟨o,k o e,r⟩)
theorem SqO.at {b:Bool} {h h':Heap} {a:Addr} {its:Array Value} (x:SqO b h a its) (k:∀ o,h.get? a=some o→h'.get? a=some o):SqO b h' a its:=by
  cases b <;> (obtain ⟨o,e,r⟩:=x;exact ⟨o,k o e,r⟩)
theorem SqI.obj {b:Bool} {h:Heap} {it a:Addr} {i:Nat} (x:SqI b h it a i):∃ o,h.get? it=some o∧∀ v,o.data≠.cell v:=by
  cases b <;> (obtain ⟨o,e,_,d⟩:=x;exact ⟨o,e,fun v z=>by rw [d] at z;cases z⟩)
theorem SqI.lt {b:Bool} {h:Heap} {it a:Addr} {i:Nat} (x:SqI b h it a i):it<h.objs.size:=by obtain ⟨o,e,_⟩:=x.obj;exact Heap.lt_size e
theorem Inv.sqb {X:Cx} {pins:List (Addr × Obj)} {σ:St} {H:Hp} {s:Shared} {b:Bool} {a:Addr} {xs:List V} (I:Inv X pins σ H s) (h:SqB X.K b H a xs):∃ its:List Value,Vals xs its∧SqO b s.heap a its.toArray∧xs.length≤sizeLine:=by
  cases b with
  | true=>obtain ⟨its,rv,p,hz⟩:=I.list h;exact ⟨its,rv,p.isList,hz⟩
  | false=>obtain ⟨its,rv,p,hz⟩:=I.tuple h;exact ⟨its,rv,p,hz⟩
theorem Inv.sqb_inj {X:Cx} {pins:List (Addr × Obj)} {σ:St} {H:Hp} {s:Shared} {b:Bool} {a:Addr} {xs ys:List V} (I:Inv X pins σ H s) (h:SqB X.K b H a xs) (h':SqB X.K b H a ys):xs=ys:=by
  cases b with
  | true=>exact I.list_inj h h'
  | false=>exact I.tuple_inj h h'
theorem SqB.same {K:PySem.W.Frag} {b:Bool} {H H':Hp} {a:Addr} {xs:List V} (e:Same H H') (h:SqB K b H a xs):SqB K b H' a xs:=by
  cases b with
  | true=>exact e.seq h
  | false =>
    rcases h with (h | ⟨o,h⟩) | h
    · exact .inl (.inl (e _ _ h))
    · exact .inl (.inr ⟨o,e _ _ h⟩)
    · exact .inr h
section
variable {prog : Program} {w : World} {A : Around} {E : Value → Shared → Prop} {s : Shared}
theorem qgU {b:Bool} {a:Addr} {its:Array Value} {Q:Value→Shared→Prop} (h:SqO b s.heap a its) (q:Q (.ref s.heap.objs.size) { s with heap:=s.heap.push (qb1 b a) }):wpAny (model prog w) A (pyIter (.ref a)) Q E s:=by
  cases b with
  | true=>exact wpAny_pyIter_list h q
  | false=>exact wpAny_pyIter_tuple h q
theorem qfy {b:Bool} {h:Heap} {it a:Addr} (e:h.get? it=some (qb1 b a)):SqI b h it a 0:=by
  cases b <;> exact ⟨_,e,rfl,rfl⟩
theorem qfi {b:Bool} {it a:Addr} {i:Nat} {its:Array Value} {x:Value} {Q:Value→Shared→Prop} (hit:SqI b s.heap it a i) (hl:SqO b s.heap a its) (hx:its[i]?=some x)
    (hQ:∀ h',SqI b h' it a (i+1)→Heap.SameBut it s.heap h'→Q x { s with heap:=h' }):wpAny (model prog w) A (Builtin.SmallTypes.nextOf (.ref it)) Q E s:=by
  cases b with
  | true=>exact wpAny_nextOf_list_item hit hl hx hQ
  | false =>
    have hit:s.heap.IsTupleIter it a i:=hit
    obtain ⟨o,ho,hc,hd⟩:=id hit
    obtain ⟨ol,hol,_,nl,hdl⟩:=hl
    unfold Builtin.SmallTypes.nextOf
    refine wpAny_bind (wpAny_callSpecial?_slot (name:=Str.ofString "__next__") hit.typeIs F.slot_tuple_iterator_next (wpAny_call_entry F.slot_tuple_iterator_next hit.typeIs F.entry_tuple_iterator_next ?_ (F.args_tuple_iterator_next_1 _)))
    show wpAny _ _ (field (.ref it) 0 >>= _) _ _ s
    refine wpAny_bind (wpAny_field ho hd (x:=.ref a) rfl ?_)
    show wpAny _ _ (if (Value.ref a == Value.none)=true then _ else _) _ _ s
    rw [if_neg (show ¬ ((Value.ref a == Value.none)=true) from Bool.false_ne_true)]
    show wpAny _ _ (field (.ref it) 1 >>= _) _ _ s
    refine wpAny_bind (wpAny_field ho hd (x:=.int i 0) rfl ?_)
    show wpAny _ _ (seqItems? (.ref a) >>= _) _ _ s
    refine wpAny_bind (wpAny_seqItems hol hdl ?_)
    simp only [Int.toNat_natCast,hx]
    refine wpAny_bind (wpAny_setField ho hd (by simp) (wpAny_pure ⟨x,rfl,wpAny_pure (hQ _ ?_ (Heap.SameBut.update ..))⟩))
    exact ⟨_,Heap.get?_update_self _ ho (Obj.isFreed_of_fields (Obj.data_mapFields hd _)),(Obj.cls_mapFields ..).trans hc,by rw [Obj.data_mapFields hd];simp [rawInt]⟩
theorem qi1 {b:Bool} {it a:Addr} {i:Nat} {its:Array Value} {Q:Value→Shared→Prop} (hh:A.handled=none) (hit:SqI b s.heap it a i) (hl:SqO b s.heap a its) (hx:its[i]?=none)
    (hE:∀ h' e,Heap.ExtBut it s.heap h'→(∃ o,h'.get? e=some o∧o.cls=.type "StopIteration")→E (.ref e) { s with heap:=h' }):wpAny (model prog w) A (Builtin.SmallTypes.nextOf (.ref it)) Q E s:=by
  cases b with
  | true=>exact wpAny_nextOf_list_end hh hit hl hx hE
  | false =>
    have hit:s.heap.IsTupleIter it a i:=hit
    obtain ⟨o,ho,hc,hd⟩:=id hit
    obtain ⟨ol,hol,_,nl,hdl⟩:=hl
    unfold Builtin.SmallTypes.nextOf
    refine wpAny_bind (wpAny_callSpecial?_slot (name:=Str.ofString "__next__") hit.typeIs F.slot_tuple_iterator_next (wpAny_call_entry F.slot_tuple_iterator_next hit.typeIs F.entry_tuple_iterator_next ?_ (F.args_tuple_iterator_next_1 _)))
    show wpAny _ _ (field (.ref it) 0 >>= _) _ _ s
    refine wpAny_bind (wpAny_field ho hd (x:=.ref a) rfl ?_)
    show wpAny _ _ (if (Value.ref a == Value.none)=true then _ else _) _ _ s
    rw [if_neg (show ¬ ((Value.ref a == Value.none)=true) from Bool.false_ne_true)]
    show wpAny _ _ (field (.ref it) 1 >>= _) _ _ s
    refine wpAny_bind (wpAny_field ho hd (x:=.int i 0) rfl ?_)
    show wpAny _ _ (seqItems? (.ref a) >>= _) _ _ s
    refine wpAny_bind (wpAny_seqItems hol hdl ?_)
    simp only [Int.toNat_natCast,hx]
    refine wpAny_bind (wpAny_rule (wpAny_bind (wpAny_setField ho hd (by simp) ?_)))
    show wpAny _ _ (newExc (.type "StopIteration") [] >>= _) _ _ _
    refine wpAny_bind ?_
    simp only [newExc,newTuple]
    refine wpAny_bind (wpAny_newObj_type ?_ (by size_fits))
    refine wpAny_bind (m:=firstArgMember _ _) (wpAny_of_eq (a:=Value.none) (by first | rfl | (simp only [firstArgMember];rfl)) ?_)
    refine wpAny_newObj_type ?_ (by size_fits)
    simp only [raiseNew]
    refine wpAny_bind (wpAny_handled ?_)
    first | rw [show A.in1.handled=none from hh] | rw [hh]
    refine wpAny_bind (wpAny_pure (wpAny_throw ?_))
    exact hE _ _ (((Heap.SameBut.update ..).extBut.push _).push _) ⟨_,Heap.get?_push_size _ rfl,rfl⟩
end
end L2
namespace L2
open PySem PySem.Spec PyProof.Rows
open AutoSeq1 (wpAny_loadPart')
section
variable {X : Cx}
end
structure ZAp (z TI TO i1 i2:Addr):Prop where
  a1:TI≠z
  a2:TO≠z
  a3:i1≠z
  a4:i2≠z
  a5:TI≠TO
  a6:TI≠i1
  a7:TI≠i2
  a8:TO≠i1
  a9:TO≠i2
  a0:i1≠i2
theorem SqI.but {b:Bool} {h h':Heap} {it a c:Addr} {i:Nat} (x:SqI b h it a i) (s:Heap.SameBut c h h') (n:it≠c):SqI b h' it a i:=x.at fun o e=>(s.2 it n).trans e
theorem SqO.but {b:Bool} {h h':Heap} {a c:Addr} {its:Array Value} (x:SqO b h a its) (s:Heap.SameBut c h h') (n:a≠c):SqO b h' a its:=x.at fun o e=>(s.2 a n).trans e
theorem SqO.ne {b:Bool} {h:Heap} {a c:Addr} {its:Array Value} {o:Obj} (x:SqO b h a its) (e:h.get? c=some o) (n1:o.cls≠.type "list") (n2:o.cls≠.type "tuple"):a≠c:=fun z=>by
  subst z
  cases b <;> (obtain ⟨o',e',c',_⟩:=x;rw [e] at e';cases e')
  · exact n2 c'
  · exact n1 c'
theorem SqO.ne_it {b b':Bool} {h:Heap} {a it l:Addr} {its:Array Value} {i:Nat} (x:SqO b h a its) (y:SqI b' h it l i):a≠it:=by
  cases b' <;> (obtain ⟨o,e,c,_⟩:=y;exact x.ne e (by rw [c];simp) (by rw [c];simp))
section
variable {prog : Program} {w : World} {A : Around} {E : Value → Shared → Prop} {s : Shared}
theorem qhT {b1 b2:Bool} {z TI TO i1 i2 l1 l2:Addr} {k1 k2:Nat} {xs ys:Array Value} {x y a b:Value} {Q:Value→Shared→Prop} (D:ZAp z TI TO i1 i2)
    (hz:IsZip s.heap z TI TO .none) (hTI:IsPair s.heap TI (.ref i1) (.ref i2)) (hTO:IsPair s.heap TO a b) (n1:l1≠TO) (n2:l2≠TO)
    (h1:SqI b1 s.heap i1 l1 k1) (h2:SqI b2 s.heap i2 l2 k2) (hl1:SqO b1 s.heap l1 xs) (hl2:SqO b2 s.heap l2 ys) (hx:xs[k1]?=some x) (hy:ys[k2]?=some y)
    (hQ:∀ h',IsZip h' z TI TO (rawInt s.heap.objs.size)→IsPair h' TO x y→SqI b1 h' i1 l1 (k1+1)→SqI b2 h' i2 l2 (k2+1)→IsPair h' s.heap.objs.size x y→h'.objs.size=s.heap.objs.size+1 →
      (∀ c o,c∉[z,TO,i1,i2]→s.heap.get? c=some o→h'.get? c=some o)→Q (.ref s.heap.objs.size) { s with heap:=h' }) :
    wpAny (model prog w) A (Builtin.«zip.__next__» ⟨[.ref z],[]⟩) (fun fin s'=>∃ v,fin=.done (.ret v)∧Q v s') E s:=by
  have l1z:l1≠z:=hl1.ne hz (by simp) (by simp)
  have l2z:l2≠z:=hl2.ne hz (by simp) (by simp)
  have l2i1:l2≠i1:=hl2.ne_it h1
  show wpAny _ _ (field (.ref z) 2 >>= _) _ _ _
  refine wpAny_bind (wpAny_field hz rfl (x:=.bool false) rfl ?_)
  show wpAny _ _ (field (.ref z) 3 >>= _) _ _ _
  refine wpAny_bind (wpAny_field hz rfl (x:=.ref TI) rfl (wpAny_bind (wpAny_seqItems hTI rfl ?_)))
  show wpAny _ _ (Builtin.SmallTypes.ownedTupleIsFree (.ref z) >>= _) _ _ _
  refine wpAny_bind ?_
  unfold Builtin.SmallTypes.ownedTupleIsFree
  refine wpAny_bind (wpAny_field hz rfl (x:=.none) rfl (wpAny_pure ?_))
  simp only [if_true]
  refine wpAny_bind (wpAny_rule (wpAny_bind (wpAny_field hz rfl (x:=.ref TO) rfl (wpAny_bind (wpAny_setField_rec hz (by simp) fun g1 z1 s1=>?_)))))
  replace z1:IsZip g1 z TI TO .ellipsis:=z1
  refine wpAny_bind ?_
  simp only [List.zipIdx_cons,List.zipIdx_nil,List.forIn_cons,List.forIn_nil]
  refine wpAny_bind (wpAny_bind (wpAny_onRaise ?_))
  show wpAny _ _ (Builtin.SmallTypes.nextOf (.ref i1) >>= _) _ _ _
  refine wpAny_bind (qfi (h1.but s1 D.a3) (hl1.but s1 l1z) hx fun g2 p2 s2=>wpAny_pure ?_)
  have t2:IsPair g2 TO a b:=s2.extBut _ _ D.a8 (s1.extBut _ _ D.a2 hTO)
  refine wpAny_bind (wpAny_seqItems t2 rfl (wpAny_bind (wpAny_updateSeq_pair t2 fun g3 t3 s3=>wpAny_bind (wpAny_letGo (wpAny_pure ?_)))))
  replace t3:IsPair g3 TO x b:=t3
  refine wpAny_bind (wpAny_bind (wpAny_onRaise ?_))
  show wpAny _ _ (Builtin.SmallTypes.nextOf (.ref i2) >>= _) _ _ _
  refine wpAny_bind (qfi (((h2.but s1 D.a4).but s2 D.a0.symm).but s3 D.a9.symm) (((hl2.but s1 l2z).but s2 l2i1).but s3 n2) hy fun g4 p4 s4=>wpAny_pure ?_)
  have t4:IsPair g4 TO x b:=s4.extBut _ _ D.a9 t3
  refine wpAny_bind (wpAny_seqItems t4 rfl (wpAny_bind (wpAny_updateSeq_pair t4 fun g5 t5 s5=>wpAny_bind (wpAny_letGo (wpAny_pure (wpAny_pure ?_))))))
  replace t5:IsPair g5 TO x y:=t5
  refine wpAny_bind (wpAny_seqItems t5 rfl (wpAny_bind (wpAny_newTuple ?_)))
  have sz:g5.objs.size=s.heap.objs.size:=by rw [s5.1,s4.1,s3.1,s2.1,s1.1]
  have z5:IsZip g5 z TI TO .ellipsis:=s5.extBut _ _ D.a2.symm (s4.extBut _ _ D.a4.symm (s3.extBut _ _ D.a2.symm (s2.extBut _ _ D.a3.symm z1)))
  have k5:∀ c o,c∉[z,TO,i1,i2]→s.heap.get? c=some o→g5.get? c=some o:=fun c o hc e=>by
    have c1:c≠z:=fun q=>hc (by simp [q])
    have c2:c≠TO:=fun q=>hc (by simp [q])
    have c3:c≠i1:=fun q=>hc (by simp [q])
    have c4:c≠i2:=fun q=>hc (by simp [q])
    exact s5.extBut _ _ c2 (s4.extBut _ _ c4 (s3.extBut _ _ c2 (s2.extBut _ _ c3 (s1.extBut _ _ c1 e))))
  have q1:SqI b1 g5 i1 l1 (k1+1):=((p2.but s3 D.a8.symm).but s4 D.a0).but s5 D.a8.symm
  have q2:SqI b2 g5 i2 l2 (k2+1):=p4.but s5 D.a9.symm
  show wpAny _ _ (Builtin.SmallTypes.ownedTupleHandOut (.ref z) (.ref g5.objs.size) >>= _) _ _ _
  refine wpAny_bind ?_
  unfold Builtin.SmallTypes.ownedTupleHandOut
  have z6:IsZip (g5.push { cls:=.type "tuple",data:=.seq #[x,y] }) z TI TO .ellipsis:=Heap.get?_push_of_some _ z5
  refine wpAny_bind (wpAny_setField_rec z6 (by simp) fun g7 z7 s7=>?_)
  replace z7:IsZip g7 z TI TO (rawInt g5.objs.size):=z7
  refine wpAny_setField_rec z7 (by simp) fun g8 z8 s8=>?_
  replace z8:IsZip g8 z TI TO (rawInt g5.objs.size):=z8
  have up:∀ c o,c≠z→g5.get? c=some o→g8.get? c=some o:=fun c o c1 e=>s8.extBut _ _ c1 (s7.extBut _ _ c1 (Heap.get?_push_of_some _ e))
  have zl:g5.objs.size≠z:=Nat.ne_of_gt (Heap.lt_size z5)
  have t8:IsPair g8 g5.objs.size x y:=s8.extBut _ _ zl (s7.extBut _ _ zl (Heap.get?_push_size _ rfl))
  have e8:g8.objs.size=g5.objs.size+1:=by rw [s8.1,s7.1,Heap.size_push]
  rw [sz] at z8 t8 e8
  refine wpAny_pure ⟨_,rfl,?_⟩
  show Q (.ref g5.objs.size) _
  rw [sz]
  exact hQ g8 z8 (up _ _ D.a2 t5) (q1.at fun o e=>up _ o D.a3 e) (q2.at fun o e=>up _ o D.a4 e) t8 e8 fun c o hc e=>up c o (fun q=>hc (by simp [q])) (k5 c o hc e)
theorem qj5 {b1 b2:Bool} {z TI TO i1 i2 l1 l2:Addr} {k1 k2:Nat} {xs ys:Array Value} {a b:Value} {Q:Fin→Shared→Prop} (hh:A.handled=none) (D:ZAp z TI TO i1 i2)
    (hz:IsZip s.heap z TI TO .none) (hTI:IsPair s.heap TI (.ref i1) (.ref i2)) (hTO:IsPair s.heap TO a b) (n1:l1≠TO) (n2:l2≠TO)
    (h1:SqI b1 s.heap i1 l1 k1) (h2:SqI b2 s.heap i2 l2 k2) (hl1:SqO b1 s.heap l1 xs) (hl2:SqO b2 s.heap l2 ys) (hend:xs[k1]?=none∨ys[k2]?=none)
    (hE:∀ h' e,(∀ c o,c∉[z,TO,i1,i2]→s.heap.get? c=some o→h'.get? c=some o)→(∃ o,h'.get? e=some o∧o.cls=.type "StopIteration")→E (.ref e) { s with heap:=h' }) :
    wpAny (model prog w) A (Builtin.«zip.__next__» ⟨[.ref z],[]⟩) Q E s:=by
  have l1z:l1≠z:=hl1.ne hz (by simp) (by simp)
  have l2z:l2≠z:=hl2.ne hz (by simp) (by simp)
  have l2i1:l2≠i1:=hl2.ne_it h1
  show wpAny _ _ (field (.ref z) 2 >>= _) _ _ _
  refine wpAny_bind (wpAny_field hz rfl (x:=.bool false) rfl ?_)
  show wpAny _ _ (field (.ref z) 3 >>= _) _ _ _
  refine wpAny_bind (wpAny_field hz rfl (x:=.ref TI) rfl (wpAny_bind (wpAny_seqItems hTI rfl ?_)))
  show wpAny _ _ (Builtin.SmallTypes.ownedTupleIsFree (.ref z) >>= _) _ _ _
  refine wpAny_bind ?_
  unfold Builtin.SmallTypes.ownedTupleIsFree
  refine wpAny_bind (wpAny_field hz rfl (x:=.none) rfl (wpAny_pure ?_))
  simp only [if_true]
  refine wpAny_bind (wpAny_rule (wpAny_bind (wpAny_field hz rfl (x:=.ref TO) rfl (wpAny_bind (wpAny_setField_rec hz (by simp) fun g1 z1 s1=>?_)))))
  replace z1:IsZip g1 z TI TO .ellipsis:=z1
  refine wpAny_bind ?_
  simp only [List.zipIdx_cons,List.zipIdx_nil,List.forIn_cons,List.forIn_nil]
  refine wpAny_bind (wpAny_bind (wpAny_onRaise ?_))
  show wpAny _ _ (Builtin.SmallTypes.nextOf (.ref i1) >>= _) _ _ _
  cases hx:xs[k1]? with
  | none =>
    refine wpAny_bind (qi1 hh (h1.but s1 D.a3) (hl1.but s1 l1z) hx fun g2 e s2 he=>?_)
    obtain ⟨oe,hoe,hce⟩:=he
    have z2:IsZip g2 z TI TO .ellipsis:=s2 _ _ D.a3.symm z1
    have ez:e≠z:=fun q=>by subst q;rw [z2] at hoe;cases hoe;simp at hce
    refine wpAny_setField_rec z2 (by simp) fun g3 _ s3=>hE g3 e (fun c o hc q=>?_) ⟨oe,s3.extBut _ _ ez hoe,hce⟩
    have c1:c≠z:=fun q=>hc (by simp [q])
    exact s3.extBut _ _ c1 (s2 _ _ (fun q=>hc (by simp [q])) (s1.extBut _ _ c1 q))
  | some x =>
    have hy:ys[k2]?=none:=by
      rcases hend with h | h
      · rw [hx] at h;cases h
      · exact h
    refine wpAny_bind (qfi (h1.but s1 D.a3) (hl1.but s1 l1z) hx fun g2 p2 s2=>wpAny_pure ?_)
    have t2:IsPair g2 TO a b:=s2.extBut _ _ D.a8 (s1.extBut _ _ D.a2 hTO)
    refine wpAny_bind (wpAny_seqItems t2 rfl (wpAny_bind (wpAny_updateSeq_pair t2 fun g3 t3 s3=>wpAny_bind (wpAny_letGo (wpAny_pure ?_)))))
    refine wpAny_bind (wpAny_bind (wpAny_onRaise ?_))
    show wpAny _ _ (Builtin.SmallTypes.nextOf (.ref i2) >>= _) _ _ _
    refine wpAny_bind (qi1 hh (((h2.but s1 D.a4).but s2 D.a0.symm).but s3 D.a9.symm) (((hl2.but s1 l2z).but s2 l2i1).but s3 n2) hy fun g4 e s4 he=>?_)
    obtain ⟨oe,hoe,hce⟩:=he
    have z4:IsZip g4 z TI TO .ellipsis:=s4 _ _ D.a4.symm (s3.extBut _ _ D.a2.symm (s2.extBut _ _ D.a3.symm z1))
    have ez:e≠z:=fun q=>by subst q;rw [z4] at hoe;cases hoe;simp at hce
    refine wpAny_setField_rec z4 (by simp) fun g5 _ s5=>hE g5 e (fun c o hc q=>?_) ⟨oe,s5.extBut _ _ ez hoe,hce⟩
    have c1:c≠z:=fun q=>hc (by simp [q])
    exact s5.extBut _ _ c1 (s4 _ _ (fun q=>hc (by simp [q])) (s3.extBut _ _ (fun q=>hc (by simp [q])) (s2.extBut _ _ (fun q=>hc (by simp [q])) (s1.extBut _ _ c1 q))))
theorem qj6 (b1 b2:Bool) (l1 l2:Addr) (xs ys:Array Value) :
    Meets (Builtin.«zip.__new__» ⟨[.type "zip",.ref l1,.ref l2],[]⟩) (fun _ R s=>SqO b1 s.heap l1 xs∧SqO b2 s.heap l2 ys ∧
      R (.ok (.ret (.ref (s.heap.objs.size+4)))) { s with heap:=((((s.heap.push (qb1 b1 l1)).push (qb1 b2 l2)).push { cls:=.type "tuple",data:=.seq #[.ref s.heap.objs.size,.ref (s.heap.objs.size+1)] }).push { cls:=.type "tuple",data:=.seq #[.none,.none] }).push { cls:=.type "zip",data:=.fields #[.none,.bool false,.bool false,.ref (s.heap.objs.size+2),.ref (s.heap.objs.size+3)] } }) :=
  .of_wp fun prog w A R s h=>by
    obtain ⟨hp,g,d,tk,os⟩:=s;obtain ⟨hl1,hl2,h⟩:=h
    have hsub:=sub_zip
    have hL1:SqO b1 (Shared.heap ⟨hp,g,d,tk,os⟩) l1 xs:=hl1
    have hL2:SqO b2 (Shared.heap ⟨hp.push (qb1 b1 l1),g,d,tk,os⟩) l2 ys:=SqO.at hl2 fun o e=>Heap.get?_push_of_some _ e
    wp_walk using qgU hL1,qgU hL2
    have e1:(hp.push (qb1 b1 l1)).objs.size=hp.objs.size+1:=Heap.size_push ..
    have e2:((hp.push (qb1 b1 l1)).push (qb1 b2 l2)).objs.size=hp.objs.size+2:=by rw [Heap.size_push,e1]
    refine ⟨_,rfl,?_⟩
    simp only [Heap.size_push]
    exact h
theorem qia {b1 b2:Bool} {l1 l2:Addr} {xs ys:Array Value} {Q:Value→Shared→Prop} (hl1:SqO b1 s.heap l1 xs) (hl2:SqO b2 s.heap l2 ys)
    (h:∀ h',IsZip h' (s.heap.objs.size+4) (s.heap.objs.size+2) (s.heap.objs.size+3) .none→IsPair h' (s.heap.objs.size+2) (.ref s.heap.objs.size) (.ref (s.heap.objs.size+1))→IsPair h' (s.heap.objs.size+3) .none .none →
      SqI b1 h' s.heap.objs.size l1 0→SqI b2 h' (s.heap.objs.size+1) l2 0→(∀ c o,s.heap.get? c=some o→h'.get? c=some o)→Q (.ref (s.heap.objs.size+4)) { s with heap:=h' }) :
    wpAny (model prog w) A (call (.type "zip") [.ref l1,.ref l2]) Q E s:=by
  refine callType_new F.called_zip (by decide) (F.typeCall_zip_2 _ _) (F.newCall_zip_2 _ _) (fun obj=>F.args_object_init_3 obj _ _) F.entry_zip_new (qj6 b1 b2 l1 l2 xs ys) ⟨hl1,hl2,?_⟩
  have f1:(qb1 b1 l1).isFreed=false:=by cases b1 <;> rfl
  have f2:(qb1 b2 l2).isFreed=false:=by cases b2 <;> rfl
  have z1:(s.heap.push (qb1 b1 l1)).objs.size=s.heap.objs.size+1:=Heap.size_push ..
  have z2:((s.heap.push (qb1 b1 l1)).push (qb1 b2 l2)).objs.size=s.heap.objs.size+2:=by rw [Heap.size_push,z1]
  generalize hg2:(s.heap.push (qb1 b1 l1)).push (qb1 b2 l2)=g2 at z2 ⊢
  have e0:g2.get? s.heap.objs.size=some (qb1 b1 l1):=by rw [← hg2];exact Heap.get?_push_of_some _ (Heap.get?_push_size _ f1)
  have e1:g2.get? (s.heap.objs.size+1)=some (qb1 b2 l2):=by rw [← hg2,← z1];exact Heap.get?_push_size _ f2
  have k2:∀ c o,s.heap.get? c=some o→g2.get? c=some o:=fun c o q=>by rw [← hg2];exact Heap.get?_push_of_some _ (Heap.get?_push_of_some _ q)
  generalize hg3:g2.push { cls:=.type "tuple",data:=.seq #[.ref s.heap.objs.size,.ref (s.heap.objs.size+1)] }=g3
  have z3:g3.objs.size=s.heap.objs.size+3:=by rw [← hg3,Heap.size_push,z2]
  have e2:IsPair g3 (s.heap.objs.size+2) (.ref s.heap.objs.size) (.ref (s.heap.objs.size+1)):=by rw [← hg3,← z2];exact Heap.get?_push_size _ rfl
  have k3:∀ c o,g2.get? c=some o→g3.get? c=some o:=fun c o q=>by rw [← hg3];exact Heap.get?_push_of_some _ q
  generalize hg4:g3.push { cls:=.type "tuple",data:=.seq #[.none,.none] }=g4
  have z4:g4.objs.size=s.heap.objs.size+4:=by rw [← hg4,Heap.size_push,z3]
  have e3:IsPair g4 (s.heap.objs.size+3) .none .none:=by rw [← hg4,← z3];exact Heap.get?_push_size _ rfl
  have k4:∀ c o,g3.get? c=some o→g4.get? c=some o:=fun c o q=>by rw [← hg4];exact Heap.get?_push_of_some _ q
  generalize hg5:g4.push { cls:=.type "zip",data:=.fields #[.none,.bool false,.bool false,.ref (s.heap.objs.size+2),.ref (s.heap.objs.size+3)] }=g5
  have e4:IsZip g5 (s.heap.objs.size+4) (s.heap.objs.size+2) (s.heap.objs.size+3) .none:=by rw [← hg5,← z4];exact Heap.get?_push_size _ rfl
  have k5:∀ c o,g4.get? c=some o→g5.get? c=some o:=fun c o q=>by rw [← hg5];exact Heap.get?_push_of_some _ q
  show _∧_
  exact ⟨⟨_,e4,rfl⟩,h _ e4 (k5 _ _ (k4 _ _ e2)) (k5 _ _ e3) (qfy (k5 _ _ (k4 _ _ (k3 _ _ e0)))) (qfy (k5 _ _ (k4 _ _ (k3 _ _ e1)))) fun c o q=>k5 _ _ (k4 _ _ (k3 _ _ (k2 _ _ q)))⟩
theorem qhq {b1 b2:Bool} {z TI TO i1 i2 l1 l2:Addr} {k1 k2:Nat} {xs ys:Array Value} {x y a b:Value} {Q:Option Value→Shared→Prop} (D:ZAp z TI TO i1 i2)
    (hz:IsZip s.heap z TI TO .none) (hTI:IsPair s.heap TI (.ref i1) (.ref i2)) (hTO:IsPair s.heap TO a b) (n1:l1≠TO) (n2:l2≠TO)
    (h1:SqI b1 s.heap i1 l1 k1) (h2:SqI b2 s.heap i2 l2 k2) (hl1:SqO b1 s.heap l1 xs) (hl2:SqO b2 s.heap l2 ys) (hx:xs[k1]?=some x) (hy:ys[k2]?=some y)
    (hQ:∀ h',IsZip h' z TI TO (rawInt s.heap.objs.size)→IsPair h' TO x y→SqI b1 h' i1 l1 (k1+1)→SqI b2 h' i2 l2 (k2+1)→IsPair h' s.heap.objs.size x y→h'.objs.size=s.heap.objs.size+1 →
      (∀ c o,c∉[z,TO,i1,i2]→s.heap.get? c=some o→h'.get? c=some o)→Q (some (.ref s.heap.objs.size)) { s with heap:=h' }):wpAny (model prog w) A (pyNext (.ref z)) Q E s:=by
  have hT:s.TypeIs (.ref z) "zip":=⟨_,hz,rfl⟩
  unfold pyNext
  exact wpAny_bind (wpAny_attempt (wpAny_callSpecial?_slot (name:=Str.ofString "__next__") hT F.slot_zip_next (wpAny_call_entry F.slot_zip_next hT F.entry_zip_next
    (qhT D hz hTI hTO n1 n2 h1 h2 hl1 hl2 hx hy fun h' c1 c2 c3 c4 c5 c6 c7=>wpAny_pure (hQ h' c1 c2 c3 c4 c5 c6 c7)) (F.args_zip_next_1 _))))
theorem qhM {b1 b2:Bool} {z TI TO i1 i2 l1 l2:Addr} {k1 k2:Nat} {xs ys:Array Value} {a b:Value} {Q:Option Value→Shared→Prop} (hh:A.handled=none) (D:ZAp z TI TO i1 i2)
    (hz:IsZip s.heap z TI TO .none) (hTI:IsPair s.heap TI (.ref i1) (.ref i2)) (hTO:IsPair s.heap TO a b) (n1:l1≠TO) (n2:l2≠TO)
    (h1:SqI b1 s.heap i1 l1 k1) (h2:SqI b2 s.heap i2 l2 k2) (hl1:SqO b1 s.heap l1 xs) (hl2:SqO b2 s.heap l2 ys) (hend:xs[k1]?=none∨ys[k2]?=none)
    (hQ:∀ h',(∀ c o,c∉[z,TO,i1,i2]→s.heap.get? c=some o→h'.get? c=some o)→Q none { s with heap:=h' }):wpAny (model prog w) A (pyNext (.ref z)) Q E s:=by
  have hT:s.TypeIs (.ref z) "zip":=⟨_,hz,rfl⟩
  unfold pyNext
  refine wpAny_bind (wpAny_attempt (wpAny_callSpecial?_slot (name:=Str.ofString "__next__") hT F.slot_zip_next (wpAny_call_entry F.slot_zip_next hT F.entry_zip_next (qj5 hh D hz hTI hTO n1 n2 h1 h2 hl1 hl2 hend fun h' e hk he=>?_) (F.args_zip_next_1 _))))
  obtain ⟨o,ho,hc⟩:=he
  exact wpAny_bind (wpAny_isInstance (T:="StopIteration") (b:=true) ⟨o,ho,hc⟩ isSubtype_stop (wpAny_pure (hQ _ hk)))
end
theorem Inv.sqb_ne {X:Cx} {pins:List (Addr × Obj)} {σ:St} {H:Hp} {s:Shared} {b:Bool} {a c:Addr} {xs:List V} (I:Inv X pins σ H s) (h:SqB X.K b H a xs) (f:qfN X pins H c):a≠c:=fun z=>by
  subst z
  have nk:∀ o,X.K.lookup a=some o→False:=fun o e=>by
    have e':=I.mod.kin a o e
    rcases f.2.2.2.1 with q | q
    · exact I.ok.noex a o e' q
    · exact absurd (Nat.lt_of_lt_of_le (Heap.lt_size e') (Nat.le_trans I.ok.bsz q)) (Nat.lt_irrefl _)
  cases b with
  | true =>
    rcases h with (h | ⟨o,h⟩) | ⟨o,_,_,h,_⟩
    · rw [f.1] at h;cases h
    · rw [f.1] at h;cases h
    · exact nk o h
  | false =>
    rcases h with (h | ⟨o,h⟩) | ⟨o,_,_,h,_⟩
    · rw [f.1] at h;cases h
    · rw [f.1] at h;cases h
    · exact nk o h
def Itz (K:PySem.W.Frag) (b1:Bool) (a1:Addr) (b2:Bool) (a2:Addr):It :=
  ⟨fun i H=>∃ xs ys x y,SqB K b1 H a1 xs∧SqB K b2 H a2 ys∧xs[i]?=some x∧ys[i]?=some y,
   fun i H v H'=>∃ t x y,H t=none∧v=.ref t∧H'=upd H t (.tup [x,y])∧(∀ xs,SqB K b1 H a1 xs→xs[i]?=some x)∧∀ ys,SqB K b2 H a2 ys→ys[i]?=some y,
   fun i H=>∃ xs ys,SqB K b1 H a1 xs∧SqB K b2 H a2 ys∧(xs.length≤i∨ys.length≤i)⟩
theorem qh2 {P:Program} {w:World} {K:PySem.W.Frag} {es:List Expr} {k:Nat} {pos:Pos} (b1 b2:Bool) (a1 a2 z TI TO i1 i2:Addr) (D:ZAp z TI TO i1 i2) :
    Turn P w K (.Tuple es k pos) (Itz K b1 a1 b2 a2) [z,TI,TO,i1,i2] z (fun i h=>IsZip h z TI TO .none∧IsPair h TI (.ref i1) (.ref i2)∧(∃ a b,IsPair h TO a b)∧SqI b1 h i1 a1 i∧SqI b2 h i2 a2 i) where
  mem:=by simp
  obj:=fun i h st c hc=>by
    obtain ⟨h1,h2,⟨a,b,h3⟩,h4,h5⟩:=st
    simp only [List.mem_cons,List.not_mem_nil,or_false] at hc
    rcases hc with rfl | rfl | rfl | rfl | rfl
    · exact ⟨_,h1,fun v q=>by have q':Data.fields _=Data.cell v:=q;cases q'⟩
    · exact ⟨_,h2,fun v q=>by have q':Data.seq _ _=Data.cell v:=q;cases q'⟩
    · exact ⟨_,h3,fun v q=>by have q':Data.seq _ _=Data.cell v:=q;cases q'⟩
    · exact h4.obj
    · exact h5.obj
  keep:=fun i h h' st k=>by
    obtain ⟨h1,h2,⟨a,b,h3⟩,h4,h5⟩:=st
    exact ⟨k z (by simp) _ h1,k TI (by simp) _ h2,⟨a,b,k TO (by simp) _ h3⟩,h4.at fun o q=>k i1 (by simp) o q,h5.at fun o q=>k i2 (by simp) o q⟩
  item:=by
    intro X hP hw hK hc i pins s σ H E I hf st hg
    subst hP hw hK
    obtain ⟨xs,ys,x,y,hq1,hq2,hx,hy⟩:=hg
    obtain ⟨h1,h2,⟨a,b,h3⟩,h4,h5⟩:=st
    obtain ⟨its1,rv1,p1,_⟩:=I.sqb hq1
    obtain ⟨its2,rv2,p2,_⟩:=I.sqb hq2
    obtain ⟨u,hu,ru⟩:=rv1.get hx
    obtain ⟨v,hv,rv⟩:=rv2.get hy
    refine qhq D h1 h2 h3 (I.sqb_ne hq1 (hf TO (by simp))) (I.sqb_ne hq2 (hf TO (by simp))) h4 h5 p1 p2 (x:=u) (y:=v) (by simpa using hu) (by simpa using hv) fun h' z1 z2 z3 z4 z5 z6 hk=>?_
    refine ⟨.ref s.heap.objs.size,rfl,wpAny_letOwnedTupleGo_zip z1 fun g2 zz hs2=>?_⟩
    have zn:H s.heap.objs.size=none:=I.fresh
    have I1:Inv X pins σ (upd H s.heap.objs.size (.tup [x,y])) { s with heap:=s.heap.push { cls:=.type "tuple",data:=.seq #[u,v] },toks:=s.toks } :=
      I.laid (fun c o q=>Heap.get?_push_of_some _ q) (Nat.le_refl _) ⟨by show 2≤sizeLine;decide,[u,v],.cons ru (.cons rv .nil),_,Heap.get?_push_size _ rfl,⟨rfl,rfl⟩,0,rfl⟩
    have lts:∀ c∈[z,TI,TO,i1,i2],c<s.heap.objs.size:=fun c hc=>by
      simp only [List.mem_cons,List.not_mem_nil,or_false] at hc
      rcases hc with rfl | rfl | rfl | rfl | rfl
      · exact Heap.lt_size h1
      · exact Heap.lt_size h2
      · exact Heap.lt_size h3
      · exact h4.lt
      · exact h5.lt
    have f1:∀ c∈[z,TI,TO,i1,i2],qfN X pins (upd H s.heap.objs.size (.tup [x,y])) c:=fun c hc=>⟨by rw [qag (Nat.ne_of_lt (lts c hc))];exact (hf c hc).1,(hf c hc).2⟩
    have I2:=I1.turnedL (h':=g2) (ch:=[z,TI,TO,i1,i2]) (t':=s.toks) (fun c o hc q=>?_) f1
    · refine ⟨.ref s.heap.objs.size,_,I2,rfl,⟨s.heap.objs.size,x,y,zn,rfl,rfl,fun xs' hy'=>by rw [I.sqb_inj hy' hq1];exact hx,fun ys' hy'=>by rw [I.sqb_inj hy' hq2];exact hy⟩,
        ⟨zz,hs2.extBut _ _ D.a1 (hk TI _ (by simp [D.a1,D.a5,D.a6,D.a7]) h2),⟨_,_,hs2.extBut _ _ D.a2 z2⟩,z3.but hs2 D.a3,z4.but hs2 D.a4⟩,fun c hc=>(f1 c hc).1⟩
    · have hcz:c≠z:=fun e=>hc (by simp [e])
      refine (hs2.2 c hcz).trans ?_
      rcases Heap.get?_push_cases q with ⟨e,e'⟩ | q'
      · subst e;subst e';exact z5
      · exact hk c o (fun e=>hc (by
          simp only [List.mem_cons,List.not_mem_nil,or_false] at e ⊢
          rcases e with e | e | e | e
          · exact .inl e
          · exact .inr (.inr (.inl e))
          · exact .inr (.inr (.inr (.inl e)))
          · exact .inr (.inr (.inr (.inr e))))) q'
  done:=by
    intro X hP hw hK hc i pins s σ H E I hf st hg
    subst hP hw hK
    obtain ⟨xs,ys,hq1,hq2,hend⟩:=hg
    obtain ⟨h1,h2,⟨a,b,h3⟩,h4,h5⟩:=st
    obtain ⟨its1,rv1,p1,_⟩:=I.sqb hq1
    obtain ⟨its2,rv2,p2,_⟩:=I.sqb hq2
    have l1:=rv1.length
    have l2:=rv2.length
    have he:its1.toArray[i]?=none∨its2.toArray[i]?=none:=by
      rcases hend with q | q
      · exact .inl (by simp;omega)
      · exact .inr (by simp;omega)
    refine qhM (I.ok.hd hc) D h1 h2 h3 (I.sqb_ne hq1 (hf TO (by simp))) (I.sqb_ne hq2 (hf TO (by simp))) h4 h5 p1 p2 he fun h' hk=>⟨rfl,?_⟩
    refine I.turnedL (ch:=[z,TI,TO,i1,i2]) (t':=s.toks) (fun c o hc q=>hk c o (fun e=>hc ?_) q) hf
    simp only [List.mem_cons,List.not_mem_nil,or_false] at e ⊢
    rcases e with e | e | e | e
    · exact .inl e
    · exact .inr (.inr (.inl e))
    · exact .inr (.inr (.inr (.inl e)))
    · exact .inr (.inr (.inr (.inr e)))
  self:=fun _ _ _ _ _ st h=>wpAny_pyIter_zip st.1 h
theorem zap (n:Nat):ZAp (n+4) (n+2) (n+3) n (n+1) :=
  ⟨(by omega:n+2≠n+4),(by omega:n+3≠n+4),(by omega:n≠n+4),(by omega:n+1≠n+4),(by omega:n+2≠n+3),(by omega:n+2≠n),(by omega:n+2≠n+1),(by omega:n+3≠n),(by omega:n+3≠n+1),(by omega:n≠n+1)⟩
section
variable {X : Cx}
end
end L2
namespace L2
open PySem PySem.Spec PyProof.Rows
section
variable {X : Cx}
theorem qjD:OpR X (binaryOp .Mult) (rI IntMulOk fun i j=>.int (i*j)):=opI fun _ _ _ _ _ _ _ hc q=>mul_int q hc
def CDivB (i j:Int):Prop:=0<j∧j.natAbs.log2<9000
theorem qip:OpR X (binaryOp .FloorDiv) (rI CDivB fun i j=>.int (i / j)):=opI fun i j _ _ _ _ _ hc q=>by
  have h1:(0:Int)<j:=hc.1
  exact floordiv_int (by omega) (by rw [Int.fdiv_eq_ediv_of_nonneg i (by omega)];exact q) (.inl (PyProof.noPylong_of_log2 hc.2))
end
theorem qdS {n k:Nat} (hk:0<k) (h:n<2 ^ k):n.log2<k:=by
  rcases Nat.eq_zero_or_pos n with z | z
  · subst z;simpa using hk
  · exact (Nat.log2_lt (Nat.ne_of_gt z)).mpr h
theorem CDivB.of {i j:Int} (h0:0<j) (h:j<2 ^ 9000):CDivB i j:=⟨h0,qdS (by decide) (by
  have e:(j.natAbs:Int)=j:=Int.natAbs_of_nonneg (Int.le_of_lt h0)
  have:(j.natAbs:Int)<((2 ^ 9000:Nat):Int):=by rw [e];exact_mod_cast h
  exact_mod_cast this)⟩
theorem qf4 {a:Int} {k:Nat} (hk:0<k) (h:a.natAbs<2 ^ k):Builtin.Int.intBits a≤k:=by
  unfold Builtin.Int.intBits
  split
  · exact Nat.zero_le _
  · exact qdS hk h
theorem qe6 {a b:Int} (h1:-(2 ^ 64)<a) (h2:a<2 ^ 64):IntMulOk a b:=.of_left (intBits_le_64 h1 h2)
theorem qfr {a b:Int} (h1:-(2 ^ 64)<b) (h2:b<2 ^ 64):IntMulOk a b:=.of_right (intBits_le_64 h1 h2)
section
variable {prog : Program} {w : World} {A : Around} {E : Value → Shared → Prop} {s : Shared}
theorem qeT {it t:Addr} {items:Array Value} (hne:t≠it):∀ (n i:Nat) (s:Shared) (Q:List Value→Shared→Prop),s.heap.IsListIter it t i→s.heap.IsList t items→i+n≤items.size →
    (∀ h',h'.IsListIter it t (i+n)→Heap.SameBut it s.heap h'→Q ((items.toList.drop i).take n) { s with heap:=h' })→wpAny (model prog w) A (draw (.ref it) n) Q E s
  | 0,i,s,Q,hit,_,_,hQ=>by
    show wpAny _ _ (pure []) Q E s
    exact wpAny_pure (by simpa using hQ s.heap hit (Heap.SameBut.refl ..))
  | n+1,i,s,Q,hit,ht,hle,hQ=>by
    have hlt:i<items.size:=by omega
    show wpAny _ _ (pyNext (.ref it) >>= _) Q E s
    refine wpAny_bind (wpAny_pyNext_list_item hit ht (x:=items[i]) (by simp [hlt]) fun g1 hit1 s1=>?_)
    refine wpAny_bind (wpAny_holding (qeT hne n (i+1) _ _ hit1 (ht.extBut s1.extBut hne) (by omega) fun g2 hit2 s2=>wpAny_pure ?_))
    have hd:items.toList.drop i=items[i]::items.toList.drop (i+1):=by simp [List.drop_eq_getElem_cons,hlt]
    have:=hQ g2 (by rw [show i+(n+1)=i+1+n by omega];exact hit2) (s1.trans s2)
    rw [hd,List.take_succ_cons] at this
    exact this
theorem qcX {t:Addr} {items:Array Value} {Q:List Value→Shared→Prop} (hh:A.handled=none) (ht:s.heap.IsList t items)
    (hQ:∀ h',Heap.ExtBut s.heap.objs.size s.heap h'→Q items.toList { s with heap:=h' }):wpAny (model prog w) A (unpackItems (.ref t) items.size none) Q E s:=by
  have hlt:t≠s.heap.objs.size:=by obtain ⟨o,ho,_⟩:=ht;exact Nat.ne_of_lt (Heap.lt_size ho)
  unfold unpackItems
  refine wpAny_bind ?_
  unfold notIterableAtAll
  refine wpAny_bind (wpAny_specialOf ht.typeIs slot_list_iter.lookup (wpAny_pure ?_))
  simp only [Bool.false_eq_true,if_false]
  refine wpAny_bind (wpAny_holding (wpAny_pyIter_list ht (wpAny_bind (wpAny_holding (qeT hlt items.size 0 _ _ ⟨_,Heap.get?_push_size _ rfl,rfl,rfl⟩ (ht.push _) (by omega) fun g1 hit1 s1=>?_)))))
  have hall:List.take items.size (List.drop 0 items.toList)=items.toList:=by
    rw [List.drop_zero];exact List.take_of_length_le (by simp)
  rw [hall,if_neg (by simp)]
  have ht1:g1.IsList t items:=(ht.push _).extBut s1.extBut hlt
  refine wpAny_bind (wpAny_holding (wpAny_pyNext_list_end hh hit1 ht1 (by simp) fun g2 e2=>?_))
  simp only [Option.isSome_none,Bool.false_eq_true,if_false]
  exact wpAny_pure (hQ g2 fun b o hb e=>e2 b o hb (s1.extBut b o hb (Heap.get?_push_of_some _ e)))
end
section
variable {X : Cx} {pos : Pos}
def qmQ (K:PySem.W.Frag) (n:Nat) (t:TGs):TG:=fun v σ H Q=>∃ a xs,v=.ref a∧SqL K H a xs∧xs.length=n∧t xs σ H Q
theorem qkH {es:List Expr} {k:Nat} {t:TGs} {n:Nat} (hc:X.calm=true) (h:PGs X es t)
    (hn:(assignEach es X.env).length=n:=by rfl) (hst:(assignEach es X.env).findIdx? (·.1)=none:=by rfl):PG X (.Tuple es k pos) (qmQ X.K n t):=by
  intro pins s σ H v u Q I r hw
  obtain ⟨a,xs,e1,hq,hl,hw⟩:=hw
  subst e1
  cases r
  obtain ⟨its,rv,ht,hz⟩:=I.list hq
  rw [assign_Tuple]
  refine wpAny_bind (wpAny_standAt ?_)
  unfold unpack
  have e0:(assignEach es X.env).length=its.toArray.size:=by simp [hn,← hl,rv.length]
  rw [e0,hst]
  refine wpAny_bind (wpAny_holding (qcX (I.ok.hd hc) ht.isList fun h' hx=>?_))
  have I1:Inv X pins σ H { s with heap:=h' }:=I.kept (t':=s.toks) fun b o e=>hx b o (Nat.ne_of_lt (Heap.lt_size e)) e
  exact h pins _ σ H xs _ Q I1 (by simpa using rv) hw
end
inductive IsiV (K:PySem.W.Frag) (H:Hp):V→String→Bool→Prop where
  | int_int (i):IsiV K H (.int i) "int" true
  | int_bool (i):IsiV K H (.int i) "bool" false
  | int_tuple (i):IsiV K H (.int i) "tuple" false
  | int_str (i):IsiV K H (.int i) "str" false
  | bl_int (b):IsiV K H (.bl b) "int" true
  | bl_bool (b):IsiV K H (.bl b) "bool" true
  | bl_tuple (b):IsiV K H (.bl b) "tuple" false
  | str_str (x):IsiV K H (.str x) "str" true
  | str_tuple (x):IsiV K H (.str x) "tuple" false
  | tup_tuple {a xs}:SqT K H a xs→IsiV K H (.ref a) "tuple" true
  | tup_int {a xs}:SqT K H a xs→IsiV K H (.ref a) "int" false
  | lst_tuple {a xs}:SqL K H a xs→IsiV K H (.ref a) "tuple" false
  | lst_list {a xs}:SqL K H a xs→IsiV K H (.ref a) "list" true
def qnF (K:PySem.W.Frag):List V→Hp→VK→Prop:=fun vs H Q=>∃ x T b,vs=[x,.ty T]∧IsiV K H x T b∧Q (.bl b) H
theorem qor {x y:V} {us:List Value} (r:Vals [x,y] us):∃ u v,us=[u,v]∧RelV x u∧RelV y v:=by
  cases r with
  | cons r rr =>
    cases rr with
    | cons r' rr=>cases rr;exact ⟨_,_,rfl,r,r'⟩
theorem qhW {X:Cx}:qdF X (.builtin "isinstance") (qnF X.K):=by
  intro pins s σ H xs us Q I r h
  obtain ⟨x,T,b,rfl,hi,q⟩:=h
  obtain ⟨u,v,rfl,ru,rv⟩:=qor r
  have rv:v=.type T:=rv
  subst rv
  have fin:∀ (c:Bool) (t:Nat),Q (.bl c) H→EP X pins σ Q (.bool c) { s with toks:=t }:=fun c t q=>⟨.bl c,H,I.tok t,rfl,q⟩
  cases hi with
  | int_int i=>obtain ⟨t,rfl⟩:=ru;exact IsiPair.int_int (fin _ s.toks q)
  | int_bool i=>obtain ⟨t,rfl⟩:=ru;exact IsiPair.int_bool (fin _ _ q)
  | int_tuple i=>obtain ⟨t,rfl⟩:=ru;exact IsiPair.int_tuple (fin _ _ q)
  | int_str i=>obtain ⟨t,rfl⟩:=ru;exact IsiPair.int_str (fin _ _ q)
  | bl_int b=>cases ru;exact IsiPair.bool_int (fin _ s.toks q)
  | bl_bool b=>cases ru;exact IsiPair.bool_bool (fin _ s.toks q)
  | bl_tuple b=>cases ru;exact IsiPair.bool_tuple (fin _ _ q)
  | str_str x=>obtain ⟨t,rfl⟩:=ru;exact IsiPair.str_str (fin _ s.toks q)
  | str_tuple x=>obtain ⟨t,rfl⟩:=ru;exact IsiPair.str_tuple (fin _ _ q)
  | tup_tuple h =>
    cases ru
    obtain ⟨its,_,p,_⟩:=I.tuple h
    exact call_isinstance (isinstance_true (Tx:="tuple") F.isi_meta_tuple F.sub_tuple_tuple) ⟨p.typeIs,fin _ s.toks q⟩
  | tup_int h =>
    cases ru
    obtain ⟨its,_,⟨o,e,c,_⟩,_⟩:=I.tuple h
    exact call_isinstance (isinstance_false_tuple (by decide +kernel) F.isi_meta_int F.sub_tuple_int) ⟨⟨o,e,c⟩,fin _ _ q⟩
  | lst_tuple h =>
    cases ru
    obtain ⟨its,_,p,_⟩:=I.list h
    obtain ⟨o,e,c,_⟩:=p.isList
    exact call_isinstance (isinstance_false_list (by decide +kernel) F.isi_meta_tuple F.sub_list_tuple) ⟨⟨o,e,c⟩,fin _ _ q⟩
  | lst_list h =>
    cases ru
    obtain ⟨its,_,p,_⟩:=I.list h
    exact call_isinstance (isinstance_true (Tx:="list") F.isi_meta_list F.sub_list_list) ⟨p.isList.typeIs,fin _ s.toks q⟩
theorem qlZ (bs:List Bool):(List.range bs.length).all (fun i=>bs.getD i false)=bs.all id:=by
  rw [Bool.eq_iff_iff]
  simp only [List.all_eq_true,List.mem_range,id]
  constructor
  · intro h x hx
    obtain ⟨i,hi,rfl⟩:=List.mem_iff_getElem.mp hx
    have:=h i hi
    simpa [hi] using this
  · intro h i hi
    have:=h bs[i] (List.getElem_mem hi)
    simpa [hi] using this
def qf0 (N:List Str) (sc scope:Scope) (N':List Str) (cap:List (Option Nat)):Bool :=
  decide (scope.kind=.function) && scope.names.all (fun x=>decide (x.2=.cell→scope.names.lookup x.1=some .cell)) && scope.names.all (fun x=>decide (x.2=.local→scope.names.lookup x.1=some .local)) &&
    scope.names.all (fun x=>decide (x.2=.free→sc.names.lookup x.1=some .cell∧scope.names.lookup x.1=some .free)) && decide N'.Nodup && decide (cap.length=N'.length) &&
    (cap.zip N').all fun p=>match p.1 with | none=>true | some i=>decide (N[i]?=some p.2∧(p.2,NameKind.free)∈scope.names)
theorem CompScope.ok {N:List Str} {sc scope:Scope} {N':List Str} {cap:List (Option Nat)} (h:qf0 N sc scope N' cap=true):CompScope N sc scope N' cap:=by
  unfold qf0 at h
  simp only [Bool.and_eq_true,decide_eq_true_eq,List.all_eq_true] at h
  obtain ⟨⟨⟨⟨⟨⟨h1,h2⟩,h3⟩,h4⟩,h5⟩,h6⟩,h7⟩:=h
  refine ⟨h1,h2,h3,fun x hx hf=>(h4 x hx hf).1,fun x hx hf=>(h4 x hx hf).2,h5,h6,fun p hp i hi=>?_⟩
  have:=h7 p hp
  rw [hi] at this
  simpa using this
section
variable {K : PySem.W.Frag} {B : V → St → Hp → (St → Hp → Prop) → Prop} {End : St → Hp → Prop} {σ : St} {H : Hp}
end
theorem qaA {H:Hp} {p:Addr} (h:H p=none) (o:HO):Same H (upd H p o):=fun b u q=>by rw [qag (qan q h)];exact q
theorem qfc {n:Nat} (h:n≤1000):n≤sizeLine:=Nat.le_of_lt (qbn h)
theorem dP {p:Prop} [Decidable p] (h:decide p=true):p:=of_decide_eq_true h
theorem qal {α:Type} {xs:List α} {i:Nat} {x:α} (h:xs[i]?=some x):i<xs.length:=(List.getElem?_eq_some_iff.mp h).1
theorem qiI {α:Type} {xs:List α} {i:Nat} {x:α} {k:Int} (h:xs[i]?=some x) (e:k=(i:Int)):atI xs k=some x:=by
  subst e
  exact qjp h
def qcm {α:Type} (xs:List α) (lo hi:Option Int):List α:=(xs.drop (HT.sIx xs.length 0 lo)).take (HT.sIx xs.length xs.length hi - HT.sIx xs.length 0 lo)
inductive EqT (K:PySem.W.Frag) (H:Hp):Nat→V→V→Prop where
  | int {d:Nat} (i:Int):EqT K H d (.int i) (.int i)
  | bl {d:Nat} (b:Bool):EqT K H d (.bl b) (.bl b)
  | str {d:Nat} (x:Str):EqT K H d (.str x) (.str x)
  | non {d:Nat}:EqT K H d .non .non
  | sq {d:Nat} (q:Bool) {a b:Addr} {xs ys:List V}:SqB K q H a xs→SqB K q H b ys→xs.length=ys.length→(∀ (i:Nat) (x y:V),xs[i]?=some x→ys[i]?=some y→EqT K H d x y)→EqT K H (d+1) (.ref a) (.ref b)
theorem Vals.get' {xs:List V} {us:List Value} (r:Vals xs us) {j:Nat} (h:j<us.length):∃ x,xs[j]?=some x∧RelV x us[j]:=by
  have hl:=Vals.length r
  have hj:j<xs.length:=by omega
  obtain ⟨u,hu,ru⟩:=Vals.get (i:=j) (x:=xs[j]) r (by simp [hj])
  refine ⟨xs[j],by simp [hj],?_⟩
  rw [List.getElem?_eq_getElem h] at hu
  cases hu
  exact ru
section
variable {prog : Program} {w : World} {A : Around} {E : Value → Shared → Prop} {s : Shared}
theorem qji {t b:Addr} {vs ws:List Value} {Q:Value→Shared→Prop} (ht:IsTup s.heap t vs.toArray) (hb:IsTup s.heap b ws.toArray) (hv:vs=[]) (h:Q (.ref b) s):wpAny (model prog w) A (binaryOp .Add (.ref t) (.ref b)) Q E s:=by
  obtain ⟨⟨cls,dd,data,sl⟩,ho,hc,n,hd⟩:=id ht
  obtain ⟨⟨cls2,dd2,data2,sl2⟩,ho2,hc2,n2,hd2⟩:=id hb
  simp only at hc hd hc2 hd2
  subst hc hd hc2 hd2
  exact concat_meets ⟨_,ho,rfl⟩ ⟨_,ho2,rfl⟩ noFill_tuple_add seq_tuple_add PySem.F.slot_tuple_add PySem.F.entry_tuple_add (PySem.F.args_tuple_add_2 _ _) (tuple_addW0 t b vs.toArray ws.toArray n n2 dd dd2 sl sl2 (by simp [hv])) ⟨ho,ho2,h⟩
end
section
variable {J : It} {B : V → St → Hp → (St → Hp → Prop) → Prop} {End : St → Hp → Prop} {σ : St} {H : Hp} {D : Addr} {n : Nat} {El : Nat → V → Hp → Prop}
end
section
variable {K : PySem.W.Frag} {B : V → St → Hp → (St → Hp → Prop) → Prop} {End : St → Hp → Prop} {σ : St} {H : Hp} {D a : Addr}
end
section
variable {α : Type} {R R' : V → α → Prop} {vs ws : List V} {rs ss : List α}
end
def qla (K:PySem.W.Frag):V→V→Hp→VK→Prop:=fun x y H Q=>∃ p xs i j v,x=.ref p∧y=.int i∧SqL K H p xs∧i=((j:Nat):Int)∧xs[j]?=some v∧Q v H
theorem qh5 {X:Cx}:qmH X (qla X.K):=by
  intro pins s σ H o i ov iv Q I ro ri h
  obtain ⟨p,xs,i,j,v,rfl,rfl,hq,rfl,hv,q⟩:=h
  cases ro
  obtain ⟨t,rfl⟩:=ri
  obtain ⟨its,r,pl,hz⟩:=I.list hq
  obtain ⟨w,ew,rw'⟩:=r.get hv
  have hl:=r.length
  have hn:=qcS
  have hj:=qal hv
  exact wpAny_getItem_list pl.isList (by omega) (by omega) (by rw [Int.toNat_natCast];simpa using ew) ⟨v,H,I,rw',q⟩
theorem qjU (xs:List V) (lo hi:Option Int):qiU xs lo hi=qcm xs lo hi:=rfl
section
variable {α : Type} {R : V → α → Prop} {vs : List V} {rs : List α}
end
theorem qkd {n j:Nat} (h:j<n):ixN n (j:Int)=some j:=by
  unfold ixN
  rw [if_pos (by omega),if_pos (by omega),Int.toNat_natCast]
theorem qa7 {a0 a1 a2 a3} {rest:List Expr} {env:Env}:starEach (.BinOp a0 a1 a2 a3::rest) env=(false,eval (.BinOp a0 a1 a2 a3) env)::starEach rest env:=rfl
theorem qbJ {a0 a1 a2 a3} {rest:List Expr} {env:Env}:starEach (.ListComp a0 a1 a2 a3::rest) env=(false,eval (.ListComp a0 a1 a2 a3) env)::starEach rest env:=rfl
theorem qct {a0 a1 a2 a3} {rest:List Expr} {env:Env}:starEach (.Compare a0 a1 a2 a3::rest) env=(false,eval (.Compare a0 a1 a2 a3) env)::starEach rest env:=rfl
theorem qax {a0 a1 a2 a3} {rest:List Expr} {env:Env}:starEach (.Call a0 a1 a2 a3::rest) env=(false,eval (.Call a0 a1 a2 a3) env)::starEach rest env:=rfl
theorem qac {a0 a1 a2} {rest:List Expr} {env:Env}:starEach (.Constant a0 a1 a2::rest) env=(false,eval (.Constant a0 a1 a2) env)::starEach rest env:=rfl
theorem qaM {a0 a1 a2} {rest:List Expr} {env:Env}:starEach (.Attribute a0 a1 a2::rest) env=(false,eval (.Attribute a0 a1 a2) env)::starEach rest env:=rfl
theorem qad {a0 a1 a2} {rest:List Expr} {env:Env}:starEach (.Subscript a0 a1 a2::rest) env=(false,eval (.Subscript a0 a1 a2) env)::starEach rest env:=rfl
theorem qaa {a0 a1} {rest:List Expr} {env:Env}:starEach (.Name a0 a1::rest) env=(false,eval (.Name a0 a1) env)::starEach rest env:=rfl
theorem qaI {a0 a1 a2} {rest:List Expr} {env:Env}:starEach (.Tuple a0 a1 a2::rest) env=(false,eval (.Tuple a0 a1 a2) env)::starEach rest env:=rfl
theorem qaf {pos:Pos} {env:Env}:(backTo pos (starEach [] env)).any (·.1)=false:=rfl
theorem qaj {pos:Pos} {e:Expr} {es:List Expr} {env:Env} (h:starEach (e::es) env=(false,eval e env)::starEach es env) (hr:(backTo pos (starEach es env)).any (·.1)=false):(backTo pos (starEach (e::es) env)).any (·.1)=false:=by
  rw [h]
  exact hr
theorem qfW {pos : Pos} {e : Expr} {env : Env} (h : starEach [e] env = (false, eval e env) :: starEach [] env) : ((backTo pos (starEach [e] env)).all (fun x => !x.1) && (backToKw pos (keywordEach [] env)).all (fun x => x.1.isSome)
      && decide ([e].length+([]:List Keyword).length+(if ([]:List Keyword).isEmpty then 0 else 1)<30))=true:=by
  rw [h]
  rfl
section
variable {X : Cx} {K : PySem.W.Frag}
theorem qgP (h:X.K=K):qdF X (.builtin "isinstance") (qnF K):=h ▸ qhW
end
end L2
namespace L2
open PySem PySem.Spec PyProof.Rows
section
variable {X : Cx} {K : PySem.W.Frag}
theorem qku:OpR X (compareOp .Is) (fun x y H Q=>∃ a b:Bool,x=.bl a∧y=.bl b∧Q (.bl (a == b)) H):=by
  intro pins s σ H x y v u Q I rx ry h
  obtain ⟨a,b,rfl,rfl,q⟩:=h
  cases rx
  cases ry
  exact wpAny_is_plain rfl (qfz I q (by cases a <;> cases b <;> rfl))
theorem qjq:OpR X (compareOp .IsNot) (fun x y H Q=>∃ a b:Bool,x=.bl a∧y=.bl b∧Q (.bl (!(a == b))) H):=by
  intro pins s σ H x y v u Q I rx ry h
  obtain ⟨a,b,rfl,rfl,q⟩:=h
  cases rx
  cases ry
  exact wpAny_isNot_plain rfl (qfz I q (by cases a <;> cases b <;> rfl))
end
end L2
namespace PySem
open Sem (wp)
open Builtin
open AutoSeq1 (wpAny_loadPart')
theorem qcx:fillsNumberSlot (.type "tuple") "mul"=pure false :=
  fillsNumberSlot_seq (id:="tuple.__mul__") (r:=some (.builtin "tuple.__rmul__")) F.slot_tuple_mul.lookup (by decide +kernel) F.slot_tuple_rmul.lookup (by decide +kernel)
theorem qd2:seqRepeat? (.type "tuple")=pure (some (.builtin "tuple.__mul__")):=by
  unfold seqRepeat?
  rw [seqSlot_of (T:="tuple") (name:="__mul__") (id:="tuple.__mul__") F.slot_tuple_mul.lookup (by decide +kernel),seqSlot_of (T:="tuple") (name:="__rmul__") (id:="tuple.__rmul__") F.slot_tuple_rmul.lookup (by decide +kernel)]
  rfl
theorem qdb (a:Int) (t:Tok) (l:Addr) (items:Array Value) (n:Nat) (dd:Option Addr) (sl:Array (Option Value)) :
    Meets (Builtin.«int.__rmul__» ⟨[.int a t,.ref l],[]⟩) (fun _ R s=>s.heap.get? l=some { cls:=.type "tuple",dict:=dd,data:=.seq items n,slots:=sl }∧R (.ok (.ret Value.notImplemented)) s) :=
  .of_wp fun prog w A R s h=>by obtain ⟨hp,g,d,tk,os⟩:=s;obtain ⟨hl,h⟩:=h;wp_walk;exact ⟨_,rfl,h⟩
theorem qfk (l:Addr) (items:Array Value) (n:Nat) (dd:Option Addr) (sl:Array (Option Value)) (u:Tok) :
    Meets (Builtin.«tuple.__mul__» ⟨[.ref l,.int 1 u],[]⟩) (fun _ R s=>s.heap.get? l=some { cls:=.type "tuple",dict:=dd,data:=.seq items n,slots:=sl }∧R (.ok (.ret (Value.ref l))) s) :=
  .of_wp fun prog w A R s h=>by obtain ⟨hp,g,d,tk,os⟩:=s;obtain ⟨hl,h⟩:=h;have f1:=AutoSeq1.idx_int;have f2:=AutoSeq1.sub_tuple_tuple;wp_walk using wpAny_loadPart' hl;exact ⟨_,rfl,h⟩
theorem qe1 (l:Addr) (items:Array Value) (n:Nat) (dd:Option Addr) (sl:Array (Option Value)) (k:Int) (u:Tok) (hc0:¬ (decide (k < -(2 ^ 63)) || decide (k≥2 ^ 63))=true) (hc1:¬ (items.isEmpty || k == 1)=true) (hc2:(decide (k≤0) || items.isEmpty)=true) :
    Meets (Builtin.«tuple.__mul__» ⟨[.ref l,.int k u],[]⟩) (fun _ R s=>s.heap.get? l=some { cls:=.type "tuple",dict:=dd,data:=.seq items n,slots:=sl }∧R (.ok (.ret (Value.ref s.heap.objs.size))) { s with heap:=s.heap.push { cls:=Value.type "tuple",data:=Data.seq #[] },toks:=s.toks }) :=
  .of_wp fun prog w A R s h=>by obtain ⟨hp,g,d,tk,os⟩:=s;obtain ⟨hl,h⟩:=h;have f1:=AutoSeq1.idx_int;have f2:=AutoSeq1.sub_tuple_tuple;wp_walk using wpAny_loadPart' hl;refine wpAny_ite_false (decide_eq_false hc0) ?_;wp_walk using wpAny_loadPart' hl;exact ⟨_,rfl,h⟩
theorem qe9 (l:Addr) (items:Array Value) (n:Nat) (dd:Option Addr) (sl:Array (Option Value)) (k:Int) (u:Tok) (hc0:¬ (decide (k < -(2 ^ 63)) || decide (k≥2 ^ 63))=true) (hc1:¬ (items.isEmpty || k == 1)=true) (hc2:¬ (decide (k≤0) || items.isEmpty)=true) (hc3:¬ (items.size*k>(2 ^ 63 - 1) / 8)) (hc4:¬ Builtin.Tuple.tupleTooMany (items.size*k)=true) (hsz:(List.foldl (fun x1 x2=>x1++x2) #[] (List.replicate k.toNat items)).size≤sizeLine) :
    Meets (Builtin.«tuple.__mul__» ⟨[.ref l,.int k u],[]⟩) (fun _ R s=>s.heap.get? l=some { cls:=.type "tuple",dict:=dd,data:=.seq items n,slots:=sl }∧R (.ok (.ret (Value.ref s.heap.objs.size))) { s with heap:=s.heap.push { cls:=Value.type "tuple",data:=Data.seq (List.foldl (fun x1 x2=>x1++x2) #[] (List.replicate k.toNat items)) },toks:=s.toks }) :=
  .of_wp fun prog w A R s h=>by obtain ⟨hp,g,d,tk,os⟩:=s;obtain ⟨hl,h⟩:=h;have f1:=AutoSeq1.idx_int;have f2:=AutoSeq1.sub_tuple_tuple;wp_walk using wpAny_loadPart' hl;refine wpAny_ite_false (decide_eq_false hc0) ?_;wp_walk using wpAny_loadPart' hl;refine wpAny_ite_false (decide_eq_false hc3) ?_;wp_walk using wpAny_loadPart' hl;exact ⟨_,rfl,h⟩
end PySem
namespace L2
open PySem PySem.Spec PyProof.Rows
inductive D where
  | int (i:Int) | bl (b:Bool) | str (x:Str) | non | tup (xs:List D) | lst (xs:List D) | fzl (xs:List D) | obj (nm:Str) (fs:List (Str × D)) | map (kvs:List (Key × D)) | exc (nm:Str) (ats:List D)
def qgo (a C:Addr) (dx:Option Addr):Heap→Prop:=fun h=>∃ o vs,h.get? a=some o∧o.cls=.ref C∧o.dict=dx∧o.data=.fields vs
inductive Rp (K:PySem.W.Frag) (H:Hp):D→V→Prop where
  | int (i:Int):Rp K H (.int i) (.int i)
  | bl (b:Bool):Rp K H (.bl b) (.bl b)
  | str (x:Str):Rp K H (.str x) (.str x)
  | non:Rp K H .non .non
  | tup {a:Addr} {vs:List V} {ds:List D}:H a=some (.tup vs)→vs.length=ds.length→(∀ (i:Nat) (v:V) (d:D),vs[i]?=some v→ds[i]?=some d→Rp K H d v)→Rp K H (.tup ds) (.ref a)
  | lst {a:Addr} {vs:List V} {ds:List D}:H a=some (.lst vs)→vs.length=ds.length→(∀ (i:Nat) (v:V) (d:D),vs[i]?=some v→ds[i]?=some d→Rp K H d v)→Rp K H (.lst ds) (.ref a)
  | fzl {a:Addr} {vs:List V} {ds:List D}:SqL K H a vs→vs.length=ds.length→(∀ (i:Nat) (v:V) (d:D),vs[i]?=some v→ds[i]?=some d→Rp K H d v)→Rp K H (.fzl ds) (.ref a)
  | obj {a C dx:Addr} {nm:Str} {vs:List (Str × V)} {fs:List (Str × D)}:PySem.W.nsIn K mainGlobals nm=some (some (.ref C))→H a=some (.ins C dx vs)→vs.map (·.1)=fs.map (·.1)→(∀ (i:Nat) (v:Str × V) (d:Str × D),vs[i]?=some v→fs[i]?=some d→Rp K H d.2 v.2)→Rp K H (.obj nm fs) (.ref a)
  | map {a:Addr} {ws:List (Key × V)} {kvs:List (Key × D)}:H a=some (.dK ws)→ws.map (·.1)=kvs.map (·.1)→(∀ (i:Nat) (w:Key × V) (d:Key × D),ws[i]?=some w→kvs[i]?=some d→Rp K H d.2 w.2)→Rp K H (.map kvs) (.ref a)
  | exc0 {a C:Addr} {nm:Str}:PySem.W.nsIn K mainGlobals nm=some (some (.ref C))→H a=some (.ext (qgo a C none))→Rp K H (.exc nm []) (.ref a)
  | exc1 {a C p:Addr} {nm:Str} {v:V} {d:D}:PySem.W.nsIn K mainGlobals nm=some (some (.ref C))→H a=some (.ext (qgo a C (some p)))→H p=some (.xd [("at",v)])→Rp K H d v→Rp K H (.exc nm [d]) (.ref a)
def RpL (K:PySem.W.Frag) (H:Hp) (ds:List D) (vs:List V):Prop:=vs.length=ds.length∧∀ (i:Nat) (v:V) (d:D),vs[i]?=some v→ds[i]?=some d→Rp K H d v
section
variable {K : PySem.W.Frag} {H H' Φ Φ' Φ1 H1 Φ2 H2 : Hp} {d : D} {v : V} {ds es : List D} {vs ws : List V}
theorem Rp.same (s:Same H H') (h:Rp K H d v):Rp K H' d v:=by
  induction h with
  | int i=>exact .int i
  | bl b=>exact .bl b
  | str x=>exact .str x
  | non=>exact .non
  | tup h1 h2 _ ih=>exact .tup (s _ _ h1) h2 ih
  | lst h1 h2 _ ih=>exact .lst (s _ _ h1) h2 ih
  | fzl h1 h2 _ ih=>exact .fzl (s.seq h1) h2 ih
  | obj h0 h1 h2 _ ih=>exact .obj h0 (s _ _ h1) h2 ih
  | map h1 h2 _ ih=>exact .map (s _ _ h1) h2 ih
  | exc0 h0 h1=>exact .exc0 h0 (s _ _ h1)
  | exc1 h0 h1 h2 _ ih=>exact .exc1 h0 (s _ _ h1) (s _ _ h2) ih
theorem RpL.same (s:Same H H') (h:RpL K H ds vs):RpL K H' ds vs:=⟨h.1,fun i v d hv hd=>(h.2 i v d hv hd).same s⟩
theorem RpL.nil:RpL K H [] []:=⟨rfl,fun i v d hv _=>by simp at hv⟩
theorem RpL.cons (r:Rp K H d v) (h:RpL K H ds vs):RpL K H (d::ds) (v::vs):=⟨by simp [h.1],fun i u e hu he=>by
  cases i with
  | zero=>cases hu;cases he;exact r
  | succ i=>exact h.2 i u e hu he⟩
theorem RpL.append (h:RpL K H ds vs) (h':RpL K H es ws):RpL K H (ds++es) (vs++ws):=by
  refine ⟨by rw [List.length_append,List.length_append,h.1,h'.1],fun i u e hu he=>?_⟩
  rcases Nat.lt_or_ge i vs.length with c | c
  · rw [List.getElem?_append_left c] at hu
    rw [List.getElem?_append_left (by rw [← h.1];exact c)] at he
    exact h.2 i u e hu he
  · rw [List.getElem?_append_right c] at hu
    rw [List.getElem?_append_right (by rw [← h.1];exact c),← h.1] at he
    exact h'.2 _ u e hu he
theorem RpL.one (r:Rp K H d v):RpL K H [d] [v]:=.cons r .nil
theorem RpL.take (h:RpL K H ds vs) (k:Nat):RpL K H (ds.take k) (vs.take k):=⟨by rw [List.length_take,List.length_take,h.1],fun i u e hu he=>by
  rcases Nat.lt_or_ge i k with c | c
  · rw [List.getElem?_take_of_lt c] at hu he
    exact h.2 i u e hu he
  · rw [List.getElem?_take_eq_none c] at hu
    cases hu⟩
theorem RpL.drop (h:RpL K H ds vs) (k:Nat):RpL K H (ds.drop k) (vs.drop k):=⟨by rw [List.length_drop,List.length_drop,h.1],fun i u e hu he=>by
  rw [List.getElem?_drop] at hu he
  exact h.2 _ u e hu he⟩
theorem RpL.set (h:RpL K H ds vs) (r:Rp K H d v) (k:Nat):RpL K H (ds.set k d) (vs.set k v):=⟨by rw [List.length_set,List.length_set,h.1],fun i u e hu he=>by
  by_cases c:k=i
  · subst c
    have hk:k<vs.length:=by have:=qal hu;rwa [List.length_set] at this
    rw [List.getElem?_set_self hk] at hu
    rw [List.getElem?_set_self (by rw [← h.1];exact hk)] at he
    cases hu;cases he
    exact r
  · rw [List.getElem?_set_ne c] at hu he
    exact h.2 i u e hu he⟩
theorem RpL.dropLast (h:RpL K H ds vs):RpL K H ds.dropLast vs.dropLast:=by
  rw [List.dropLast_eq_take,List.dropLast_eq_take,h.1]
  exact h.take _
theorem RpL.rep (h:RpL K H ds vs):∀ k:Nat,RpL K H (List.replicate k ds).flatten (List.replicate k vs).flatten
  | 0=>.nil
  | k+1=>by
    rw [List.replicate_succ,List.replicate_succ,List.flatten_cons,List.flatten_cons]
    exact h.append (RpL.rep h k)
theorem RpL.at (h:RpL K H ds vs) {i:Nat} (e:ds[i]?=some d):∃ v,vs[i]?=some v∧Rp K H d v:=by
  have hi:i<vs.length:=by rw [h.1];exact qal e
  exact ⟨vs[i],by simp [hi],h.2 i _ d (by simp [hi]) e⟩
theorem RpL.cut (h:RpL K H ds vs) (lo hi:Option Int):RpL K H (qcm ds lo hi) (qiU vs lo hi):=by
  rw [qjU]
  unfold qcm
  rw [h.1]
  exact (h.drop _).take _
theorem RpL.tup {a:Addr} (h:RpL K H ds vs) (s:H a=some (.tup vs)):Rp K H (.tup ds) (.ref a):=.tup s h.1 h.2
theorem RpL.lst {a:Addr} (h:RpL K H ds vs) (s:H a=some (.lst vs)):Rp K H (.lst ds) (.ref a):=.lst s h.1 h.2
theorem RpL.fzl {a:Addr} (h:RpL K H ds vs) (s:SqL K H a vs):Rp K H (.fzl ds) (.ref a):=.fzl s h.1 h.2
theorem RpL.ints (ns:List Int):RpL K H (ns.map D.int) (ns.map V.int):=⟨by simp,fun i v d hv hd=>by
  rw [List.getElem?_map] at hv hd
  cases e:ns[i]? with
  | none=>rw [e] at hv;cases hv
  | some k=>rw [e] at hv hd;cases hv;cases hd;exact .int k⟩
def OwK:HO→Prop | .lst _=>True | .dK _=>True | .dT _=>True | .ins _ _ _=>True | _=>False
structure Gr (Φ H Φ' H':Hp):Prop where
  f:Same Φ Φ'
  h:Same H H'
  s:Same Φ' H'
  o:∀ p (u:HO),H p=some u→Φ p=none→(k:OwK u:=by trivial)→Φ' p=none
theorem Gr.refl (s:Same Φ H):Gr Φ H Φ H:=⟨Same.refl _,Same.refl _,s,fun _ _ _ h _=>h⟩
theorem Gr.trans (a:Gr Φ H Φ1 H1) (b:Gr Φ1 H1 Φ2 H2):Gr Φ H Φ2 H2:=⟨a.f.trans b.f,a.h.trans b.h,b.s,fun p u hp hn k=>b.o p u (a.h p _ hp) (a.o p u hp hn k) k⟩
theorem Gr.join (a:Gr Φ H Φ1 H1) (b:Gr Φ1 H Φ2 H2):Gr Φ H Φ2 H2:=⟨a.f.trans b.f,b.h,b.s,fun p u hp hn k=>b.o p u hp (a.o p u hp hn k) k⟩
theorem qg5 (s:Same Φ H) {p:Addr} (o:HO):Same (upd Φ p o) (upd H p o):=fun b u e=>by
  by_cases c:b=p
  · subst c;rw [qai] at e ⊢;exact e
  · rw [qag c] at e ⊢;exact s b u e
theorem Gr.new (s:Same Φ H) {p:Addr} (hp:H p=none) (o:HO):Gr Φ H (upd Φ p o) (upd H p o) :=
  ⟨qaA (s.free hp) o,qaA hp o,qg5 s o,fun q u hq hn _=>by rw [qag (qan hq hp)];exact hn⟩
theorem Gr.fresh (s:Same Φ H) {p:Addr} (hp:H p=none) (o:HO):Gr Φ H Φ (upd H p o) :=
  ⟨Same.refl _,qaA hp o,fun b u e=>qaA hp o b u (s b u e),fun _ _ _ h _=>h⟩
theorem Gr.freeze (g:Gr Φ H Φ' H') {p:Addr} {o:HO} (h0:H p=none) (hn:Φ' p=none) (hp:H' p=some o):Gr Φ H (upd Φ' p o) H' :=
  ⟨g.f.trans (qaA hn o),g.h,fun b u e=>by
    by_cases c:b=p
    · subst c;rw [qai] at e;cases e;exact hp
    · rw [qag c] at e;exact g.s b u e,fun q u hq hqn k=>by rw [qag (qan hq h0)];exact g.o q u hq hqn k⟩
theorem Gr.adoptT {p:Addr} {xs:List V} (s:Same Φ H) (h:Same H H') (ho:H' p=some (.tup xs)):∃ Φ',Gr Φ H Φ' H'∧Φ' p=some (.tup xs):=by
  have e1:∀ u,Φ p=some u→u=.tup xs:=fun u e=>by have:=h _ _ (s _ _ e);rw [ho] at this;cases this;rfl
  refine ⟨upd Φ p (.tup xs),⟨fun b u e=>?_,h,fun b u e=>?_,fun b u e n k=>?_⟩,qai⟩
  · by_cases c:b=p
    · subst c;rw [qai,e1 u e]
    · rw [qag c];exact e
  · by_cases c:b=p
    · subst c;rw [qai] at e;cases e;exact ho
    · rw [qag c] at e;exact h _ _ (s _ _ e)
  · by_cases c:b=p
    · subst c
      have:=h _ _ e
      rw [ho] at this
      cases this
      exact k.elim
    · rw [qag c];exact n
def RpQ (K:PySem.W.Frag) (Φ H:Hp) (d:D) (v:V):Prop:=Rp K Φ d v∨∃ a vs ds,d=.lst ds∧v=.ref a∧H a=some (.lst vs)∧RpL K Φ ds vs
theorem RpQ.gr (g:Gr Φ H Φ' H') (h:RpQ K Φ H d v):RpQ K Φ' H' d v:=by
  rcases h with h | ⟨a,vs,ds,e,e2,h1,h2⟩
  · exact .inl (h.same g.f)
  · exact .inr ⟨a,vs,ds,e,e2,g.h _ _ h1,h2.same g.f⟩
theorem RpQ.lst (s:Same Φ H) (h:RpQ K Φ H (.lst ds) v):∃ a vs,v=.ref a∧H a=some (.lst vs)∧RpL K Φ ds vs:=by
  rcases h with h | ⟨a,vs,ds,e,e2,h1,h2⟩
  · cases h with | lst h1 h2 h3=>exact ⟨_,_,rfl,s _ _ h1,h2,h3⟩
  · cases e;exact ⟨a,vs,e2,h1,h2⟩
theorem RpQ.fzl (s:Same Φ H) (h:RpQ K Φ H (.fzl ds) v):∃ a vs,v=.ref a∧SqL K H a vs∧RpL K Φ ds vs:=by
  rcases h with h | ⟨a,vs,ds,e,e2,h1,h2⟩
  · cases h with | fzl h1 h2 h3=>exact ⟨_,_,rfl,s.seq h1,h2,h3⟩
  · cases e
theorem RpQ.tup (s:Same Φ H) (h:RpQ K Φ H (.tup ds) v):∃ a vs,v=.ref a∧SqT K H a vs∧Φ a=some (.tup vs)∧RpL K Φ ds vs:=by
  rcases h with h | ⟨a,vs,ds,e,e2,h1,h2⟩
  · cases h with | tup h1 h2 h3=>exact ⟨_,_,rfl,.of (s _ _ h1),h1,h2,h3⟩
  · cases e
theorem RpQ.int {i:Int} (h:RpQ K Φ H (.int i) v):v=.int i:=by
  rcases h with h | ⟨a,vs,ds,e,_⟩
  · cases h;rfl
  · cases e
theorem RpQ.bl {i:Bool} (h:RpQ K Φ H (.bl i) v):v=.bl i:=by
  rcases h with h | ⟨a,vs,ds,e,_⟩
  · cases h;rfl
  · cases e
theorem RpQ.str {i:Str} (h:RpQ K Φ H (.str i) v):v=.str i:=by
  rcases h with h | ⟨a,vs,ds,e,_⟩
  · cases h;rfl
  · cases e
theorem RpQ.non (h:RpQ K Φ H .non v):v=.non:=by
  rcases h with h | ⟨a,vs,ds,e,_⟩
  · cases h;rfl
  · cases e
def qm5:D→Option (List D)
  | .lst ds=>some ds
  | .tup ds=>some ds
  | .fzl ds=>some ds
  | _=>none
theorem Rp.seq (h:Rp K Φ d v) (e:qm5 d=some ds):∃ (b:Bool) (a:Addr) (vs:List V),v=.ref a∧SqB K b Φ a vs∧RpL K Φ ds vs:=by
  cases d with
  | lst ds=>cases e;cases h with | lst h1 h2 h3=>exact ⟨true,_,_,rfl,SqL.of h1,h2,h3⟩
  | tup ds=>cases e;cases h with | tup h1 h2 h3=>exact ⟨false,_,_,rfl,SqT.of h1,h2,h3⟩
  | fzl ds=>cases e;cases h with | fzl h1 h2 h3=>exact ⟨true,_,_,rfl,h1,h2,h3⟩
  | _=>cases e
end
inductive Ow where | lst (xs:List D) | dct (ks:List Key) | dcT (ks:List (List Key))
inductive Sl where | v (d:D) | ob (o:Ow)
abbrev Sl.own (xs:List D):Sl:=.ob (.lst xs)
abbrev Sl.dct (ks:List Key):Sl:=.ob (.dct ks)
abbrev Sl.dcT (ks:List (List Key)):Sl:=.ob (.dcT ks)
def OwR (K:PySem.W.Frag) (Φ:Hp):Ow→HO→Prop
  | .lst ds,.lst vs=>RpL K Φ ds vs
  | .dct ks,.dK kvs=>kvs.map (·.1)=ks
  | .dcT ks,.dT kvs=>kvs.map (·.1)=ks
  | _,_=>False
theorem OwR.k {K:PySem.W.Frag} {Φ:Hp} {o:Ow} {u:HO} (r:OwR K Φ o u):OwK u:=by
  cases o with
  | lst ds =>
    cases u with
    | lst vs=>exact True.intro
    | _=>exact r.elim
  | dct ks =>
    cases u with
    | dK kvs=>exact True.intro
    | _=>exact r.elim
  | dcT ks =>
    cases u with
    | dT kvs=>exact True.intro
    | _=>exact r.elim
theorem OwR.same {K:PySem.W.Frag} {Φ Φ':Hp} {o:Ow} {u:HO} (r:OwR K Φ o u) (s:Same Φ Φ'):OwR K Φ' o u:=by
  cases o with
  | lst ds =>
    cases u with
    | lst vs=>exact (show RpL K Φ ds vs from r).same s
    | _=>exact r.elim
  | dct ks =>
    cases u with
    | dK kvs=>exact r
    | _=>exact r.elim
  | dcT ks =>
    cases u with
    | dT kvs=>exact r
    | _=>exact r.elim
abbrev Rho:=List (Option Sl)
def qlg:FuncBody→Option Pos
  | .stmts b=>(match b.getLast? with
    | some (.Return (some (.Call _ _ kws _)) _)=>kws.findSome? fun k=>(match k.value with | .Lambda _ _ _ pos=>some pos | _=>none)
    | _=>none)
  | _=>none
def qjE (K:PySem.W.Frag) (x:Str):Option (Addr × Array Value):=match PySem.W.nsIn K mainGlobals x with
  | some (some (.ref f))=>(match K.lookup f with
    | some ⟨_,_,.func fd,_⟩=>(match fd.code with
      | .ref c=>(match K.lookup c with
        | some ⟨_,_,.fields vs,_⟩=>(match (vs[11]?:Option Value),qlg fd.body with
          | some (.ref P),some pos=>some (P,#[rawInt pos.line,rawInt pos.col,.str (fd.qualname++".<locals>."++"<lambda>") 0])
          | _,_=>none)
        | _=>none)
      | _=>none)
    | _=>none)
  | _=>none
def qgC (K:PySem.W.Frag):List (Addr × Array Value):=(["least_grown","greatest_first"]:List Str).filterMap (qjE K)
def TabF (K:PySem.W.Frag) (Φ:Hp):Prop:=∀ t∈qgC K,Φ t.1=some (.tbl t.2)
theorem TabF.same {K:PySem.W.Frag} {Φ Φ':Hp} (h:TabF K Φ) (s:Same Φ Φ'):TabF K Φ':=fun t ht=>s _ _ (h t ht)
structure EnvD (K:PySem.W.Frag) (H0 Φ H:Hp) (σ:St) (ρ:Rho):Prop where
  fz:Same Φ H
  len:σ.length=ρ.length
  sl:∀ (i:Nat) (d:D),ρ[i]?=some (some (.v d))→∃ v,σ[i]?=some (some v)∧Rp K Φ d v
  ow:∀ (i:Nat) (o:Ow),ρ[i]?=some (some (.ob o))→∃ p u,σ[i]?=some (some (.ref p))∧H0 p=none∧Φ p=none∧H p=some u∧OwR K Φ o u
  ne:∀ (i j:Nat) (o w:Ow) (p:Addr),ρ[i]?=some (some (.ob o))→ρ[j]?=some (some (.ob w))→σ[i]?=some (some (.ref p))→σ[j]?=some (some (.ref p))→i=j
  tb:TabF K Φ
section
variable {K : PySem.W.Frag} {H0 H H' Φ Φ' Φ1 H1 Φ2 H2 : Hp} {σ : St} {ρ : Rho} {d : D} {v : V} {ds es : List D} {vs ws : List V}
theorem EnvD.owl (E:EnvD K H0 Φ H σ ρ) (i:Nat) (ds:List D) (h:ρ[i]?=some (some (.own ds))):∃ p vs,σ[i]?=some (some (.ref p))∧H0 p=none∧Φ p=none∧H p=some (.lst vs)∧RpL K Φ ds vs:=by
  obtain ⟨p,u,e,h0,hn,hp,r⟩:=E.ow i _ h
  cases u with
  | lst vs=>exact ⟨p,vs,e,h0,hn,hp,r⟩
  | _=>exact (show False from r).elim
theorem EnvD.gr (E:EnvD K H0 Φ H σ ρ) (g:Gr Φ H Φ' H'):EnvD K H0 Φ' H' σ ρ :=
  ⟨g.s,E.len,fun i d h=>let ⟨v,e,r⟩:=E.sl i d h;⟨v,e,r.same g.f⟩,
    fun i ds h=>let ⟨p,vs,e,h0,hn,hp,r⟩:=E.ow i ds h;⟨p,vs,e,h0,g.o p _ hp hn r.k,g.h _ _ hp,r.same g.f⟩,E.ne,E.tb.same g.f⟩
theorem qbU {α:Type} {l:List α} {i j:Nat} {x y:α} (h:(l.set i x)[j]?=some y):(j=i∧i<l.length∧y=x)∨(j≠i∧l[j]?=some y):=by
  by_cases c:i=j
  · subst c
    have hi:i<l.length:=by have:=qal h;rwa [List.length_set] at this
    rw [List.getElem?_set_self hi] at h
    cases h
    exact .inl ⟨rfl,hi,rfl⟩
  · rw [List.getElem?_set_ne c] at h
    exact .inr ⟨fun e=>c e.symm,h⟩
theorem EnvD.set (E:EnvD K H0 Φ H σ ρ) (r:Rp K Φ d v) (i:Nat):EnvD K H0 Φ H (σ.set i (some v)) (ρ.set i (some (.v d))):=by
  have nn:∀ {j:Nat} {x:Option V},j≠i→σ[j]?=some x→(σ.set i (some v))[j]?=some x:=fun c h=>by rw [List.getElem?_set_ne (Ne.symm c)];exact h
  refine ⟨E.fz,by rw [List.length_set,List.length_set,E.len],fun j e h=>?_,fun j ds h=>?_,fun j k ds es p hj hk sj sk=>?_,E.tb⟩
  · rcases qbU h with ⟨rfl,hi,e1⟩ | ⟨c,h⟩
    · cases e1
      exact ⟨v,by rw [List.getElem?_set_self (by rw [E.len];exact hi)],r⟩
    · obtain ⟨u,hu,ru⟩:=E.sl j e h
      exact ⟨u,nn c hu,ru⟩
  · rcases qbU h with ⟨rfl,hi,e1⟩ | ⟨c,h⟩
    · cases e1
    · obtain ⟨p,vs,e,q⟩:=E.ow j ds h
      exact ⟨p,vs,nn c e,q⟩
  · rcases qbU hj with ⟨rfl,_,e1⟩ | ⟨cj,hj⟩
    · cases e1
    rcases qbU hk with ⟨rfl,_,e1⟩ | ⟨ck,hk⟩
    · cases e1
    rw [List.getElem?_set_ne (Ne.symm cj)] at sj
    rw [List.getElem?_set_ne (Ne.symm ck)] at sk
    exact E.ne j k ds es p hj hk sj sk
end
def NF {α:Type} (x:α) (R:α→Prop):Prop:=∃ y,x=y∧R y
theorem NF.get {α:Type} {x:α} {R:α→Prop} (h:NF x R):R x:=by
  obtain ⟨_,rfl,h⟩:=h
  exact h
abbrev TD:=Rho→(D→Prop)→Prop
abbrev TDL:=Rho→(List D→Prop)→Prop
abbrev TDB:=Rho→(Bool→Prop)→Prop
def lE (K:PySem.W.Frag) (t:TD):TE:=fun σ H Q=>∃ H0 Φ ρ R,EnvD K H0 Φ H σ ρ∧t ρ R∧∀ d Φ' H' v,R d→Gr Φ H Φ' H'→Rp K Φ' d v→Q v H'
def lQ (K:PySem.W.Frag) (t:TD):TE:=fun σ H Q=>∃ H0 Φ ρ R,EnvD K H0 Φ H σ ρ∧t ρ R∧∀ d Φ' H' v,R d→Gr Φ H Φ' H'→RpQ K Φ' H' d v→Q v H'
def lF (K:PySem.W.Frag) (t:TDL):TE:=fun σ H Q=>∃ H0 Φ ρ R,EnvD K H0 Φ H σ ρ∧t ρ R∧∀ ds Φ' H' p vs,R ds→Gr Φ H Φ' H'→H p=none→Φ' p=none→H' p=some (.lst vs)→RpL K Φ' ds vs→Q (.ref p) H'
def lA (K:PySem.W.Frag) (n:Nat) (t:TDL):TA:=fun σ H Q=>∃ H0 Φ ρ R,EnvD K H0 Φ H σ ρ∧t ρ R∧∀ ds Φ' H' vs,R ds→Gr Φ H Φ' H'→RpL K Φ' ds vs→ds.length=n→Q vs H'
def lT (K:PySem.W.Frag) (t:TDB):TT:=fun σ H Q=>∃ H0 Φ ρ R,EnvD K H0 Φ H σ ρ∧t ρ R∧∀ b Φ' H',R b→Gr Φ H Φ' H'→Q b H'
structure PD (K:PySem.W.Frag) (X:Cx) (e:Expr) (t:TD):Prop where pe:X.K=K→PE X e (lE K t)
structure PQ (K:PySem.W.Frag) (X:Cx) (e:Expr) (t:TD):Prop where pe:X.K=K→PE X e (lQ K t)
structure PF (K:PySem.W.Frag) (X:Cx) (e:Expr) (t:TDL):Prop where pe:X.K=K→PE X e (lF K t)
structure PAD (K:PySem.W.Frag) (X:Cx) (es:List Expr) (t:TDL):Prop where pa:X.K=K→PA X es (lA K es.length t)
structure PTD (K:PySem.W.Frag) (X:Cx) (e:Expr) (t:TDB):Prop where pt:X.K=K→PT X e (lT K t)
structure PWD (K:PySem.W.Frag) (X:Cx) (e:Expr) (t:TDB):Prop where pw:X.K=K→PW X e (lT K t)
theorem PE.imp {X:Cx} {e:Expr} {t t':TE} (h:PE X e t) (k:∀ σ H Q,t' σ H Q→t σ H Q):PE X e t':=fun pins s σ H Q I hw=>h pins s σ H Q I (k σ H Q hw)
theorem PT.imp {X:Cx} {e:Expr} {t t':TT} (h:PT X e t) (k:∀ σ H Q,t' σ H Q→t σ H Q):PT X e t':=fun pins s σ H Q I hw=>h pins s σ H Q I (k σ H Q hw)
theorem PW.imp {X:Cx} {e:Expr} {t t':TT} (h:PW X e t) (k:∀ σ H Q,t' σ H Q→t σ H Q):PW X e t':=fun wh pins s σ H Q I hw=>h wh pins s σ H Q I (k σ H Q hw)
theorem PA.imp {X:Cx} {e:List Expr} {t t':TA} (h:PA X e t) (k:∀ σ H Q,t' σ H Q→t σ H Q):PA X e t':=fun pos pins s σ H Q I hw=>h pos pins s σ H Q I (k σ H Q hw)
theorem PS.imp {X:Cx} {e:Stmt} {t t':TS} (h:PS X e t) (k:∀ D σ H,t' D σ H→t D σ H):PS X e t':=fun pins s σ H D I hw=>h pins s σ H D I (k D σ H hw)
theorem PSs.imp {X:Cx} {e:List Stmt} {t t':TS} (h:PSs X e t) (k:∀ D σ H,t' D σ H→t D σ H):PSs X e t':=fun pins s σ H D I hw=>h pins s σ H D I (k D σ H hw)
section
variable {K : PySem.W.Frag} {X : Cx} {e a b c : Expr} {es : List Expr} {pos : Pos} {t ta tb : TD} {tf : TDL} {tl : TDL} {tt tu : TDB}
theorem PD.q (h:PD K X e t):PQ K X e t:=⟨fun hK=>(h.pe hK).imp fun σ H Q hq0=>by obtain ⟨H0,Φ,ρ,R,E,t,k⟩:=hq0;exact ⟨H0,Φ,ρ,R,E,t,fun d Φ' H' v r g rr=>k d Φ' H' v r g (.inl rr)⟩⟩
def qoP (t:TDL):TD:=fun ρ R=>t ρ fun ds=>R (.lst ds)
theorem PF.d (h:PF K X e tf):PD K X e (qoP tf):=⟨fun hK=>(h.pe hK).imp fun σ H Q hq0=>by obtain ⟨H0,Φ,ρ,R,E,t,k⟩:=hq0;exact ⟨H0,Φ,ρ,_,E,t,fun ds Φ' H' p vs r g h0 hn hp rr =>
  k (.lst ds) _ H' _ r (g.freeze h0 hn hp) ((rr.same (qaA hn _)).lst qai)⟩⟩
def qne (i:Nat):TD:=fun ρ R=>match ρ[i]? with | some (some (.v d))=>R d | _=>False
def qly (i:Nat):TD:=fun ρ R=>match ρ[i]? with | some (some (.v d))=>R d | some (some (.ob (.lst ds)))=>R (.lst ds) | _=>False
theorem dv (i:Nat) {x:Str} (hN:X.N[i]?=some x:=by rfl) (hv:Vis X.env.scope x:=by first | exact Or.inl rfl | exact Or.inr (Or.inl rfl) | exact Or.inr (Or.inr rfl)) (hd:(x == ("__debug__":Str))=false:=by decide)
    (hcd:(x == ("__classdict__":Str))=false:=by decide):PD K X (.Name x pos) (qne i):=⟨fun _=>(pv i hN hv hd hcd).imp fun σ H Q hq0=>by
  obtain ⟨H0,Φ,ρ,R,E,t,k⟩:=hq0
  unfold qne at t
  split at t
  · next d h =>
    obtain ⟨v,e,r⟩:=E.sl i d h
    exact ⟨v,e,k d Φ H v t (.refl E.fz) r⟩
  · exact t.elim⟩
theorem dvq (i:Nat) {x:Str} (hN:X.N[i]?=some x:=by rfl) (hv:Vis X.env.scope x:=by first | exact Or.inl rfl | exact Or.inr (Or.inl rfl) | exact Or.inr (Or.inr rfl)) (hd:(x == ("__debug__":Str))=false:=by decide)
    (hcd:(x == ("__classdict__":Str))=false:=by decide):PQ K X (.Name x pos) (qly i):=⟨fun _=>(pv i hN hv hd hcd).imp fun σ H Q hq0=>by
  obtain ⟨H0,Φ,ρ,R,E,t,k⟩:=hq0
  unfold qly at t
  split at t
  · next d h =>
    obtain ⟨v,e,r⟩:=E.sl i d h
    exact ⟨v,e,k d Φ H v t (.refl E.fz) (.inl r)⟩
  · next ds h =>
    obtain ⟨p,vs,e,_,_,hp,r⟩:=E.owl i ds h
    exact ⟨_,e,k _ Φ H _ t (.refl E.fz) (.inr ⟨p,vs,ds,rfl,rfl,hp,r⟩)⟩
  · exact t.elim⟩
def dC (d:D):TD:=fun _ R=>R d
theorem qiw {v:V} {d:D} (h:PE X e (tC v)) (r:∀ Φ,Rp K Φ d v):PD K X e (dC d):=⟨fun _=>h.imp fun σ H Q hq0=>by obtain ⟨H0,Φ,ρ,R,E,t,k⟩:=hq0;exact k d Φ H v t (.refl E.fz) (r Φ)⟩
theorem qab {i j}:PD K X (.Constant (.int i) j pos) (dC (.int i)):=qiw qkN fun _=>.int i
theorem qcL {i j}:PD K X (.Constant (.bool i) j pos) (dC (.bl i)):=qiw qmD fun _=>.bl i
theorem qgY {i j}:PD K X (.Constant (.str i) j pos) (dC (.str i)):=qiw qky fun _=>.str i
theorem qbi {j}:PD K X (.Constant .none j pos) (dC .non):=qiw qlf fun _=>.non
abbrev RD2:=D→D→(D→Prop)→Prop
def lR2 (K:PySem.W.Frag) (r:RD2):R2:=fun x y H Q=>∃ Φ dx dy R,Same Φ H∧RpQ K Φ H dx x∧RpQ K Φ H dy y∧r dx dy R∧∀ d Φ' H' v,R d→Gr Φ H Φ' H'→Rp K Φ' d v→Q v H'
structure OpD (K:PySem.W.Frag) (X:Cx) (f:Value→Value→Sem Value) (r:RD2):Prop where o:X.K=K→OpR X f (lR2 K r)
def dOp (r:RD2) (ta tb:TD):TD:=fun ρ R=>ta ρ fun x=>tb ρ fun y=>r x y R
theorem qd1 {r:RD2} {σ:St} {H:Hp} {Q:VK} (h:lE K (dOp r ta tb) σ H Q):tOp (lR2 K r) (lQ K ta) (lQ K tb) σ H Q:=by
  obtain ⟨H0,Φ,ρ,R,E,t,k⟩:=h
  exact ⟨H0,Φ,ρ,_,E,t,fun dx Φ1 H1 x t1 g1 rx=>⟨H0,Φ1,ρ,_,E.gr g1,t1,fun dy Φ2 H2 y t2 g2 ry=>⟨Φ2,dx,dy,R,g2.s,rx.gr g2,ry,t2,fun d Φ' H' v r g rr=>k d Φ' H' v r ((g1.trans g2).trans g) rr⟩⟩⟩
theorem qcg {op:Operator} {r:RD2} (ho:OpD K X (binaryOp op) r) (ha:PQ K X a ta) (hb:PQ K X b tb):PD K X (.BinOp a op b pos) (dOp r ta tb) :=
  ⟨fun hK=>(qlq (ho.o hK) (ha.pe hK) (hb.pe hK)).imp fun _ _ _=>qd1⟩
theorem qgl {op:CmpOp} {r:RD2} (ho:OpD K X (compareOp op) r) (ha:PQ K X a ta) (hb:PQ K X b tb) (hm:behindInMarks op b=false):PD K X (.Compare a [op] [b] pos) (dOp r ta tb) :=
  ⟨fun hK=>(qht (ho.o hK) (ha.pe hK) (hb.pe hK) hm).imp fun _ _ _=>qd1⟩
def qkV (t:TD):TDB:=fun ρ R=>t ρ fun d=>match d with | .bl b=>R b | _=>False
theorem qg2 {r:RD2} {σ:St} {H:Hp} {Q:Bool→Hp→Prop} (h:lT K (qkV (dOp r ta tb)) σ H Q):qh3 (tOp (lR2 K r) (lQ K ta) (lQ K tb)) σ H Q:=by
  obtain ⟨H0,Φ,ρ,R,E,t,k⟩:=h
  refine qd1 ⟨H0,Φ,ρ,_,E,t,fun d Φ' H' v r g rr=>?_⟩
  cases d with
  | bl b=>cases rr;exact ⟨b,rfl,k b Φ' H' r g⟩
  | _=>exact r.elim
theorem qaG {op:CmpOp} {r:RD2} (ho:OpD K X (compareOp op) r) (ha:PQ K X a ta) (hb:PQ K X b tb) (hm:behindInMarks op b=false):PTD K X (.Compare a [op] [b] pos) (qkV (dOp r ta tb)) :=
  ⟨fun hK=>(qhy (ho.o hK) (ha.pe hK) (hb.pe hK) hm).imp fun _ _ _=>qg2⟩
abbrev RD1:=D→(D→Prop)→Prop
def dUn (r:RD1) (ta:TD):TD:=fun ρ R=>ta ρ fun x=>r x R
def qob:RD1:=fun x R=>match x with | .bl i=>R (.bl (!i)) | _=>False
theorem qmw (ha:PQ K X a ta):PD K X (.UnaryOp .Not a pos) (dUn qob ta):=⟨fun hK=>(qll (ha.pe hK)).imp fun σ H Q hq0=>by obtain ⟨H0,Φ,ρ,R,E,t,k⟩:=hq0;exact ⟨H0,Φ,ρ,_,E,t,fun dx Φ1 H1 x t1 g1 rx=>by
  cases dx with
  | bl i=>exact ⟨i,rx.bl,k _ Φ1 H1 _ t1 g1 (.bl _)⟩
  | _=>exact t1.elim⟩⟩
def qnh:D→(Bool→Prop)→Prop:=fun d R=>match d with
  | .int i=>R (i != 0) | .bl b=>R b | .non=>R false | .str x=>x.length≤sizeLine∧R ((x.length:Int) != 0) | .lst ds=>R (!ds.isEmpty) | .tup ds=>R (!ds.isEmpty) | .fzl ds=>R (!ds.isEmpty) | .obj _ _=>False | .map _=>False | .exc _ _=>False
theorem qcD {Φ:Hp} {ds:List D} {vs:List V} (h:RpL K Φ ds vs):(!ds.isEmpty)=!vs.isEmpty:=by
  have:=h.1
  cases ds <;> cases vs <;> simp_all
theorem qi5 {Φ H:Hp} {d:D} {v:V} {R:Bool→Prop} (s:Same Φ H) (h:RpQ K Φ H d v) (t:qnh d R):∃ k,qmv K v H k∧R k:=by
  cases d with
  | int i=>rw [h.int];exact ⟨_,rfl,t⟩
  | bl i=>rw [h.bl];exact ⟨_,rfl,t⟩
  | non=>rw [h.non];exact ⟨_,rfl,t⟩
  | str i=>rw [h.str];exact ⟨_,⟨t.1,rfl⟩,t.2⟩
  | lst ds=>obtain ⟨a,vs,rfl,h1,h2⟩:=h.lst s;exact ⟨_,.inl ⟨vs,.of h1,rfl⟩,by rw [← qcD h2];exact t⟩
  | tup ds=>obtain ⟨a,vs,rfl,h1,_,h2⟩:=h.tup s;exact ⟨_,.inr (.inl ⟨vs,h1,rfl⟩),by rw [← qcD h2];exact t⟩
  | fzl ds=>obtain ⟨a,vs,rfl,h1,h2⟩:=h.fzl s;exact ⟨_,.inl ⟨vs,h1,rfl⟩,by rw [← qcD h2];exact t⟩
  | obj C fs=>exact t.elim
  | map kvs=>exact t.elim
  | exc _ _=>exact t.elim
def qnX (t:TD):TDB:=fun ρ R=>t ρ fun d=>qnh d R
theorem qhc (ha:PQ K X a ta) (he:∀ whole,isTrue a X.env whole=(do let v ← whole;standAt a.pos;holding [v] (truthy v))):PTD K X a (qnX ta) :=
  ⟨fun hK=>(qfP (ha.pe hK) he).imp fun σ H Q hq0=>by obtain ⟨H0,Φ,ρ,R,E,t,k⟩:=hq0;exact ⟨H0,Φ,ρ,_,E,t,fun d Φ1 H1 v t1 g1 rv=>by
    obtain ⟨b,h1,h2⟩:=qi5 g1.s rv t1
    rw [hK]
    exact ⟨b,h1,k b Φ1 H1 h2 g1⟩⟩⟩
def qn2 (t u:TDB):TDB:=fun ρ R=>t ρ fun c=>(c=true→u ρ R)∧(c=false→R false)
def zOr (t u:TDB):TDB:=fun ρ R=>t ρ fun c=>(c=true→R true)∧(c=false→u ρ R)
def qmn (t:TDB):TDB:=fun ρ R=>t ρ fun c=>R (!c)
theorem PWD.td (h:PWD K X e tt):PTD K X e tt:=⟨fun hK=>(h.pw hK).pt⟩
theorem qcl (ha:PTD K X a tt):PWD K X (.BoolOp .And [a] pos) tt:=⟨fun hK=>qgZ (ha.pt hK)⟩
theorem qgp (ha:PTD K X a tt):PWD K X (.BoolOp .Or [a] pos) tt:=⟨fun hK=>qiK (ha.pt hK)⟩
theorem qeh (ha:PTD K X a tt) (hb:PWD K X (.BoolOp .And (b::es) pos) tu):PWD K X (.BoolOp .And (a::b::es) pos) (qn2 tt tu) :=
  ⟨fun hK=>(qiN (ha.pt hK) (hb.pw hK)).imp fun σ H Q hq0=>by obtain ⟨H0,Φ,ρ,R,E,t,k⟩:=hq0;exact ⟨H0,Φ,ρ,_,E,t,fun c Φ1 H1 r g=>by
    cases c with
    | true=>rw [if_pos rfl];exact ⟨H0,Φ1,ρ,R,E.gr g,r.1 rfl,fun b Φ' H' rb g'=>k b Φ' H' rb (g.trans g')⟩
    | false=>rw [if_neg (by decide)];exact k _ Φ1 H1 (r.2 rfl) g⟩⟩
theorem qjO (ha:PTD K X a tt) (hb:PWD K X (.BoolOp .Or (b::es) pos) tu):PWD K X (.BoolOp .Or (a::b::es) pos) (zOr tt tu) :=
  ⟨fun hK=>(qlD (ha.pt hK) (hb.pw hK)).imp fun σ H Q hq0=>by obtain ⟨H0,Φ,ρ,R,E,t,k⟩:=hq0;exact ⟨H0,Φ,ρ,_,E,t,fun c Φ1 H1 r g=>by
    cases c with
    | true=>rw [if_pos rfl];exact k _ Φ1 H1 (r.1 rfl) g
    | false=>rw [if_neg (by decide)];exact ⟨H0,Φ1,ρ,R,E.gr g,r.2 rfl,fun b Φ' H' rb g'=>k b Φ' H' rb (g.trans g')⟩⟩⟩
theorem qjG (ha:PTD K X a tt):PTD K X (.UnaryOp .Not a pos) (qmn tt) :=
  ⟨fun hK=>(qiT (ha.pt hK)).imp fun σ H Q hq0=>by obtain ⟨H0,Φ,ρ,R,E,t,k⟩:=hq0;exact ⟨H0,Φ,ρ,_,E,t,fun c Φ1 H1 r g=>k _ Φ1 H1 r g⟩⟩
def qol (t u:TD):TD:=fun ρ R=>t ρ fun c=>match c with | .bl c=>(c=true→u ρ R)∧(c=false→R (.bl false)) | _=>False
theorem qkI {op} (h:PD K X a ta):PD K X (.BoolOp op [a] pos) ta:=⟨fun hK=>qlS (h.pe hK)⟩
theorem qke (ha:PD K X a ta) (hb:PD K X (.BoolOp .And (b::es) pos) tb):PD K X (.BoolOp .And (a::b::es) pos) (qol ta tb) :=
  ⟨fun hK=>(qlr (ha.pe hK) (hb.pe hK)).imp fun σ H Q hq0=>by obtain ⟨H0,Φ,ρ,R,E,t,k⟩:=hq0;exact ⟨H0,Φ,ρ,_,E,t,fun c Φ1 H1 v r g rv=>by
    cases c with
    | bl c =>
      cases rv
      refine ⟨c,rfl,?_⟩
      cases c with
      | true=>rw [if_pos rfl];exact ⟨H0,Φ1,ρ,R,E.gr g,r.1 rfl,fun b Φ' H' v rb g' rr=>k b Φ' H' v rb (g.trans g') rr⟩
      | false=>rw [if_neg (by decide)];exact k _ Φ1 H1 _ (r.2 rfl) g (.bl _)
    | _=>exact r.elim⟩⟩
def dIf (t:TDB) (u v:TD):TD:=fun ρ R=>t ρ fun c=>(c=true→u ρ R)∧(c=false→v ρ R)
theorem qoH (hc:PTD K X c tt) (ha:PD K X a ta) (hb:PD K X b tb):PD K X (.IfExp c a b pos) (dIf tt ta tb) :=
  ⟨fun hK=>(qii (hc.pt hK) (ha.pe hK) (hb.pe hK)).imp fun σ H Q hq0=>by obtain ⟨H0,Φ,ρ,R,E,t,k⟩:=hq0;exact ⟨H0,Φ,ρ,_,E,t,fun c Φ1 H1 r g=>by
    cases c with
    | true=>rw [if_pos rfl];exact ⟨H0,Φ1,ρ,R,E.gr g,r.1 rfl,fun b Φ' H' v rb g' rr=>k b Φ' H' v rb (g.trans g') rr⟩
    | false=>rw [if_neg (by decide)];exact ⟨H0,Φ1,ρ,R,E.gr g,r.2 rfl,fun b Φ' H' v rb g' rr=>k b Φ' H' v rb (g.trans g') rr⟩⟩⟩
def qnk:TDL:=fun _ R=>R []
def qlO (t:TD) (u:TDL):TDL:=fun ρ R=>t ρ fun d=>u ρ fun ds=>R (d::ds)
theorem qaS:PAD K X [] qnk:=⟨fun _=>pa_nil.imp fun σ H Q hq0=>by obtain ⟨H0,Φ,ρ,R,E,t,k⟩:=hq0;exact k [] Φ H [] t (.refl E.fz) .nil rfl⟩
theorem qak (ha:PD K X e t) (hr:PAD K X es tl) (hs:starEach (e::es) X.env=(false,eval e X.env)::starEach es X.env):PAD K X (e::es) (qlO t tl) :=
  ⟨fun hK=>(qa9 (ha.pe hK) (hr.pa hK) hs).imp fun σ H Q hq0=>by obtain ⟨H0,Φ,ρ,R,E,t,k⟩:=hq0;exact ⟨H0,Φ,ρ,_,E,t,fun d Φ1 H1 v r g rv=>⟨H0,Φ1,ρ,_,E.gr g,r,fun ds Φ2 H2 vs r2 g2 rl hl =>
    k _ Φ2 H2 _ r2 (g.trans g2) (.cons (rv.same g2.f) rl) (by rw [List.length_cons,List.length_cons,hl])⟩⟩⟩
def qoL (t:TDL):TD:=fun ρ R=>t ρ fun ds=>R (.tup ds)
def qn9 (t:TDL):TDL:=t
theorem qgS {n:Nat} (h:Nat.ble n 1000=true):n≤sizeLine:=Nat.le_trans (Nat.le_of_ble_eq_true h) (by decide)
theorem qbv {x1} (h:PAD K X es tl) (hes:Nat.ble es.length 1000=true:=by rfl):PD K X (.Tuple es x1 pos) (qoL tl) :=
  ⟨fun hK=>(qi7 (h.pa hK)).imp fun σ H Q hq0=>by obtain ⟨H0,Φ,ρ,R,E,t,k⟩:=hq0;exact ⟨H0,Φ,ρ,_,E,t,fun ds Φ1 H1 vs r g rl hl=>⟨by rw [rl.1,hl];exact qgS hes,fun p hp =>
    k _ _ _ _ r (g.trans (.new g.s hp _)) ((rl.same (qaA (g.s.free hp) _)).tup qai)⟩⟩⟩
theorem qea (h:PAD K X es tl) (hes:Nat.ble es.length 1000=true:=by rfl):PF K X (.List es pos) (qn9 tl) :=
  ⟨fun hK=>(qlF (h.pa hK)).imp fun σ H Q hq0=>by obtain ⟨H0,Φ,ρ,R,E,t,k⟩:=hq0;exact ⟨H0,Φ,ρ,_,E,t,fun ds Φ1 H1 vs r g rl hl=>⟨by rw [rl.1,hl];exact qgS hes,fun p hp =>
    k _ _ _ p vs r (g.trans (.fresh g.s hp _)) (g.h.free hp) (g.s.free hp) qai rl⟩⟩⟩
end
end L2
namespace L2
open PySem PySem.Spec PyProof.Rows PySem.Builtin PySem.Builtin.Str
section
variable {K : PySem.W.Frag} {X : Cx}
def qlB (z:Str) (lo hi:Option Int):Str:=⟨(qcm z.cps.toList lo hi).toArray⟩
theorem qjb (z:Str) (lo hi:Option Int):Txt.slice z lo hi=qlB z lo hi:=by
  have key:strSliceIndices lo hi 1 z.length=(List.range (HT.sIx z.length z.length hi - HT.sIx z.length 0 lo)).map fun k=>HT.sIx z.length 0 lo+k:=by
    have h1:∀ (i:Int) (d:Nat),max 0 (min (if i<0 then i+(z.length:Int) else i) (z.length:Int))=(HT.sIx z.length d (some i):Int):=fun i d=>by
      show max 0 (min (if i<0 then i+(z.length:Int) else i) (z.length:Int))=((if i<0 then (i+(z.length:Int)).toNat else min i.toNat z.length:Nat):Int)
      split <;> omega
    have e0:strSliceIndices lo hi 1 z.length=sliceRange (HT.sIx z.length 0 lo:Int) (HT.sIx z.length z.length hi:Int) 1:=by
      cases lo <;> cases hi <;> simp only [strSliceIndices,show (1:Int)>0 by decide,if_true,h1 _ 0,h1 _ z.length] <;> rfl
    rw [e0]
    unfold sliceRange
    simp only [show (1:Int)>0 by decide,if_true]
    have ec:(if (HT.sIx z.length 0 lo:Int)<(HT.sIx z.length z.length hi:Int) then ((HT.sIx z.length z.length hi:Int) - (HT.sIx z.length 0 lo:Int)+1 - 1) / 1 else 0).toNat=HT.sIx z.length z.length hi - HT.sIx z.length 0 lo:=by
      split
      · rw [Int.ediv_one];omega
      · omega
    rw [ec]
    refine List.map_congr_left fun k _=>?_
    omega
  have hb:HT.sIx z.length z.length hi≤z.length:=by
    cases hi with
    | none=>exact Nat.le_refl _
    | some i =>
      show (if i<0 then (i+(z.length:Int)).toNat else min i.toNat z.length)≤z.length
      split <;> omega
  have hb0:HT.sIx z.length 0 lo≤z.length:=by
    cases lo with
    | none=>exact Nat.zero_le _
    | some i =>
      show (if i<0 then (i+(z.length:Int)).toNat else min i.toNat z.length)≤z.length
      split <;> omega
  have pick:(strSliceIndices lo hi 1 z.length).filterMap (z.cps[·]?)=qcm z.cps.toList lo hi:=by
    rw [key]
    unfold qcm
    have el:z.cps.toList.length=z.length:=by rw [Array.length_toList];rfl
    rw [el]
    generalize HT.sIx z.length 0 lo=a
    generalize hbb:HT.sIx z.length z.length hi=b at hb
    refine List.ext_getElem? fun j=>?_
    rw [List.filterMap_map]
    have:∀ m,m≤b - a→((List.range m).filterMap ((fun x=>z.cps[x]?) ∘ fun k=>a+k))=(z.cps.toList.drop a).take m:=by
      intro m
      induction m with
      | zero=>intro _;simp
      | succ m ih =>
        intro hm
        rw [List.range_succ,List.filterMap_append,ih (by omega)]
        have hlt:a+m<z.cps.size:=by unfold Str.length at hb;omega
        have e1:z.cps.toList.drop a=z.cps.toList.drop a:=rfl
        have hl:m<(z.cps.toList.drop a).length:=by rw [List.length_drop,el];unfold Str.length;omega
        rw [List.take_add_one,List.getElem?_drop]
        congr 1
        simp [hlt]
    rw [this _ (Nat.le_refl _)]
  unfold Txt.slice qlB
  split
  · next h =>
    have hl:(strSliceIndices lo hi 1 z.length).length=z.length:=by simpa using h
    have el:z.cps.toList.length=z.length:=by rw [Array.length_toList];rfl
    have:qcm z.cps.toList lo hi=z.cps.toList:=by
      rw [key,List.length_map,List.length_range] at hl
      unfold qcm
      rw [el]
      have:HT.sIx z.length 0 lo=0:=by omega
      rw [this,List.drop_zero,List.take_of_length_le (by rw [el];omega)]
    rw [this]
  · rw [pick]
def qnI:V→Option Int→Option Int→Hp→VK→Prop:=fun x lo hi H Q=>∃ z,x=.str z∧z.length≤sizeLine∧Q (.str (qlB z lo hi)) H
theorem qgH {v:Value} {o:Option Int} (h:IsPart v o):∃ p:Option (Int × Tok),v=partValue p∧p.map (·.1)=o:=by
  cases h with
  | none=>exact ⟨none,rfl,rfl⟩
  | int i t=>exact ⟨some (i,t),rfl,rfl⟩
theorem qlT:SlR X qnI:=by
  intro pins s σ H x v vl vu lo hi sl Q I rx hs pl pu h
  obtain ⟨z,rfl,hz,q⟩:=h
  obtain ⟨t,rfl⟩:=rx
  obtain ⟨p1,rfl,rfl⟩:=qgH pl
  obtain ⟨p2,rfl,rfl⟩:=qgH pu
  refine ⟨"str",_,F.slot_str_getitem.lookup,typeIs_str _ _ _,?_⟩
  have hs':s.heap.IsSlice sl p1 p2 none:=by
    obtain ⟨o,ho,h1,h2⟩:=hs
    exact ⟨o,ho,h1,h2⟩
  refine wpAny_getItem_str_slice (l:=p1) (u:=p2) (st:=none) hs' rfl (post_val_or_str ⟨?_,fun t' k=>?_⟩)
  · exact Nat.le_trans (Txt.slice_le z _ _) hz
  · refine ⟨.str (qlB z (p1.map (·.1)) (p2.map (·.1))),H,?_,⟨t',?_⟩,q⟩
    · exact I.tok _
    · rw [← qjb];rfl
def qha (z:Str) (n:Nat):Str:=⟨((List.replicate n z.cps.toList).flatten).toArray⟩
theorem qim (z:Str):qha z 1=z:=by
  unfold qha
  simp
theorem qfQ:∀ (n:Nat) (x acc:Array Nat),(List.replicate n x).foldl (·++·) acc=acc++((List.replicate n x.toList).flatten).toArray
  | 0,x,acc=>by simp
  | n+1,x,acc=>by
    rw [List.replicate_succ,List.foldl_cons,qfQ n x (acc++x),List.replicate_succ,List.flatten_cons]
    apply Array.ext'
    simp
theorem qis (z:Str) (n:Nat):(qha z n).length=z.length*n:=by
  unfold qha Str.length
  simp [Nat.mul_comm]
def qms:R2:=fun x y H Q=>∃ z k,x=.str z∧y=.int k∧-(2 ^ 62)≤k∧k<2 ^ 62∧z.length*k.toNat≤sizeLine∧z.length≤sizeLine∧Q (.str (qha z k.toNat)) H
theorem qjT:OpR X (binaryOp .Mult) qms:=by
  intro pins s σ H x y v u Q I rx ry h
  obtain ⟨z,k,rfl,rfl,h1,h2,h3,h4,q⟩:=h
  obtain ⟨t,rfl⟩:=rx
  obtain ⟨t',rfl⟩:=ry
  refine P.mul_str (by rw [decide_eq_false (by omega),decide_eq_false (by omega)];rfl) (fun c1 c2=>?_) (fun c1 c2=>?_) ?_
  · intro hc
    have hk:0<k:=by omega
    have h5:((z.length:Int))*k≤2 ^ 24:=by
      have:((z.length*k.toNat:Nat):Int)≤(sizeLine:Int):=Int.ofNat_le.mpr h3
      rw [Int.natCast_mul,Int.toNat_of_nonneg (by omega)] at this
      exact this
    have h6:(z.length:Int)≤(2 ^ 63 - 1) / k:=(Int.le_ediv_iff_mul_le hk).mpr (Int.le_trans h5 (by decide))
    omega
  · unfold tooLong
    exact decide_eq_false (by omega)
  · by_cases c:k<1
    · rw [if_pos c]
      have e:k.toNat=0:=by omega
      rw [e] at q
      exact ⟨by decide,.str Str.empty,H,I.tok _,⟨_,rfl⟩,q⟩
    · rw [if_neg c]
      by_cases c2:(k == 1 || z.length == 0)=true
      · rw [if_pos c2]
        have e:qha z k.toNat=z:=by
          rw [Bool.or_eq_true] at c2
          rcases c2 with c2 | c2
          · have:=eq_of_beq c2
            subst this
            exact qim z
          · have hz:z.cps.toList=[]:=by
              have:=eq_of_beq c2
              unfold Str.length at this
              exact List.length_eq_zero_iff.mp (by rw [Array.length_toList];exact this)
            unfold qha
            rw [hz]
            have hz2:z.cps=#[]:=by
              apply Array.ext'
              rw [hz]
            apply Str.ext'
            rw [hz2]
            simp
        rw [e] at q
        exact ⟨.str z,H,I,⟨t,rfl⟩,q⟩
      · rw [if_neg c2]
        have e:(⟨(List.replicate k.toNat z.cps).foldl (·++·) #[]⟩:Str)=qha z k.toNat:=by
          rw [qfQ]
          unfold qha
          simp
        rw [e]
        refine ⟨by rw [qis];exact h3,.str (qha z k.toNat),H,I.tok _,⟨_,rfl⟩,q⟩
end
def qmr:R2:=fun x y H Q=>∃ a b xs ys,x=.ref a∧y=.ref b∧H a=some (.tup xs)∧H b=some (.tup ys)∧xs.length+ys.length≤sizeLine∧∀ p H',Same H H'→H' p=some (.tup (xs++ys))→Q (.ref p) H'
theorem qjv {X:Cx}:OpR X (binaryOp .Add) qmr:=by
  intro pins s σ H x y v u Q I rx ry h
  obtain ⟨a,b,xs,ys,rfl,rfl,ha,hb,hz,q⟩:=h
  by_cases hx:xs=[]
  · subst hx
    cases rx
    cases ry
    obtain ⟨its,r1,p1,_⟩:=I.tuple (SqT.of ha)
    obtain ⟨its2,r2,p2,_⟩:=I.tuple (SqT.of hb)
    exact qji p1 p2 (r1.nil_iff.mpr rfl) ⟨.ref b,H,I,rfl,q b H (Same.refl H) hb⟩
  · refine qi8 pins s σ H _ _ v u Q I rx ry ⟨a,b,xs,ys,rfl,rfl,SqT.of ha,SqT.of hb,hx,hz,fun e=>?_,fun _ p hp=>q p _ (qaA hp _) qai⟩
    subst e
    exact q a H (Same.refl H) (by rw [List.append_nil];exact ha)
def qnp:R2:=fun x y H Q=>∃ (a:Addr) (k:Int) (xs:List V),x=.ref a∧y=.int k∧H a=some (.tup xs)∧xs≠[]∧0≤k∧k≤1000∧k.toNat*xs.length≤1000∧∀ p H',Same H H'→H' p=some (.tup (List.replicate k.toNat xs).flatten)→Q (.ref p) H'
theorem qjM {X:Cx}:OpR X (binaryOp .Mult) qnp:=by
  intro pins s σ H x y v u Q I rx ry h
  obtain ⟨a,k,xs,rfl,rfl,ha,hx,h0,h1,hz,q⟩:=h
  cases rx
  obtain ⟨t,rfl⟩:=ry
  obtain ⟨its,r,p1,_⟩:=I.tuple (SqT.of ha)
  have hne:its≠[]:=fun z=>hx (r.nil_iff.mp z)
  have hl:=r.length
  have hits:its.toArray.isEmpty=false:=by cases its with | nil=>exact absurd rfl hne | cons _ _=>rfl
  obtain ⟨⟨cls,dd,data,sl⟩,ho,hc,n,hd⟩:=id p1
  simp only at hc hd
  subst hc hd
  refine wpAny_binaryOp_repeat_ref (T:="tuple") (U:="int") (by decide) ⟨_,ho,rfl⟩ (fun s'=>typeIs_int s' k t) qcx F.fills_int_mul F.slot_int_rmul qd2 F.slot_int_index.lookup
    (call_meets F.slot_int_rmul (typeIs_int s k t) F.entry_int_rmul (F.args_int_rmul_2 _ _) (qdb k t a its.toArray n dd sl)
      ⟨ho,rfl,⟨_,ho,rfl⟩,?_⟩)
  have hnew:List.foldl (fun x1 x2=>x1++x2) #[] (List.replicate k.toNat its.toArray)=(List.replicate k.toNat its).flatten.toArray:=by
    have:=qdc its k.toNat []
    rw [List.nil_append] at this
    exact this
  have hc0:¬ (decide (k < -(2 ^ 63)) || decide (k≥2 ^ 63))=true:=by
    rw [decide_eq_false (by omega),decide_eq_false (by omega)]
    exact Bool.false_ne_true
  by_cases c1:k=1
  · subst c1
    refine call_meets F.slot_tuple_mul ⟨_,ho,rfl⟩ F.entry_tuple_mul (F.args_tuple_mul_2 _ _) (qfk a its.toArray n dd sl t) ⟨ho,?_⟩
    refine ⟨.ref a,H,I,rfl,q a H (Same.refl H) ?_⟩
    show H a=some (.tup (List.replicate 1 xs).flatten)
    rw [List.replicate_one,List.flatten_cons,List.flatten_nil,List.append_nil]
    exact ha
  · have hc1:¬ (its.toArray.isEmpty || k == 1)=true:=by
      rw [hits,beq_eq_false_iff_ne.mpr c1]
      exact Bool.false_ne_true
    have lay:∀ ys:List V,∀ us:List Value,ys.length≤sizeLine→Vals ys us→EP X pins σ Q (.ref s.heap.objs.size) { s with heap:=s.heap.push { cls:=Value.type "tuple",data:=Data.seq us.toArray },toks:=s.toks }∨¬ (∀ p H',Same H H'→H' p=some (.tup ys)→Q (.ref p) H'):=fun ys us hzz rr=>by
      by_cases qq:∀ p H',Same H H'→H' p=some (.tup ys)→Q (.ref p) H'
      · refine .inl ⟨.ref s.heap.objs.size,_,I.laid (t':=s.toks) (o:=.tup ys) (fun b ob z=>Heap.get?_push_of_some _ z) (Nat.le_refl _) ?_,rfl,qq _ _ (qaA (I.hok.fresh (Nat.le_refl _)) _) qai⟩
        exact ⟨hzz,_,rr,IsTupD.new _ _⟩
      · exact .inr qq
    by_cases c0:k=0
    · subst c0
      refine call_meets F.slot_tuple_mul ⟨_,ho,rfl⟩ F.entry_tuple_mul (F.args_tuple_mul_2 _ _) (qe1 a its.toArray n dd sl 0 t hc0 hc1 rfl) ⟨ho,?_⟩
      rcases lay [] [] (Nat.zero_le _) .nil with z | z
      · exact z
      · exact absurd q z
    · have hc2:¬ (decide (k≤0) || its.toArray.isEmpty)=true:=by
        rw [hits,decide_eq_false (by omega)]
        exact Bool.false_ne_true
      have hlen:its.length*k.toNat≤1000:=by rw [← hl,Nat.mul_comm];exact hz
      have hlenI:(its.toArray.size:Int)*k≤1000:=by
        rw [List.size_toArray]
        have e:k=((k.toNat:Nat):Int):=by omega
        rw [e]
        exact_mod_cast hlen
      have hs:(1000:Int)≤((sizeLine:Nat):Int):=by exact_mod_cast qfc (Nat.le_refl 1000)
      have hflat:(List.replicate k.toNat its).flatten.length≤1000:=by rw [qfd,Nat.mul_comm];exact hlen
      refine call_meets F.slot_tuple_mul ⟨_,ho,rfl⟩ F.entry_tuple_mul (F.args_tuple_mul_2 _ _) (qe9 a its.toArray n dd sl k t hc0 hc1 hc2 (by omega) (by unfold Builtin.Tuple.tupleTooMany;rw [decide_eq_false (by omega)];exact Bool.false_ne_true) (by rw [hnew,List.size_toArray];exact qfc hflat)) ⟨ho,?_⟩
      rw [hnew]
      rcases lay (List.replicate k.toNat xs).flatten (List.replicate k.toNat its).flatten (by rw [qfd];exact qfc hz) (r.rep k.toNat) with z | z
      · exact z
      · exact absurd q z
end L2
namespace L2
open PySem PySem.Spec PyProof.Rows
section
variable {K : PySem.W.Frag} {X : Cx} {e a b c : Expr} {es : List Expr} {pos : Pos} {t ta tb : TD} {tf : TDL} {tl : TDL} {tt tu : TDB}
def qoD:RD2:=fun x y R=>match x,y with
  | .int i,.int j=>R (.int (i+j))
  | .str i,.str j=>i.length+j.length≤sizeLine∧R (.str (i++j))
  | .lst xs,.lst ys=>xs.length+ys.length≤sizeLine∧NF (xs++ys) fun zs=>R (.lst zs)
  | .tup xs,.tup ys=>xs.length+ys.length≤sizeLine∧NF (xs++ys) fun zs=>R (.tup zs)
  | _,_=>False
theorem qb3:OpD K X (binaryOp .Add) qoD:=⟨fun hK pins s σ H x y v u Q I rx ry hq0=>by
  obtain ⟨Φ,dx,dy,R,sm,hx,hy,h,k⟩:=hq0
  cases dx with
  | int i =>
    cases dy with
    | int j=>cases hx.int;cases hy.int;exact ql5 pins s σ H _ _ v u Q I rx ry ⟨i,j,rfl,rfl,k _ Φ H _ h (.refl sm) (.int _)⟩
    | _=>exact h.elim
  | str i =>
    cases dy with
    | str j=>cases hx.str;cases hy.str;exact qgj pins s σ H _ _ v u Q I rx ry ⟨i,j,rfl,rfl,h.1,k _ Φ H _ h.2 (.refl sm) (.str _)⟩
    | _=>exact h.elim
  | lst xs =>
    cases dy with
    | lst ys =>
      obtain ⟨a,vs,rfl,h1,h2⟩:=hx.lst sm
      obtain ⟨b,ws,rfl,h3,h4⟩:=hy.lst sm
      exact qkv pins s σ H _ _ v u Q I rx ry ⟨a,b,vs,ws,rfl,rfl,h1,h3,by rw [h2.1,h4.1];exact h.1,fun p hp=>k _ _ _ _ h.2.get (.new sm hp _) (((h2.append h4).same (qaA (sm.free hp) _)).lst qai)⟩
    | _=>exact h.elim
  | tup xs =>
    cases dy with
    | tup ys =>
      obtain ⟨a,vs,rfl,h1,h1',h2⟩:=hx.tup sm
      obtain ⟨b,ws,rfl,h3,h3',h4⟩:=hy.tup sm
      exact qjv pins s σ H _ _ v u Q I rx ry ⟨a,b,vs,ws,rfl,rfl,sm _ _ h1',sm _ _ h3',by rw [h2.1,h4.1];exact h.1,fun p H' s' q=>by
        obtain ⟨Φ',g,q'⟩:=Gr.adoptT sm s' q
        exact k _ Φ' H' _ h.2.get g (((h2.append h4).same g.f).tup q')⟩
    | _=>exact h.elim
  | _=>exact h.elim⟩
def zI (C:Int→Int→Prop) (g:Int→Int→D):RD2:=fun x y R=>match x,y with | .int i,.int j=>C i j∧R (g i j) | _,_=>False
def zI0 (g:Int→Int→D):RD2:=fun x y R=>match x,y with | .int i,.int j=>R (g i j) | _,_=>False
theorem qil {f:Value→Value→Sem Value} {C:Int→Int→Prop} {g:Int→Int→Int} (h:OpR X f (rI C fun i j=>.int (g i j))):OpD K X f (zI C fun i j=>.int (g i j)) :=
  ⟨fun hK pins s σ H x y v u Q I rx ry hq0=>by
    obtain ⟨Φ,dx,dy,R,sm,hx,hy,q,k⟩:=hq0
    cases dx with
    | int i =>
      cases dy with
      | int j=>cases hx.int;cases hy.int;exact h pins s σ H _ _ v u Q I rx ry ⟨i,j,rfl,rfl,q.1,k _ Φ H _ q.2 (.refl sm) (.int _)⟩
      | _=>exact q.elim
    | _=>exact q.elim⟩
theorem qli {f:Value→Value→Sem Value} {g:Int→Int→Int} (h:OpR X f (rI0 fun i j=>.int (g i j))):OpD K X f (zI0 fun i j=>.int (g i j)) :=
  ⟨fun hK pins s σ H x y v u Q I rx ry hq0=>by
    obtain ⟨Φ,dx,dy,R,sm,hx,hy,q,k⟩:=hq0
    cases dx with
    | int i =>
      cases dy with
      | int j=>cases hx.int;cases hy.int;exact h pins s σ H _ _ v u Q I rx ry ⟨i,j,rfl,rfl,k _ Φ H _ q (.refl sm) (.int _)⟩
      | _=>exact q.elim
    | _=>exact q.elim⟩
theorem qhm {f:Value→Value→Sem Value} {g:Int→Int→Bool} (h:OpR X f (rI0 fun i j=>.bl (g i j))):OpD K X f (zI0 fun i j=>.bl (g i j)) :=
  ⟨fun hK pins s σ H x y v u Q I rx ry hq0=>by
    obtain ⟨Φ,dx,dy,R,sm,hx,hy,q,k⟩:=hq0
    cases dx with
    | int i =>
      cases dy with
      | int j=>cases hx.int;cases hy.int;exact h pins s σ H _ _ v u Q I rx ry ⟨i,j,rfl,rfl,k _ Φ H _ q (.refl sm) (.bl _)⟩
      | _=>exact q.elim
    | _=>exact q.elim⟩
theorem qgv:OpD K X (binaryOp .Sub) (zI0 fun i j=>.int (i - j)):=qli qkD
theorem qkR:OpD K X (binaryOp .FloorDiv) (zI CDivB fun i j=>.int (i / j)):=qil qip
theorem qgs:OpD K X (binaryOp .Mod) (zI (fun _ j=>0<j) fun i j=>.int (i % j)):=qil qk5
theorem qk7:OpD K X (binaryOp .Pow) (zI qnB fun i j=>.int (i ^ j.toNat)):=qil qlb
theorem qkj:OpD K X (compareOp .Lt) (zI0 fun i j=>.bl (decide (i<j))):=qhm qmm
theorem qkn:OpD K X (compareOp .Gt) (zI0 fun i j=>.bl (decide (j<i))):=qhm qmZ
theorem qlz:OpD K X (compareOp .GtE) (zI0 fun i j=>.bl (decide (j≤i))):=qhm qnu
def qnV:RD2:=fun x y R=>match x,y with
  | .int i,.int j=>IntMulOk i j∧R (.int (i*j))
  | .lst xs,.int k=>(-(2 ^ 63)≤k∧k<2 ^ 63∧xs.length*k.toNat≤sizeLine)∧NF (List.replicate k.toNat xs).flatten fun zs=>R (.lst zs)
  | .tup xs,.int k=>(xs≠[]∧0≤k∧k≤1000∧k.toNat*xs.length≤1000)∧NF (List.replicate k.toNat xs).flatten fun zs=>R (.tup zs)
  | .str z,.int k=>(-(2 ^ 62)≤k∧k<2 ^ 62∧z.length*k.toNat≤sizeLine∧z.length≤sizeLine)∧NF (qha z k.toNat) fun y=>R (.str y)
  | _,_=>False
theorem qgu:OpD K X (binaryOp .Mult) qnV:=⟨fun hK pins s σ H x y v u Q I rx ry hq0=>by
  obtain ⟨Φ,dx,dy,R,sm,hx,hy,h,k⟩:=hq0
  cases dx with
  | int i =>
    cases dy with
    | int j=>cases hx.int;cases hy.int;exact qjD pins s σ H _ _ v u Q I rx ry ⟨i,j,rfl,rfl,h.1,k _ Φ H _ h.2 (.refl sm) (.int _)⟩
    | _=>exact h.elim
  | lst xs =>
    cases dy with
    | int j =>
      obtain ⟨a,vs,rfl,h1,h2⟩:=hx.lst sm
      cases hy.int
      exact qlt pins s σ H _ _ v u Q I rx ry ⟨a,j,vs,rfl,rfl,h1,h.1.1,h.1.2.1,by rw [h2.1];exact h.1.2.2,fun p hp=>k _ _ _ _ h.2.get (.new sm hp _) (((h2.rep _).same (qaA (sm.free hp) _)).lst qai)⟩
    | _=>exact h.elim
  | tup xs =>
    cases dy with
    | int j =>
      obtain ⟨a,vs,rfl,h1,h1',h2⟩:=hx.tup sm
      cases hy.int
      have hne:vs≠[]:=fun e=>h.1.1 (List.length_eq_zero_iff.mp (by rw [← h2.1,e];rfl))
      exact qjM pins s σ H _ _ v u Q I rx ry ⟨a,j,vs,rfl,rfl,sm _ _ h1',hne,h.1.2.1,h.1.2.2.1,by rw [h2.1];exact h.1.2.2.2,fun p H' s' q=>by
        obtain ⟨Φ',g,q'⟩:=Gr.adoptT sm s' q
        exact k _ Φ' H' _ h.2.get g (((h2.rep _).same g.f).tup q')⟩
    | _=>exact h.elim
  | str z =>
    cases dy with
    | int j =>
      cases hx.str
      cases hy.int
      exact qjT pins s σ H _ _ v u Q I rx ry ⟨z,j,rfl,rfl,h.1.1,h.1.2.1,h.1.2.2.1,h.1.2.2.2,k _ Φ H _ h.2.get (.refl sm) (.str _)⟩
    | _=>exact h.elim
  | _=>exact h.elim⟩
end
def cmL (f:D→D→Option Bool):List D→List D→Option Bool
  | [],[]=>some true
  | x::xs,y::ys=>(f x y).bind fun b=>(cmL f xs ys).map (b && ·)
  | _,_=>some false
def cmB:Nat→D→D→Option Bool
  | _,.int i,.int j=>some (i == j)
  | _,.bl i,.bl j=>some (i == j)
  | _,.str i,.str j=>some (i == j)
  | _,.non,.non=>some true
  | n+1,.tup xs,.tup ys=>cmL (cmB n) xs ys
  | n+1,.lst xs,.lst ys=>if xs.length=ys.length then cmL (cmB n) xs ys else some false
  | _,_,_=>none
theorem qc8 {f:D→D→Option Bool}:∀ {xs ys:List D} {b:Bool},cmL f xs ys=some b→∃ g:Nat→Bool,(∀ (j:Nat) (x y:D),xs[j]?=some x→ys[j]?=some y→f x y=some (g j))∧b=((List.range (min xs.length ys.length)).all g && xs.length == ys.length)
  | [],[],b,h=>by cases h;exact ⟨fun _=>true,fun j x y hx=>by simp at hx,by simp⟩
  | [],_::_,b,h=>by cases h;exact ⟨fun _=>true,fun j x y hx=>by simp at hx,by simp⟩
  | _::_,[],b,h=>by cases h;exact ⟨fun _=>true,fun j x y _ hy=>by simp at hy,by simp⟩
  | x::xs,y::ys,b,h=>by
    unfold cmL at h
    cases e:f x y with
    | none=>rw [e] at h;cases h
    | some c =>
      cases e2:cmL f xs ys with
      | none=>rw [e,e2] at h;cases h
      | some c2 =>
        rw [e,e2] at h
        cases h
        obtain ⟨g,h1,h2⟩:=qc8 e2
        refine ⟨fun j=>match j with | 0=>c | j+1=>g j,fun j u v hu hv=>?_,?_⟩
        · cases j with
          | zero=>cases hu;cases hv;exact e
          | succ j=>exact h1 j u v hu hv
        · have em:min (x::xs).length (y::ys).length=min xs.length ys.length+1:=by simp only [List.length_cons];omega
          have el:((x::xs).length == (y::ys).length)=(xs.length == ys.length):=by simp
          rw [em,el,List.range_succ_eq_map,List.all_cons,List.all_map,h2,Bool.and_assoc]
          rfl
section
variable {K : PySem.W.Frag} {X : Cx} {pins : List (Addr × Obj)} {σ : St} {Φ H : Hp} {s : Shared}
theorem qkq {n:Nat} {g:Nat→Bool} (h:∀ j,j<n→g j=true):(List.range n).all g=true:=by
  rw [List.all_eq_true]
  intro j hj
  exact h j (List.mem_range.mp hj)
theorem qaH {α:Type} {xs:List α} {j:Nat} (h:j<xs.length):xs[j]?=some xs[j]:=by simp [h]
theorem qgT (hK:X.K=K) (I:Inv X pins σ H s) (sm:Same Φ H):∀ (n:Nat) {d e:D} {b:Bool} {v:V},cmB n d e=some b→Rp K Φ d v→Rp K Φ e v→b=true:=by
  intro n
  induction n with
  | zero =>
    intro d e b v h r1 r2
    cases r1 with
    | int i=>cases r2;have h':some (i == i)=some b:=h;cases h';simp
    | bl i=>cases r2;have h':some (i == i)=some b:=h;cases h';simp
    | str i=>cases r2;have h':some (i == i)=some b:=h;cases h';simp
    | non=>cases r2;cases h;rfl
    | tup _ _ _=>cases r2 <;> cases h
    | lst _ _ _=>cases r2 <;> cases h
    | fzl _ _ _=>cases r2 <;> cases h
    | obj _ _ _ _=>cases r2 <;> cases h
    | map _ _ _=>cases r2 <;> cases h
    | exc0 _ _=>cases r2 <;> cases h
    | exc1 _ _ _ _=>cases r2 <;> cases h
  | succ n ih =>
    intro d e b v h r1 r2
    cases r1 with
    | int i=>cases r2;have h':some (i == i)=some b:=h;cases h';simp
    | bl i=>cases r2;have h':some (i == i)=some b:=h;cases h';simp
    | str i=>cases r2;have h':some (i == i)=some b:=h;cases h';simp
    | non=>cases r2;cases h;rfl
    | @tup a vs xs h1 h2 h3=>cases r2 with
      | @tup _ ws ys k1 k2 k3 =>
        have hvw:vs=ws:=I.tuple_inj (.of (sm _ _ h1)) (.of (sm _ _ k1))
        subst hvw
        obtain ⟨g,hg,hb⟩:=qc8 (show cmL (cmB n) xs ys=some b from h)
        rw [hb,qkq fun j hj=>?_]
        · simp;omega
        · have j0:j<vs.length:=by omega
          have j1:j<xs.length:=by omega
          have j2:j<ys.length:=by omega
          exact ih (hg j _ _ (qaH j1) (qaH j2)) (h3 j _ _ (qaH j0) (qaH j1)) (k3 j _ _ (qaH j0) (qaH j2))
      | _=>cases h
    | @lst a vs xs h1 h2 h3=>cases r2 with
      | @lst _ ws ys k1 k2 k3 =>
        have hvw:vs=ws:=by rw [h1] at k1;cases k1;rfl
        subst hvw
        have h':(if xs.length=ys.length then cmL (cmB n) xs ys else some false)=some b:=h
        rw [if_pos (by omega)] at h'
        obtain ⟨g,hg,hb⟩:=qc8 h'
        rw [hb,qkq fun j hj=>?_]
        · simp;omega
        · have j0:j<vs.length:=by omega
          have j1:j<xs.length:=by omega
          have j2:j<ys.length:=by omega
          exact ih (hg j _ _ (qaH j1) (qaH j2)) (h3 j _ _ (qaH j0) (qaH j1)) (k3 j _ _ (qaH j0) (qaH j2))
      | _=>cases h
    | fzl _ _ _=>cases r2 <;> cases h
    | obj _ _ _ _=>cases r2 <;> cases h
    | map _ _ _=>cases r2 <;> cases h
    | exc0 _ _=>cases r2 <;> cases h
    | exc1 _ _ _ _=>cases r2 <;> cases h
open PySem.SeqAt in
theorem qgF {n:Nat} {d e:D} {b:Bool} {x y:V} (h:cmB n d e=some b) (rx:Rp K Φ d x) (ry:Rp K Φ e y) (hf:(∀ a,x≠.ref a)) {A:Around} {u v:Value} (ru:RelV x u) (rv:RelV y v):EqAt A s u v b∧RcAt A s u v b∧RcNeAt A s u v (!b):=by
  cases rx with
  | int i=>cases ry with
    | int j =>
      obtain ⟨t,rfl⟩:=ru;obtain ⟨t',rfl⟩:=rv
      have h':some (i == j)=some b:=by cases n <;> exact h
      cases h'
      exact ⟨EqAt.int_int i t j t',RcAt.int_int i t j t',RcNeAt.int_int i t j t'⟩
    | _=>cases n <;> cases h
  | bl i=>cases ry with
    | bl j =>
      cases ru;cases rv
      have h':some (i == j)=some b:=by cases n <;> exact h
      cases h'
      exact ⟨EqAt.bool_bool i j,RcAt.bool_bool i j,RcNeAt.bool_bool i j⟩
    | _=>cases n <;> cases h
  | str i=>cases ry with
    | str j =>
      obtain ⟨t,rfl⟩:=ru;obtain ⟨t',rfl⟩:=rv
      have h':some (i == j)=some b:=by cases n <;> exact h
      cases h'
      exact ⟨EqAt.str_str i t j t',RcAt.str_str i t j t',RcNeAt.str_str i t j t'⟩
    | _=>cases n <;> cases h
  | non=>cases ry with
    | non =>
      cases ru;cases rv
      have h':some true=some b:=by cases n <;> exact h
      cases h'
      exact ⟨EqAt.same _,RcAt.none_none,RcNeAt.none_none⟩
    | _=>cases n <;> cases h
  | tup _ _ _=>exact absurd rfl (hf _)
  | lst _ _ _=>exact absurd rfl (hf _)
  | fzl _ _ _=>exact absurd rfl (hf _)
  | obj _ _ _ _=>exact absurd rfl (hf _)
  | map _ _ _=>exact absurd rfl (hf _)
  | exc0 _ _=>exact absurd rfl (hf _)
  | exc1 _ _ _ _=>exact absurd rfl (hf _)
open PySem.SeqAt in
theorem qiA (hK:X.K=K) (I:Inv X pins σ H s) (sm:Same Φ H):∀ (n:Nat) {d e:D} {b:Bool} {x y:V},cmB n d e=some b→Rp K Φ d x→Rp K Φ e y →
    ∀ (A:Around) (u v:Value),A.units+n<cLine→RelV x u→RelV y v→EqAt A s u v b∧RcAt A s u v b∧RcNeAt A s u v (!b):=by
  intro n
  induction n with
  | zero =>
    intro d e b x y h rx ry A u v hu ru rv
    refine qgF h rx ry (fun a ea=>?_) ru rv
    subst ea
    cases rx <;> cases ry <;> cases h
  | succ n ih =>
    intro d e b x y h rx ry A u v hu ru rv
    by_cases hf:∀ a,x≠.ref a
    · exact qgF h rx ry hf ru rv
    have hu':A.units<cLine:=by omega
    cases rx with
    | int i=>exact absurd (fun a e=>nomatch e) hf
    | bl i=>exact absurd (fun a e=>nomatch e) hf
    | str i=>exact absurd (fun a e=>nomatch e) hf
    | non=>exact absurd (fun a e=>nomatch e) hf
    | @tup a vs xs h1 h2 h3=>cases ry with
      | @tup c ws ys k1 k2 k3 =>
        cases ru;cases rv
        obtain ⟨g,hg,hb⟩:=qc8 (show cmL (cmB n) xs ys=some b from h)
        obtain ⟨its,r1,p1,_⟩:=I.sqb (b:=false) (show SqT X.K H a vs from .of (sm _ _ h1))
        obtain ⟨its',r2,p2,_⟩:=I.sqb (b:=false) (show SqT X.K H c ws from .of (sm _ _ k1))
        have l1:=Vals.length r1
        have l2:=Vals.length r2
        have he:∀ j (j1:j<its.toArray.size) (j2:j<its'.toArray.size),EqAt A.in1 s its.toArray[j] its'.toArray[j] (g j):=by
          intro j j1 j2
          simp only [List.size_toArray] at j1 j2
          obtain ⟨x,hx,rx⟩:=Vals.get' r1 j1
          obtain ⟨y,hy,ry⟩:=Vals.get' r2 j2
          have i1:j<xs.length:=by omega
          have i2:j<ys.length:=by omega
          exact (ih (hg j _ _ (qaH i1) (qaH i2)) (h3 j x _ hx (qaH i1)) (k3 j y _ hy (qaH i2)) A.in1 _ _ (by show A.units+1+n<cLine;omega) rx ry).1
        have R:=RcAt.tuples (e:=g) p1 p2 hu' he
        have R':=RcNeAt.tuples (e:=g) p1 p2 hu' he
        have et:((List.range (min its.toArray.size its'.toArray.size)).all g && its.toArray.size == its'.toArray.size)=b:=by
          rw [hb]
          simp only [List.size_toArray]
          rw [← l1,← l2,h2,k2]
        rw [et] at R R'
        refine ⟨?_,R,R'⟩
        by_cases hab:a=c
        · subst hab
          rw [qgT hK I sm (n+1) h (.tup h1 h2 h3) (.tup k1 k2 k3)];exact EqAt.same _
        · exact EqAt.of_refs hab R
      | _=>cases h
    | @lst a vs xs h1 h2 h3=>cases ry with
      | @lst c ws ys k1 k2 k3 =>
        cases ru;cases rv
        have h':(if xs.length=ys.length then cmL (cmB n) xs ys else some false)=some b:=h
        obtain ⟨its,r1,p1,_⟩:=I.sqb (b:=true) (show SqL X.K H a vs from SqL.of (sm _ _ h1))
        obtain ⟨its',r2,p2,_⟩:=I.sqb (b:=true) (show SqL X.K H c ws from SqL.of (sm _ _ k1))
        have l1:=Vals.length r1
        have l2:=Vals.length r2
        have fin:RcAt A s (.ref a) (.ref c) b∧RcNeAt A s (.ref a) (.ref c) (!b):=by
          by_cases hl:xs.length=ys.length
          · rw [if_pos hl] at h'
            obtain ⟨g,hg,hb⟩:=qc8 h'
            have he:∀ j (j1:j<its.toArray.size) (j2:j<its'.toArray.size),EqAt A.in1 s its.toArray[j] its'.toArray[j] (g j):=by
              intro j j1 j2
              simp only [List.size_toArray] at j1 j2
              obtain ⟨x,hx,rx⟩:=Vals.get' r1 j1
              obtain ⟨y,hy,ry⟩:=Vals.get' r2 j2
              have i1:j<xs.length:=by omega
              have i2:j<ys.length:=by omega
              exact (ih (hg j _ _ (qaH i1) (qaH i2)) (h3 j x _ hx (qaH i1)) (k3 j y _ hy (qaH i2)) A.in1 _ _ (by show A.units+1+n<cLine;omega) rx ry).1
            have hsz:its.toArray.size=its'.toArray.size:=by simp;omega
            have R:=RcAt.lists (e:=g) p1 p2 hsz hu' he
            have R':=RcNeAt.lists (e:=g) p1 p2 hsz hu' he
            have et:(List.range its.toArray.size).all g=b:=by
              have e1:min xs.length ys.length=its.length:=by omega
              have e2:(xs.length == ys.length)=true:=by simp [hl]
              rw [hb,e1,e2,Bool.and_true,List.size_toArray]
            rw [et] at R R'
            exact ⟨R,R'⟩
          · rw [if_neg hl] at h'
            cases h'
            have hsz:(its.toArray.size != its'.toArray.size)=true:=by simp;omega
            exact ⟨RcAt.lists_lengths p1 p2 hsz hu',RcNeAt.lists_lengths p1 p2 hsz hu'⟩
        refine ⟨?_,fin.1,fin.2⟩
        by_cases hab:a=c
        · subst hab
          rw [qgT hK I sm (n+1) h (.lst h1 h2 h3) (.lst k1 k2 k3)];exact EqAt.same _
        · exact EqAt.of_refs hab fin.1
      | _=>cases h
    | fzl _ _ _=>cases ry <;> cases h
    | obj _ _ _ _=>cases ry <;> cases h
    | map _ _ _=>cases ry <;> cases h
    | exc0 _ _=>cases ry <;> cases h
    | exc1 _ _ _ _=>cases ry <;> cases h
end
def zEq:RD2:=fun x y R=>match cmB 40 x y with | some b=>R (.bl b) | none=>False
def zNe:RD2:=fun x y R=>match cmB 40 x y with | some b=>R (.bl (!b)) | none=>False
section
variable {K : PySem.W.Frag} {X : Cx}
theorem RpQ.any {Φ H:Hp} {d:D} {v:V} (h:RpQ K Φ H d v) (s:Same Φ H):Rp K H d v:=by
  rcases h with h | ⟨a,vs,ds,e,e2,h1,h2⟩
  · exact h.same s
  · subst e e2;exact (h2.same s).lst h1
theorem qb6 (hu:X.A.units+64<cLine):OpD K X (compareOp .Eq) zEq:=⟨fun hK pins s σ H x y u v Q I rx ry hq0=>by
  obtain ⟨Φ,dx,dy,R,sm,hx,hy,h,k⟩:=hq0
  unfold zEq at h
  split at h
  · next b hb=>exact (qiA hK I (Same.refl H) 40 hb (hx.any sm) (hy.any sm) X.A u v (by omega) rx ry).2.1 X.prog X.w _ _ ⟨.bl b,H,I,rfl,k _ Φ H _ h (.refl sm) (.bl b)⟩
  · exact h.elim⟩
theorem qmL (hu:X.A.units+64<cLine):OpD K X (compareOp .NotEq) zNe:=⟨fun hK pins s σ H x y u v Q I rx ry hq0=>by
  obtain ⟨Φ,dx,dy,R,sm,hx,hy,h,k⟩:=hq0
  unfold zNe at h
  split at h
  · next b hb=>exact (qiA hK I (Same.refl H) 40 hb (hx.any sm) (hy.any sm) X.A u v (by omega) rx ry).2.2 X.prog X.w _ _ ⟨.bl (!b),H,I,rfl,k _ Φ H _ h (.refl sm) (.bl _)⟩
  · exact h.elim⟩
def qie:D→Bool
  | .non=>true
  | _=>false
def zIs (neg:Bool):RD2:=fun x y R=>match y with | .non=>R (.bl (qie x != neg)) | .bl b=>(match x with | .bl a=>R (.bl ((a == b) != neg)) | _=>False) | _=>False
theorem qhx {Φ H:Hp} {d:D} {v:V} (h:RpQ K Φ H d v):decide (v=V.non)=qie d:=by
  cases d with
  | int i=>rw [h.int];rfl
  | bl i=>rw [h.bl];rfl
  | str i=>rw [h.str];rfl
  | non=>rw [h.non];rfl
  | tup ds => rcases h with h | ⟨a, vs, ds, e, _⟩
              · cases h;rfl
              · cases e
  | lst ds => rcases h with h | ⟨a, vs, ds, e, e2, _⟩
              · cases h;rfl
              · rw [e2];rfl
  | fzl ds => rcases h with h | ⟨a, vs, ds, e, _⟩
              · cases h;rfl
              · cases e
  | obj C fs => rcases h with h | ⟨a, vs, ds, e, _⟩
                · cases h;rfl
                · cases e
  | map kvs => rcases h with h | ⟨a, vs, ds, e, _⟩
               · cases h;rfl
               · cases e
  | exc _ _ => rcases h with h | ⟨a, vs, ds, e, _⟩
               · cases h <;> rfl
               · cases e
theorem qng:OpD K X (compareOp .Is) (zIs false):=⟨fun hK pins s σ H x y u v Q I rx ry hq0=>by
  obtain ⟨Φ,dx,dy,R,sm,hx,hy,h,k⟩:=hq0
  cases dy with
  | non =>
    cases hy.non
    refine qkw pins s σ H _ _ u v Q I rx ry ⟨rfl,?_⟩
    rw [qhx hx]
    have h':R (.bl (qie dx != false)):=h
    rw [Bool.bne_false] at h'
    exact k _ Φ H _ h' (.refl sm) (.bl _)
  | bl b =>
    cases hy.bl
    cases dx with
    | bl a =>
      cases hx.bl
      have h':R (.bl ((a == b) != false)):=h
      rw [Bool.bne_false] at h'
      exact qku pins s σ H _ _ u v Q I rx ry ⟨a,b,rfl,rfl,k _ Φ H _ h' (.refl sm) (.bl _)⟩
    | _=>exact h.elim
  | _=>exact h.elim⟩
theorem qdW:OpD K X (compareOp .IsNot) (zIs true):=⟨fun hK pins s σ H x y u v Q I rx ry hq0=>by
  obtain ⟨Φ,dx,dy,R,sm,hx,hy,h,k⟩:=hq0
  cases dy with
  | non =>
    cases hy.non
    refine qjt pins s σ H _ _ u v Q I rx ry ⟨rfl,?_⟩
    rw [qhx hx]
    have h':R (.bl (qie dx != true)):=h
    rw [Bool.bne_true] at h'
    exact k _ Φ H _ h' (.refl sm) (.bl _)
  | bl b =>
    cases hy.bl
    cases dx with
    | bl a =>
      cases hx.bl
      have h':R (.bl ((a == b) != true)):=h
      rw [Bool.bne_true] at h'
      exact qjq pins s σ H _ _ u v Q I rx ry ⟨a,b,rfl,rfl,k _ Φ H _ h' (.refl sm) (.bl _)⟩
    | _=>exact h.elim
  | _=>exact h.elim⟩
end
end L2
namespace HT
open PySem PySem.Spec PyProof.Rows
theorem getItem_tuple_all {prog:Program} {w:World} {A:Around} {E:Value→Shared→Prop} {s:Shared} {t sl:Addr} {items:Array Value} {vl vu:Value} {lo hi:Option Int} {Q:Value→Shared→Prop} (ht:IsTup s.heap t items) (hs:s.heap.IsSliceOf sl vl vu .none) (pl:IsPart vl lo) (pu:IsPart vu hi)
    (hw:sIx items.size 0 lo=0∧sIx items.size items.size hi=items.size) (h:Q (.ref t) s):wpAny (model prog w) A (getItem (.ref t) (.ref sl)) Q E s:=by
  obtain ⟨os,hos,hcs,hds⟩:=id hs
  have hTs:s.TypeIs (.ref sl) "slice":=⟨os,hos,hcs⟩
  unfold getItem
  try with_reducible refine wpAny_holding ?_
  first | refine wpAny_bind (wpAny_pure ?_) | skip
  refine wpAny_bind (wpAny_sequenceKey ht.typeIs (by decide) ?_)
  refine wpAny_bind (wpAny_callSpecial?_slot (name:=Str.ofString "__getitem__") ht.typeIs PyProof.Rows.slot_tuple_getitem
    (wpAny_call_entry PyProof.Rows.slot_tuple_getitem ht.typeIs entry_tuple_getitem ?_ (args_tuple_getitem _ _)))
  show wpAny _ _ (Builtin.Tuple.tupleItemsOf (.ref t) >>= _) _ _ s
  refine wpAny_bind (tupleItemsOf_ ht ?_)
  refine wpAny_bind (wpAny_typeOf hTs ?_)
  rw [if_pos (by decide)]
  refine wpAny_bind (qbM hs pl pu ?_)
  have hyes:(((sIx items.size 0 lo:Nat):Int) == 0 && (1:Int) == 1 && (sIx items.size items.size hi - sIx items.size 0 lo) == items.size)=true:=by
    rw [hw.1,hw.2]
    simp
  show wpAny _ _ (if (((sIx items.size 0 lo:Nat):Int) == 0 && (1:Int) == 1 && (sIx items.size items.size hi - sIx items.size 0 lo) == items.size)=true then _ else _) _ _ s
  rw [if_pos hyes]
  refine wpAny_bind (show wpAny _ _ (typeOf (.ref t) >>= fun c=>pure (c == .type "tuple")) _ _ s from wpAny_bind (wpAny_typeOf ht.typeIs (wpAny_pure ?_)))
  rw [if_pos (by decide)]
  exact wpAny_bind (wpAny_rule (wpAny_pure ⟨_,rfl,wpAny_pure h⟩))
end HT
namespace L2
open PySem PySem.Spec PyProof.Rows
section
variable {K : PySem.W.Frag} {X : Cx} {e a b c : Expr} {es : List Expr} {pos p2 : Pos} {t ta tb : TD} {tf : TDL} {tl : TDL} {tt tu : TDB}
def zIx:RD2:=fun x y R=>match y with
  | .int i=>(match x with
    | .lst ds=>∃ d,atI ds i=some d∧R d
    | .tup ds=>∃ d,atI ds i=some d∧R d
    | .fzl ds=>∃ d,atI ds i=some d∧R d
    | .str z=>z.length≤sizeLine∧∃ c,atI z.cps.toList i=some c∧R (.str ⟨#[c]⟩)
    | _=>False)
  | _=>False
theorem qjL {Φ:Hp} {ds:List D} {vs:List V} {d:D} {i:Int} (h:RpL K Φ ds vs) (e:atI ds i=some d):∃ v,atI vs i=some v∧Rp K Φ d v:=by
  unfold atI at e ⊢
  rw [h.1]
  cases hj:ixN ds.length i with
  | none=>rw [hj] at e;cases e
  | some j =>
    rw [hj,Option.bind_some] at e
    rw [Option.bind_some]
    exact h.at e
theorem qnH (hK:X.K=K):IxR X (lR2 K zIx):=by
  intro value slice pins s σ H x y v u Q I rx ry ⟨Φ,dx,dy,R,sm,hx,hy,h,k⟩ hs
  cases dy with
  | int i =>
    cases hy.int
    cases dx with
    | lst ds =>
      obtain ⟨d,h1,h2⟩:=h
      obtain ⟨a,vs,rfl,q1,q2⟩:=hx.lst sm
      obtain ⟨w,hw,rw'⟩:=qjL q2 h1
      exact qhd value slice pins s σ H _ _ v u Q I rx ry ⟨a,vs,i,w,rfl,rfl,.of q1,hw,k _ Φ H _ h2 (.refl sm) rw'⟩ hs
    | tup ds =>
      obtain ⟨d,h1,h2⟩:=h
      obtain ⟨a,vs,rfl,q1,_,q2⟩:=hx.tup sm
      obtain ⟨w,hw,rw'⟩:=qjL q2 h1
      exact ql7 value slice pins s σ H _ _ v u Q I rx ry ⟨a,vs,i,w,rfl,rfl,hK ▸ q1,hw,k _ Φ H _ h2 (.refl sm) rw'⟩ hs
    | fzl ds =>
      obtain ⟨d,h1,h2⟩:=h
      obtain ⟨a,vs,rfl,q1,q2⟩:=hx.fzl sm
      obtain ⟨w,hw,rw'⟩:=qjL q2 h1
      exact qhd value slice pins s σ H _ _ v u Q I rx ry ⟨a,vs,i,w,rfl,rfl,hK ▸ q1,hw,k _ Φ H _ h2 (.refl sm) rw'⟩ hs
    | str z =>
      obtain ⟨h0,c,h1,h2⟩:=h
      cases hx.str
      exact qlV value slice pins s σ H _ _ v u Q I rx ry ⟨z,i,c,rfl,rfl,h0,h1,k _ Φ H _ h2 (.refl sm) (.str _)⟩ hs
    | _=>exact h.elim
  | _=>exact h.elim
theorem qaZ (ha:PQ K X a ta) (hb:PQ K X b tb) (hs:qfl b):PD K X (.Subscript a b pos) (dOp zIx ta tb) :=
  ⟨fun hK=>(qlx (qnH hK) (ha.pe hK) (hb.pe hK) hs).imp fun _ _ _=>qd1⟩
abbrev TOD:=Rho→(Option Int→Prop)→Prop
def lO (K:PySem.W.Frag) (t:TOD):TO:=fun σ H Q=>∃ H0 Φ ρ R,EnvD K H0 Φ H σ ρ∧t ρ R∧∀ o Φ' H',R o→Gr Φ H Φ' H'→Q o H'
structure POD (K:PySem.W.Frag) (X:Cx) (e:Option Expr) (t:TOD):Prop where po:X.K=K→PO X e (lO K t)
def qno:TOD:=fun _ R=>R none
def qm9 (t:TD):TOD:=fun ρ R=>t ρ fun d=>match d with | .int i=>R (some i) | _=>False
theorem PO.imp {o:Option Expr} {t t':TO} (h:PO X o t) (k:∀ σ H Q,t' σ H Q→t σ H Q):PO X o t':=fun pins s σ H Q I hw=>h pins s σ H Q I (k σ H Q hw)
theorem qeD:POD K X none qno:=⟨fun _=>po_none.imp fun σ H Q hq0=>by obtain ⟨H0,Φ,ρ,R,E,t,k⟩:=hq0;exact k none Φ H t (.refl E.fz)⟩
theorem qeP (h:PQ K X e t):POD K X (some e) (qm9 t):=⟨fun hK=>(qjz (h.pe hK)).imp fun σ H Q hq0=>by obtain ⟨H0,Φ,ρ,R,E,t,k⟩:=hq0;exact ⟨H0,Φ,ρ,_,E,t,fun d Φ1 H1 v r g rv=>by
  cases d with
  | int i=>exact ⟨i,rv.int,k _ Φ1 H1 r g⟩
  | _=>exact r.elim⟩⟩
variable {lo hi : Option Expr} {to tp : TOD}
def qnO (K:PySem.W.Frag):V→Option Int→Option Int→Hp→VK→Prop:=fun x lo hi H Q=>∃ a xs,x=.ref a∧SqT K H a xs∧(HT.sIx xs.length 0 lo=0∧HT.sIx xs.length xs.length hi=xs.length)∧Q (.ref a) H
theorem sl_all:SlR X (qnO X.K):=by
  intro pins s σ H x v vl vu lo hi sl Q I rx hs pl pu h
  obtain ⟨a,xs,rfl,hx,hw,q⟩:=h
  cases rx
  obtain ⟨its,r,ht,hz⟩:=I.tuple hx
  have hlen:its.toArray.size=xs.length:=by rw [List.size_toArray];exact r.length.symm
  refine ⟨"tuple",_,PyProof.Rows.slot_tuple_getitem.lookup,ht.typeIs,?_⟩
  exact HT.getItem_tuple_all ht hs pl pu (by rw [hlen];exact hw) ⟨.ref a,H,I,rfl,q⟩
theorem qjo {α:Type} {xs:List α} {l h:Option Int} (hw:HT.sIx xs.length 0 l=0∧HT.sIx xs.length xs.length h=xs.length):qcm xs l h=xs:=by
  unfold qcm
  rw [hw.1,hw.2,List.drop_zero,Nat.sub_zero,List.take_length]
def zSl (x:D) (l h:Option Int) (R:D→Prop):Prop:=match x with
  | .lst ds=>NF (qcm ds l h) fun zs=>R (.lst zs)
  | .fzl ds=>NF (qcm ds l h) fun zs=>R (.lst zs)
  | .tup ds=>NF (qcm ds l h) fun zs=>R (.tup zs)
  | .str z=>z.length≤sizeLine∧NF (qlB z l h) fun y=>R (.str y)
  | _=>False
def dSl (t:TD) (to tp:TOD):TD:=fun ρ R=>t ρ fun x=>to ρ fun l=>tp ρ fun h=>zSl x l h R
theorem qle (ha:PQ K X a ta) (hl:POD K X lo to) (hh:POD K X hi tp):PD K X (.Subscript a (.Slice lo hi none p2) pos) (dSl ta to tp) :=
  ⟨fun hK=>(qic (hK ▸ sl_list.or (sl_tup.or (sl_all.or qlT)):SlR X (fun x lo hi H Q=>qnR K x lo hi H Q∨qnJ K x lo hi H Q∨qnO K x lo hi H Q∨qnI x lo hi H Q)) (ha.pe hK) (hl.po hK) (hh.po hK)).imp fun σ H Q hq0=>by obtain ⟨H0,Φ,ρ,R,E,t,k⟩:=hq0;exact
    ⟨H0,Φ,ρ,_,E,t,fun dx Φ1 H1 x t1 g1 rx=>⟨H0,Φ1,ρ,_,E.gr g1,t1,fun l Φ2 H2 t2 g2=>⟨H0,Φ2,ρ,_,(E.gr g1).gr g2,t2,fun h Φ3 H3 t3 g3=>by
      have g:=(g1.trans g2).trans g3
      have rx3:=rx.gr (g2.trans g3)
      cases dx with
      | lst ds =>
        obtain ⟨a,vs,rfl,q1,q2⟩:=rx3.lst g.s
        exact .inl ⟨a,vs,rfl,.of q1,fun p hp=>k _ _ _ _ t3.get (g.trans (.new g.s hp _)) (((q2.cut l h).same (qaA (g.s.free hp) _)).lst qai)⟩
      | fzl ds =>
        obtain ⟨a,vs,rfl,q1,q2⟩:=rx3.fzl g.s
        exact .inl ⟨a,vs,rfl,q1,fun p hp=>k _ _ _ _ t3.get (g.trans (.new g.s hp _)) (((q2.cut l h).same (qaA (g.s.free hp) _)).lst qai)⟩
      | tup ds =>
        obtain ⟨a,vs,rfl,q1,q0,q2⟩:=rx3.tup g.s
        by_cases hw:HT.sIx vs.length 0 l=0∧HT.sIx vs.length vs.length h=vs.length
        · refine .inr (.inr (.inl ⟨a,vs,rfl,q1,hw,?_⟩))
          have e:qcm ds l h=ds:=qjo (by rw [← q2.1];exact hw)
          have t4:=t3.get
          rw [e] at t4
          exact k _ _ _ _ t4 g (q2.tup q0)
        · exact .inr (.inl ⟨a,vs,rfl,q1,hw,fun p hp=>k _ _ _ _ t3.get (g.trans (.new g.s hp _)) (((q2.cut l h).same (qaA (g.s.free hp) _)).tup qai)⟩)
      | str z =>
        cases rx3.str
        exact .inr (.inr (.inr ⟨z,rfl,t3.1,k _ _ _ _ t3.2.get g (.str _)⟩))
      | _=>exact t3.elim⟩⟩⟩⟩
abbrev SpD:=List D→(D→Prop)→Prop
def lSp (K:PySem.W.Frag) (sp:SpD):Sp:=fun vs H Q _=>∃ Φ ds R,Same Φ H∧TabF K Φ∧RpL K Φ ds vs∧sp ds R∧∀ d Φ' H' v,R d→Gr Φ H Φ' H'→Rp K Φ' d v→Q v H'
def qhH (sp:SpD) (t:TDL):TD:=fun ρ R=>t ρ fun ds=>sp ds R
variable {CX : CXT} {k : Nat} {f : Addr} {fd : FuncData} {ps : List Str} {sp : SpD} {x : Str} {p : Pos} {E : XK}
theorem ql6 (F:FnOk X.prog X.w X.K X.mg X.base CX k f fd ps (lSp K sp)) (hr:Room k X.A) (hg:Gl X x) (hm:X.mg x=some (.ref f)) (hk:PySem.W.keepIn X.K (.ref f)=true) (hb:Binds X.K fd ps []) (hx:qcP CX X E)
    (ha:PAD K X (e::es) tl) (he:starEach (e::es) X.env=(false,eval e X.env)::starEach es X.env) (hpl:(backTo pos (starEach es X.env)).any (·.1)=false) (hdb:(x == ("__debug__":Str))=false:=by decide) :
    PD K X (.Call (.Name x p) (e::es) [] pos) (qhH sp tl) :=
  ⟨fun hK=>(qe3 F hr hg hm hk hb .nil hx (ha.pa hK) hdb he hpl).imp fun σ H Q hq0=>by obtain ⟨H0,Φ,ρ,R,E,t,k⟩:=hq0;exact ⟨H0,Φ,ρ,_,E,t,fun ds Φ1 H1 vs r g rl _=>⟨Φ1,ds,R,g.s,E.tb.same g.f,by rw [List.append_nil];exact rl,r,fun d Φ' H' v rd g' rv=>k d Φ' H' v rd (g.trans g') rv⟩⟩⟩
def qkY (K:PySem.W.Frag) (Φ H:Hp) (ds:List D) (vs:List V):Prop:=vs.length=ds.length∧∀ (i:Nat) (v:V) (d:D),vs[i]?=some v→ds[i]?=some d→RpQ K Φ H d v
def lAQ (K:PySem.W.Frag) (t:TDL):TA:=fun σ H Q=>∃ H0 Φ ρ R,EnvD K H0 Φ H σ ρ∧t ρ R∧∀ ds Φ' H' vs,R ds→Gr Φ H Φ' H'→qkY K Φ' H' ds vs→Q vs H'
structure PAQ (K:PySem.W.Frag) (X:Cx) (es:List Expr) (t:TDL):Prop where pa:X.K=K→PA X es (lAQ K t)
theorem qa4:PAQ K X [] qnk:=⟨fun _=>pa_nil.imp fun σ H Q hq0=>by obtain ⟨H0,Φ,ρ,R,E,t,k⟩:=hq0;exact k [] Φ H [] t (.refl E.fz) ⟨rfl,fun i v d hv _=>by simp at hv⟩⟩
theorem qaK (ha:PQ K X e t) (hr:PAQ K X es tl) (hs:starEach (e::es) X.env=(false,eval e X.env)::starEach es X.env):PAQ K X (e::es) (qlO t tl) :=
  ⟨fun hK=>(qa9 (ha.pe hK) (hr.pa hK) hs).imp fun σ H Q hq0=>by obtain ⟨H0,Φ,ρ,R,E,t,k⟩:=hq0;exact ⟨H0,Φ,ρ,_,E,t,fun d Φ1 H1 v r g rv=>⟨H0,Φ1,ρ,_,E.gr g,r,fun ds Φ2 H2 vs r2 g2 rl =>
    k _ Φ2 H2 _ r2 (g.trans g2) ⟨by simp [rl.1],fun i u d hu hd=>by
      cases i with
      | zero=>cases hu;cases hd;exact rv.gr g2
      | succ i=>exact rl.2 i u d hu hd⟩⟩⟩⟩
def lC (K:PySem.W.Frag) (r:SpD):List V→Hp→VK→Prop:=fun vs H Q=>∃ Φ ds R,Same Φ H∧qkY K Φ H ds vs∧r ds R∧∀ d Φ' H' v,R d→Gr Φ H Φ' H'→Rp K Φ' d v→Q v H'
structure CallD (K:PySem.W.Frag) (X:Cx) (f:Value) (r:SpD):Prop where c:X.K=K→qdF X f (lC K r)
theorem qaQ {id:String} {r:SpD} (hc:CallD K X (.builtin id) r) (hg:Gl X x) (hm:X.mg x=none) (hv:bootBuiltins x=some (.builtin id)) (ha:PAQ K X (e::es) tl)
    (he:starEach (e::es) X.env=(false,eval e X.env)::starEach es X.env) (hpl:(backTo pos (starEach es X.env)).any (·.1)=false) (hn:x≠"__name__":=by decide) (hdb:(x == ("__debug__":Str))=false:=by decide):PD K X (.Call (.Name x p) (e::es) [] pos) (qhH r tl) :=
  ⟨fun hK=>(qco (hc.c hK) hg hm hv (ha.pa hK) hn hdb he hpl).imp fun σ H Q hq0=>by obtain ⟨H0,Φ,ρ,R,E,t,k⟩:=hq0;exact ⟨H0,Φ,ρ,_,E,t,fun ds Φ1 H1 vs r g rl=>⟨Φ1,ds,R,g.s,rl,r,fun d Φ' H' v rd g' rv=>k d Φ' H' v rd (g.trans g') rv⟩⟩⟩
theorem qhN {T:String} {r:SpD} (hc:CallD K X (.type T) r) (hg:Gl X x) (hm:X.mg x=none) (hv:bootBuiltins x=some (.type T)) (ha:PAQ K X (e::es) tl)
    (he:starEach (e::es) X.env=(false,eval e X.env)::starEach es X.env) (hpl:(backTo pos (starEach es X.env)).any (·.1)=false) (hn:x≠"__name__":=by decide) (hdb:(x == ("__debug__":Str))=false:=by decide):PD K X (.Call (.Name x p) (e::es) [] pos) (qhH r tl) :=
  ⟨fun hK=>(qeK (hc.c hK) hg hm hv (ha.pa hK) hn hdb he hpl).imp fun σ H Q hq0=>by obtain ⟨H0,Φ,ρ,R,E,t,k⟩:=hq0;exact ⟨H0,Φ,ρ,_,E,t,fun ds Φ1 H1 vs r g rl=>⟨Φ1,ds,R,g.s,rl,r,fun d Φ' H' v rd g' rv=>k d Φ' H' v rd (g.trans g') rv⟩⟩⟩
theorem qdk {Φ H:Hp} {d:D} {vs:List V} (h:qkY K Φ H [d] vs):∃ v,vs=[v]∧RpQ K Φ H d v:=by
  obtain ⟨h1,h2⟩:=h
  match vs,h1,h2 with
  | [v],_,h2=>exact ⟨v,rfl,h2 0 v d rfl rfl⟩
theorem qld {Φ H:Hp} {d e:D} {vs:List V} (h:qkY K Φ H [d,e] vs):∃ v w,vs=[v,w]∧RpQ K Φ H d v∧RpQ K Φ H e w:=by
  obtain ⟨h1,h2⟩:=h
  match vs,h1,h2 with
  | [v,w],_,h2=>exact ⟨v,w,rfl,h2 0 v d rfl rfl,h2 1 w e rfl rfl⟩
def qnS:SpD:=fun ds R=>match ds with | [.lst xs]=>R (.int xs.length) | [.tup xs]=>R (.int xs.length) | [.fzl xs]=>R (.int xs.length) | [.str z]=>z.length≤sizeLine∧R (.int z.length) | _=>False
theorem qbF:CallD K X (.builtin "len") qnS:=⟨fun hK pins s σ H xs us Q I rr hq0=>by
  obtain ⟨Φ,ds,R,sm,hl,h,k⟩:=hq0
  match ds,h with
  | [.lst xs],h =>
    obtain ⟨v,rfl,r⟩:=qdk hl
    obtain ⟨a,vs,rfl,q1,q2⟩:=r.lst sm
    exact qbR pins s σ H _ us Q I rr ⟨a,vs,rfl,.inl (.of q1),by rw [q2.1];exact k _ Φ H _ h (.refl sm) (.int _)⟩
  | [.tup xs],h =>
    obtain ⟨v,rfl,r⟩:=qdk hl
    obtain ⟨a,vs,rfl,q1,_,q2⟩:=r.tup sm
    exact qbR pins s σ H _ us Q I rr ⟨a,vs,rfl,.inr (hK ▸ q1),by rw [q2.1];exact k _ Φ H _ h (.refl sm) (.int _)⟩
  | [.fzl xs],h =>
    obtain ⟨v,rfl,r⟩:=qdk hl
    obtain ⟨a,vs,rfl,q1,q2⟩:=r.fzl sm
    exact qbR pins s σ H _ us Q I rr ⟨a,vs,rfl,.inl (hK ▸ q1),by rw [q2.1];exact k _ Φ H _ h (.refl sm) (.int _)⟩
  | [.str z],h =>
    obtain ⟨v,rfl,r⟩:=qdk hl
    cases r.str
    exact qeA pins s σ H _ us Q I rr ⟨z,rfl,h.1,k _ Φ H _ h.2 (.refl sm) (.int _)⟩⟩
def qmR:SpD:=fun ds R=>match ds with | [.int i,.int j]=>R (.int (if j>i then j else i)) | _=>False
theorem qkB (hc:X.calm=true):CallD K X (.builtin "max") qmR:=⟨fun hK pins s σ H xs us Q I rr hq0=>by
  obtain ⟨Φ,ds,R,sm,hl,h,k⟩:=hq0
  match ds,h with
  | [.int i,.int j],h =>
    obtain ⟨v,w,rfl,r1,r2⟩:=qld hl
    cases r1.int
    cases r2.int
    exact qgL hc pins s σ H _ us Q I rr ⟨i,j,rfl,k _ Φ H _ h (.refl sm) (.int _)⟩⟩
def qlC:SpD:=fun ds R=>match ds with | [.lst xs]=>R (.tup xs) | [.tup xs]=>R (.tup xs) | [.fzl xs]=>R (.tup xs) | _=>False
theorem qfb:CallD K X (.type "tuple") qlC:=⟨fun hK pins s σ H xs us Q I rr hq0=>by
  obtain ⟨Φ,ds,R,sm,hl,h,k⟩:=hq0
  match ds,h with
  | [.lst xs],h =>
    obtain ⟨v,rfl,r⟩:=qdk hl
    obtain ⟨a,vs,rfl,q1,q2⟩:=r.lst sm
    exact qbG pins s σ H _ us Q I rr ⟨a,vs,rfl,.inl ⟨.of q1,fun p hp=>k _ _ _ _ h (.new sm hp _) ((q2.same (qaA (sm.free hp) _)).tup qai)⟩⟩
  | [.fzl xs],h =>
    obtain ⟨v,rfl,r⟩:=qdk hl
    obtain ⟨a,vs,rfl,q1,q2⟩:=r.fzl sm
    exact qbG pins s σ H _ us Q I rr ⟨a,vs,rfl,.inl ⟨hK ▸ q1,fun p hp=>k _ _ _ _ h (.new sm hp _) ((q2.same (qaA (sm.free hp) _)).tup qai)⟩⟩
  | [.tup xs],h =>
    obtain ⟨v,rfl,r⟩:=qdk hl
    obtain ⟨a,vs,rfl,q1,q3,q2⟩:=r.tup sm
    exact qbG pins s σ H _ us Q I rr ⟨a,vs,rfl,.inr ⟨hK ▸ q1,k _ Φ H _ h (.refl sm) (q2.tup q3)⟩⟩⟩
def qnE (d:D) (T:String):Option Bool:=match d with
  | .int _=>if T="int" then some true else if T="bool" then some false else if T="tuple" then some false else if T="str" then some false else none
  | .bl _=>if T="int" then some true else if T="bool" then some true else if T="tuple" then some false else none
  | .str _=>if T="str" then some true else if T="tuple" then some false else none
  | .tup _=>if T="tuple" then some true else if T="int" then some false else none
  | .lst _=>if T="tuple" then some false else if T="list" then some true else none
  | _=>none
end
structure SteadyD (K:PySem.W.Frag) (J:It) (Φ:Hp) (ds:List D):Prop where
  go:∀ i H,Same Φ H→i<ds.length→J.go i H
  yl:∀ i Φ2 H x H2 d,Same Φ Φ2→Same Φ2 H→ds[i]?=some d→J.yld i H x H2→∃ Φ3,Gr Φ2 H Φ3 H2∧Rp K Φ3 d x
  stop:∀ H,Same Φ H→J.stop ds.length H
section
variable {K : PySem.W.Frag} {Φ : Hp} {ds es : List D} {vs ws : List V} {a : Addr}
def qdd (lo:Int) (n:Nat):List D:=(List.range n).map fun i=>D.int (lo+(i:Nat))
theorem qaX (lo:Int) (n:Nat):(qdd lo n).length=n:=by unfold qdd;simp
theorem qbY {lo:Int} {n i:Nat} {d:D} (h:(qdd lo n)[i]?=some d):i<n∧d=.int (lo+(i:Nat)):=by
  have hi:i<n:=by have:=qal h;rwa [qaX] at this
  unfold qdd at h
  rw [List.getElem?_map,List.getElem?_range hi] at h
  cases h
  exact ⟨hi,rfl⟩
theorem qcs {lo:Int} {n:Nat}:SteadyD K (Itr lo n) Φ (qdd lo n) :=
  ⟨fun i H s hi=>by rw [qaX] at hi;exact hi,fun i Φ2 H x H2 d s2 s hd y=>by
    obtain ⟨e,y⟩:=y
    subst e y
    rw [(qbY hd).2]
    exact ⟨Φ2,.refl s,.int _⟩,fun H s=>by rw [qaX];exact Nat.le_refl n⟩
theorem Rp.pair {H:Hp} {t:Addr} {d e:D} {x y:V} (h:H t=some (.tup [x,y])) (r1:Rp K H d x) (r2:Rp K H e y):Rp K H (.tup [d,e]) (.ref t):=(RpL.cons r1 (.one r2)).tup h
def qkh (ds es:List D):List D:=List.zipWith (fun x y=>.tup [x,y]) ds es
theorem qfE (ds es:List D):(qkh ds es).length=min ds.length es.length:=by unfold qkh;simp
theorem qgI {i:Nat} {d:D} (h:(qkh ds es)[i]?=some d):∃ x y,ds[i]?=some x∧es[i]?=some y∧d=.tup [x,y]:=by
  unfold qkh at h
  rw [List.getElem?_zipWith] at h
  cases e:ds[i]? with
  | none=>rw [e] at h;cases h
  | some x =>
    cases e2:es[i]? with
    | none=>rw [e,e2] at h;cases h
    | some y=>rw [e,e2] at h;cases h;exact ⟨x,y,rfl,rfl,rfl⟩
theorem qfa {b1 b2:Bool} {a1 a2:Addr} (h1:SqB K b1 Φ a1 vs) (h2:SqB K b2 Φ a2 ws) (r1:RpL K Φ ds vs) (r2:RpL K Φ es ws):SteadyD K (Itz K b1 a1 b2 a2) Φ (qkh ds es) :=
  ⟨fun i H s hi=>by
    rw [qfE] at hi
    have i1:i<vs.length:=by rw [r1.1];omega
    have i2:i<ws.length:=by rw [r2.1];omega
    exact ⟨vs,ws,vs[i],ws[i],SqB.same s h1,SqB.same s h2,qaH i1,qaH i2⟩,fun i Φ2 H x H2 d s2 s hd y=>by
    obtain ⟨t,u,v,hn,e,e',y1,y2⟩:=y
    subst e e'
    obtain ⟨p,q,hp,hq,rfl⟩:=qgI hd
    have sn:=s2.trans (qaA (s.free hn) (.tup [u,v]))
    exact ⟨_,.new s hn _,.pair qai ((r1.2 i u p (y1 vs (SqB.same (s2.trans s) h1)) hp).same sn) ((r2.2 i v q (y2 ws (SqB.same (s2.trans s) h2)) hq).same sn)⟩,fun H s=>by
    rw [qfE]
    exact ⟨vs,ws,SqB.same s h1,SqB.same s h2,by rw [r1.1,r2.1];omega⟩⟩
end
def lI (K:PySem.W.Frag) (t:TDL):TI:=fun σ H R'=>∃ H0 Φ ρ R,EnvD K H0 Φ H σ ρ∧t ρ R∧∀ ds Φ' H' J,R ds→Gr Φ H Φ' H'→SteadyD K J Φ' ds→R' J H'
structure PID (K:PySem.W.Frag) (X:Cx) (tg e:Expr) (t:TDL):Prop where pi:X.K=K→PI X tg e (lI K t)
theorem PI.imp {X:Cx} {tg e:Expr} {t t':TI} (h:PI X tg e t) (k:∀ σ H R,t' σ H R→t σ H R):PI X tg e t':=fun pins s σ H R I hw=>h pins s σ H R I (k σ H R hw)
section
variable {K : PySem.W.Frag} {X : Cx} {tg e a b : Expr} {es : List Expr} {pos p tp : Pos} {t ta tb : TD} {tl : TDL}
theorem qfH {es:List Expr} {k:Nat} {t:TGs} {n:Nat} (hK:X.K=K) (hc:X.calm=true) (h:PGs X es t) (hn:(assignEach es X.env).length=n) (hst:(assignEach es X.env).findIdx? (·.1)=none):PG X (.Tuple es k pos) (qnb K n t):=hK ▸ qkM hc h hn hst
theorem qfM {es:List Expr} {k:Nat} {t:TGs} {n:Nat} (hK:X.K=K) (hc:X.calm=true) (h:PGs X es t) (hn:(assignEach es X.env).length=n) (hst:(assignEach es X.env).findIdx? (·.1)=none):PG X (.Tuple es k pos) (qmQ K n t):=hK ▸ qkH hc h hn hst
def qjW (t:TDL):TDL:=fun ρ R=>t ρ fun ds=>match ds with | [.int j]=>(-(2 ^ 62)≤j∧j<2 ^ 62)∧R (qdd 0 j.toNat) | _=>False
theorem RpL.one_inv {Φ:Hp} {d:D} {vs:List V} (h:RpL K Φ [d] vs):∃ v,vs=[v]∧Rp K Φ d v:=by
  obtain ⟨h1,h2⟩:=h
  match vs,h1,h2 with
  | [v],_,h2=>exact ⟨v,rfl,h2 0 v d rfl rfl⟩
theorem RpL.two_inv {Φ:Hp} {d e:D} {vs:List V} (h:RpL K Φ [d,e] vs):∃ v w,vs=[v,w]∧Rp K Φ d v∧Rp K Φ e w:=by
  obtain ⟨h1,h2⟩:=h
  match vs,h1,h2 with
  | [v,w],_,h2=>exact ⟨v,w,rfl,h2 0 v d rfl rfl,h2 1 w e rfl rfl⟩
theorem qd0 (hg:Gl X "range") (hm:X.mg "range"=none) (ha:PAD K X [a] tl) (hs:starEach [a] X.env=[(false,eval a X.env)]:=by rfl):PID K X tg (.Call (.Name "range" p) [a] [] pos) (qjW tl) :=
  ⟨fun hK=>(qeE hg hm (ha.pa hK) hs).imp fun σ H R' hq0=>by obtain ⟨H0,Φ,ρ,R,E,t,k⟩:=hq0;exact ⟨H0,Φ,ρ,_,E,t,fun ds Φ1 H1 vs r g rv _=>by
    match ds,r with
    | [.int j],r =>
      obtain ⟨v,rfl,r1⟩:=rv.one_inv
      cases r1
      exact ⟨j,rfl,r.1.1,r.1.2,k _ Φ1 H1 _ r.2 g qcs⟩⟩⟩
end
abbrev TGD:=D→Rho→(Rho→Prop)→Prop
abbrev qiD:=List D→Rho→(Rho→Prop)→Prop
def lG (K:PySem.W.Frag) (g:TGD):TG:=fun v σ H Q=>∃ H0 Φ ρ d R,EnvD K H0 Φ H σ ρ∧Rp K Φ d v∧g d ρ R∧∀ ρ' σ',R ρ'→EnvD K H0 Φ H σ' ρ'→Q σ' H
def lGs (K:PySem.W.Frag) (g:qiD):TGs:=fun vs σ H Q=>∃ H0 Φ ρ ds R,EnvD K H0 Φ H σ ρ∧RpL K Φ ds vs∧g ds ρ R∧∀ ρ' σ',R ρ'→EnvD K H0 Φ H σ' ρ'→Q σ' H
structure PGD (K:PySem.W.Frag) (X:Cx) (e:Expr) (g:TGD):Prop where pg:X.K=K→PG X e (lG K g)
structure PGDs (K:PySem.W.Frag) (X:Cx) (es:List Expr) (g:qiD):Prop where pg:X.K=K→PGs X es (lGs K g)
theorem PG.imp {X:Cx} {e:Expr} {t t':TG} (h:PG X e t) (k:∀ v σ H Q,t' v σ H Q→t v σ H Q):PG X e t':=fun pins s σ H v u Q I r hw=>h pins s σ H v u Q I r (k v σ H Q hw)
theorem PGs.imp {X:Cx} {e:List Expr} {t t':TGs} (h:PGs X e t) (k:∀ v σ H Q,t' v σ H Q→t v σ H Q):PGs X e t':=fun pins s σ H v u Q I r hw=>h pins s σ H v u Q I r (k v σ H Q hw)
section
variable {K : PySem.W.Frag} {X : Cx} {e : Expr} {es : List Expr} {pos : Pos} {g : TGD} {gs : qiD}
def qok (i:Nat):TGD:=fun d ρ R=>R (ρ.set i (some (.v d)))
theorem qiM {i:Nat} {x:Str} (hN:X.N.Nodup) (hi:X.N[i]?=some x) (hx:Loc X.env.scope x) (hf:X.fn x=true∨X.env.scope.names.lookup x=some .local:=by first | exact .inl rfl | exact .inr rfl | assumption):PGD K X (.Name x pos) (qok i) :=
  ⟨fun _=>(qhf hN hi hx hf).imp fun v σ H Q hq0=>by obtain ⟨H0,Φ,ρ,d,R,E,r,g,k⟩:=hq0;exact k _ _ g (E.set r i)⟩
def qmx:qiD:=fun ds ρ R=>match ds with | []=>R ρ | _=>False
def qkx (t:TGD) (u:qiD):qiD:=fun ds ρ R=>match ds with | d::r=>t d ρ fun ρ'=>u r ρ' R | []=>False
theorem qkW:PGDs K X [] qmx:=⟨fun _=>pgs_nil.imp fun v σ H Q hq0=>by
  obtain ⟨H0,Φ,ρ,ds,R,E,r,g,k⟩:=hq0
  cases ds with
  | nil=>exact ⟨List.length_eq_zero_iff.mp r.1,k _ _ g E⟩
  | cons=>exact g.elim⟩
theorem qhr (h1:PGD K X e g) (h2:PGDs K X es gs) (hs:(assignEach (e::es) X.env).map (·.2)=assign e X.env::(assignEach es X.env).map (·.2):=by rfl):PGDs K X (e::es) (qkx g gs) :=
  ⟨fun hK=>(qfF (h1.pg hK) (h2.pg hK) hs).imp fun vs σ H Q hq0=>by
    obtain ⟨H0,Φ,ρ,ds,R,E,r,g,k⟩:=hq0
    cases ds with
    | nil=>exact g.elim
    | cons d ds =>
      cases vs with
      | nil=>exact absurd r.1 (by simp)
      | cons v vs =>
        refine ⟨v,vs,rfl,H0,Φ,ρ,d,_,E,r.2 0 v d rfl rfl,g,fun ρ' σ' g' E'=>⟨H0,Φ,ρ',ds,R,E',⟨by have:=r.1;simpa using this,fun i u f hu hf=>r.2 (i+1) u f hu hf⟩,g',k⟩⟩⟩
end
theorem qeV {α:Type} {o:Option (Option α)} {x:α} (h:o.join=some x):o=some (some x):=by
  cases o with
  | none=>cases h
  | some o=>cases o with
    | none=>cases h
    | some y=>cases h;rfl
section
variable {K : PySem.W.Frag} {X : Cx} {tg iter elt : Expr} {ifs : List Expr} {scope : Scope} {pos : Pos} {N' : List Str} {cap : List (Option Nat)} {ti : TDL} {g : TGD} {tc : TDB} {te : TD}
end
structure EndsD where
  nx:Rho→Prop
  rt:D→Prop
  bk:Rho→Prop:=fun _=>False
  ct:Rho→Prop:=fun _=>False
abbrev TSD:=EndsD→Rho→Prop
def EnK (K:PySem.W.Frag) (Φ0 H0:Hp) (P:Rho→Prop) (Q:St→Hp→Prop):Prop:=∀ ρ' Φ' H' σ',P ρ'→Gr Φ0 H0 Φ' H'→EnvD K H0 Φ' H' σ' ρ'→Q σ' H'
structure EndOk (K:PySem.W.Frag) (Φ0 H0:Hp) (De:EndsD) (E:Ends):Prop where
  nx:EnK K Φ0 H0 De.nx E.nx
  rt:∀ d Φ' H' v,De.rt d→Gr Φ0 H0 Φ' H'→Rp K Φ' d v→E.rt v H'
  bk:EnK K Φ0 H0 De.bk E.bk
  ct:EnK K Φ0 H0 De.ct E.ct
def lS (K:PySem.W.Frag) (t:TSD):TS:=fun E σ H=>∃ Φ0 H0 Φ ρ De,Gr Φ0 H0 Φ H∧EnvD K H0 Φ H σ ρ∧t De ρ∧EndOk K Φ0 H0 De E
structure PSD (K:PySem.W.Frag) (X:Cx) (st:Stmt) (t:TSD):Prop where ps:X.K=K→PS X st (lS K t)
structure PSsD (K:PySem.W.Frag) (X:Cx) (st:List Stmt) (t:TSD):Prop where ps:X.K=K→PSs X st (lS K t)
section
variable {K : PySem.W.Frag} {X : Cx} {st : Stmt} {rest : List Stmt} {t u : TSD} {e a : Expr} {te : TD} {tf : TDL} {pos : Pos} {tt : TDB}
def qmP:TSD:=fun De ρ=>De.nx ρ
def qox (t u:TSD):TSD:=fun De ρ=>t { De with nx:=u De } ρ
def qn7 (t u:TSD):TSD:=fun De ρ=>∃ I:Rho→Prop,t { De with nx:=I } ρ∧∀ ρ',I ρ'→u De ρ'
theorem qfu:PSsD K X [] qmP:=⟨fun _=>pss_nil.imp fun E σ H hq0=>by obtain ⟨Φ0,H0,Φ,ρ,De,g,V,t,k⟩:=hq0;exact k.nx ρ Φ H σ t g V⟩
theorem qiZ (h1:PSD K X st t) (h2:PSsD K X rest u):PSsD K X (st::rest) (qox t u):=⟨fun hK=>(qc0 (h1.ps hK) (h2.ps hK)).imp fun E σ H hq0=>by obtain ⟨Φ0,H0,Φ,ρ,De,g,V,t,k⟩:=hq0;exact
  ⟨Φ0,H0,Φ,ρ,_,g,V,t,⟨fun ρ' Φ' H' σ' t' g' V'=>⟨Φ0,H0,Φ',ρ',De,g',V',t',k⟩,k.rt,k.bk,k.ct⟩⟩⟩
theorem qgf (h1:PSD K X st t) (h2:PSsD K X rest u):PSsD K X (st::rest) (qn7 t u):=⟨fun hK=>(qc0 (h1.ps hK) (h2.ps hK)).imp fun E σ H hq0=>by obtain ⟨Φ0,H0,Φ,ρ,De,g,V,⟨I,t,c⟩,k⟩:=hq0;exact
  ⟨Φ0,H0,Φ,ρ,_,g,V,t,⟨fun ρ' Φ' H' σ' t' g' V'=>⟨Φ0,H0,Φ',ρ',De,g',V',c ρ' t',k⟩,k.rt,k.bk,k.ct⟩⟩⟩
theorem qcY (h1:PSD K X st t):PSsD K X [st] t:=⟨fun hK=>qe5 (h1.ps hK)⟩
def qk1:TSD:=fun _ _=>False
theorem qfg:PSD K X st qk1:=⟨fun _=>ps_never.imp fun E σ H hq0=>by obtain ⟨Φ0,H0,Φ,ρ,De,g,V,t,k⟩:=hq0;exact t⟩
def qoI (te:TD):TSD:=fun De ρ=>te ρ De.rt
theorem qec (he:PD K X e te):PSD K X (.Return (some e) pos) (qoI te) :=
  ⟨fun hK=>(qi4 (he.pe hK)).imp fun E σ H hq0=>by obtain ⟨Φ0,H0,Φ,ρ,De,g,V,t,k⟩:=hq0;exact ⟨H0,Φ,ρ,_,V,t,fun d Φ1 H1 v r g1 rv=>k.rt d Φ1 H1 v r (g.trans g1) rv⟩⟩
def sIf (c:TDB) (t u:TSD):TSD:=fun De ρ=>c ρ fun b=>(b=true→t De ρ)∧(b=false→u De ρ)
theorem qjN {c:Expr} {a b:List Stmt} (hc:PTD K X c tt) (ha:PSsD K X a t) (hb:PSsD K X b u):PSD K X (.If c a b pos) (sIf tt t u) :=
  ⟨fun hK=>(qkF (hc.pt hK) (ha.ps hK) (hb.ps hK)).imp fun E σ H hq0=>by obtain ⟨Φ0,H0,Φ,ρ,De,g,V,t,k⟩:=hq0;exact ⟨H0,Φ,ρ,_,V,t,fun c Φ1 H1 r g1=>by
    cases c with
    | true=>refine qmb ?_;exact ⟨Φ0,H0,Φ1,ρ,De,g.trans g1,V.gr g1,r.1 rfl,k⟩
    | false=>refine qmc ?_;exact ⟨Φ0,H0,Φ1,ρ,De,g.trans g1,V.gr g1,r.2 rfl,k⟩⟩⟩
def qoc (ti:TDL) (gd:TGD) (tb:TSD):TSD:=fun De ρ=>ti ρ fun ds=>∃ I:Nat→Rho→Prop,I 0 ρ∧(∀ i d ρ',ds[i]?=some d→I i ρ'→gd d ρ' fun ρ2=>tb { De with nx:=I (i+1),ct:=I (i+1),bk:=De.nx } ρ2)∧∀ ρ',I ds.length ρ'→De.nx ρ'
theorem qmj {tg iter:Expr} {body:List Stmt} {ti:TDL} {gd:TGD} {tb:TSD} (hp:PassesOwn (model X.prog X.w) X.A X.env X.xe) (hc:X.calm=true) (hi:PID K X tg iter ti) (hg:PGD K X tg gd) (hb:PSsD K X body tb)
    (hs:∀ x,foldedSetIterable iter X.env x=pure x:=by intro _;rfl):PSD K X (.For tg iter body [] pos) (qoc ti gd tb) :=
  ⟨fun hK=>(qiX hp hc (hi.pi hK) (hg.pg hK) (hb.ps hK) hs).imp fun E σ H hq0=>by
    obtain ⟨Φ0,H0,Φ,ρ,De,g,V,t,k⟩:=hq0
    refine ⟨H0,Φ,ρ,_,V,t,fun ds Φ1 H1 J hq1 g1 S=>?_⟩
    obtain ⟨I,h0,hst,hend⟩:=hq1
    refine ⟨fun i m σ H'=>m=ds.length - i∧i≤ds.length∧∃ Φ' ρ',Gr Φ0 H0 Φ' H'∧Same Φ1 Φ'∧EnvD K H0 Φ' H' σ ρ'∧I i ρ',⟨ds.length,by simp,Nat.zero_le _,Φ1,ρ,g.trans g1,Same.refl _,V.gr g1,h0⟩,?_⟩
    rintro i m σ' H' ⟨rfl,hi,Φ',ρ',g',s',V',hI⟩
    by_cases hlt:i<ds.length
    · refine .inr ⟨S.go i H' (s'.trans V'.fz) hlt,fun σ2 H2=>∃ Φ' ρ',Gr Φ0 H0 Φ' H2∧Same Φ1 Φ'∧EnvD K H0 Φ' H2 σ2 ρ'∧I (i+1) ρ',fun σ2 H2 h2=>⟨ds.length - (i+1),by omega,rfl,hlt,h2⟩,fun x H2 y=>?_⟩
      obtain ⟨Φ3,g3,rx⟩:=S.yl i Φ' H' x H2 _ s' V'.fz (qaH hlt) y
      refine ⟨H0,Φ3,ρ',_,_,V'.gr g3,rx,hst i _ ρ' (qaH hlt) hI,fun ρ2 σ3 t2 V3=>?_⟩
      refine ⟨Φ3,H0,Φ3,ρ2,_,?_,V3,t2,⟨?_,?_,?_,?_⟩⟩
      · exact ⟨Same.refl _,(g'.trans g3).h,g3.s,fun p u hp hn _=>hn⟩
      · intro ρ4 Φ4 H4 σ4 t4 g4 V4
        exact ⟨Φ4,ρ4,(g'.trans g3).join g4,(s'.trans g3.f).trans g4.f,V4,t4⟩
      · intro d Φ4 H4 v r g4 rv
        exact k.rt d Φ4 H4 v r ((g'.trans g3).join g4) rv
      · intro ρ4 Φ4 H4 σ4 t4 g4 V4
        exact k.nx ρ4 Φ4 H4 σ4 t4 ((g'.trans g3).join g4) V4
      · intro ρ4 Φ4 H4 σ4 t4 g4 V4
        exact ⟨Φ4,ρ4,(g'.trans g3).join g4,(s'.trans g3.f).trans g4.f,V4,t4⟩
    · have e:i=ds.length:=by omega
      subst e
      exact .inl ⟨S.stop H' (s'.trans V'.fz),k.nx ρ' Φ' H' σ' (hend ρ' hI) g' V'⟩⟩
end
section
variable {K : PySem.W.Frag} {X : Cx} {tg iter elt e a : Expr} {ifs : List Expr} {scope : Scope} {pos py spos : Pos} {N' : List Str} {cap : List (Option Nat)} {ti : TDL} {g : TGD} {tc : TDB} {te ta tb : TD} {i : Nat} {y : Str}
end
def qdQ (N:List Str) (ds:List D):Rho:=ds.map (fun d=>some (.v d))++List.replicate (N.length - ds.length) none
theorem qhk {K:PySem.W.Frag} {Φ H:Hp} {N:List Str} {ds:List D} {vs:List V} (sm:Same Φ H) (tb:TabF K Φ) (r:RpL K Φ ds vs):EnvD K H Φ H (qca N vs) (qdQ N ds):=by
  have own:∀ {i:Nat} {x:Sl},(qdQ N ds)[i]?=some (some x)→∃ d,ds[i]?=some d∧x=.v d:=fun {i x} h=>by
    unfold qdQ at h
    rcases Nat.lt_or_ge i (ds.map fun d=>some (Sl.v d)).length with c | c
    · rw [List.getElem?_append_left c,List.getElem?_map] at h
      cases e:ds[i]? with
      | none=>rw [e] at h;cases h
      | some d=>rw [e] at h;cases h;exact ⟨d,rfl,rfl⟩
    · rw [List.getElem?_append_right c,List.getElem?_replicate] at h
      split at h
      · cases h
      · cases h
  refine ⟨sm,by unfold qca qdQ;simp [r.1],fun i d h=>?_,fun i es h=>?_,fun i j es fs p h=>?_,tb⟩
  · obtain ⟨d',h1,h2⟩:=own h
    cases h2
    obtain ⟨v,hv,rv⟩:=r.at h1
    refine ⟨v,?_,rv⟩
    unfold qca
    rw [List.getElem?_append_left (by rw [List.length_map];exact qal hv),List.getElem?_map,hv]
    rfl
  · obtain ⟨d',h1,h2⟩:=own h
    cases h2
  · obtain ⟨d',h1,h2⟩:=own h
    cases h2
section
variable {P : Program} {w : World} {K : PySem.W.Frag} {mg : Str → Option Value} {base : Heap}
theorem Fun.okD {x qual:Str} {st:Stmt} {f:Addr} {fd:FuncData} {N ps:List Str} {k:Nat} {sp:SpD} (F:Fun K x qual st f fd) (S:FnScope N ps (qae st)) (len:∀ ds R,sp ds R→ds.length=ps.length)
    (hbody:∀ (cdv:Value) (A:Around) (outer:List Env) (s:Shared) (H:Hp) (E:XK) (ds:List D) (R:D→Prop),Room k (A.deeper (envOfC qual (qae st) s.heap.objs.size f cdv))→sp ds R →
      ∃ t,PSsD K (qgy CX0 P w K mg base N qual (qae st) f cdv A outer s H E).nox (qay st) t∧t { nx:=fun _=>R .non,rt:=R } (qdQ N ds)):FnOk P w K mg base CX0 (k+1) f fd ps (lSp K sp):=by
  refine F.ok S (fun vs H Q E ⟨Φ,ds,R,sm,tb,rl,h,_⟩=>by rw [rl.1];exact len ds R h) (fun cdv A outer s H vs Q E hr ⟨Φ,ds,R,sm,tb,rl,h,kk⟩=>?_)
  obtain ⟨t,ht,hq⟩:=hbody cdv A outer s H E ds R hr h
  exact ⟨lS K t,ht.ps rfl,Φ,H,Φ,qdQ N ds,_,.refl sm,qhk sm tb rl,hq,⟨fun ρ' Φ' H' σ' r g V=>kk .non Φ' H' .non r g .non,kk,fun _ _ _ _ h=>h.elim,fun _ _ _ _ h=>h.elim⟩⟩
end
section
variable {K : PySem.W.Frag} {X : Cx} {tg e a b : Expr} {es : List Expr} {pos p tp : Pos} {t ta tb : TD} {tl : TDL}
theorem qjk {a b:Expr} {ta:TA} {es:List Expr} {k:Nat} (hK:X.K=K) (hg:Gl X "zip") (hm:X.mg "zip"=none) (ha:PA X [a,b] ta) (hs:starEach [a,b] X.env=[(false,eval a X.env),(false,eval b X.env)]) (hs2:starEach [b] X.env=[(false,eval b X.env)]) :
    PI X (.Tuple es k tp) (.Call (.Name "zip" p) [a,b] [] pos) (fun σ H R=>ta σ H fun vs H1=>∃ b1 b2 a1 a2 xs ys,vs=[.ref a1,.ref a2]∧SqB K b1 H1 a1 xs∧SqB K b2 H1 a2 ys∧R (Itz K b1 a1 b2 a2) H1):=by
  subst hK
  intro pins s σ H R I h
  refine Call_ (qev I hg hm boot_zip (PyProof.Rows.callWith_type1 (thn (ha pos pins s σ H _ I h) fun us s1 ⟨vs,H1,I1,r1,q1⟩=>?_) (by rw [hs,hs2]) (by rw [hs2];rfl)))
  obtain ⟨b1,b2,l1,l2,xs,ys,e,hq1,hq2,q⟩:=q1
  subst e
  cases r1 with
  | cons r rr =>
    cases rr with
    | cons r' rr =>
      cases rr
      cases r
      cases r'
      obtain ⟨its1,rv1,p1,_⟩:=I1.sqb hq1
      obtain ⟨its2,rv2,p2,_⟩:=I1.sqb hq2
      refine qia p1 p2 fun h' z1 z2 z3 z4 z5 hk=>wpAny_pyIter_zip z1 ?_
      have I2:Inv X pins σ H1 { s1 with heap:=h' }:=I1.kept (t':=s1.toks) hk
      have fr:∀ c,s1.heap.objs.size≤c→qfN X pins H1 c:=fun c hc=>I1.fpOk hc (I1.hok.fresh hc)
      generalize s1.heap.objs.size=n at *
      refine ⟨n+4,[n+4,n+2,n+3,n,n+1],_,_,H1,rfl,I2,qh2 b1 b2 l1 l2 (n+4) (n+2) (n+3) n (n+1) (zap n),⟨z1,z2,⟨_,_,z3⟩,z4,z5⟩,fun c hc=>fr c ?_,q⟩
      simp only [List.mem_cons,List.not_mem_nil,or_false] at hc
      rcases hc with rfl | rfl | rfl | rfl | rfl
      · exact Nat.le_add_right _ _
      · exact Nat.le_add_right _ _
      · exact Nat.le_add_right _ _
      · exact Nat.le_refl _
      · exact Nat.le_add_right _ _
def qmI (t:TDL):TDL:=fun ρ R=>t ρ fun ds=>match ds with | [d,e]=>∃ xs ys,qm5 d=some xs∧qm5 e=some ys∧R (qkh xs ys) | _=>False
theorem qkO {ets:List Expr} {ek:Nat} (hg:Gl X "zip") (hm:X.mg "zip"=none) (ha:PAD K X [a,b] tl) (hs:starEach [a,b] X.env=[(false,eval a X.env),(false,eval b X.env)]:=by rfl) (hs2:starEach [b] X.env=[(false,eval b X.env)]:=by rfl):PID K X (.Tuple ets ek tp) (.Call (.Name "zip" p) [a,b] [] pos) (qmI tl) :=
  ⟨fun hK=>(qjk hK hg hm (ha.pa hK) hs hs2).imp fun σ H R' hq0=>by obtain ⟨H0,Φ,ρ,R,E,t,k⟩:=hq0;exact ⟨H0,Φ,ρ,_,E,t,fun ds Φ1 H1 vs r g rv _=>by
    match ds,r with
    | [d,e],⟨xs,ys,hx,hy,r⟩ =>
      obtain ⟨v,w,rfl,r1,r2⟩:=rv.two_inv
      obtain ⟨q1,a1,ws,rfl,h1,h2⟩:=r1.seq hx
      obtain ⟨q2,a2,us,rfl,h3,h4⟩:=r2.seq hy
      exact ⟨q1,q2,a1,a2,ws,us,rfl,SqB.same g.s h1,SqB.same g.s h3,k _ Φ1 H1 _ r g (qfa h1 h3 h2 h4)⟩⟩⟩
variable {gs : qiD}
def qm1 (n:Nat) (t:qiD):TGD:=fun d ρ R=>match d with | .tup ds=>ds.length=n∧t ds ρ R | .lst ds=>ds.length=n∧t ds ρ R | _=>False
theorem PG.or {tg:Expr} {t t':TG} (h:PG X tg t) (h':PG X tg t'):PG X tg (fun v σ H Q=>t v σ H Q∨t' v σ H Q):=by
  intro pins s σ H v u Q I r hw
  rcases hw with hw | hw
  · exact h pins s σ H v u Q I r hw
  · exact h' pins s σ H v u Q I r hw
theorem qmG {k n:Nat} (hc:X.calm=true) (h:PGDs K X es gs) (hn:(assignEach es X.env).length=n:=by rfl) (hst:(assignEach es X.env).findIdx? (·.1)=none:=by rfl):PGD K X (.Tuple es k pos) (qm1 n gs) :=
  ⟨fun hK=>((qfH hK hc (h.pg hK) hn hst).or (qfM hK hc (h.pg hK) hn hst)).imp fun v σ H Q hq0=>by
    obtain ⟨H0,Φ,ρ,d,R,E,r,g,k⟩:=hq0
    cases d with
    | tup ds=>cases r with | tup h1 h2 h3=>exact .inl ⟨_,_,rfl,.of (E.fz _ _ h1),by rw [h2];exact g.1,H0,Φ,ρ,ds,R,E,⟨h2,h3⟩,g.2,k⟩
    | lst ds=>cases r with | lst h1 h2 h3=>exact .inr ⟨_,_,rfl,.of (E.fz _ _ h1),by rw [h2];exact g.1,H0,Φ,ρ,ds,R,E,⟨h2,h3⟩,g.2,k⟩
    | _=>exact g.elim⟩
theorem qkK {Φ H:Hp} {d:D} {v:V} {T:String} {r:Bool} (s:Same Φ H) (h:RpQ K Φ H d v) (e:qnE d T=some r):IsiV K H v T r:=by
  have sp:∀ {c:Prop} [Decidable c] {x:Bool} {y:Option Bool},(if c then some x else y)=some r→(c∧x=r)∨y=some r:=fun {c _ x y} h=>by
    by_cases hc:c
    · rw [if_pos hc] at h;cases h;exact .inl ⟨hc,rfl⟩
    · rw [if_neg hc] at h;exact .inr h
  cases d with
  | int i =>
    cases h.int
    rcases sp e with ⟨rfl,rfl⟩ | e
    · exact .int_int _
    rcases sp e with ⟨rfl,rfl⟩ | e
    · exact .int_bool _
    rcases sp e with ⟨rfl,rfl⟩ | e
    · exact .int_tuple _
    rcases sp e with ⟨rfl,rfl⟩ | e
    · exact .int_str _
    cases e
  | bl i =>
    cases h.bl
    rcases sp e with ⟨rfl,rfl⟩ | e
    · exact .bl_int _
    rcases sp e with ⟨rfl,rfl⟩ | e
    · exact .bl_bool _
    rcases sp e with ⟨rfl,rfl⟩ | e
    · exact .bl_tuple _
    cases e
  | str i =>
    cases h.str
    rcases sp e with ⟨rfl,rfl⟩ | e
    · exact .str_str _
    rcases sp e with ⟨rfl,rfl⟩ | e
    · exact .str_tuple _
    cases e
  | non=>cases e
  | tup ds =>
    obtain ⟨a,vs,rfl,h1,_,h2⟩:=h.tup s
    rcases sp e with ⟨rfl,rfl⟩ | e
    · exact .tup_tuple h1
    rcases sp e with ⟨rfl,rfl⟩ | e
    · exact .tup_int h1
    cases e
  | lst ds =>
    obtain ⟨a,vs,rfl,h1,h2⟩:=h.lst s
    rcases sp e with ⟨rfl,rfl⟩ | e
    · exact .lst_tuple (.of h1)
    rcases sp e with ⟨rfl,rfl⟩ | e
    · exact .lst_list (.of h1)
    cases e
  | fzl ds=>cases e
  | obj C fs=>cases e
  | map kvs=>cases e
  | exc _ _=>cases e
def qop (T:String) (t:TD):TD:=fun ρ R=>t ρ fun d=>∃ r,qnE d T=some r∧R (.bl r)
theorem qf9 {T:String} {tx:Str} {p2:Pos} (hg:Gl X "isinstance") (hm:X.mg "isinstance"=none) (ha:PQ K X a t) (hT:PE X (.Name tx p2) (tC (.ty T)))
    (he:starEach [a,.Name tx p2] X.env=(false,eval a X.env)::starEach [.Name tx p2] X.env) (he2:starEach [.Name tx p2] X.env=(false,eval (.Name tx p2) X.env)::starEach [] X.env):PD K X (.Call (.Name "isinstance" p) [a,.Name tx p2] [] pos) (qop T t) :=
  ⟨fun hK=>(qco (qgP hK) hg hm boot_isinstance (qa9 (ha.pe hK) (qa9 hT pa_nil he2) he) (by decide) (by decide) he (qaj he2 qaf)).imp fun σ H Q hq0=>by obtain ⟨H0,Φ,ρ,R,E,t,k⟩:=hq0;exact ⟨H0,Φ,ρ,_,E,t,fun d Φ1 H1 v r g rv=>by
    obtain ⟨rr,hr,r⟩:=r
    exact ⟨v,T,rr,rfl,qkK g.s rv hr,k _ Φ1 H1 _ r g (.bl _)⟩⟩⟩
end
theorem qiH {α:Type} {f:α→D} {ns:List α} {i:Nat} {n:α} {k:Int} (h:ns[i]?=some n) (e:k=(i:Int)):atI (ns.map f) k=some (f n):=qiI (by rw [List.getElem?_map,h];rfl) e
theorem qgz {ns:List Int} {k:Int} (h0:0≤k) (h:k<(ns.length:Int)):∃ v:Int,atI (ns.map D.int) k=some (.int v):=by
  have hk:k.toNat<ns.length:=by omega
  exact ⟨_,qiH (qaH hk) (by omega)⟩
def qiE:SpD:=fun ds R=>∃ ns:List Int,ds=[.fzl (ns.map D.int)]∧ns.length≤63∧R (.bl true)
def qlN (K:PySem.W.Frag):Sp:=fun vs H Q _=>∃ (a:Addr) (ns:List Int),vs=[.ref a]∧SqL K H a (ns.map V.int)∧ns.length≤63∧TabF K H∧∀ H',Q (.bl true) H'
theorem qhL {K:PySem.W.Frag}:∀ vs H Q E,qlN K vs H Q E→lSp K qiE vs H Q E:=by
  rintro vs H Q E ⟨a,ns,rfl,hS,hl,tb,q⟩
  refine ⟨H,[.fzl (ns.map D.int)],fun d=>d=.bl true,Same.refl _,tb,.one ((RpL.ints ns).fzl hS),⟨ns,rfl,hl,rfl⟩,fun d Φ' H' v r g rv=>?_⟩
  subst r
  cases rv
  exact q _
section
variable {K : PySem.W.Frag} {H H' Φ : Hp} {v : V} {vs : List V}
end
section
variable {g : TGD} {te : TD} {ρ : Rho} {R : List D → Prop}
end
end L2
namespace L2
theorem ff {p:Prop} (h:false=true):p:=by cases h
theorem tf {p:Prop} (h:true=false):p:=by cases h
end L2
namespace L2
end L2
namespace L2
theorem qjR {α:Type} (f:α→D) (es:List α) (d:α):es.map f++[f d]=(es++[d]).map f:=by simp
end L2
namespace L2
open PySem PySem.Spec PyProof.Rows
section
variable {g : TGD} {te : TD} {ρ : Rho} {R : List D → Prop}
end
section
variable {K : PySem.W.Frag} {X : Cx} {pins : List (Addr × Obj)} {σ : St} {Φ H : Hp} {s : Shared}
end
section
variable {K : PySem.W.Frag} {X : Cx} {a b : Expr} {ta tb : TD} {apos cpos : Pos}
end
section
variable {K : PySem.W.Frag} {X : Cx} {e b : Expr} {te tk : TD} {pos spos npos : Pos} {x : Str}
theorem qgJ (h:X.K=K):qmH X (qla K):=h ▸ qh5
end
section
variable {K : PySem.W.Frag} {X : Cx} {e a st : Expr} {pos p2 : Pos} {te : TE}
end
section
variable {K : PySem.W.Frag} {X : Cx} {a st : Expr} {pos p2 : Pos} {ta : TD} {to : TOD}
end
section
variable {K : PySem.W.Frag} {Φ Φ0 Φ1 H H0 H1 : Hp} {p : Addr} {d : D} {v : V} {ds : List D} {vs : List V}
end
section
variable {K : PySem.W.Frag} {X : Cx} {e : Expr} {te : TD} {pos pos' : Pos}
end
section
variable {K : PySem.W.Frag} {X : Cx} {Φ H : Hp} {a e : Expr} {es : List Expr} {ta : TD} {tl : TDL} {C : Addr} {fl : Str} {pos p : Pos}
theorem qez {g:Str} {d:D}:∀ {vs:List (Str × V)} {fs:List (Str × D)},vs.map (·.1)=fs.map (·.1)→(∀ (i:Nat) (v:Str × V) (e:Str × D),vs[i]?=some v→fs[i]?=some e→Rp K Φ e.2 v.2)→fs.lookup g=some d→∃ v,vs.lookup g=some v∧Rp K Φ d v
  | [],[],_,_,h=>by cases h
  | [],_::_,h,_,_=>by cases h
  | _::_,[],h,_,_=>by cases h
  | (x,v)::vs,(y,f)::fs,h,hr,hl=>by
    rw [List.map_cons,List.map_cons] at h
    obtain ⟨h1,h2⟩:=List.cons.inj h
    have h1:x=y:=h1
    subst h1
    rw [List.lookup_cons] at hl ⊢
    cases c:g == x with
    | true =>
      rw [c] at hl
      cases hl
      exact ⟨v,rfl,hr 0 _ _ rfl rfl⟩
    | false =>
      rw [c] at hl
      exact qez h2 (fun i u e hu he=>hr (i+1) u e hu he) hl
def qn4 (nm:Str) (f:Str) (t:TD):TD:=fun ρ R=>t ρ fun x=>match x with | .obj nm' fs=>nm'=nm∧∃ d,fs.lookup f=some d∧R d | _=>False
theorem qfq {te:TE} (hK:X.K=K) (he:PE X a te) (hb:attributeBase a fl X.env (eval a X.env)=eval a X.env):PE X (.Attribute a fl pos) (qnN K te fl):=hK ▸ qkG he hb
theorem qdB {nm:Str} (c:Cls K C) (nA:NoAttr K C fl) (hC:PySem.W.nsIn K mainGlobals nm=some (some (.ref C))) (ha:PQ K X a ta) (hb:attributeBase a fl X.env (eval a X.env)=eval a X.env:=by rfl):PD K X (.Attribute a fl pos) (qn4 nm fl ta) :=
  ⟨fun hK=>(qfq hK (ha.pe hK) hb).imp fun σ H Q hq0=>by obtain ⟨H0,Φ,ρ,R,E,t,k⟩:=hq0;exact ⟨H0,Φ,ρ,_,E,t,fun d Φ1 H1 v r g rv=>by
    cases d with
    | obj C' fs =>
      obtain ⟨rfl,d,hl,r⟩:=r
      rcases rv with rv | ⟨_,_,_,e,_⟩
      · cases rv with
        | obj h0 h1 h2 h3 =>
          rw [hC] at h0
          cases h0
          obtain ⟨v,hv,rd⟩:=qez h2 h3 hl
          exact ⟨_,_,_,_,v,rfl,g.s _ _ h1,c,nA,hv,k d Φ1 H1 v r g rd⟩
      · cases e
    | _=>exact r.elim⟩⟩
variable {CX : CXT} {k : Nat} {f : Addr} {fd : FuncData} {ps ns : List Str} {x : Str} {E : XK}
end
section
variable {prog : Program} {w : World} {A : Around} {E : Value → Shared → Prop} {s : Shared}
end
section
variable {K : PySem.W.Frag} {X : Cx} {a : Expr} {pos p p2 pos2 : Pos} {tl : TDL}
end
section
variable {X : Cx} {A : Around} {scope : Scope} {p : Str} {r : List Str} {cap : List (Option Nat)} {cl : List (Str × Addr)} {f c' : Addr} {qual name : Str} {cd pm ctv : Value} {pins : List (Addr × Obj)} {σ : St} {H : Hp} {s s1 : Shared} {v : V} {u : Value} {params : Arguments} {body : Expr} {te : TE} {Q : VK} {E : Value → Shared → Prop}
end
section
variable {X : Cx} {A : Around} {pins : List (Addr × Obj)} {σ : St} {H : Hp} {s : Shared} {params : Arguments} {body : Expr} {scope : Scope} {pos : Pos} {c P : Addr} {t0 : Tok} {Q : Value → Shared → Prop} {E : Value → Shared → Prop}
end
section
variable {X : Cx} {pins : List (Addr × Obj)} {σ : St} {H : Hp} {xs : List V} {l S I f : Addr} {fob : Obj} {kf : Nat → Int} {G : Hp → Prop} {R : Result → Shared → Prop} {kw : List (Str × Value)}
end
section
variable {X : Cx} {pins : List (Addr × Obj)} {σ : St} {H : Hp} {xs : List V} {l f : Addr} {fob : Obj} {kf : Nat → Int} {G : Hp → Prop} {s : Shared} {Q : Value → Shared → Prop} {E : Value → Shared → Prop}
end
section
variable {K : PySem.W.Frag} {X : Cx} {l body : Expr} {tl tb : TD} {scope : Scope} {p : Str} {r : List Str} {cap : List (Option Nat)} {params : Arguments} {np pos lp kp1 kp2 kp3 : Pos} {c P : Addr} {j : Nat}
end
section
variable {P : Program} {w : World} {K : PySem.W.Frag} {mg : Str → Option Value} {base : Heap}
theorem Fun.okL {x qual:Str} {st:Stmt} {f:Addr} {fd:FuncData} {N ps:List Str} {k:Nat} {sp:Sp} (F:Fun K x qual st f fd) (S:FnScope N ps (qae st)) (len:∀ vs H Q E,sp vs H Q E→vs.length=ps.length)
    (hbody:∀ (cdv:Value) (A:Around) (outer:List Env) (s:Shared) (H:Hp) (vs:List V) (Q:VK) (E:XK),fd.code=cdv→Room k (A.deeper (envOfC qual (qae st) s.heap.objs.size f cdv))→sp vs H Q E →
      ∃ t,PSs (qgy CX0 P w K mg base N qual (qae st) f cdv A outer s H E).nox (qay st) t∧t { nx:=fun _ H'=>Q .non H',rt:=Q } (qca N vs) H):FnOk P w K mg base CX0 (k+1) f fd ps sp:=by
  obtain ⟨oc,od,kV,doc,pm,an,cdv,ct,osl,rfl,lk,hcd⟩:=F.ex
  refine qiv lk hcd S len fun A outer s H vs Q E hr hsp=>?_
  obtain ⟨t,h,q⟩:=hbody cdv A outer s H vs Q E rfl hr hsp
  exact ⟨t,h.nox,q⟩
end
theorem qdL {K:PySem.W.Frag} {x:Str} (a:PySem.W.nsIn K mainGlobals x=some none):qjE K x=none:=by
  unfold qjE
  simp only [a]
end L2
namespace L2
open PySem PySem.W PyProof.Rows
section
variable {key : Nat → Int} {N : Nat} {p : Array Nat}
variable (hk : ∀ i j, i < N → j < N → key i = key j → i = j)
include hk
end
end L2
namespace L2
open PySem PySem.Spec PySem.W PyProof.Rows PySem.Calls
section
variable {prog : Program} {w : World} {A : Around} {E : Value → Shared → Prop} {s : Shared} {h₀ : Heap} {L a : Addr} {m : Str → Option Value} {news : List (Addr × Obj)} {vs : List Value}
end
end L2
namespace L2
open PySem PySem.Spec PySem.W PyProof.Rows PySem.Calls
section
variable {K : PySem.W.Frag} {X : Cx}
end
end L2
namespace L2
open PySem PySem.Spec PyProof.Rows
section
variable {X : Cx}
end
section
variable {K : PySem.W.Frag} {X : Cx} {e e2 : Expr} {te te2 : TD} {pos : Pos}
end
section
variable {K : PySem.W.Frag} {X : Cx}
end
section
variable {K : PySem.W.Frag} {X : Cx} {e ev : Expr} {te tv : TD} {pos : Pos}
end
section
variable {X : Cx}
end
section
variable {K : PySem.W.Frag} {X : Cx} {a b : Expr} {ta tb : TD} {apos cpos : Pos}
def qnw (d:D):TD:=fun _ R=>R d
theorem qj1 {x:Str} {i:Int} {tk:Tok} {pos:Pos} (hg:Gl X x) (hm:X.mg x=some (.int i tk)) (hd:(x == ("__debug__":Str))=false:=by decide):PD K X (.Name x pos) (qnw (.int i)) :=
  ⟨fun hK=>(qgD (v:=.int i) hg hm ⟨tk,rfl⟩ hd).imp fun σ H Q hq0=>by
    obtain ⟨H0,Φ,ρ,R,E,t,k⟩:=hq0
    exact k _ Φ H _ t (.refl E.fz) (.int i)⟩
end
end L2
namespace L2
open PySem PySem.Spec PySem.W PyProof.Rows PySem.Calls
section
variable {K : PySem.W.Frag} {X : Cx}
end
end L2
namespace L2
open PySem PySem.Spec PyProof.Rows
section
variable {K : PySem.W.Frag} {X : Cx} {e ev : Expr} {te tv : TD} {tk : TDK} {pos p : Pos}
end
section
variable {K : PySem.W.Frag} {X : Cx} {a : Expr} {pos p p2 pos2 : Pos} {tl : TDL}
end
section
variable {K : PySem.W.Frag} {X : Cx} {e : Expr} {es : List Expr} {pos p : Pos} {tl : TDL} {te : TD} {tf : TDL} {sp : SpD} {CX : CXT} {k : Nat} {f : Addr} {fd : FuncData} {ps : List Str} {x : Str} {E : XK}
end
theorem qgN {K:PySem.W.Frag} (h:PySem.W.nsIn K mainGlobals "least_grown"=some none∧PySem.W.nsIn K mainGlobals "greatest_first"=some none):qgC K=[]:=by
  unfold qgC
  rw [List.filterMap_cons,qdL h.1,List.filterMap_cons,qdL h.2]
  rfl
structure Cl (P:Program) (w:World) (K:PySem.W.Frag) (mg:Str→Option Value) (base:Heap) (n:Nat) (x:Str) (ps:List Str) (z:SpD):Prop where
  ex:∃ (f:Addr) (fd:FuncData),FnOk P w K mg base CX0 n f fd ps (lSp K z)∧Binds K fd ps []∧PySem.W.keepIn K (.ref f)=true∧mg x=some (.ref f)
section
variable {P : Program} {w : World} {K : PySem.W.Frag} {mg : Str → Option Value} {base : Heap} {n m : Nat} {x : Str} {ps : List Str} {z : SpD} {X : Cx} {e : Expr} {es : List Expr} {pos p : Pos} {tl : TDL} {st : Stmt} {f : Addr} {fd : FuncData} {h : Heap}
theorem Cl.mono (C:Cl P w K mg base n x ps z) (k:n≤m):Cl P w K mg base m x ps z:=by
  obtain ⟨f,fd,F,r⟩:=C.ex
  exact ⟨f,fd,F.mono k,r⟩
theorem Cl.of (F:Fun K x x st f fd) (b:Binds K fd ps []) (m:mg x=some (.ref f)) (H:FnOk P w K mg base CX0 n f fd ps (lSp K z)):Cl P w K mg base n x ps z:=⟨f,fd,H,b,F.kp,m⟩
theorem qfS (C:Cl X.prog X.w K X.mg X.base n x ps z) (hr:Room n X.A) (hg:Gl X x)
    (ha:PAD K X (e::es) tl) (he:starEach (e::es) X.env=(false,eval e X.env)::starEach es X.env) (hpl:(backTo pos (starEach es X.env)).any (·.1)=false) (hdb:(x == ("__debug__":Str))=false:=by decide) :
    PD K X (.Call (.Name x p) (e::es) [] pos) (qhH z tl):=⟨fun hK=>by
  subst hK
  obtain ⟨f,fd,F,b,k,m⟩:=C.ex
  exact (ql6 F hr hg m k b qgk ha he hpl hdb).pe rfl⟩
def dE (P:Params) (x:Str) (n:Nat) (v:Value):DictEntry:=⟨PyData.keyHash P x,.str x n,v⟩
def cO (n:Str) (a:Nat) (q:Str) (b c:Nat) (l m:Int) (k:Int) (r:Nat) (g:Int) (t:Nat) (x y:Value) (z:Nat) (i:Int) (d:Nat):Obj:=⟨.type "code",none,.fields #[.str n a,.str q b,.str "/claim/cut.py" c,.int l 0,.int m 0,.int 0 0,.int 0 0,.int k 0,.ref r,.bool true,.int g 0,.ref t,.none,x,y,.ref z,.int i 0,.int l 0,.str "/claim/cut.py" d],#[]⟩
def fO (s:Stmt) (n q m:Str) (i c:Nat):Obj:=⟨.type "function",none,.func (PySem.W.fnOf n q (qaP s) (qay s) (qae s) .none .none .none (.str m i) none (.ref c) .none),#[]⟩
def Has (K:PySem.W.Frag) (s:Stmt) (x:Str):Prop:=∃ f m i c,PySem.W.nsIn K mainGlobals x=some (some (.ref f))∧K.lookup f=some (fO s x x m i c)∧PySem.W.codeIn K (.ref c) x=true
theorem Has.of {s:Stmt} {m:Str} {i c:Nat} (a:PySem.W.nsIn K mainGlobals x=some (some (.ref f))) (l:K.lookup f=some (fO s x x m i c)) (k:PySem.W.codeIn K (.ref c) x=true):Has K s x:=⟨f,m,i,c,a,l,k⟩
theorem Has.fn (a:Has K st x) (X:K.In h) (G:h.Ns mainGlobals mg):∃ f fd,Fun K x x st f fd∧mg x=some (.ref f)∧∃ m i c,fd=PySem.W.fnOf x x (qaP st) (qay st) (qae st) .none .none .none (.str m i) none (.ref c) .none:=by
  obtain ⟨f,m,i,c,a,l,k⟩:=a
  exact ⟨f,_,qcQ l k (by unfold PySem.W.keepIn;simp only [l];rfl),PySem.W.mg_of X G a,m,i,c,rfl⟩
theorem Fun.cl (F:Fun K x x st f fd) (m:mg x=some (.ref f)) (H:FnOk P w K mg base CX0 n f fd ps (lSp K z))
    (b:∀ (kV doc pm:Value) (an:Option Addr) (cdv ct:Value) (us:List Value),us.length=ps.length→bindArgs (PySem.W.fnOf x x (qaP st) (qay st) (qae st) .none kV doc pm an cdv ct) ⟨us,[]⟩=pure (ps.zip us)):Cl P w K mg base n x ps z:=.of F (F.binds b) m H
end
section
variable {K : PySem.W.Frag} {X : Cx} {n : Nat} {x : Str} {ps : List Str} {z : SpD} {e : Expr} {es : List Expr} {pos p : Pos} {tl : TDL}
end
section
variable {prog : Program} {w : World} {A : Around} {E : Value → Shared → Prop} {s : Shared}
end
section
variable {P : Program} {w : World} {H : Hp} {h h' : Heap} {a : Addr} {o : HO} {fs ex : List Addr}
theorem HOk.know (x:HOk P w H h) (hn:H a=none) (new:ObjOk P w (upd H a o) h a o):HOk P w (upd H a o) h:=fun b u e=>by
  by_cases hb:b=a
  · subst hb;rw [qai] at e;cases e;exact new
  · rw [qag hb] at e
    exact (x b u e).stay (fun c v _ q=>q) (fun c q=>by rw [qag (qan q hn)];exact q) (fun c xs q=>by rw [qag (qan q hn)];exact q) fun c ob w' q=>by rw [qag (qan q hn)];exact q
end
section
variable {X : Cx} {a b : Expr} {p p2 pos pos2 : Pos}
end
section
variable {K : PySem.W.Frag} {X : Cx} {a b : Expr} {p p2 pos pos2 : Pos} {tl : TDL}
end
end L2
namespace L2
open PySem PySem.Spec PySem.W PyProof.Rows PySem.Calls
section
variable {K : PySem.W.Frag} {X : Cx}
end
section
variable {X : Cx} {pins : List (Addr × Obj)} {σ : St} {H : Hp} {xs : List V} {l f : Addr} {fob : Obj} {kf : Nat → Int} {G : Hp → Prop} {s : Shared} {Q : Value → Shared → Prop} {E : Value → Shared → Prop}
end
end L2
namespace L2
open PySem PySem.Spec PyProof.Rows
section
variable {K : PySem.W.Frag} {X : Cx} {l body : Expr} {tl tb : TD} {scope : Scope} {p : Str} {r : List Str} {cap : List (Option Nat)} {params : Arguments} {np pos lp kp1 kp2 kp3 : Pos} {c P : Addr} {j : Nat}
end
def qkJ (r r':RD2) (ta tb tc:TD):TDB:=fun ρ R=>ta ρ fun x=>tb ρ fun y=>r x y fun z=>match z with
  | .bl k=>(k=true→tc ρ fun w=>r' y w fun d=>match d with | .bl b=>R b | _=>False)∧(k=false→R false)
  | _=>False
section
variable {K : PySem.W.Frag} {X : Cx} {a b c : Expr} {ta tb tc : TD} {pos : Pos}
theorem qjf {op op':CmpOp} {r r':RD2} (ho:OpD K X (compareOp op) r) (ho':OpD K X (compareOp op') r') (ha:PQ K X a ta) (hb:PQ K X b tb) (hc:PQ K X c tc) (hm:lastMarks [op,op'] [b,c]=false) :
    PTD K X (.Compare a [op,op'] [b,c] pos) (qkJ r r' ta tb tc):=⟨fun hK=>(qh6 (ho.o hK) (ho'.o hK) (ha.pe hK) (hb.pe hK) (hc.pe hK) hm).imp fun σ H Q h=>by
  obtain ⟨H0,Φ,ρ,R,E,t,k⟩:=h
  refine ⟨H0,Φ,ρ,_,E,t,fun dx Φ1 H1 x t1 g1 rx=>⟨H0,Φ1,ρ,_,E.gr g1,t1,fun dy Φ2 H2 y t2 g2 ry=>⟨Φ2,dx,dy,_,g2.s,rx.gr g2,ry,t2,fun d Φ3 H3 v r3 g3 rr=>?_⟩⟩⟩
  cases d with
  | bl kk =>
    cases rr
    refine ⟨kk,rfl,?_⟩
    have g:=(g1.trans g2).trans g3
    cases kk with
    | false=>exact ite_ff ⟨false,rfl,k false Φ3 H3 (r3.2 rfl) g⟩
    | true =>
      refine ite_tt ⟨H0,Φ3,ρ,_,E.gr g,r3.1 rfl,fun dz Φ4 H4 w t4 g4 rw=>⟨Φ4,dy,dz,_,g4.s,(ry.gr g3).gr g4,rw,t4,fun d5 Φ5 H5 v5 r5 g5 rr5=>?_⟩⟩
      cases d5 with
      | bl b5=>cases rr5;exact ⟨b5,rfl,k b5 Φ5 H5 r5 ((g.trans g4).trans g5)⟩
      | _=>exact r5.elim
  | _=>exact r3.elim⟩
end
section
variable {prog : Program} {w : World} {A : Around} {E : Value → Shared → Prop} {s : Shared}
end
section
variable {K : PySem.W.Frag} {X : Cx}
end
inductive Fl where | v (d:D) | l (xs:List D) | al (p:Addr)
inductive Om where | lst (xs:List D) | map (kvs:List (Key × D)) | mpT (kvs:List (List Key × D)) | obj (nm:Str) (fs:List (Str × Fl)) | ptr | tl (ps:List (Addr × Option (List D)))
def Om.solid:Om→Bool
  | .ptr=>false
  | .tl _=>false
  | _=>true
inductive Sm where | v (d:D) | ob (a:Option Addr) (o:Om)
abbrev Sm.own (xs:List D):Sm:=.ob none (.lst xs)
abbrev qau:=List (Option Sm)
def KvR {κ:Type} (K:PySem.W.Frag) (Φ:Hp) (a:κ × D) (b:κ × V):Prop:=a.1=b.1∧Rp K Φ a.2 b.2
inductive FlsR (K:PySem.W.Frag) (Φ H:Hp):List (Str × Fl)→List (Str × V)→List Addr→Prop where
  | nil:FlsR K Φ H [] [] []
  | v {f:Str} {d:D} {v:V} {fs:List (Str × Fl)} {vs:List (Str × V)} {qs:List Addr}:Rp K Φ d v→FlsR K Φ H fs vs qs→FlsR K Φ H ((f,.v d)::fs) ((f,v)::vs) qs
  | l {f:Str} {ds:List D} {ws:List V} {q:Addr} {fs:List (Str × Fl)} {vs:List (Str × V)} {qs:List Addr}:H q=some (.lst ws)→RpL K Φ ds ws→FlsR K Φ H fs vs qs→FlsR K Φ H ((f,.l ds)::fs) ((f,.ref q)::vs) (q::qs)
  | al {f:Str} {p:Addr} {fs:List (Str × Fl)} {vs:List (Str × V)} {qs:List Addr}:FlsR K Φ H fs vs qs→FlsR K Φ H ((f,.al p)::fs) ((f,.ref p)::vs) qs
inductive TlS (K:PySem.W.Frag) (Φ H:Hp):List (Addr × Option (List D))→List Addr→Prop where
  | nil:TlS K Φ H [] []
  | ptr {q:Addr} {ps:List (Addr × Option (List D))} {F:List Addr}:TlS K Φ H ps F→TlS K Φ H ((q,none)::ps) F
  | own {q:Addr} {ds:List D} {ws:List V} {ps:List (Addr × Option (List D))} {F:List Addr}:H q=some (.lst ws)→RpL K Φ ds ws→TlS K Φ H ps F→TlS K Φ H ((q,some ds)::ps) (q::F)
inductive OmS (K:PySem.W.Frag) (Φ H:Hp):Om→Addr→List Addr→Prop where
  | lst {ds:List D} {vs:List V} {p:Addr}:H p=some (.lst vs)→RpL K Φ ds vs→OmS K Φ H (.lst ds) p [p]
  | map {kvs:List (Key × D)} {ws:List (Key × V)} {p:Addr}:H p=some (.dK ws)→Paired (KvR K Φ) kvs ws→OmS K Φ H (.map kvs) p [p]
  | mpT {kvs:List (List Key × D)} {ws:List (List Key × V)} {p:Addr}:H p=some (.dT ws)→Paired (KvR K Φ) kvs ws→OmS K Φ H (.mpT kvs) p [p]
  | obj {nm:Str} {fs:List (Str × Fl)} {C dx:Addr} {vs:List (Str × V)} {p:Addr} {qs:List Addr}:PySem.W.nsIn K mainGlobals nm=some (some (.ref C))→H p=some (.ins C dx vs)→FlsR K Φ H fs vs qs→(p::qs).Nodup→OmS K Φ H (.obj nm fs) p (p::qs)
  | ptr {p:Addr}:OmS K Φ H .ptr p []
  | tl {ps:List (Addr × Option (List D))} {p:Addr} {F:List Addr}:Φ p=some (.tup (ps.map fun q=>V.ref q.1))→TlS K Φ H ps F→F.Nodup→OmS K Φ H (.tl ps) p F
section
variable {K : PySem.W.Frag} {H0 H H' Φ Φ' Φ0 : Hp} {fs : List (Str × Fl)} {vs : List (Str × V)} {qs F F' : List Addr} {o o' : Om} {p : Addr}
theorem qcH {α β:Type} {F G:α→β→Prop} (h:∀ x y,F x y→G x y):∀ {l:List α} {m:List β},Paired F l m→Paired G l m
  | _,_,.nil=>.nil
  | _,_,.cons r t=>.cons (h _ _ r) (qcH h t)
theorem FlsR.keep (s:Same Φ Φ') (h:FlsR K Φ H fs vs qs) (k:∀ b∈qs,∀ u,H b=some u→H' b=some u):FlsR K Φ' H' fs vs qs:=by
  induction h with
  | nil=>exact .nil
  | v r _ ih=>exact .v (r.same s) (ih k)
  | l h1 h2 _ ih=>exact .l (k _ List.mem_cons_self _ h1) (h2.same s) (ih fun b hb=>k b (List.mem_cons_of_mem _ hb))
  | al _ ih=>exact .al (ih k)
theorem FlsR.at (h:FlsR K Φ H fs vs qs):∀ b∈qs,∃ ws,H b=some (.lst ws):=by
  induction h with
  | nil=>intro b hb;cases hb
  | v r _ ih=>exact ih
  | l h1 h2 _ ih =>
    intro b hb
    rcases List.mem_cons.mp hb with rfl | hb
    · exact ⟨_,h1⟩
    · exact ih b hb
  | al _ ih=>exact ih
theorem FlsR.names (h:FlsR K Φ H fs vs qs):vs.map (·.1)=fs.map (·.1):=by
  induction h with
  | nil=>rfl
  | v r _ ih=>rw [List.map_cons,List.map_cons,ih]
  | l h1 h2 _ ih=>rw [List.map_cons,List.map_cons,ih]
  | al _ ih=>rw [List.map_cons,List.map_cons,ih]
theorem TlS.keep {ps:List (Addr × Option (List D))} (s:Same Φ Φ') (h:TlS K Φ H ps F) (k:∀ b∈F,∀ u,H b=some u→H' b=some u):TlS K Φ' H' ps F:=by
  induction h with
  | nil=>exact .nil
  | ptr _ ih=>exact .ptr (ih k)
  | own h1 h2 _ ih=>exact .own (k _ List.mem_cons_self _ h1) (h2.same s) (ih fun b hb=>k b (List.mem_cons_of_mem _ hb))
theorem TlS.at {ps:List (Addr × Option (List D))} (h:TlS K Φ H ps F):∀ b∈F,∃ ws,H b=some (.lst ws):=by
  induction h with
  | nil=>intro b hb;cases hb
  | ptr _ ih=>exact ih
  | own h1 h2 _ ih =>
    intro b hb
    rcases List.mem_cons.mp hb with rfl | hb
    · exact ⟨_,h1⟩
    · exact ih b hb
theorem OmS.keep (s:Same Φ Φ') (h:OmS K Φ H o p F) (k:∀ b∈F,∀ u,H b=some u→H' b=some u):OmS K Φ' H' o p F:=by
  cases h with
  | lst h1 h2=>exact .lst (k _ List.mem_cons_self _ h1) (h2.same s)
  | map h1 h2=>exact .map (k _ List.mem_cons_self _ h1) (qcH (fun _ _ r=>⟨r.1,r.2.same s⟩) h2)
  | mpT h1 h2=>exact .mpT (k _ List.mem_cons_self _ h1) (qcH (fun _ _ r=>⟨r.1,r.2.same s⟩) h2)
  | obj h0 h1 h2 h3=>exact .obj h0 (k _ List.mem_cons_self _ h1) (h2.keep s fun b hb=>k b (List.mem_cons_of_mem _ hb)) h3
  | ptr=>exact .ptr
  | tl h1 h2 h3=>exact .tl (s _ _ h1) (h2.keep s k) h3
theorem OmS.mem (h:OmS K Φ H o p F) (hs:o.solid=true:=by rfl):p∈F:=by cases h <;> first | exact List.mem_cons_self | cases hs
theorem OmS.at (h:OmS K Φ H o p F):∀ b∈F,∃ u,H b=some u∧OwK u:=by
  intro b hb
  cases h with
  | lst h1 h2=>rw [List.mem_singleton.mp hb];exact ⟨_,h1,trivial⟩
  | map h1 h2=>rw [List.mem_singleton.mp hb];exact ⟨_,h1,trivial⟩
  | mpT h1 h2=>rw [List.mem_singleton.mp hb];exact ⟨_,h1,trivial⟩
  | obj h0 h1 h2 h3 =>
    rcases List.mem_cons.mp hb with rfl | hb
    · exact ⟨_,h1,trivial⟩
    · obtain ⟨ws,hw⟩:=h2.at b hb
      exact ⟨_,hw,trivial⟩
  | ptr=>cases hb
  | tl h1 h2 h3 =>
    obtain ⟨ws,hw⟩:=h2.at b hb
    exact ⟨_,hw,trivial⟩
theorem OmS.lst_inv {ds:List D} (h:OmS K Φ H (.lst ds) p F):F=[p]∧∃ vs,H p=some (.lst vs)∧RpL K Φ ds vs:=by
  cases h with
  | lst h1 h2=>exact ⟨rfl,_,h1,h2⟩
theorem OmS.map_inv {kvs:List (Key × D)} (h:OmS K Φ H (.map kvs) p F):F=[p]∧∃ ws,H p=some (.dK ws)∧Paired (KvR K Φ) kvs ws:=by
  cases h with
  | map h1 h2=>exact ⟨rfl,_,h1,h2⟩
theorem OmS.mpT_inv {kvs:List (List Key × D)} (h:OmS K Φ H (.mpT kvs) p F):F=[p]∧∃ ws,H p=some (.dT ws)∧Paired (KvR K Φ) kvs ws:=by
  cases h with
  | mpT h1 h2=>exact ⟨rfl,_,h1,h2⟩
theorem OmS.obj_inv {nm:Str} (h:OmS K Φ H (.obj nm fs) p F):∃ C dx vs qs,F=p::qs∧PySem.W.nsIn K mainGlobals nm=some (some (.ref C))∧H p=some (.ins C dx vs)∧FlsR K Φ H fs vs qs∧(p::qs).Nodup:=by
  cases h with
  | obj h0 h1 h2 h3=>exact ⟨_,_,_,_,rfl,h0,h1,h2,h3⟩
theorem OmS.gr (g:Gr Φ H Φ' H') (h:OmS K Φ H o p F):OmS K Φ' H' o p F:=h.keep g.f fun b _ u e=>g.h b u e
end
structure EnvM' (K:PySem.W.Frag) (H0 Φ H:Hp) (σ:St) (ρ:qau) (fp:Nat→List Addr):Prop where
  fz:Same Φ H
  len:σ.length=ρ.length
  sl:∀ (i:Nat) (d:D),ρ[i]?=some (some (.v d))→∃ v,σ[i]?=some (some v)∧Rp K Φ d v
  ow:∀ (i:Nat) (a:Option Addr) (o:Om),ρ[i]?=some (some (.ob a o))→∃ p,σ[i]?=some (some (.ref p))∧(∀ q,a=some q→q=p)∧OmS K Φ H o p (fp i)
  no:∀ (i:Nat) (a:Option Addr) (o:Om),ρ[i]?=some (some (.ob a o))→∀ b∈fp i,H0 b=none∧Φ b=none
  dj:∀ (i j:Nat) (a a':Option Addr) (o o':Om),ρ[i]?=some (some (.ob a o))→ρ[j]?=some (some (.ob a' o'))→i≠j→∀ b∈fp i,b∉fp j
  tb:TabF K Φ
def EnvM (K:PySem.W.Frag) (H0 Φ H:Hp) (σ:St) (ρ:qau):Prop:=∃ fp,EnvM' K H0 Φ H σ ρ fp
section
variable {K : PySem.W.Frag} {H0 H H' Φ Φ' Φ0 : Hp} {σ σ2 : St} {ρ ρ2 : qau} {fp : Nat → List Addr} {F F' : List Addr} {o o' : Om} {p : Addr} {d : D} {v : V} {i : Nat} {a : Option Addr}
theorem EnvM.fz (E:EnvM K H0 Φ H σ ρ):Same Φ H:=let ⟨_,E⟩:=E;E.fz
theorem EnvM.tb (E:EnvM K H0 Φ H σ ρ):TabF K Φ:=let ⟨_,E⟩:=E;E.tb
theorem EnvM.len (E:EnvM K H0 Φ H σ ρ):σ.length=ρ.length:=let ⟨_,E⟩:=E;E.len
theorem EnvM.sl (E:EnvM K H0 Φ H σ ρ) (h:ρ[i]?=some (some (.v d))):∃ v,σ[i]?=some (some v)∧Rp K Φ d v:=let ⟨_,E⟩:=E;E.sl i d h
theorem EnvM'.gr (E:EnvM' K H0 Φ H σ ρ fp) (g:Gr Φ H Φ' H'):EnvM' K H0 Φ' H' σ ρ fp :=
  ⟨g.s,E.len,fun i d h=>let ⟨v,e,r⟩:=E.sl i d h;⟨v,e,r.same g.f⟩,fun i a o h=>let ⟨p,e,ha,r⟩:=E.ow i a o h;⟨p,e,ha,r.gr g⟩,
    fun i a o h b hb=>by
      obtain ⟨p,_,_,r⟩:=E.ow i a o h
      obtain ⟨u,hu,k⟩:=r.at b hb
      exact ⟨(E.no i a o h b hb).1,g.o b u hu (E.no i a o h b hb).2 k⟩,E.dj,E.tb.same g.f⟩
theorem EnvM.gr (E:EnvM K H0 Φ H σ ρ) (g:Gr Φ H Φ' H'):EnvM K H0 Φ' H' σ ρ:=let ⟨fp,E⟩:=E;⟨fp,E.gr g⟩
theorem EnvM.re (m:Nat→Nat) (E:EnvM K H0 Φ H σ ρ) (hl:σ2.length=ρ2.length) (h:∀ (i:Nat) (x:Sm),ρ2[i]?=some (some x)→ρ[m i]?=some (some x)∧σ2[i]?=σ[m i]?)
    (inj:∀ (i j:Nat) (a a':Option Addr) (o o':Om),ρ2[i]?=some (some (.ob a o))→ρ2[j]?=some (some (.ob a' o'))→m i=m j→i=j):EnvM K H0 Φ H σ2 ρ2:=by
  obtain ⟨fp,E⟩:=E
  refine ⟨fun i=>fp (m i),E.fz,hl,fun i d hd=>?_,fun i a o ho=>?_,fun i a o ho=>E.no _ a o (h i _ ho).1,fun i j a a' o o' hi hj c=>E.dj _ _ a a' o o' (h i _ hi).1 (h j _ hj).1 fun e=>c (inj i j a a' o o' hi hj e),E.tb⟩
  · obtain ⟨v,e,r⟩:=E.sl _ d (h i _ hd).1
    exact ⟨v,by rw [(h i _ hd).2];exact e,r⟩
  · obtain ⟨p,e,r⟩:=E.ow _ a o (h i _ ho).1
    exact ⟨p,by rw [(h i _ ho).2];exact e,r⟩
theorem EnvM.take {τ:St} {κ:qau} (E:EnvM K H0 Φ H (σ++τ) (ρ++κ)) (hl:ρ.length=σ.length):EnvM K H0 Φ H σ ρ :=
  E.re id hl.symm (fun i x hx=>by
    have hi:=qal hx
    exact ⟨by rw [id,List.getElem?_append_left hi];exact hx,by rw [id,List.getElem?_append_left (by omega)]⟩) fun i j _ _ _ _ _ _ e=>e
theorem EnvM'.take {τ:St} {κ:qau} (E:EnvM' K H0 Φ H (σ++τ) (ρ++κ) fp) (hl:ρ.length=σ.length):EnvM' K H0 Φ H σ ρ fp:=by
  have up:∀ {i:Nat} {x:Sm},ρ[i]?=some (some x)→(ρ++κ)[i]?=some (some x):=fun h=>by rw [List.getElem?_append_left (qal h)];exact h
  have dn:∀ {i:Nat} {x:Sm} {y:Option V},ρ[i]?=some (some x)→(σ++τ)[i]?=some y→σ[i]?=some y:=fun h e=>by rwa [List.getElem?_append_left (by rw [← hl];exact qal h)] at e
  exact ⟨E.fz,hl.symm,fun i d h=>let ⟨v,e,r⟩:=E.sl i d (up h);⟨v,dn h e,r⟩,fun i a o h=>let ⟨p,e,r⟩:=E.ow i a o (up h);⟨p,dn h e,r⟩,fun i a o h=>E.no i a o (up h),fun i j a a' o o' hi hj=>E.dj i j a a' o o' (up hi) (up hj),E.tb⟩
theorem EnvM.store {v:V} {x:Sm} (E:EnvM K H0 Φ H (σ++[some v]) (ρ++[some x])) (i:Nat):EnvM K H0 Φ H (σ.set i (some v)) (ρ.set i (some x)):=by
  have hl:σ.length=ρ.length:=by have:=E.len;simpa using this
  refine E.re (fun j=>if j=i then ρ.length else j) (by rw [List.length_set,List.length_set,hl]) (fun j y hj=>?_) fun j k a a' o o' hj hk e=>?_
  · by_cases c:j=i
    · subst c
      have hlt:j<ρ.length:=by have:=qal hj;rwa [List.length_set] at this
      rw [List.getElem?_set_self hlt] at hj
      cases hj
      rw [if_pos rfl,List.getElem?_set_self (by omega),List.getElem?_append_right (Nat.le_refl _),List.getElem?_append_right (by omega),Nat.sub_self,hl,Nat.sub_self]
      exact ⟨rfl,rfl⟩
    · rw [List.getElem?_set_ne (Ne.symm c)] at hj
      have hlt:=qal hj
      rw [if_neg c,List.getElem?_set_ne (Ne.symm c),List.getElem?_append_left hlt,List.getElem?_append_left (by omega)]
      exact ⟨hj,rfl⟩
  · have hj1:j<ρ.length:=by have:=qal hj;rwa [List.length_set] at this
    have hk1:k<ρ.length:=by have:=qal hk;rwa [List.length_set] at this
    have e:(if j=i then ρ.length else j)=(if k=i then ρ.length else k):=e
    split at e <;> split at e <;> omega
theorem EnvM.snocV (E:EnvM K H0 Φ H σ ρ) (r:Rp K Φ d v):EnvM K H0 Φ H (σ++[some v]) (ρ++[some (.v d)]):=by
  obtain ⟨fp,E⟩:=E
  have old:∀ {i:Nat} {a:Option Addr} {o:Om},(ρ++[some (Sm.v d)])[i]?=some (some (.ob a o))→ρ[i]?=some (some (.ob a o)):=fun {i a o} h=>by
    rcases Nat.lt_or_ge i ρ.length with c | c
    · rwa [List.getElem?_append_left c] at h
    · rw [List.getElem?_append_right c] at h
      cases e:i - ρ.length with
      | zero=>rw [e] at h;cases h
      | succ n=>rw [e] at h;cases h
  refine ⟨fp,E.fz,by rw [List.length_append,List.length_append,E.len];rfl,fun i d' h=>?_,fun i a o h=>?_,fun i a o h=>E.no i a o (old h),fun i j a a' o o' hi hj=>E.dj i j a a' o o' (old hi) (old hj),E.tb⟩
  · rcases Nat.lt_or_ge i ρ.length with c | c
    · rw [List.getElem?_append_left c] at h
      obtain ⟨u,e,r⟩:=E.sl i d' h
      exact ⟨u,by rw [List.getElem?_append_left (by rw [E.len];exact c)];exact e,r⟩
    · rw [List.getElem?_append_right c] at h
      cases e:i - ρ.length with
      | zero =>
        rw [e] at h
        cases h
        exact ⟨v,by rw [List.getElem?_append_right (by rw [E.len];exact c),E.len,e];rfl,r⟩
      | succ n=>rw [e] at h;cases h
  · obtain ⟨p,e,r⟩:=E.ow i a o (old h)
    have hi:=qal (old h)
    exact ⟨p,by rw [List.getElem?_append_left (by rw [E.len];exact hi)];exact e,r⟩
theorem EnvM.snocO (E:EnvM K H0 Φ H σ ρ) (s0:Same H0 H) (g:Gr Φ H Φ' H') (ho:OmS K Φ' H' o p F) (hf:∀ b∈F,H b=none∧Φ' b=none):EnvM K H0 Φ' H' (σ++[some (.ref p)]) (ρ++[some (.ob none o)]):=by
  obtain ⟨fp,E⟩:=E
  have old:∀ b∈F,∀ (i:Nat) (a:Option Addr) (o:Om),ρ[i]?=some (some (.ob a o))→b∉fp i:=fun b hb i a o h z=>by
    obtain ⟨q,_,_,r⟩:=E.ow i a o h
    obtain ⟨u,hu,_⟩:=r.at b z
    rw [(hf b hb).1] at hu
    cases hu
  have E2:=E.gr g
  have cs:∀ {i:Nat} {x:Sm},(ρ++[some (Sm.ob none o)])[i]?=some (some x)→(i<ρ.length∧ρ[i]?=some (some x))∨(i=ρ.length∧x=.ob none o):=fun {i x} h=>by
    rcases Nat.lt_or_ge i ρ.length with c | c
    · rw [List.getElem?_append_left c] at h
      exact .inl ⟨c,h⟩
    · rw [List.getElem?_append_right c] at h
      cases e:i - ρ.length with
      | zero=>rw [e] at h;cases h;exact .inr ⟨by omega,rfl⟩
      | succ n=>rw [e] at h;cases h
  refine ⟨fun i=>if i=ρ.length then F else fp i,E2.fz,by rw [List.length_append,List.length_append,E.len];rfl,fun i d h=>?_,fun i a o' h=>?_,fun i a o' h b hb=>?_,fun i j a a' o1 o2 hi hj c b hb hb2=>?_,E2.tb⟩
  · rcases cs h with ⟨c,h⟩ | ⟨_,h⟩
    · obtain ⟨v,e,r⟩:=E2.sl i d h
      exact ⟨v,by rw [List.getElem?_append_left (by rw [E.len];exact c)];exact e,r⟩
    · cases h
  · rcases cs h with ⟨c,h⟩ | ⟨c,h⟩
    · obtain ⟨q,e,r⟩:=E2.ow i a o' h
      exact ⟨q,by rw [List.getElem?_append_left (by rw [E.len];exact c)];exact e,by rw [if_neg (by omega)];exact r⟩
    · cases h
      subst c
      refine ⟨p,by rw [List.getElem?_append_right (by rw [E.len];exact Nat.le_refl _),E.len,Nat.sub_self];rfl,(fun q e=>by cases e),by rw [if_pos rfl];exact ho⟩
  · rcases cs h with ⟨c,h⟩ | ⟨c,h⟩
    · rw [if_neg (by omega)] at hb
      exact E2.no i a o' h b hb
    · rw [if_pos c] at hb
      exact ⟨s0.free (hf b hb).1,(hf b hb).2⟩
  · rcases cs hi with ⟨ci,hi⟩ | ⟨ci,hi⟩
    · rw [if_neg (by omega)] at hb
      rcases cs hj with ⟨cj,hj⟩ | ⟨cj,hj⟩
      · rw [if_neg (by omega)] at hb2
        exact E.dj i j a a' o1 o2 hi hj c b hb hb2
      · rw [if_pos cj] at hb2
        exact old b hb2 i a o1 hi hb
    · rw [if_pos ci] at hb
      rcases cs hj with ⟨cj,hj⟩ | ⟨cj,hj⟩
      · rw [if_neg (by omega)] at hb2
        exact old b hb j a' o2 hj hb2
      · omega
theorem EnvM'.put (E:EnvM' K H0 Φ H σ ρ fp) (hi:ρ[i]?=some (some (.ob a o))) (si:σ[i]?=some (some (.ref p))) (hH:∀ b u,H b=some u→b∉fp i→H' b=some u) (hO:OmS K Φ H' o' p F') (hF:∀ b∈F',b∈fp i∨(H b=none∧H0 b=none∧Φ b=none)) :
    EnvM' K H0 Φ H' σ (ρ.set i (some (.ob a o'))) (fun j=>if j=i then F' else fp j):=by
  have hlt:=qal hi
  have cs:∀ {j:Nat} {x:Sm},(ρ.set i (some (Sm.ob a o')))[j]?=some (some x)→(j=i∧x=.ob a o')∨(j≠i∧ρ[j]?=some (some x)):=fun {j x} h=>by
    rcases qbU h with ⟨e,_,e1⟩ | ⟨e,h⟩
    · cases e1;exact .inl ⟨e,rfl⟩
    · exact .inr ⟨e,h⟩
  have nf:∀ b∈F',∀ (j:Nat) (a':Option Addr) (o2:Om),ρ[j]?=some (some (.ob a' o2))→j≠i→b∉fp j:=fun b hb j a' o2 hj c z=>by
    rcases hF b hb with h | ⟨h,_⟩
    · exact E.dj j i a' a o2 o hj hi c b z h
    · obtain ⟨q,_,_,r⟩:=E.ow j a' o2 hj
      obtain ⟨u,hu,_⟩:=r.at b z
      rw [h] at hu
      cases hu
  refine ⟨fun b u e=>hH b u (E.fz b u e) fun z=>?_,by rw [List.length_set,E.len],fun j d h=>?_,fun j a' o2 h=>?_,fun j a' o2 h b hb=>?_,fun j k a1 a2 o1 o2 hj hk c b hb hb2=>?_,E.tb⟩
  · rw [(E.no i a o hi b z).2] at e
    cases e
  · rcases cs h with ⟨_,h⟩ | ⟨_,h⟩
    · cases h
    · exact E.sl j d h
  · rcases cs h with ⟨c,h⟩ | ⟨c,h⟩
    · cases h
      subst c
      obtain ⟨q,e,ha,_⟩:=E.ow j a o hi
      rw [si] at e
      cases e
      exact ⟨p,si,ha,by rw [if_pos rfl];exact hO⟩
    · obtain ⟨q,e,ha,r⟩:=E.ow j a' o2 h
      refine ⟨q,e,ha,?_⟩
      rw [if_neg c]
      exact r.keep (Same.refl _) fun b hb u hu=>hH b u hu fun z=>E.dj j i a' a o2 o h hi c b hb z
  · rcases cs h with ⟨c,h⟩ | ⟨c,h⟩
    · rw [if_pos c] at hb
      rcases hF b hb with z | ⟨_,z⟩
      · exact E.no i a o hi b z
      · exact z
    · rw [if_neg c] at hb
      exact E.no j a' o2 h b hb
  · rcases cs hj with ⟨cj,hj⟩ | ⟨cj,hj⟩
    · rw [if_pos cj] at hb
      rcases cs hk with ⟨ck,hk⟩ | ⟨ck,hk⟩
      · omega
      · rw [if_neg ck] at hb2
        exact nf b hb k a2 o2 hk ck hb2
    · rw [if_neg cj] at hb
      rcases cs hk with ⟨ck,hk⟩ | ⟨ck,hk⟩
      · rw [if_pos ck] at hb2
        exact nf b hb2 j a1 o1 hj cj hb
      · rw [if_neg ck] at hb2
        exact E.dj j k a1 a2 o1 o2 hj hk c b hb hb2
theorem EnvM'.grput (E:EnvM' K H0 Φ H σ ρ fp) (g:Gr Φ0 H0 Φ H) (hi:ρ[i]?=some (some (.ob a o))) (hH:∀ b u,H b=some u→b∉fp i→H' b=some u):Gr Φ0 H0 Φ H' :=
  ⟨g.f,fun b u e=>hH b u (g.h b u e) (fun z=>by rw [(E.no i a o hi b z).1] at e;cases e),fun b u e=>hH b u (g.s b u e) (fun z=>by rw [(E.no i a o hi b z).2] at e;cases e),fun p u h1 h2 k=>g.o p u h1 h2 k⟩
theorem EnvM.list {ds:List D} (E:EnvM K H0 Φ H σ ρ) (g:Gr Φ0 H0 Φ H) (hi:ρ[i]?=some (some (.ob a (.lst ds)))):∃ q vs,σ[i]?=some (some (.ref q))∧H q=some (.lst vs)∧H0 q=none∧Φ q=none∧RpL K Φ ds vs ∧
    ∀ (es:List D) (ws:List V),RpL K Φ es ws→EnvM K H0 Φ (upd H q (.lst ws)) σ (ρ.set i (some (.ob a (.lst es))))∧Gr Φ0 H0 Φ (upd H q (.lst ws)):=by
  obtain ⟨fp,E⟩:=E
  obtain ⟨q,e,_,r⟩:=E.ow i a _ hi
  have hq:=r.mem
  have h0:=E.no i a _ hi q hq
  obtain ⟨_,vs,h1,h2⟩:=r.lst_inv
  refine ⟨q,vs,e,h1,h0.1,h0.2,h2,fun es ws rw'=>?_⟩
  have hH:∀ b u,H b=some u→b∉fp i→upd H q (.lst ws) b=some u:=fun b u e hn=>by
    rw [qag fun z=>hn (by rw [z];exact hq)]
    exact e
  exact ⟨⟨_,E.put hi e hH (F':=[q]) (.lst qai rw') fun b hb=>.inl (by rw [List.mem_singleton.mp hb];exact hq)⟩,E.grput g hi hH⟩
end
def prM:Option Sm→Option Sl
  | some (.v d)=>some (.v d)
  | some (.ob _ (.lst xs))=>some (.own xs)
  | some (.ob _ (.map kvs))=>some (.dct (kvs.map (·.1)))
  | some (.ob _ (.mpT kvs))=>some (.dcT (kvs.map (·.1)))
  | _=>none
abbrev prR (ρ:qau):Rho:=ρ.map prM
theorem qda {κ:Type} {K:PySem.W.Frag} {Φ:Hp}:∀ {a:List (κ × D)} {b:List (κ × V)},Paired (KvR K Φ) a b→b.map (·.1)=a.map (·.1)
  | _,_,.nil=>rfl
  | _,_,.cons r t=>by rw [List.map_cons,List.map_cons,qda t,r.1]
theorem EnvM.toD {K:PySem.W.Frag} {H0 Φ H:Hp} {σ:St} {ρ:qau} (E:EnvM K H0 Φ H σ ρ):EnvD K H0 Φ H σ (prR ρ):=by
  obtain ⟨fp,E⟩:=E
  have at_:∀ {i:Nat} {x:Sl},(prR ρ)[i]?=some (some x)→∃ y,ρ[i]?=some (some y)∧prM (some y)=some x:=fun {i x} h=>by
    rw [List.getElem?_map] at h
    cases e:ρ[i]? with
    | none=>rw [e] at h;cases h
    | some y =>
      rw [e] at h
      cases y with
      | none=>cases h
      | some y=>exact ⟨y,rfl,Option.some.inj h⟩
  have ow:∀ {i:Nat} {o:Ow},(prR ρ)[i]?=some (some (.ob o))→∃ a om p u,ρ[i]?=some (some (.ob a om))∧σ[i]?=some (some (.ref p))∧p∈fp i∧H p=some u∧OwR K Φ o u:=fun {i o} h=>by
    obtain ⟨y,hy,e⟩:=at_ h
    cases y with
    | v d=>cases e
    | ob a om =>
      obtain ⟨p,e1,_,r⟩:=E.ow i a om hy
      refine ⟨a,om,p,?_⟩
      cases om with
      | lst ds=>obtain ⟨_,vs,h1,h2⟩:=r.lst_inv;cases e;exact ⟨_,hy,e1,r.mem,h1,h2⟩
      | map kvs=>obtain ⟨_,vs,h1,h2⟩:=r.map_inv;cases e;exact ⟨_,hy,e1,r.mem,h1,qda h2⟩
      | mpT kvs=>obtain ⟨_,vs,h1,h2⟩:=r.mpT_inv;cases e;exact ⟨_,hy,e1,r.mem,h1,qda h2⟩
      | obj nm fs=>cases e
      | ptr=>cases e
      | tl ps=>cases e
  refine ⟨E.fz,by rw [List.length_map,E.len],fun i d h=>?_,fun i o h=>?_,fun i j o w p hi hj si sj=>?_,E.tb⟩
  · obtain ⟨y,hy,e⟩:=at_ h
    cases y with
    | v d'=>cases e;exact E.sl i d hy
    | ob a om=>cases om <;> cases e
  · obtain ⟨a,om,p,u,h1,h2,h3,h4,h5⟩:=ow h
    exact ⟨p,u,h2,(E.no i a om h1 p h3).1,(E.no i a om h1 p h3).2,h4,h5⟩
  · obtain ⟨a,om,p1,u,h1,h2,h3,_,_⟩:=ow hi
    obtain ⟨a',om',p2,u',k1,k2,k3,_,_⟩:=ow hj
    rw [si] at h2
    cases h2
    rw [sj] at k2
    cases k2
    rcases Decidable.em (i=j) with c | c
    · exact c
    · exact absurd k3 (E.dj i j a a' om om' h1 k1 c p h3)
def qlE (h:Heap) (e:Addr) (vs:Array Value) (T:Option Addr) (fl:Value):Prop:=match T with
  | none=>vs[1]?=some .none
  | some T=>vs[1]?=some (.ref T)∧T≠e∧∃ oT ts,h.get? T=some oT∧oT.data=.fields ts∧ts[3]?=some fl
structure Fly (h:Heap) (e:Addr) (T:Option Addr) (fl cls:Value) (dx:Option Addr):Prop where
  ex:∃ oe vs,h.get? e=some oe∧oe.data=.fields vs∧oe.cls=cls∧oe.dict=dx∧qlE h e vs T fl
structure Kept (fs:List Addr) (e:Addr) (T:Option Addr) (h h':Heap):Prop where
  keep:∀ b o,h.get? b=some o→b≠e→some b≠T→b∉fs→h'.get? b=some o
  slot:∀ b o,h.get? b=some o→b∈fs→∃ sl,h'.get? b=some { o with slots:=sl }
section
variable {M : Model} {A : Around} {E : Value → Shared → Prop} {s : Shared} {base : Heap} {env : Env} {outer : List Env} {L e : Addr}
theorem qhF (o:Obj) (f:Array Value→Array Value):(o.mapFields f).dict=o.dict:=by
  obtain ⟨c,d,dt,sl⟩:=o
  cases dt <;> rfl
theorem qfC {cls:Value} {dx:Option Addr} {oe:Obj} {vs:Array Value} {head:Value} {had:Bool} {Q:Unit→Shared→Prop} (hfr:A.frames=some (env::outer)) (hl:s.heap.FunFrames base (env::outer)) (hf:env.frame=some L)
    (he:s.heap.get? e=some oe) (hd:oe.data=.fields vs) (hc:oe.cls=cls) (hx:oe.dict=dx) (hz:1<vs.size)
    (k:∀ h' T',Fly h' e (some T') (rawInt L) cls dx→s.heap.objs.size≤T'→Kept (frs (env::outer)) e none s.heap h'→Q () { s with heap:=h' }) :
    wpAny M A (do let a ← frameOf env;let pl ← entryPlaceOf L had;let b ← EntryCells.newEntry head a .none (rawInt L) .none pl;setField (.ref e) 1 b) Q E s:=by
  have hef:e∉frs (env::outer):=fun hm=>by
    obtain ⟨_,o,ho,hnf⟩:=hl.mem hm
    rw [he] at ho
    cases ho
    exact hnf vs hd
  refine wpAny_bind (wpAny_frameOf_fun hfr hl hf fun h₁ x=>?_)
  refine wpAny_bind (wpAny_entryPlaceOf fun pl hpl=>?_)
  unfold EntryCells.newEntry newFields
  refine wpAny_bind (wpAny_newObj_type ?_ (hpl.sizeOk5 _ _ _ _ _))
  generalize hot:({ cls:=.type "traceback",dict:=none,data:=.fields ([head,.ref L,.none,rawInt L,.none]++(if pl.isEmpty then List.replicate 6 Value.none else pl)).toArray }:Obj)=ot
  have e1:h₁.get? e=some oe:=(x.2.1 e hef).trans he
  have e2:=Heap.get?_push_of_some (h:=h₁) ot e1
  have hne:h₁.objs.size≠e:=Nat.ne_of_gt (Heap.lt_size e1)
  refine wpAny_setField e2 hd hz (k _ h₁.objs.size ⟨?_⟩ ?_ ⟨fun b o hb b1 _ b3=>?_,fun b o hb b3=>?_⟩)
  · have d3:=Obj.data_mapFields hd (·.setIfInBounds 1 (Value.ref h₁.objs.size))
    refine ⟨_,_,Heap.get?_update_self _ e2 (Obj.isFreed_of_fields d3),d3,(Obj.cls_mapFields _ _).trans hc,(qhF _ _).trans hx,by simp [hz],hne,ot,_,?_,by rw [← hot],?_⟩
    · rw [Heap.get?_update_other _ _ (Ne.symm hne)]
      exact Heap.get?_push_size h₁ (by rw [← hot];rfl)
    · first | (simp;done) | (rcases hpl with rfl | ⟨_,_,_,_,_,_,_,rfl⟩ <;> simp)
  · exact Nat.le_of_eq x.1.symm
  · rw [Heap.get?_update_other _ _ (Ne.symm b1)]
    exact Heap.get?_push_of_some _ ((x.2.1 b b3).trans hb)
  · obtain ⟨sl,hs⟩:=x.2.2 b o hb
    refine ⟨sl,?_⟩
    rw [Heap.get?_update_other _ _ (fun z=>hef (by rw [z];exact b3))]
    exact Heap.get?_push_of_some _ hs
theorem Fly.live {h:Heap} {T:Option Addr} {fl cls:Value} {dx:Option Addr} (F:Fly h e T fl cls dx):∃ o,h.get? e=some o∧o.cls=cls∧o.dict=dx∧∃ vs,o.data=.fields vs:=by
  obtain ⟨oe,vs,h1,h2,h3,h4,_⟩:=F.ex
  exact ⟨oe,h1,h3,h4,vs,h2⟩
theorem qdp {vs:Array Value} {i:Nat} {x:Value} (h:vs[i]?=some x):i<vs.size:=(Array.getElem?_eq_some_iff.mp h).1
theorem qiC {T:Option Addr} {cls:Value} {dx:Option Addr} {Q:Unit→Shared→Prop} (hfr:A.frames=some (env::outer)) (hl:s.heap.FunFrames base (env::outer)) (hf:env.frame=some L) (F:Fly s.heap e T .none cls dx)
    (k:∀ h' T',Fly h' e (some T') (rawInt L) cls dx→s.heap.objs.size≤T'→Kept (frs (env::outer)) e T s.heap h'→Q () { s with heap:=h' }):wpAny M A (noteFrame (.ref e) env) Q E s:=by
  obtain ⟨oe,vs,he,hd,hc,hx,hn⟩:=F.ex
  unfold noteFrame
  simp only [hf]
  cases T with
  | none =>
    have h1:vs[1]?=some .none:=hn
    refine wpAny_bind (wpAny_field he hd h1 ?_)
    rw [if_neg (by decide)]
    exact qfC hfr hl hf he hd hc hx (qdp h1) fun h' T' a1 a2 a3=>k h' T' a1 a2 ⟨fun b o hb b1 b2 b3=>a3.keep b o hb b1 (by simp) b3,a3.slot⟩
  | some T =>
    obtain ⟨h1,hne,oT,ts,hT,hdT,h3⟩:=hn
    refine wpAny_bind (wpAny_field he hd h1 ?_)
    rw [if_pos (show (Value.ref T != Value.none)=true from by simp)]
    refine wpAny_bind (wpAny_field hT hdT h3 ?_)
    rw [if_neg (show ¬ ((Value.none == rawInt L)=true) from by simp [rawInt])]
    refine wpAny_bind (wpAny_setField hT hdT (qdp h3) ?_)
    have ot:∀ b,b≠T→(s.heap.update T (Obj.mapFields (·.setIfInBounds 3 Value.none))).get? b=s.heap.get? b:=fun b hb=>Heap.get?_update_other _ _ (Ne.symm hb)
    have nr:∀ b o,s.heap.get? b=some o→(∀ vs,o.data≠.fields vs)→b≠T:=fun b o hb hf z=>by
      rw [z,hT] at hb
      cases hb
      exact hf ts hdT
    have hT':=Heap.get?_update_self (Obj.mapFields (·.setIfInBounds 3 Value.none)) hT (Obj.isFreed_of_fields (Obj.data_mapFields hdT _))
    refine qfC (s:={ s with heap:=s.heap.update T (Obj.mapFields (·.setIfInBounds 3 Value.none)) }) hfr (hl.of_keeps fun b o hb hf=>⟨o,(ot b (nr b o hb hf)).trans hb,rfl⟩) hf ((ot e (Ne.symm hne)).trans he) hd hc hx (qdp h1) fun h' T' a1 a2 a3=>k h' T' a1 ?_ ⟨fun b o hb b1 b2 b3=>?_,fun b o hb b3=>?_⟩
    · have a2:(s.heap.update T (Obj.mapFields (·.setIfInBounds 3 Value.none))).objs.size≤T':=a2
      rw [Heap.size_after_update] at a2
      exact a2
    · exact a3.keep b o ((ot b (fun z=>b2 (by rw [z]))).trans hb) b1 (by simp) b3
    · refine a3.slot b o ((ot b (nr b o hb ?_)).trans hb) b3
      obtain ⟨_,o',ho',hnf⟩:=hl.mem b3
      rw [hb] at ho'
      cases ho'
      exact hnf
theorem qfV {T:Addr} {fl cls:Value} {dx:Option Addr} {Q:Unit→Shared→Prop} (F:Fly s.heap e (some T) fl cls dx)
    (k:∀ h',Fly h' e (some T) .none cls dx→(∀ b o,s.heap.get? b=some o→b≠T→h'.get? b=some o)→(∀ b,s.heap.get? b=none→h'.get? b=none)→Q () { s with heap:=h' }):wpAny M A (setFlight (.ref e) none) Q E s:=by
  obtain ⟨oe,vs,he,hd,hc,hx,h1,hne,oT,ts,hT,hdT,h3⟩:=F.ex
  have ot:∀ b,b≠T→(s.heap.update T (Obj.mapFields (·.setIfInBounds 3 ((none:Option Addr).elim Value.none fun f=>rawInt f)))).get? b=s.heap.get? b:=fun b hb=>Heap.get?_update_other _ _ (Ne.symm hb)
  unfold setFlight
  refine wpAny_bind (wpAny_field he hd h1 ?_)
  rw [if_pos (show (Value.ref T != Value.none)=true from by simp)]
  have d3:=Obj.data_mapFields hdT (·.setIfInBounds 3 ((none:Option Addr).elim Value.none fun f=>rawInt f))
  refine wpAny_setField hT hdT (qdp h3) (k _ ⟨oe,vs,(ot e (Ne.symm hne)).trans he,hd,hc,hx,h1,hne,_,_,Heap.get?_update_self _ hT (Obj.isFreed_of_fields d3),d3,by simp [qdp h3]⟩ (fun b o hb b1=>(ot b b1).trans hb) fun b hb=>?_)
  rw [ot b (fun z=>by rw [z,hT] at hb;cases hb)]
  exact hb
theorem qj7 {T:Option Addr} {cls:Value} {dx:Option Addr} {Q:Unit→Shared→Prop} (hfr:A.frames=some (env::outer)) (hl:s.heap.FunFrames base (env::outer)) (hf:env.frame=some L) (F:Fly s.heap e T .none cls dx)
    (k:∀ h' T',Fly h' e (some T') .none cls dx→s.heap.objs.size≤T'→Kept (frs (env::outer)) e T s.heap h'→Q () { s with heap:=h' }):wpAny M A (leaving env (.ref e)) Q E s:=by
  unfold leaving
  refine wpAny_bind (qiC hfr hl hf F fun h1 T' F1 n1 k1=>?_)
  refine qfV (s:={ s with heap:=h1 }) F1 fun h2 F2 k2 n2=>?_
  have hT:∀ b o,s.heap.get? b=some o→b≠T':=fun b o hb z=>absurd (Heap.lt_size (z ▸ hb:s.heap.get? T'=some o)) (Nat.not_lt.mpr n1)
  refine k h2 T' F2 n1 ⟨fun b o hb b1 b2 b3=>k2 b o (k1.keep b o hb b1 b2 b3) (hT b o hb),fun b o hb b3=>?_⟩
  obtain ⟨sl,hs⟩:=k1.slot b o hb b3
  exact ⟨sl,k2 b _ hs (hT b o hb)⟩
end
structure XD where
  nm:Str
  at_:Option D
def XAt (K:PySem.W.Frag) (H:Hp) (at_:Option D) (dx:Option Addr):Prop:=match at_ with
  | none=>dx=none
  | some d=>∃ p v,dx=some p∧H p=some (.xd [("at",v)])∧Rp K (fun _=>none) d v
structure XSt (X:Cx) (pins:List (Addr × Obj)) (σ:St) (H:Hp) (xd:XD) (e:Value) (s:Shared):Prop where
  inv:Inv X pins σ H s
  ex:∃ (ea C:Addr) (T dx:Option Addr),e=.ref ea∧Fly s.heap ea T .none (.ref C) dx∧X.mg xd.nm=some (.ref C)∧XAt X.K H xd.at_ dx∧(X.s₀.heap.get? ea=none∧H ea=none∧∀ p∈X.pn++pins,p.1≠ea)∧∀ T',T=some T'→X.s₀.heap.get? T'=none∧H T'=none∧∀ p∈X.pn++pins,p.1≠T'
def XeOk (K:PySem.W.Frag) (X:Cx) (Φ0 H0:Hp) (Rx:XD→qau→Prop):Prop:=∀ xd ρ' Φ' H' σ' e s' pins,Rx xd ρ'→Gr Φ0 H0 Φ' H'→EnvM K H0 Φ' H' σ' ρ'→XSt X pins σ' H' xd e s'→X.xe e s'
structure StM (K:PySem.W.Frag) (X:Cx) (Φ0 H0 Φ H:Hp) (σ τ:St) (ρ κ:qau) (Rx:XD→qau→Prop):Prop where
  g:Gr Φ0 H0 Φ H
  l:ρ.length=σ.length
  E:EnvM K H0 Φ H (σ++τ) (ρ++κ)
  x:XeOk K X Φ0 H0 Rx
inductive Ar where | t (s:Sm) | s (i:Nat)
abbrev TX:=qau→(Sm→qau→Prop)→(XD→qau→Prop)→Prop
abbrev TXB:=qau→(Bool→qau→Prop)→(XD→qau→Prop)→Prop
abbrev TXA:=qau→(List Ar→qau→Prop)→(XD→qau→Prop)→Prop
def tsm (as:List Ar):qau:=as.filterMap fun a=>match a with | .t s=>some (some s) | .s _=>none
inductive ArV (σ:St):List Ar→List V→St→Prop where
  | nil:ArV σ [] [] []
  | t {s:Sm} {v:V} {as:List Ar} {vs:List V} {ts:St}:ArV σ as vs ts→ArV σ (.t s::as) (v::vs) (some v::ts)
  | s {i:Nat} {v:V} {as:List Ar} {vs:List V} {ts:St}:σ[i]?=some (some v)→ArV σ as vs ts→ArV σ (.s i::as) (v::vs) ts
def lXm (K:PySem.W.Frag) (X:Cx) (t:TX):TE:=fun σ H Q=>∃ Φ0 H0 Φ τ ρ κ R Rx,StM K X Φ0 H0 Φ H σ τ ρ κ Rx∧t ρ R Rx∧∀ sm ρ' Φ' H' v,R sm ρ'→StM K X Φ0 H0 Φ' H' σ (τ++[some v]) ρ' (κ++[some sm]) Rx→Same Φ Φ'→Q v H'
def lXb (K:PySem.W.Frag) (X:Cx) (t:TXB):TT:=fun σ H Q=>∃ Φ0 H0 Φ τ ρ κ R Rx,StM K X Φ0 H0 Φ H σ τ ρ κ Rx∧t ρ R Rx∧∀ b ρ' Φ' H',R b ρ'→StM K X Φ0 H0 Φ' H' σ τ ρ' κ Rx→Same Φ Φ'→Q b H'
def lXa (K:PySem.W.Frag) (X:Cx) (n:Nat) (t:TXA):TA:=fun σ H Q=>∃ Φ0 H0 Φ τ ρ κ R Rx,StM K X Φ0 H0 Φ H σ τ ρ κ Rx∧t ρ R Rx∧∀ as ρ' Φ' H' vs ts,R as ρ'→as.length=n→ArV σ as vs ts→StM K X Φ0 H0 Φ' H' σ (τ++ts) ρ' (κ++tsm as) Rx→Same Φ Φ'→Q vs H'
structure PX (K:PySem.W.Frag) (X:Cx) (e:Expr) (t:TX):Prop where pe:X.K=K→PE X e (lXm K X t)
structure PXB (K:PySem.W.Frag) (X:Cx) (e:Expr) (t:TXB):Prop where pt:X.K=K→PT X e (lXb K X t)
structure PXW (K:PySem.W.Frag) (X:Cx) (e:Expr) (t:TXB):Prop where pw:X.K=K→PW X e (lXb K X t)
structure PXA (K:PySem.W.Frag) (X:Cx) (es:List Expr) (t:TXA):Prop where pa:X.K=K→PA X es (lXa K X es.length t)
section
variable {K : PySem.W.Frag} {X : Cx} {Φ0 H0 Φ Φ' H H' : Hp} {σ τ ts : St} {ρ κ ks : qau} {Rx : XD → qau → Prop} {d : D} {v : V} {sm : Sm}
theorem StM.gr (S:StM K X Φ0 H0 Φ H σ τ ρ κ Rx) (g:Gr Φ H Φ' H'):StM K X Φ0 H0 Φ' H' σ τ ρ κ Rx:=⟨S.g.trans g,S.l,S.E.gr g,S.x⟩
theorem StM.env (S:StM K X Φ0 H0 Φ H σ τ ρ κ Rx):EnvM K H0 Φ H σ ρ:=S.E.take S.l
theorem StM.lk (S:StM K X Φ0 H0 Φ H σ τ ρ κ Rx):κ.length=τ.length:=by have:=S.E.len;rw [List.length_append,List.length_append] at this;have:=S.l;omega
theorem StM.pop (S:StM K X Φ0 H0 Φ H σ (τ++ts) ρ (κ++ks) Rx) (hl:κ.length=τ.length):StM K X Φ0 H0 Φ H σ τ ρ κ Rx:=⟨S.g,S.l,by
  have E:=S.E
  rw [← List.append_assoc,← List.append_assoc] at E
  exact E.take (by rw [List.length_append,List.length_append,S.l,hl]),S.x⟩
theorem StM.pushV (S:StM K X Φ0 H0 Φ H σ τ ρ κ Rx) (r:Rp K Φ d v):StM K X Φ0 H0 Φ H σ (τ++[some v]) ρ (κ++[some (.v d)]) Rx:=⟨S.g,S.l,by
  rw [← List.append_assoc,← List.append_assoc]
  exact S.E.snocV r,S.x⟩
theorem StM.pushO {o:Om} {p:Addr} {F:List Addr} (S:StM K X Φ0 H0 Φ H σ τ ρ κ Rx) (g:Gr Φ H Φ' H') (ho:OmS K Φ' H' o p F) (hf:∀ b∈F,H b=none∧Φ' b=none):StM K X Φ0 H0 Φ' H' σ (τ++[some (.ref p)]) ρ (κ++[some (.ob none o)]) Rx:=⟨S.g.trans g,S.l,by
  rw [← List.append_assoc,← List.append_assoc]
  exact S.E.snocO S.g.h g ho hf,S.x⟩
theorem StM.at (S:StM K X Φ0 H0 Φ H σ τ ρ κ Rx) {i:Nat} (h:κ[i]?=some (some (.v d))):∃ v,τ[i]?=some (some v)∧Rp K Φ d v:=by
  have hi:=qal h
  obtain ⟨v,e,r⟩:=S.E.sl (i:=ρ.length+i) (d:=d) (by rw [List.getElem?_append_right (by omega),Nat.add_sub_cancel_left];exact h)
  rw [S.l,List.getElem?_append_right (by omega),Nat.add_sub_cancel_left] at e
  exact ⟨v,e,r⟩
theorem StM.last (S:StM K X Φ0 H0 Φ H σ (τ++[some v]) ρ (κ++[some (.v d)]) Rx):Rp K Φ d v:=by
  have hl:=S.lk
  rw [List.length_append,List.length_append] at hl
  have hl:κ.length=τ.length:=by simpa using hl
  obtain ⟨u,e,r⟩:=S.at (i:=κ.length) (d:=d) (by rw [List.getElem?_append_right (Nat.le_refl _),Nat.sub_self];rfl)
  rw [hl,List.getElem?_append_right (Nat.le_refl _),Nat.sub_self] at e
  cases e
  exact r
theorem StM.last2 {e:D} {w:V} (S:StM K X Φ0 H0 Φ H σ ((τ++[some v])++[some w]) ρ ((κ++[some (.v d)])++[some (.v e)]) Rx):Rp K Φ d v∧Rp K Φ e w:=by
  refine ⟨?_,S.last⟩
  have hl:=S.lk
  simp only [List.length_append,List.length_cons,List.length_nil] at hl
  have hl:κ.length=τ.length:=by omega
  exact (S.pop (by simp only [List.length_append,List.length_cons,List.length_nil];omega)).last
end
section
variable {K : PySem.W.Frag} {X : Cx} {e a b c : Expr} {es : List Expr} {pos p : Pos} {t ta tb : TX} {tA : TXA} {tt tu : TXB}
def xD (t:TD):TX:=fun ρ R _=>t (prR ρ) fun d=>R (.v d) ρ
theorem qat {t:TD} (h:PD K X e t):PX K X e (xD t):=⟨fun hK=>(h.pe hK).imp fun σ H Q hq0=>by
  obtain ⟨Φ0,H0,Φ,τ,ρ,κ,R,Rx,S,t,k⟩:=hq0
  exact ⟨H0,Φ,prR ρ,_,S.env.toD,t,fun d Φ' H' v r g rv=>k _ ρ Φ' H' v r ((S.gr g).pushV rv) g.f⟩⟩
def xF (t:TDL):TX:=fun ρ R _=>t (prR ρ) fun ds=>R (.own ds) ρ
theorem qmd {t:TDL} (h:PF K X e t):PX K X e (xF t):=⟨fun hK=>(h.pe hK).imp fun σ H Q hq0=>by
  obtain ⟨Φ0,H0,Φ,τ,ρ,κ,R,Rx,S,t,k⟩:=hq0
  exact ⟨H0,Φ,prR ρ,_,S.env.toD,t,fun ds Φ' H' p vs r g h0 hn hp rr=>k _ ρ Φ' H' _ r (S.pushO g (.lst hp rr) fun b hb=>by rw [List.mem_singleton.mp hb];exact ⟨h0,hn⟩) g.f⟩⟩
def xB (t:TDB):TXB:=fun ρ R _=>t (prR ρ) fun b=>R b ρ
theorem qa8 {t:TDB} (h:PTD K X e t):PXB K X e (xB t):=⟨fun hK=>(h.pt hK).imp fun σ H Q hq0=>by
  obtain ⟨Φ0,H0,Φ,τ,ρ,κ,R,Rx,S,t,k⟩:=hq0
  exact ⟨H0,Φ,prR ρ,_,S.env.toD,t,fun b Φ' H' r g=>k b ρ Φ' H' r (S.gr g) g.f⟩⟩
def xV (k:D→qau→Prop):Sm→qau→Prop:=fun s ρ=>match s with | .v d=>k d ρ | _=>False
theorem xV.get {k:D→qau→Prop} {s:Sm} {ρ:qau} (h:xV k s ρ):∃ d,s=.v d∧k d ρ:=by
  cases s with
  | v d=>exact ⟨d,rfl,h⟩
  | ob _ _=>exact h.elim
def xOp (r:RD2) (ta tb:TX):TX:=fun ρ R Rx=>ta ρ (xV fun x ρ1=>tb ρ1 (xV fun y ρ2=>r x y fun d=>R (.v d) ρ2) Rx) Rx
theorem qc1 {r:RD2} {σ:St} {H:Hp} {Q:VK} (h:lXm K X (xOp r ta tb) σ H Q):tOp (lR2 K r) (lXm K X ta) (lXm K X tb) σ H Q:=by
  obtain ⟨Φ0,H0,Φ,τ,ρ,κ,R,Rx,S,t,k⟩:=h
  refine ⟨Φ0,H0,Φ,τ,ρ,κ,_,Rx,S,t,fun s1 ρ1 Φ1 H1 v r1 S1 f1=>?_⟩
  obtain ⟨x,rfl,r1⟩:=r1.get
  refine ⟨Φ0,H0,Φ1,_,ρ1,_,_,Rx,S1,r1,fun s2 ρ2 Φ2 H2 w r2 S2 f2=>?_⟩
  obtain ⟨y,rfl,r2⟩:=r2.get
  obtain ⟨rx,ry⟩:=S2.last2
  refine ⟨Φ2,x,y,_,S2.g.s,.inl rx,.inl ry,r2,fun d Φ' H' u rd g ru=>?_⟩
  rw [List.append_assoc,List.append_assoc] at S2
  exact k _ ρ2 Φ' H' u rd (((S2.pop S.lk).gr g).pushV ru) ((f1.trans f2).trans g.f)
theorem qi2 {op:Operator} {r:RD2} (ho:OpD K X (binaryOp op) r) (ha:PX K X a ta) (hb:PX K X b tb):PX K X (.BinOp a op b pos) (xOp r ta tb) :=
  ⟨fun hK=>(qlq (ho.o hK) (ha.pe hK) (hb.pe hK)).imp fun _ _ _=>qc1⟩
theorem qmW {op:CmpOp} {r:RD2} (ho:OpD K X (compareOp op) r) (ha:PX K X a ta) (hb:PX K X b tb) (hm:behindInMarks op b=false):PX K X (.Compare a [op] [b] pos) (xOp r ta tb) :=
  ⟨fun hK=>(qht (ho.o hK) (ha.pe hK) (hb.pe hK) hm).imp fun _ _ _=>qc1⟩
def xBl (t:TX):TXB:=fun ρ R Rx=>t ρ (xV fun d ρ1=>match d with | .bl b=>R b ρ1 | _=>False) Rx
theorem qga {r:RD2} {σ:St} {H:Hp} {Q:Bool→Hp→Prop} (h:lXb K X (xBl (xOp r ta tb)) σ H Q):qh3 (tOp (lR2 K r) (lXm K X ta) (lXm K X tb)) σ H Q:=by
  obtain ⟨Φ0,H0,Φ,τ,ρ,κ,R,Rx,S,t,k⟩:=h
  refine qc1 ⟨Φ0,H0,Φ,τ,ρ,κ,_,Rx,S,t,fun s1 ρ1 Φ1 H1 v r1 S1 f1=>?_⟩
  obtain ⟨x,rfl,r1⟩:=r1.get
  have rx:=S1.last
  cases x with
  | bl b=>cases rx;exact ⟨b,rfl,k b ρ1 Φ1 H1 r1 (S1.pop S.lk) f1⟩
  | _=>exact r1.elim
theorem qew {op:CmpOp} {r:RD2} (ho:OpD K X (compareOp op) r) (ha:PX K X a ta) (hb:PX K X b tb) (hm:behindInMarks op b=false):PXB K X (.Compare a [op] [b] pos) (xBl (xOp r ta tb)) :=
  ⟨fun hK=>(qhy (ho.o hK) (ha.pe hK) (hb.pe hK) hm).imp fun _ _ _=>qga⟩
def qon (t u:TXB):TXB:=fun ρ R Rx=>t ρ (fun c ρ1=>(c=true→u ρ1 R Rx)∧(c=false→R false ρ1)) Rx
def xOr (t u:TXB):TXB:=fun ρ R Rx=>t ρ (fun c ρ1=>(c=true→R true ρ1)∧(c=false→u ρ1 R Rx)) Rx
def qm6 (t:TXB):TXB:=fun ρ R Rx=>t ρ (fun c ρ1=>R (!c) ρ1) Rx
theorem PXW.toB (h:PXW K X e tt):PXB K X e tt:=⟨fun hK=>(h.pw hK).pt⟩
theorem qjV (ha:PXB K X a tt):PXW K X (.BoolOp .And [a] pos) tt:=⟨fun hK=>qgZ (ha.pt hK)⟩
theorem qkC (ha:PXB K X a tt):PXW K X (.BoolOp .Or [a] pos) tt:=⟨fun hK=>qiK (ha.pt hK)⟩
theorem qlJ (ha:PXB K X a tt) (hb:PXW K X (.BoolOp .And (b::es) pos) tu):PXW K X (.BoolOp .And (a::b::es) pos) (qon tt tu) :=
  ⟨fun hK=>(qiN (ha.pt hK) (hb.pw hK)).imp fun σ H Q hq0=>by
    obtain ⟨Φ0,H0,Φ,τ,ρ,κ,R,Rx,S,t,k⟩:=hq0
    refine ⟨Φ0,H0,Φ,τ,ρ,κ,_,Rx,S,t,fun c ρ1 Φ1 H1 r1 S1 f1=>?_⟩
    cases c with
    | true=>rw [if_pos rfl];exact ⟨Φ0,H0,Φ1,τ,ρ1,κ,R,Rx,S1,r1.1 rfl,fun b ρ' Φ' H' rb S' f'=>k b ρ' Φ' H' rb S' (f1.trans f')⟩
    | false=>rw [if_neg (by decide)];exact k _ ρ1 Φ1 H1 (r1.2 rfl) S1 f1⟩
theorem qmz (ha:PXB K X a tt) (hb:PXW K X (.BoolOp .Or (b::es) pos) tu):PXW K X (.BoolOp .Or (a::b::es) pos) (xOr tt tu) :=
  ⟨fun hK=>(qlD (ha.pt hK) (hb.pw hK)).imp fun σ H Q hq0=>by
    obtain ⟨Φ0,H0,Φ,τ,ρ,κ,R,Rx,S,t,k⟩:=hq0
    refine ⟨Φ0,H0,Φ,τ,ρ,κ,_,Rx,S,t,fun c ρ1 Φ1 H1 r1 S1 f1=>?_⟩
    cases c with
    | true=>rw [if_pos rfl];exact k _ ρ1 Φ1 H1 (r1.1 rfl) S1 f1
    | false=>rw [if_neg (by decide)];exact ⟨Φ0,H0,Φ1,τ,ρ1,κ,R,Rx,S1,r1.2 rfl,fun b ρ' Φ' H' rb S' f'=>k b ρ' Φ' H' rb S' (f1.trans f')⟩⟩
theorem qlu (ha:PXB K X a tt):PXB K X (.UnaryOp .Not a pos) (qm6 tt) :=
  ⟨fun hK=>(qiT (ha.pt hK)).imp fun σ H Q hq0=>by
    obtain ⟨Φ0,H0,Φ,τ,ρ,κ,R,Rx,S,t,k⟩:=hq0
    exact ⟨Φ0,H0,Φ,τ,ρ,κ,_,Rx,S,t,fun c ρ1 Φ1 H1 r1 S1 f1=>k _ ρ1 Φ1 H1 r1 S1 f1⟩⟩
def qnT (t:TX):TXB:=fun ρ R Rx=>t ρ (xV fun d ρ1=>qnh d fun b=>R b ρ1) Rx
theorem qkr (ha:PX K X a ta) (he:∀ whole,isTrue a X.env whole=(do let v ← whole;standAt a.pos;holding [v] (truthy v))):PXB K X a (qnT ta) :=
  ⟨fun hK=>(qfP (ha.pe hK) he).imp fun σ H Q hq0=>by
    obtain ⟨Φ0,H0,Φ,τ,ρ,κ,R,Rx,S,t,k⟩:=hq0
    refine ⟨Φ0,H0,Φ,τ,ρ,κ,_,Rx,S,t,fun s1 ρ1 Φ1 H1 v r1 S1 f1=>?_⟩
    obtain ⟨x,rfl,r1⟩:=r1.get
    obtain ⟨b,h1,h2⟩:=qi5 (R:=fun b=>R b ρ1) S1.g.s (.inl S1.last) r1
    rw [hK]
    exact ⟨b,h1,k b ρ1 Φ1 H1 h2 (S1.pop S.lk) f1⟩⟩
def ql3:TXA:=fun ρ R _=>R [] ρ
def qk0 (t:TX) (u:TXA):TXA:=fun ρ R Rx=>t ρ (fun s ρ1=>u ρ1 (fun as ρ2=>R (.t s::as) ρ2) Rx) Rx
def qlH (i:Nat) (u:TXA):TXA:=fun ρ R Rx=>u ρ (fun as ρ2=>R (.s i::as) ρ2) Rx
theorem qao:PXA K X [] ql3:=⟨fun _=>pa_nil.imp fun σ H Q hq0=>by
  obtain ⟨Φ0,H0,Φ,τ,ρ,κ,R,Rx,S,t,k⟩:=hq0
  exact k [] ρ Φ H [] [] t rfl .nil (by rw [List.append_nil,show tsm []=[] from rfl,List.append_nil];exact S) (Same.refl _)⟩
theorem qah (ha:PX K X e t) (hr:PXA K X es tA) (hs:starEach (e::es) X.env=(false,eval e X.env)::starEach es X.env):PXA K X (e::es) (qk0 t tA) :=
  ⟨fun hK=>(qa9 (ha.pe hK) (hr.pa hK) hs).imp fun σ H Q hq0=>by
    obtain ⟨Φ0,H0,Φ,τ,ρ,κ,R,Rx,S,t,k⟩:=hq0
    refine ⟨Φ0,H0,Φ,τ,ρ,κ,_,Rx,S,t,fun s1 ρ1 Φ1 H1 v r1 S1 f1=>?_⟩
    refine ⟨Φ0,H0,Φ1,_,ρ1,_,_,Rx,S1,r1,fun as ρ2 Φ2 H2 vs ts r2 hl hv S2 f2=>?_⟩
    refine k _ ρ2 Φ2 H2 (v::vs) (some v::ts) r2 (by rw [List.length_cons,List.length_cons,hl]) (.t hv) ?_ (f1.trans f2)
    rw [List.append_assoc,List.append_assoc] at S2
    exact S2⟩
theorem qas (i:Nat) {x:Str} (hr:PXA K X es tA) (hs:starEach (.Name x pos::es) X.env=(false,eval (.Name x pos) X.env)::starEach es X.env) (hN:X.N[i]?=some x:=by rfl) (hv:Vis X.env.scope x:=by first | exact Or.inl rfl | exact Or.inr (Or.inl rfl) | exact Or.inr (Or.inr rfl)) (hd:(x == ("__debug__":Str))=false:=by decide)
    (hcd:(x == ("__classdict__":Str))=false:=by decide):PXA K X (.Name x pos::es) (fun ρ R Rx=>(∃ a o,ρ[i]?=some (some (.ob a o)))∧qlH i tA ρ R Rx) :=
  ⟨fun hK=>(qa9 (pv i hN hv hd hcd) (hr.pa hK) hs).imp fun σ H Q hq0=>by
    obtain ⟨Φ0,H0,Φ,τ,ρ,κ,R,Rx,S,⟨⟨a,o,ho⟩,t⟩,k⟩:=hq0
    obtain ⟨fp,E⟩:=S.env
    obtain ⟨q,e,_⟩:=E.ow i a o ho
    refine ⟨_,e,Φ0,H0,Φ,τ,ρ,κ,_,Rx,S,t,fun as ρ2 Φ2 H2 vs ts r2 hl hv S2 f2=>?_⟩
    exact k _ ρ2 Φ2 H2 (.ref q::vs) ts r2 (by rw [List.length_cons,List.length_cons,hl]) (.s e hv) S2 f2⟩
def arD:List Ar→Option (List D)
  | []=>some []
  | .t (.v d)::as=>(arD as).map (d::·)
  | _=>none
def xaD (k:List D→qau→Prop):List Ar→qau→Prop:=fun as ρ=>match arD as with | some ds=>k ds ρ | none=>False
theorem xaD.get {k:List D→qau→Prop} {as:List Ar} {ρ:qau} (h:xaD k as ρ):∃ ds,arD as=some ds∧k ds ρ:=by
  unfold xaD at h
  split at h
  · next ds e=>exact ⟨ds,e,h⟩
  · exact h.elim
theorem qfh:∀ {as:List Ar} {ds:List D},arD as=some ds→tsm as=ds.map (fun d=>some (.v d))∧as.length=ds.length
  | [],ds,h=>by cases h;exact ⟨rfl,rfl⟩
  | .t (.v d)::as,ds,h=>by
    have h':(arD as).map (d::·)=some ds:=h
    cases e:arD as with
    | none=>rw [e] at h';cases h'
    | some es =>
      rw [e] at h'
      cases h'
      obtain ⟨h1,h2⟩:=qfh e
      exact ⟨by show some (Sm.v d)::tsm as=_;rw [h1];rfl,by rw [List.length_cons,List.length_cons,h2]⟩
  | .t (.ob _ _)::_,_,h=>by cases h
  | .s _::_,_,h=>by cases h
theorem qfI {σ:St}:∀ {as:List Ar} {ds:List D} {vs:List V} {ts:St},arD as=some ds→ArV σ as vs ts→ts=vs.map some
  | [],_,_,_,_,.nil=>rfl
  | .t (.v d)::as,ds,_,_,h,.t hv=>by
    have h':(arD as).map (d::·)=some ds:=h
    cases e:arD as with
    | none=>rw [e] at h';cases h'
    | some es=>rw [qfI e hv];rfl
theorem StM.vals {Φ0 H0 Φ H:Hp} {σ τ ts:St} {ρ κ:qau} {Rx:XD→qau→Prop} {as:List Ar} {ds:List D} {vs:List V} (S:StM K X Φ0 H0 Φ H σ (τ++ts) ρ (κ++tsm as) Rx) (hl:κ.length=τ.length) (hd:arD as=some ds) (hv:ArV σ as vs ts):RpL K Φ ds vs:=by
  have e1:=qfI hd hv
  obtain ⟨e2,e3⟩:=qfh hd
  have hlen:vs.length=ds.length:=by
    have:=S.lk
    rw [List.length_append,List.length_append,e1,e2,List.length_map,List.length_map] at this
    omega
  refine ⟨hlen,fun i v d hv' hd'=>?_⟩
  obtain ⟨w,hw,r⟩:=S.at (i:=κ.length+i) (d:=d) (by rw [List.getElem?_append_right (by omega),Nat.add_sub_cancel_left,e2,List.getElem?_map,hd'];rfl)
  rw [hl,List.getElem?_append_right (by omega),Nat.add_sub_cancel_left,e1,List.getElem?_map,hv'] at hw
  cases hw
  exact r
def qot (t:TXA):TX:=fun ρ R Rx=>t ρ (xaD fun ds ρ1=>R (.v (.tup ds)) ρ1) Rx
theorem qg1 {x1} (h:PXA K X es tA) (hes:Nat.ble es.length 1000=true:=by rfl):PX K X (.Tuple es x1 pos) (qot tA) :=
  ⟨fun hK=>(qi7 (h.pa hK)).imp fun σ H Q hq0=>by
    obtain ⟨Φ0,H0,Φ,τ,ρ,κ,R,Rx,S,t,k⟩:=hq0
    refine ⟨Φ0,H0,Φ,τ,ρ,κ,_,Rx,S,t,fun as ρ1 Φ1 H1 vs ts r1 hl hv S1 f1=>?_⟩
    obtain ⟨ds,hd,r1⟩:=r1.get
    have rl:=S1.vals S.lk hd hv
    refine ⟨by rw [rl.1,← (qfh hd).2,hl];exact qgS hes,fun p hp=>?_⟩
    have g:=Gr.new S1.g.s hp (.tup vs)
    exact k _ ρ1 _ _ _ r1 (((S1.pop S.lk).gr g).pushV ((rl.same (qaA (S1.g.s.free hp) _)).tup qai)) (f1.trans g.f)⟩
def xFz (t:TX):TX:=fun ρ R Rx=>t ρ (fun s ρ1=>match s with | .ob none (.lst ds)=>R (.v (.lst ds)) ρ1 | _=>False) Rx
theorem StM.fzl {Φ0 H0 Φ H:Hp} {σ τ:St} {ρ κ:qau} {Rx:XD→qau→Prop} {v:V} {ds:List D} (S:StM K X Φ0 H0 Φ H σ (τ++[some v]) ρ (κ++[some (.ob none (.lst ds))]) Rx):∃ Φ',StM K X Φ0 H0 Φ' H σ (τ++[some v]) ρ (κ++[some (.v (.lst ds))]) Rx∧Same Φ Φ':=by
  have hk:κ.length=τ.length:=by have:=S.lk;rw [List.length_append,List.length_append] at this;simpa using this
  obtain ⟨fp,E⟩:=S.E
  have hat:(ρ++(κ++[some (Sm.ob none (.lst ds))]))[ρ.length+κ.length]?=some (some (.ob none (.lst ds))):=by rw [← List.append_assoc,List.getElem?_append_right (by rw [List.length_append];omega),List.length_append,Nat.sub_self];rfl
  obtain ⟨p,e,_,r⟩:=E.ow _ _ _ hat
  have hp:=r.mem
  have no:=E.no _ _ _ hat
  have ev:v=.ref p:=by
    rw [← List.append_assoc,List.getElem?_append_right (by rw [List.length_append,S.l];omega),List.length_append,S.l,hk,Nat.sub_self] at e
    cases e;rfl
  subst ev
  obtain ⟨_,vs,h1,h2⟩:=r.lst_inv
  next =>
    have hn:=(no p hp).2
    have h0:=(no p hp).1
    have s1:=qaA hn (.lst vs)
    refine ⟨upd Φ p (.lst vs),⟨S.g.freeze h0 hn h1,S.l,?_,S.x⟩,s1⟩
    have E0:EnvM K H0 (upd Φ p (.lst vs)) H (σ++τ) (ρ++κ):=by
      refine ⟨fp,fun b u eb=>?_,by rw [List.length_append,List.length_append,S.l,hk],fun j d hd=>?_,fun j a o ho=>?_,fun j a o ho b hb=>?_,fun j k a a' o o' hj hk' c=>?_,E.tb.same s1⟩
      · by_cases c:b=p
        · subst c;rw [qai] at eb;cases eb;exact h1
        · rw [qag c] at eb;exact E.fz b u eb
      · have hj:=qal hd
        obtain ⟨w,hw,rw'⟩:=E.sl j d (by rw [← List.append_assoc,List.getElem?_append_left hj];exact hd)
        rw [← List.append_assoc,List.getElem?_append_left (by rw [List.length_append] at hj ⊢;have:=S.l;omega)] at hw
        exact ⟨w,hw,rw'.same s1⟩
      · have hj:=qal ho
        obtain ⟨w,hw,ha,rw'⟩:=E.ow j a o (by rw [← List.append_assoc,List.getElem?_append_left hj];exact ho)
        rw [← List.append_assoc,List.getElem?_append_left (by rw [List.length_append] at hj ⊢;have:=S.l;omega)] at hw
        exact ⟨w,hw,ha,rw'.keep s1 fun _ _ _ h=>h⟩
      · have hj:=qal ho
        have ho':(ρ++(κ++[some (Sm.ob none (.lst ds))]))[j]?=some (some (.ob a o)):=by rw [← List.append_assoc,List.getElem?_append_left hj];exact ho
        have c:b≠p:=fun z=>E.dj j _ a _ o _ ho' hat (by rw [List.length_append] at hj;omega) b hb (by rw [z];exact hp)
        rw [qag c]
        exact E.no j a o ho' b hb
      · have hj1:=qal hj
        have hk1:=qal hk'
        exact E.dj j k a a' o o' (by rw [← List.append_assoc,List.getElem?_append_left hj1];exact hj) (by rw [← List.append_assoc,List.getElem?_append_left hk1];exact hk') c
    rw [← List.append_assoc,← List.append_assoc]
    exact E0.snocV ((h2.same s1).lst qai)
theorem qnD (h:PX K X e t):PX K X e (xFz t):=⟨fun hK=>(h.pe hK).imp fun σ H Q hq0=>by
  obtain ⟨Φ0,H0,Φ,τ,ρ,κ,R,Rx,S,t,k⟩:=hq0
  refine ⟨Φ0,H0,Φ,τ,ρ,κ,_,Rx,S,t,fun s1 ρ1 Φ1 H1 v r1 S1 f1=>?_⟩
  split at r1
  · next ds =>
    obtain ⟨Φ2,S2,f2⟩:=S1.fzl
    exact k _ ρ1 Φ2 H1 v r1 S2 (f1.trans f2)
  · exact r1.elim⟩
def qg4 (r:SpD) (t:TXA):TX:=fun ρ R Rx=>t ρ (xaD fun ds ρ1=>r ds fun d=>R (.v d) ρ1) Rx
theorem RpL.lq {Φ H:Hp} {ds:List D} {vs:List V} (h:RpL K Φ ds vs):qkY K Φ H ds vs:=⟨h.1,fun i v d hv hd=>.inl (h.2 i v d hv hd)⟩
theorem qjS {id:String} {r:SpD} {x:Str} (hc:CallD K X (.builtin id) r) (hg:Gl X x) (hm:X.mg x=none) (hv:bootBuiltins x=some (.builtin id)) (ha:PXA K X (e::es) tA)
    (he:starEach (e::es) X.env=(false,eval e X.env)::starEach es X.env) (hpl:(backTo pos (starEach es X.env)).any (·.1)=false) (hn:x≠"__name__":=by decide) (hdb:(x == ("__debug__":Str))=false:=by decide):PX K X (.Call (.Name x p) (e::es) [] pos) (qg4 r tA) :=
  ⟨fun hK=>(qco (hc.c hK) hg hm hv (ha.pa hK) hn hdb he hpl).imp fun σ H Q hq0=>by
    obtain ⟨Φ0,H0,Φ,τ,ρ,κ,R,Rx,S,t,k⟩:=hq0
    refine ⟨Φ0,H0,Φ,τ,ρ,κ,_,Rx,S,t,fun as ρ1 Φ1 H1 vs ts r1 hl hv S1 f1=>?_⟩
    obtain ⟨ds,hd,r1⟩:=r1.get
    have rl:=S1.vals S.lk hd hv
    exact ⟨Φ1,ds,_,S1.g.s,rl.lq,r1,fun d Φ' H' v rd g rv=>k _ ρ1 Φ' H' v rd (((S1.pop S.lk).gr g).pushV rv) (f1.trans g.f)⟩⟩
theorem qfw {T:String} {r:SpD} {x:Str} (hc:CallD K X (.type T) r) (hg:Gl X x) (hm:X.mg x=none) (hv:bootBuiltins x=some (.type T)) (ha:PXA K X (e::es) tA)
    (he:starEach (e::es) X.env=(false,eval e X.env)::starEach es X.env) (hpl:(backTo pos (starEach es X.env)).any (·.1)=false) (hn:x≠"__name__":=by decide) (hdb:(x == ("__debug__":Str))=false:=by decide):PX K X (.Call (.Name x p) (e::es) [] pos) (qg4 r tA) :=
  ⟨fun hK=>(qeK (hc.c hK) hg hm hv (ha.pa hK) hn hdb he hpl).imp fun σ H Q hq0=>by
    obtain ⟨Φ0,H0,Φ,τ,ρ,κ,R,Rx,S,t,k⟩:=hq0
    refine ⟨Φ0,H0,Φ,τ,ρ,κ,_,Rx,S,t,fun as ρ1 Φ1 H1 vs ts r1 hl hv S1 f1=>?_⟩
    obtain ⟨ds,hd,r1⟩:=r1.get
    have rl:=S1.vals S.lk hd hv
    exact ⟨Φ1,ds,_,S1.g.s,rl.lq,r1,fun d Φ' H' v rd g rv=>k _ ρ1 Φ' H' v rd (((S1.pop S.lk).gr g).pushV rv) (f1.trans g.f)⟩⟩
theorem qjh {n:Nat} {x:Str} {ps:List Str} {z:SpD} (C:Cl X.prog X.w K X.mg X.base n x ps z) (hr:Room n X.A) (hg:Gl X x)
    (ha:PXA K X (e::es) tA) (he:starEach (e::es) X.env=(false,eval e X.env)::starEach es X.env) (hpl:(backTo pos (starEach es X.env)).any (·.1)=false) (hdb:(x == ("__debug__":Str))=false:=by decide) :
    PX K X (.Call (.Name x p) (e::es) [] pos) (qg4 z tA):=⟨fun hK=>by
  obtain ⟨f,fd,F,b,k,m⟩:=C.ex
  refine (qe3 (dvs:=[]) (ds:=[]) (E:=E0) (hK ▸ F:FnOk X.prog X.w X.K X.mg X.base CX0 n f fd ps (lSp K z)) hr hg m (hK ▸ k) (hK ▸ b) .nil qgk (ha.pa hK) hdb he hpl).imp fun σ H Q hq0=>?_
  obtain ⟨Φ0,H0,Φ,τ,ρ,κ,R,Rx,S,t,k⟩:=hq0
  refine ⟨Φ0,H0,Φ,τ,ρ,κ,_,Rx,S,t,fun as ρ1 Φ1 H1 vs ts r1 hl hv S1 f1=>?_⟩
  obtain ⟨ds,hd,r1⟩:=r1.get
  have rl:=S1.vals S.lk hd hv
  exact ⟨Φ1,ds,_,S1.g.s,S1.E.tb,by rw [List.append_nil];exact rl,r1,fun d Φ' H' v rd g rv=>k _ ρ1 Φ' H' v rd (((S1.pop S.lk).gr g).pushV rv) (f1.trans g.f)⟩⟩
end
def qaL (H:Hp) (B:List Addr):Hp:=fun b=>if b∈B then none else H b
theorem qfU {H:Hp} {B:List Addr} {b:Addr} (h:b∈B):qaL H B b=none:=if_pos h
theorem qa0 {H:Hp} {B:List Addr} {b:Addr} (h:b∉B):qaL H B b=H b:=if_neg h
theorem qdR {H:Hp} {B:List Addr} {b:Addr} {u:HO} (h:qaL H B b=some u):b∉B∧H b=some u:=by
  unfold qaL at h
  split at h
  · cases h
  · next c=>exact ⟨c,h⟩
theorem qdP {H:Hp} {B:List Addr}:Same (qaL H B) H:=fun b u e=>(qdR e).2
abbrev SpM:=List Sm→(Sm→List Om→Prop)→(XD→List Om→Prop)→Prop
inductive ArgM (K:PySem.W.Frag) (Φ H:Hp):List Sm→List V→List (List Addr)→Prop where
  | nil:ArgM K Φ H [] [] []
  | v {d:D} {v:V} {as:List Sm} {vs:List V} {Fs:List (List Addr)}:Rp K Φ d v→ArgM K Φ H as vs Fs→ArgM K Φ H (.v d::as) (v::vs) ([]::Fs)
  | o {a:Option Addr} {o:Om} {p:Addr} {F:List Addr} {as:List Sm} {vs:List V} {Fs:List (List Addr)}:OmS K Φ H o p F→ArgM K Φ H as vs Fs→ArgM K Φ H (.ob a o::as) (.ref p::vs) (F::Fs)
inductive OutM (K:PySem.W.Frag) (Φ H:Hp):List Sm→List V→List Om→List (List Addr)→Prop where
  | nil:OutM K Φ H [] [] [] []
  | v {d:D} {v:V} {as:List Sm} {vs:List V} {os:List Om} {Fs:List (List Addr)}:OutM K Φ H as vs os Fs→OutM K Φ H (.v d::as) (v::vs) os ([]::Fs)
  | o {a:Option Addr} {o o':Om} {p:Addr} {F:List Addr} {as:List Sm} {vs:List V} {os:List Om} {Fs:List (List Addr)}:OmS K Φ H o' p F→OutM K Φ H as vs os Fs→OutM K Φ H (.ob a o::as) (.ref p::vs) (o'::os) (F::Fs)
inductive ResM (K:PySem.W.Frag) (Φ H:Hp):Sm→V→List Addr→Prop where
  | v {d:D} {v:V}:Rp K Φ d v→ResM K Φ H (.v d) v []
  | o {a:Option Addr} {o:Om} {p:Addr} {F:List Addr}:(∀ q,a=some q→q=p)→OmS K Φ H o p F→ResM K Φ H (.ob a o) (.ref p) F
def qds (K:PySem.W.Frag) (sp:SpM):Sp:=fun vs H Q _=>∃ Φ as Fs R Rx,Same Φ H∧TabF K Φ∧ArgM K Φ H as vs Fs∧Fs.flatten.Nodup∧(∀ b∈Fs.flatten,Φ b=none)∧sp as R Rx ∧
  ∀ sm os Φ' H' v F Fs',R sm os→Gr Φ (qaL H Fs.flatten) Φ' H'→ResM K Φ' H' sm v F→OutM K Φ' H' as vs os Fs'→(F++Fs'.flatten).Nodup→(∀ b∈F++Fs'.flatten,qaL H Fs.flatten b=none∧Φ' b=none)→Q v H'
theorem OmS.nodup {K:PySem.W.Frag} {Φ H:Hp} {o:Om} {p:Addr} {F:List Addr} (h:OmS K Φ H o p F):F.Nodup:=by
  cases h with
  | lst _ _=>simp
  | map _ _=>simp
  | mpT _ _=>simp
  | obj _ _ _ h=>exact h
  | ptr=>exact .nil
  | tl _ _ h=>exact h
theorem ArgM.len {K:PySem.W.Frag} {Φ H:Hp} {as:List Sm} {vs:List V} {Fs:List (List Addr)} (h:ArgM K Φ H as vs Fs):vs.length=as.length∧Fs.length=as.length:=by
  induction h with
  | nil=>exact ⟨rfl,rfl⟩
  | v _ _ ih=>exact ⟨by simp [ih.1],by simp [ih.2]⟩
  | o _ _ ih=>exact ⟨by simp [ih.1],by simp [ih.2]⟩
section
variable {K : PySem.W.Frag} {H0 H H' Φ Φ' Φ0 : Hp} {σ σ2 : St} {ρ ρ2 : qau} {fp : Nat → List Addr} {F F' B : List Addr} {o o' : Om} {p : Addr} {d : D} {v : V} {i : Nat} {a : Option Addr}
def fpN (new:Nat→Option (Om × List Addr)) (fp:Nat→List Addr):Nat→List Addr:=fun i=>match new i with | some q=>q.2 | none=>fp i
theorem EnvM'.lend {new:Nat→Option (Om × List Addr)} (E:EnvM' K H0 Φ H σ ρ fp) (s0:Same H0 H) (hB:∀ b,b∈B→∃ i a o q,new i=some q∧ρ[i]?=some (some (.ob a o))∧b∈fp i) (hB2:∀ i q,new i=some q→∀ b∈fp i,b∈B) (g:Gr Φ (qaL H B) Φ' H')
    (hl:ρ2.length=ρ.length) (hv:∀ (i:Nat) (d:D),ρ2[i]?=some (some (.v d))→ρ[i]?=some (some (.v d)))
    (ho:∀ (i:Nat) (a:Option Addr) (o:Om),ρ2[i]?=some (some (.ob a o))→(new i=none∧ρ[i]?=some (some (.ob a o)))∨∃ o0 F',new i=some (o,F')∧ρ[i]?=some (some (.ob a o0)))
    (hn:∀ (i:Nat) (q:Om × List Addr),new i=some q→∃ p,σ[i]?=some (some (.ref p))∧OmS K Φ' H' q.1 p q.2) (hF:∀ (i:Nat) (q:Om × List Addr),new i=some q→∀ b∈q.2,qaL H B b=none∧Φ' b=none)
    (hd:∀ (i j:Nat) (q r:Om × List Addr),new i=some q→new j=some r→i≠j→∀ b∈q.2,b∉r.2):EnvM' K H0 Φ' H' σ ρ2 (fpN new fp):=by
  have B0:∀ b∈B,H0 b=none:=fun b hb=>let ⟨i,a,o,_,_,h,hm⟩:=hB b hb;(E.no i a o h b hm).1
  have out:∀ {i:Nat} {a:Option Addr} {o:Om},new i=none→ρ[i]?=some (some (.ob a o))→∀ b∈fp i,b∉B:=fun {i a o} hi h b hb z=>by
    obtain ⟨j,a',o2,q,hj,h2,hm⟩:=hB b z
    have c:i≠j:=fun e=>by rw [e,hj] at hi;cases hi
    exact E.dj i j a a' o o2 h h2 c b hb hm
  have fpn:∀ {i:Nat},new i=none→fpN new fp i=fp i:=fun h=>by unfold fpN;rw [h]
  have fps:∀ {i:Nat} {q:Om × List Addr},new i=some q→fpN new fp i=q.2:=fun h=>by unfold fpN;rw [h]
  refine ⟨g.s,by rw [hl];exact E.len,fun i d h=>?_,fun i a o h=>?_,fun i a o h b hb=>?_,fun i j a a' o o' hi hj c b hb hb2=>?_,E.tb.same g.f⟩
  · obtain ⟨v,e,r⟩:=E.sl i d (hv i d h)
    exact ⟨v,e,r.same g.f⟩
  · rcases ho i a o h with ⟨h1,h2⟩ | ⟨o0,F',h1,h2⟩
    · obtain ⟨p,e,ha,r⟩:=E.ow i a o h2
      refine ⟨p,e,ha,?_⟩
      rw [fpn h1]
      exact r.keep g.f fun b hb u hu=>g.h b u (by rw [qa0 (out h1 h2 b hb)];exact hu)
    · obtain ⟨p,e,ha,_⟩:=E.ow i a o0 h2
      obtain ⟨p',e',r⟩:=hn i _ h1
      rw [e] at e'
      cases e'
      exact ⟨p,e,ha,by rw [fps h1];exact r⟩
  · rcases ho i a o h with ⟨h1,h2⟩ | ⟨o0,F',h1,h2⟩
    · rw [fpn h1] at hb
      obtain ⟨p,_,_,r⟩:=E.ow i a o h2
      obtain ⟨u,hu,k⟩:=r.at b hb
      exact ⟨(E.no i a o h2 b hb).1,g.o b u (by rw [qa0 (out h1 h2 b hb)];exact hu) (E.no i a o h2 b hb).2 k⟩
    · rw [fps h1] at hb
      obtain ⟨z1,z2⟩:=hF i _ h1 b hb
      refine ⟨?_,z2⟩
      rcases Decidable.em (b∈B) with c | c
      · exact B0 b c
      · rw [qa0 c] at z1
        cases e:H0 b with
        | none=>rfl
        | some u=>rw [s0 b u e] at z1;cases z1
  · have no:∀ {i j:Nat} {q:Om × List Addr} {a:Option Addr} {o:Om},new i=some q→new j=none→ρ[j]?=some (some (.ob a o))→b∈q.2→b∈fp j→False:=fun {i j q a o} h1 h2 h3 h4 h5=>by
      obtain ⟨p,_,_,r⟩:=E.ow j a o h3
      obtain ⟨u,hu,_⟩:=r.at b h5
      have:=(hF i q h1 b h4).1
      rw [qa0 (out h2 h3 b h5),hu] at this
      cases this
    rcases ho i a o hi with ⟨h1,h2⟩ | ⟨o0,F',h1,h2⟩
    · rw [fpn h1] at hb
      rcases ho j a' o' hj with ⟨k1,k2⟩ | ⟨o1,F1,k1,k2⟩
      · rw [fpn k1] at hb2
        exact E.dj i j a a' o o' h2 k2 c b hb hb2
      · rw [fps k1] at hb2
        exact no k1 h1 h2 hb2 hb
    · rw [fps h1] at hb
      rcases ho j a' o' hj with ⟨k1,k2⟩ | ⟨o1,F1,k1,k2⟩
      · rw [fpn k1] at hb2
        exact no h1 k1 k2 hb hb2
      · rw [fps k1] at hb2
        exact hd i j _ _ h1 k1 c b hb hb2
theorem Gr.lend (g0:Gr Φ0 H0 Φ H) (g:Gr Φ (qaL H B) Φ' H') (B0:∀ b∈B,H0 b=none):Gr Φ0 H0 Φ' H':=by
  have up:∀ {b:Addr} {u:HO},H0 b=some u→qaL H B b=some u:=fun {b u} e=>by
    rw [qa0 fun z=>by rw [B0 b z] at e;cases e]
    exact g0.h b u e
  exact ⟨g0.f.trans g.f,fun b u e=>g.h b u (up e),g.s,fun b u h1 h2 k=>g.o b u (up h1) (g0.o b u h1 h2 k) k⟩
theorem EnvM'.snocG (E:EnvM' K H0 Φ H σ ρ fp) {sm:Sm} (hr:ResM K Φ H sm v F) (hf:∀ b∈F,H0 b=none∧Φ b=none) (hd:∀ b∈F,∀ (i:Nat) (a:Option Addr) (o:Om),ρ[i]?=some (some (.ob a o))→b∉fp i):EnvM K H0 Φ H (σ++[some v]) (ρ++[some sm]):=by
  cases hr with
  | v r=>exact EnvM.snocV ⟨fp,E⟩ r
  | @o a0 o p F ha0 ho =>
    have cs:∀ {i:Nat} {x:Sm},(ρ++[some (Sm.ob a0 o)])[i]?=some (some x)→(i<ρ.length∧ρ[i]?=some (some x))∨(i=ρ.length∧x=.ob a0 o):=fun {i x} h=>by
      rcases Nat.lt_or_ge i ρ.length with c | c
      · rw [List.getElem?_append_left c] at h
        exact .inl ⟨c,h⟩
      · rw [List.getElem?_append_right c] at h
        cases e:i - ρ.length with
        | zero=>rw [e] at h;cases h;exact .inr ⟨by omega,rfl⟩
        | succ n=>rw [e] at h;cases h
    refine ⟨fun i=>if i=ρ.length then F else fp i,E.fz,by rw [List.length_append,List.length_append,E.len];rfl,fun i d h=>?_,fun i a o' h=>?_,fun i a o' h b hb=>?_,fun i j a a' o1 o2 hi hj c b hb hb2=>?_,E.tb⟩
    · rcases cs h with ⟨c,h⟩ | ⟨_,h⟩
      · obtain ⟨v,e,r⟩:=E.sl i d h
        exact ⟨v,by rw [List.getElem?_append_left (by rw [E.len];exact c)];exact e,r⟩
      · cases h
    · rcases cs h with ⟨c,h⟩ | ⟨c,h⟩
      · obtain ⟨q,e,r⟩:=E.ow i a o' h
        exact ⟨q,by rw [List.getElem?_append_left (by rw [E.len];exact c)];exact e,by rw [if_neg (by omega)];exact r⟩
      · cases h
        subst c
        refine ⟨p,by rw [List.getElem?_append_right (by rw [E.len];exact Nat.le_refl _),E.len,Nat.sub_self];rfl,ha0,by rw [if_pos rfl];exact ho⟩
    · rcases cs h with ⟨c,h⟩ | ⟨c,h⟩
      · rw [if_neg (by omega)] at hb
        exact E.no i a o' h b hb
      · rw [if_pos c] at hb
        exact hf b hb
    · rcases cs hi with ⟨ci,hi⟩ | ⟨ci,hi⟩
      · rw [if_neg (by omega)] at hb
        rcases cs hj with ⟨cj,hj⟩ | ⟨cj,hj⟩
        · rw [if_neg (by omega)] at hb2
          exact E.dj i j a a' o1 o2 hi hj c b hb hb2
        · rw [if_pos cj] at hb2
          exact hd b hb2 i a o1 hi hb
      · rw [if_pos ci] at hb
        rcases cs hj with ⟨cj,hj⟩ | ⟨cj,hj⟩
        · rw [if_neg (by omega)] at hb2
          exact hd b hb j a' o2 hj hb2
        · omega
end
def qbA (ρ:qau):List Ar→Option (List Sm)
  | []=>some []
  | .t s::as=>(qbA ρ as).map (s::·)
  | .s i::as=>match ρ[i]? with
    | some (some (.ob _ o))=>(qbA ρ as).map (.ob none o::·)
    | _=>none
def qcu (o:Om):Option Sm→Option Sm
  | some (.ob a _)=>some (.ob a o)
  | x=>x
def qbz:qau→Nat→Om→qau
  | [],_,_=>[]
  | x::ρ,0,o=>qcu o x::ρ
  | x::ρ,i+1,o=>x::qbz ρ i o
theorem qcI:∀ (ρ:qau) (i:Nat) (o:Om),qbz ρ i o=(match ρ[i]? with
    | some (some (.ob a _))=>ρ.set i (some (.ob a o))
    | _=>ρ)
  | [],_,_=>rfl
  | some (.ob _ _)::_,0,_=>rfl
  | some (.v _)::_,0,_=>rfl
  | none::_,0,_=>rfl
  | x::ρ,i+1,o=>by
    show x::qbz ρ i o=_
    rw [qcI ρ i o,List.getElem?_cons_succ]
    match ρ[i]? with
    | some (some (.ob _ _))=>rfl
    | some (some (.v _))=>rfl
    | some none=>rfl
    | none=>rfl
def qbk (ρ:qau):List Ar→List Om→qau
  | [],_=>ρ
  | .t (.v _)::as,os=>qbk ρ as os
  | .t (.ob _ _)::as,_::os=>qbk ρ as os
  | .t (.ob _ _)::as,[]=>qbk ρ as []
  | .s i::as,o::os=>qbk (qbz ρ i o) as os
  | .s _::as,[]=>qbk ρ as []
def qbe:List Ar→List Nat
  | []=>[]
  | .t _::as=>qbe as
  | .s i::as=>i::qbe as
def qek (as:List Ar):Bool:=decide (qbe as).Nodup
def qdA:Nat→List Ar→List Om→List (List Addr)→Nat→Option (Om × List Addr)
  | n,.t (.v _)::as,os,_::Fs,i=>qdA (n+1) as os Fs i
  | n,.t (.ob _ _)::as,o::os,F::Fs,i=>if i=n then some (o,F) else qdA (n+1) as os Fs i
  | n,.s j::as,o::os,F::Fs,i=>if i=j then some (o,F) else qdA n as os Fs i
  | _,_,_,_,_=>none
section
variable {K : PySem.W.Frag} {H0 H H' Φ Φ' Φ0 : Hp} {σ σ2 : St} {ρ : qau} {fp : Nat → List Addr}
def fpA (fp:Nat→List Addr):Nat→List Ar→List (List Addr)
  | _,[]=>[]
  | n,.t (.v _)::as=>[]::fpA fp (n+1) as
  | n,.t (.ob _ _)::as=>fp n::fpA fp (n+1) as
  | n,.s j::as=>fp j::fpA fp n as
def qaR:Nat→List Ar→List Nat
  | _,[]=>[]
  | n,.t (.v _)::as=>qaR (n+1) as
  | n,.t (.ob _ _)::as=>n::qaR (n+1) as
  | n,.s j::as=>j::qaR n as
theorem fpA_mem:∀ {n:Nat} {as:List Ar} {b:Addr},b∈(fpA fp n as).flatten↔∃ i∈qaR n as,b∈fp i
  | n,[],b=>by simp [fpA,qaR]
  | n,.t (.v _)::as,b=>by simp only [fpA,qaR,List.flatten_cons,List.nil_append];exact fpA_mem
  | n,.t (.ob _ _)::as,b=>by simp only [fpA,qaR,List.flatten_cons,List.mem_append,List.mem_cons,fpA_mem (n:=n+1) (as:=as),exists_eq_or_imp]
  | n,.s j::as,b=>by simp only [fpA,qaR,List.flatten_cons,List.mem_append,List.mem_cons,fpA_mem (n:=n) (as:=as),exists_eq_or_imp]
theorem qbx:∀ {n:Nat} {as:List Ar} {i:Nat},i∈qaR n as→i∈qbe as∨(n≤i∧i<n+(tsm as).length)
  | n,[],i,h=>by cases h
  | n,.t (.v d)::as,i,h=>by
    have h:i∈qaR (n+1) as:=h
    rcases qbx h with z | z
    · exact .inl z
    · refine .inr ⟨by omega,?_⟩
      show i<n+((tsm as).length+1)
      omega
  | n,.t (.ob a o)::as,i,h=>by
    rcases List.mem_cons.mp h with rfl | h
    · refine .inr ⟨Nat.le_refl _,?_⟩
      show i<i+((tsm as).length+1)
      omega
    · rcases qbx h with z | z
      · exact .inl z
      · refine .inr ⟨by omega,?_⟩
        show i<n+((tsm as).length+1)
        omega
  | n,.s j::as,i,h=>by
    rcases List.mem_cons.mp h with rfl | h
    · exact .inl List.mem_cons_self
    · rcases qbx h with z | z
      · exact .inl (List.mem_cons_of_mem _ z)
      · exact .inr z
theorem qbr:∀ {n:Nat} {as:List Ar},(qbe as).Nodup→(∀ i∈qbe as,i<n)→(qaR n as).Nodup
  | n,[],_,_=>by simp [qaR]
  | n,.t (.v d)::as,h,hl=>qbr (n:=n+1) h fun i hi=>Nat.lt_succ_of_lt (hl i hi)
  | n,.t (.ob a o)::as,h,hl=>by
    refine List.nodup_cons.mpr ⟨fun z=>?_,qbr (n:=n+1) h fun i hi=>Nat.lt_succ_of_lt (hl i hi)⟩
    rcases qbx z with z | z
    · exact Nat.lt_irrefl _ (hl n z)
    · omega
  | n,.s j::as,h,hl=>by
    obtain ⟨h1,h2⟩:=List.nodup_cons.mp h
    refine List.nodup_cons.mpr ⟨fun z=>?_,qbr h2 fun i hi=>hl i (List.mem_cons_of_mem _ hi)⟩
    rcases qbx z with z | z
    · exact h1 z
    · have:=hl j List.mem_cons_self
      omega
theorem qfO {σx:St} {ρx:qau} (E:EnvM' K H0 Φ H σx ρx fp) (hs:∀ (i:Nat) (x:Sm),ρ[i]?=some (some x)→ρx[i]?=some (some x)) (hs2:∀ (i:Nat) (v:V),σ[i]?=some (some v)→σx[i]?=some (some v)) :
    ∀ {n:Nat} {as:List Ar} {sms:List Sm} {vs:List V} {ts:St},(∀ (j:Nat) x,(tsm as)[j]?=some x→ρx[n+j]?=some x)→(∀ (j:Nat) x,ts[j]?=some x→σx[n+j]?=some x)→qbA ρ as=some sms→ArV σ as vs ts→ArgM K Φ H sms vs (fpA fp n as)
  | n,[],sms,_,_,_,_,hr,.nil=>by cases hr;exact .nil
  | n,.t (.v d)::as,sms,_,_,h1,h2,hr,.t hv=>by
    have hr':(qbA ρ as).map (Sm.v d::·)=some sms:=hr
    cases e:qbA ρ as with
    | none=>rw [e] at hr';cases hr'
    | some sms' =>
      rw [e] at hr'
      cases hr'
      obtain ⟨w,hw,r⟩:=E.sl n d (h1 0 _ rfl)
      have:=h2 0 _ rfl
      rw [show n+0=n from rfl,hw] at this
      cases this
      exact .v r (qfO E hs hs2 (n:=n+1) (fun j x hx=>by rw [show n+1+j=n+(j+1) by omega];exact h1 (j+1) x hx) (fun j x hx=>by rw [show n+1+j=n+(j+1) by omega];exact h2 (j+1) x hx) e hv)
  | n,.t (.ob a o)::as,sms,_,_,h1,h2,hr,.t hv=>by
    have hr':(qbA ρ as).map (Sm.ob a o::·)=some sms:=hr
    cases e:qbA ρ as with
    | none=>rw [e] at hr';cases hr'
    | some sms' =>
      rw [e] at hr'
      cases hr'
      obtain ⟨w,hw,_,r⟩:=E.ow n a o (h1 0 _ rfl)
      have:=h2 0 _ rfl
      rw [show n+0=n from rfl,hw] at this
      cases this
      exact .o r (qfO E hs hs2 (n:=n+1) (fun j x hx=>by rw [show n+1+j=n+(j+1) by omega];exact h1 (j+1) x hx) (fun j x hx=>by rw [show n+1+j=n+(j+1) by omega];exact h2 (j+1) x hx) e hv)
  | n,.s i::as,sms,_,_,h1,h2,hr,.s hi hv=>by
    unfold qbA at hr
    split at hr
    · next a o ho =>
      cases e:qbA ρ as with
      | none=>rw [e] at hr;cases hr
      | some sms' =>
        rw [e] at hr
        cases hr
        obtain ⟨w,hw,_,r⟩:=E.ow i a o (hs i _ ho)
        rw [hs2 i _ hi] at hw
        cases hw
        exact .o r (qfO E hs hs2 h1 h2 e hv)
    · cases hr
theorem qfL {σx:St} {ρx:qau} (hs:∀ (i:Nat) (x:Sm),ρ[i]?=some (some x)→ρx[i]?=some (some x)) :
    ∀ {n:Nat} {as:List Ar} {sms:List Sm},(∀ (j:Nat) x,(tsm as)[j]?=some x→ρx[n+j]?=some x)→qbA ρ as=some sms→∀ i∈qaR n as,∃ a o,ρx[i]?=some (some (.ob a o))
  | n,[],sms,_,hr,i,h=>by cases h
  | n,.t (.v d)::as,sms,h1,hr,i,h=>by
    have hr':(qbA ρ as).map (Sm.v d::·)=some sms:=hr
    cases e:qbA ρ as with
    | none=>rw [e] at hr';cases hr'
    | some sms'=>exact qfL (σx:=σx) hs (n:=n+1) (fun j x hx=>by rw [show n+1+j=n+(j+1) by omega];exact h1 (j+1) x hx) e i h
  | n,.t (.ob a o)::as,sms,h1,hr,i,h=>by
    have hr':(qbA ρ as).map (Sm.ob a o::·)=some sms:=hr
    cases e:qbA ρ as with
    | none=>rw [e] at hr';cases hr'
    | some sms' =>
      rcases List.mem_cons.mp h with rfl | h
      · exact ⟨a,o,h1 0 _ rfl⟩
      · exact qfL (σx:=σx) hs (n:=n+1) (fun j x hx=>by rw [show n+1+j=n+(j+1) by omega];exact h1 (j+1) x hx) e i h
  | n,.s j::as,sms,h1,hr,i,h=>by
    unfold qbA at hr
    split at hr
    · next a o ho =>
      cases e:qbA ρ as with
      | none=>rw [e] at hr;cases hr
      | some sms' =>
        rcases List.mem_cons.mp h with rfl | h
        · exact ⟨a,o,hs _ _ ho⟩
        · exact qfL (σx:=σx) hs (n:=n) (as:=as) h1 e i h
    · cases hr
theorem qcn {σx:St} {ρx:qau} (E:EnvM' K H0 Φ H σx ρx fp):∀ {n:Nat} {as:List Ar},(qaR n as).Nodup→(∀ i∈qaR n as,∃ a o,ρx[i]?=some (some (.ob a o)))→(fpA fp n as).flatten.Nodup
  | n,[],_,_=>by simp [fpA]
  | n,.t (.v d)::as,h,ho=>by
    show ([]++(fpA fp (n+1) as).flatten).Nodup
    rw [List.nil_append]
    exact qcn E (n:=n+1) h ho
  | n,.t (.ob a o)::as,h,ho=>by
    show (fp n++(fpA fp (n+1) as).flatten).Nodup
    obtain ⟨h1,h2⟩:=List.nodup_cons.mp h
    obtain ⟨a',o',hn⟩:=ho n List.mem_cons_self
    obtain ⟨_,_,_,r⟩:=E.ow n a' o' hn
    refine List.nodup_append.mpr ⟨r.nodup,qcn E (n:=n+1) h2 fun i hi=>ho i (List.mem_cons_of_mem _ hi),fun b hb c hc e=>?_⟩
    subst e
    obtain ⟨i,hi,hbi⟩:=fpA_mem.mp hc
    obtain ⟨a2,o2,hi2⟩:=ho i (List.mem_cons_of_mem _ hi)
    exact E.dj n i a' a2 o' o2 hn hi2 (fun e=>h1 (e ▸ hi)) b hb hbi
  | n,.s j::as,h,ho=>by
    show (fp j++(fpA fp n as).flatten).Nodup
    obtain ⟨h1,h2⟩:=List.nodup_cons.mp h
    obtain ⟨a',o',hn⟩:=ho j List.mem_cons_self
    obtain ⟨_,_,_,r⟩:=E.ow j a' o' hn
    refine List.nodup_append.mpr ⟨r.nodup,qcn E h2 fun i hi=>ho i (List.mem_cons_of_mem _ hi),fun b hb c hc e=>?_⟩
    subst e
    obtain ⟨i,hi,hbi⟩:=fpA_mem.mp hc
    obtain ⟨a2,o2,hi2⟩:=ho i (List.mem_cons_of_mem _ hi)
    exact E.dj j i a' a2 o' o2 hn hi2 (fun e=>h1 (e ▸ hi)) b hb hbi
theorem qbo:∀ {n:Nat} {as:List Ar} {os:List Om} {Fs:List (List Addr)} {i:Nat} {q:Om × List Addr},qdA n as os Fs i=some q→i∈qaR n as
  | n,[],_,_,_,_,h=>by cases h
  | n,.t (.v d)::as,os,[],i,q,h=>by cases h
  | n,.t (.v d)::as,os,F::Fs,i,q,h=>qbo (n:=n+1) h
  | n,.t (.ob a o)::as,[],Fs,i,q,h=>by cases Fs <;> cases h
  | n,.t (.ob a o)::as,_::_,[],i,q,h=>by cases h
  | n,.t (.ob a o)::as,o'::os,F::Fs,i,q,h=>by
    have h:(if i=n then some (o',F) else qdA (n+1) as os Fs i)=some q:=h
    split at h
    · next c=>rw [c];exact List.mem_cons_self
    · exact List.mem_cons_of_mem _ (qbo h)
  | n,.s j::as,[],Fs,i,q,h=>by cases Fs <;> cases h
  | n,.s j::as,_::_,[],i,q,h=>by cases h
  | n,.s j::as,o'::os,F::Fs,i,q,h=>by
    have h:(if i=j then some (o',F) else qdA n as os Fs i)=some q:=h
    split at h
    · next c=>rw [c];exact List.mem_cons_self
    · exact List.mem_cons_of_mem _ (qbo h)
theorem qfY {σx:St} (hs2:∀ (i:Nat) (v:V),σ[i]?=some (some v)→σx[i]?=some (some v)) :
    ∀ {n:Nat} {as:List Ar} {sms:List Sm} {vs:List V} {ts:St} {os:List Om} {Fs:List (List Addr)},(∀ (j:Nat) x,ts[j]?=some x→σx[n+j]?=some x)→qbA ρ as=some sms→ArV σ as vs ts→OutM K Φ H sms vs os Fs→(qaR n as).Nodup→Fs.flatten.Nodup →
      (∀ i∈qaR n as,∃ q,qdA n as os Fs i=some q)∧∀ (i:Nat) (q:Om × List Addr),qdA n as os Fs i=some q→(∃ p,σx[i]?=some (some (.ref p))∧OmS K Φ H q.1 p q.2)∧(∀ b∈q.2,b∈Fs.flatten)∧∀ (j:Nat) (r:Om × List Addr),qdA n as os Fs j=some r→i≠j→∀ b∈q.2,b∉r.2
  | n,[],sms,_,_,os,Fs,_,hr,.nil,ho,_,_=>by
    refine ⟨fun i hi=>(by cases hi),fun i q h=>(by cases h)⟩
  | n,.t (.v d)::as,sms,_,_,os,Fs,h2,hr,.t hv,ho,np,nf=>by
    have hr':(qbA ρ as).map (Sm.v d::·)=some sms:=hr
    cases e:qbA ρ as with
    | none=>rw [e] at hr';cases hr'
    | some sms' =>
      rw [e] at hr'
      cases hr'
      cases ho with
      | v ho =>
        have ih:=qfY hs2 (n:=n+1) (fun j x hx=>by rw [show n+1+j=n+(j+1) by omega];exact h2 (j+1) x hx) e hv ho np (by simpa using nf)
        exact ⟨ih.1,fun i q h=>by obtain ⟨z1,z2,z3⟩:=ih.2 i q h;exact ⟨z1,fun b hb=>by simpa using z2 b hb,z3⟩⟩
  | n,.t (.ob a o)::as,sms,_,_,os,Fs,h2,hr,.t hv,ho,np,nf=>by
    have hr':(qbA ρ as).map (Sm.ob a o::·)=some sms:=hr
    cases e:qbA ρ as with
    | none=>rw [e] at hr';cases hr'
    | some sms' =>
      rw [e] at hr'
      cases hr'
      cases ho with
      | @o _ _ o' p F _ _ os Fs h1 ho =>
        obtain ⟨np1,np2⟩:=List.nodup_cons.mp np
        obtain ⟨nf1,nf2,nf3⟩:=List.nodup_append.mp (show (F++Fs.flatten).Nodup from nf)
        have ih:=qfY hs2 (n:=n+1) (fun j x hx=>by rw [show n+1+j=n+(j+1) by omega];exact h2 (j+1) x hx) e hv ho np2 nf2
        have u:∀ i,qdA n (.t (.ob a o)::as) (o'::os) (F::Fs) i=if i=n then some (o',F) else qdA (n+1) as os Fs i:=fun i=>rfl
        refine ⟨fun i hi=>?_,fun i q h=>?_⟩
        · rw [u]
          split
          · exact ⟨_,rfl⟩
          · next c=>exact ih.1 i ((List.mem_cons.mp hi).resolve_left c)
        · rw [u] at h
          split at h
          · next c =>
            subst c
            cases h
            refine ⟨⟨p,h2 0 _ rfl,h1⟩,fun b hb=>List.mem_append.mpr (.inl hb),fun j r hj c b hb hb2=>?_⟩
            rw [u,if_neg (Ne.symm c)] at hj
            exact nf3 b hb b ((ih.2 j r hj).2.1 b hb2) rfl
          · next c =>
            obtain ⟨z1,z2,z3⟩:=ih.2 i q h
            refine ⟨z1,fun b hb=>List.mem_append.mpr (.inr (z2 b hb)),fun j r hj c2 b hb hb2=>?_⟩
            rw [u] at hj
            split at hj
            · next c3 =>
              cases hj
              exact nf3 b hb2 b (z2 b hb) rfl
            · exact z3 j r hj c2 b hb hb2
  | n,.s j0::as,sms,_,_,os,Fs,h2,hr,.s hi hv,ho,np,nf=>by
    unfold qbA at hr
    split at hr
    · next a o ho0 =>
      cases e:qbA ρ as with
      | none=>rw [e] at hr;cases hr
      | some sms' =>
        rw [e] at hr
        cases hr
        cases ho with
        | @o _ _ o' p F _ _ os Fs h1 ho =>
          obtain ⟨np1,np2⟩:=List.nodup_cons.mp np
          obtain ⟨nf1,nf2,nf3⟩:=List.nodup_append.mp (show (F++Fs.flatten).Nodup from nf)
          have ih:=qfY hs2 h2 e hv ho np2 nf2
          have u:∀ i,qdA n (.s j0::as) (o'::os) (F::Fs) i=if i=j0 then some (o',F) else qdA n as os Fs i:=fun i=>rfl
          refine ⟨fun i hi=>?_,fun i q h=>?_⟩
          · rw [u]
            split
            · exact ⟨_,rfl⟩
            · next c=>exact ih.1 i ((List.mem_cons.mp hi).resolve_left c)
          · rw [u] at h
            split at h
            · next c =>
              subst c
              cases h
              refine ⟨⟨p,hs2 _ _ hi,h1⟩,fun b hb=>List.mem_append.mpr (.inl hb),fun j r hj c b hb hb2=>?_⟩
              rw [u,if_neg (Ne.symm c)] at hj
              exact nf3 b hb b ((ih.2 j r hj).2.1 b hb2) rfl
            · next c =>
              obtain ⟨z1,z2,z3⟩:=ih.2 i q h
              refine ⟨z1,fun b hb=>List.mem_append.mpr (.inr (z2 b hb)),fun j r hj c2 b hb hb2=>?_⟩
              rw [u] at hj
              split at hj
              · next c3 =>
                cases hj
                exact nf3 b hb2 b (z2 b hb) rfl
              · exact z3 j r hj c2 b hb hb2
    · cases hr
theorem qjC {ρ:qau} {i j:Nat} {o:Om} {x:Option Sm} (h:(qbz ρ i o)[j]?=some x) (c:j≠i):ρ[j]?=some x:=by
  rw [qcI] at h
  split at h
  · rwa [List.getElem?_set_ne (Ne.symm c)] at h
  · exact h
theorem qfR {ρ:qau} {i:Nat} {o:Om}:(qbz ρ i o).length=ρ.length:=by
  rw [qcI]
  split
  · rw [List.length_set]
  · rfl
theorem qap:∀ {as:List Ar} {ρ:qau} {os:List Om},(qbk ρ as os).length=ρ.length
  | [],_,_=>rfl
  | .t (.v _)::as,ρ,os=>qap (as:=as)
  | .t (.ob _ _)::as,ρ,_::os=>qap (as:=as)
  | .t (.ob _ _)::as,ρ,[]=>qap (as:=as)
  | .s i::as,ρ,o::os=>by show (qbk (qbz ρ i o) as os).length=_;rw [qap,qfR]
  | .s _::as,ρ,[]=>qap (as:=as)
theorem qbj:∀ {as:List Ar} {ρ:qau} {os:List Om} {i:Nat} {x:Option Sm},i∉qbe as→(qbk ρ as os)[i]?=some x→ρ[i]?=some x
  | [],_,_,_,_,_,h=>h
  | .t (.v _)::as,ρ,os,i,x,hn,h=>qbj (as:=as) (os:=os) hn h
  | .t (.ob _ _)::as,ρ,_::os,i,x,hn,h=>qbj (as:=as) (os:=os) hn h
  | .t (.ob _ _)::as,ρ,[],i,x,hn,h=>qbj (as:=as) (os:=[]) hn h
  | .s j::as,ρ,o::os,i,x,hn,h=>by
    have h':=qbj (as:=as) (fun z=>hn (List.mem_cons_of_mem _ z)) (show (qbk (qbz ρ j o) as os)[i]?=some x from h)
    exact qjC h' fun e=>hn (by rw [e];exact List.mem_cons_self)
  | .s j::as,ρ,[],i,x,hn,h=>qbj (as:=as) (os:=[]) (fun z=>hn (List.mem_cons_of_mem _ z)) h
theorem qbV {ρ:qau} {i j:Nat} {o:Om} (c:j≠i):(qbz ρ i o)[j]?=ρ[j]?:=by
  rw [qcI]
  split
  · rw [List.getElem?_set_ne (Ne.symm c)]
  · rfl
theorem qcC {ρ0:qau}:∀ {as:List Ar} {ρ:qau} {sms:List Sm} {vs:List V} {ts:St} {os:List Om} {Fs:List (List Addr)} {n i:Nat} {x:Sm},qbA ρ0 as=some sms→ArV σ as vs ts→OutM K Φ H sms vs os Fs→i∈qbe as→i<n→(qbe as).Nodup→(qbk ρ as os)[i]?=some (some x)→(∀ j∈qbe as,∃ a o,ρ[j]?=some (some (.ob a o))) →
    ∃ a o0 q,x=.ob a q.1∧qdA n as os Fs i=some q∧ρ[i]?=some (some (.ob a o0))
  | [],_,_,_,_,_,_,_,_,_,_,_,_,h,_,_,_,_=>by cases h
  | .t (.v d)::as,ρ,sms,_,_,os,Fs,n,i,x,hr,.t hv,ho,h,hi,nd,hp,hs=>by
    have hr':(qbA ρ0 as).map (Sm.v d::·)=some sms:=hr
    cases e:qbA ρ0 as with
    | none=>rw [e] at hr';cases hr'
    | some sms' =>
      rw [e] at hr'
      cases hr'
      cases ho with
      | v ho=>exact qcC (n:=n+1) (as:=as) e hv ho h (by omega) nd hp hs
  | .t (.ob a1 o1)::as,ρ,sms,_,_,os,Fs,n,i,x,hr,.t hv,ho,h,hi,nd,hp,hs=>by
    have hr':(qbA ρ0 as).map (Sm.ob a1 o1::·)=some sms:=hr
    cases e:qbA ρ0 as with
    | none=>rw [e] at hr';cases hr'
    | some sms' =>
      rw [e] at hr'
      cases hr'
      cases ho with
      | @o _ _ o' p F _ _ os Fs h1 ho =>
        obtain ⟨a,o0,q,e1,e2,e3⟩:=qcC (n:=n+1) (as:=as) (ρ:=ρ) e hv ho h (by omega) nd hp hs
        refine ⟨a,o0,q,e1,?_,e3⟩
        show (if i=n then some (o',F) else qdA (n+1) as os Fs i)=some q
        rw [if_neg (by omega)]
        exact e2
  | .s j::as,ρ,sms,_,_,os,Fs,n,i,x,hr,.s _ hv,ho,h,hi,nd,hp,hs=>by
    unfold qbA at hr
    split at hr
    · next a2 o2 ho0 =>
      cases e:qbA ρ0 as with
      | none=>rw [e] at hr;cases hr
      | some sms' =>
        rw [e] at hr
        cases hr
        cases ho with
        | @o _ _ o' p F _ _ os Fs h1 ho =>
          obtain ⟨nd1,nd2⟩:=List.nodup_cons.mp nd
          have hp':(qbk (qbz ρ j o') as os)[i]?=some (some x):=hp
          have u:qdA n (.s j::as) (o'::os) (F::Fs) i=if i=j then some (o',F) else qdA n as os Fs i:=rfl
          by_cases c:i=j
          · subst c
            obtain ⟨a,o0,hj⟩:=hs i List.mem_cons_self
            have:=qbj nd1 hp'
            rw [qcI] at this
            rw [hj] at this
            simp only at this
            rw [List.getElem?_set_self (qal hj)] at this
            cases this
            exact ⟨a,o0,(o',F),rfl,by rw [u,if_pos rfl],hj⟩
          · have hi':=(List.mem_cons.mp h).resolve_left c
            obtain ⟨a,o0,q,e1,e2,e3⟩:=qcC (n:=n) (as:=as) (ρ:=qbz ρ j o') e hv ho hi' hi nd2 hp' fun k hk=>by
              rw [qbV fun z=>nd1 (by rw [← z];exact hk)]
              exact hs k (List.mem_cons_of_mem _ hk)
            exact ⟨a,o0,q,e1,by rw [u,if_neg c];exact e2,by rw [qbV c] at e3;exact e3⟩
    · cases hr
theorem qej:∀ {as:List Ar} {sms:List Sm},qbA ρ as=some sms→∀ j∈qbe as,∃ a o,ρ[j]?=some (some (.ob a o))
  | [],_,_,j,h=>by cases h
  | .t s::as,sms,hr,j,h=>by
    have hr':(qbA ρ as).map (s::·)=some sms:=hr
    cases e:qbA ρ as with
    | none=>rw [e] at hr';cases hr'
    | some sms'=>exact qej e j h
  | .s i::as,sms,hr,j,h=>by
    unfold qbA at hr
    split at hr
    · next a o ho =>
      cases e:qbA ρ as with
      | none=>rw [e] at hr;cases hr
      | some sms' =>
        rcases List.mem_cons.mp h with rfl | h
        · exact ⟨a,o,ho⟩
        · exact qej e j h
    · cases hr
end
section
variable {K : PySem.W.Frag} {X : Cx} {e : Expr} {es : List Expr} {pos p : Pos} {tA : TXA}
def qiz (sp:SpM) (tA:TXA):TX:=fun ρ R Rx=>tA ρ (fun as ρ1=>∃ sms,qbA ρ1 as=some sms∧qek as=true∧sp sms (fun sm os=>R sm (qbk ρ1 as os)) (fun xd os=>Rx xd (qbk ρ1 as os))) Rx
theorem StM.lend {Φ0 H0 Φ H:Hp} {σ τ ts:St} {ρ κ:qau} {Rx:XD→qau→Prop} {as:List Ar} {sms:List Sm} {vs:List V} (S:StM K X Φ0 H0 Φ H σ (τ++ts) ρ (κ++tsm as) Rx) (hl:κ.length=τ.length) (hr:qbA ρ as=some sms) (hv:ArV σ as vs ts) (hs:qek as=true) :
    ∃ Fs,ArgM K Φ H sms vs Fs∧Fs.flatten.Nodup∧(∀ b∈Fs.flatten,Φ b=none)∧∀ sm os Φ' H' v F Fs',Gr Φ (qaL H Fs.flatten) Φ' H'→ResM K Φ' H' sm v F→OutM K Φ' H' sms vs os Fs'→(F++Fs'.flatten).Nodup→(∀ b∈F++Fs'.flatten,qaL H Fs.flatten b=none∧Φ' b=none) →
      StM K X Φ0 H0 Φ' H' σ (τ++[some v]) (qbk ρ as os) (κ++[some sm]) Rx:=by
  have nd:(qbe as).Nodup:=of_decide_eq_true hs
  obtain ⟨fp,E⟩:=S.E
  have lS:=S.l
  have hlt:(tsm as).length=ts.length:=by have:=S.lk;rw [List.length_append,List.length_append] at this;omega
  have a1:∀ (i:Nat) (x:Sm),ρ[i]?=some (some x)→(ρ++(κ++tsm as))[i]?=some (some x):=fun i x h=>by rw [List.getElem?_append_left (qal h)];exact h
  have a2:∀ (i:Nat) (v:V),σ[i]?=some (some v)→(σ++(τ++ts))[i]?=some (some v):=fun i x h=>by rw [List.getElem?_append_left (qal h)];exact h
  have a3:∀ (j:Nat) x,(tsm as)[j]?=some x→(ρ++(κ++tsm as))[ρ.length+κ.length+j]?=some x:=fun j x h=>by
    rw [List.getElem?_append_right (by omega),List.getElem?_append_right (by omega),show ρ.length+κ.length+j - ρ.length - κ.length=j by omega]
    exact h
  have a4:∀ (j:Nat) x,ts[j]?=some x→(σ++(τ++ts))[ρ.length+κ.length+j]?=some x:=fun j x h=>by
    rw [List.getElem?_append_right (by omega),List.getElem?_append_right (by omega),show ρ.length+κ.length+j - σ.length - τ.length=j by omega]
    exact h
  have sl:=qej hr
  have slt:∀ i∈qbe as,i<ρ.length:=fun i hi=>let ⟨_,_,h⟩:=sl i hi;qal h
  have pn:(qaR (ρ.length+κ.length) as).Nodup:=qbr nd fun i hi=>by have:=slt i hi;omega
  have po:=qfL (σx:=σ) a1 a3 hr
  refine ⟨fpA fp (ρ.length+κ.length) as,qfO E a1 a2 a3 a4 hr hv,qcn E pn po,fun b hb=>?_,fun sm os Φ' H' v F Fs' g hres hout hnd hno=>?_⟩
  · obtain ⟨i,hi,hbi⟩:=fpA_mem.mp hb
    obtain ⟨a,o,ho⟩:=po i hi
    exact (E.no i a o ho b hbi).2
  obtain ⟨nd1,nd2,nd3⟩:=List.nodup_append.mp hnd
  obtain ⟨n1,n2⟩:=qfY (n:=ρ.length+κ.length) a2 a4 hr hv hout pn nd2
  have B0:∀ b∈(fpA fp (ρ.length+κ.length) as).flatten,H0 b=none:=fun b hb=>by
    obtain ⟨i,hi,hbi⟩:=fpA_mem.mp hb
    obtain ⟨a,o,ho⟩:=po i hi
    exact (E.no i a o ho b hbi).1
  have pl:∀ {i:Nat},i<ρ.length+κ.length→i∉qbe as→qdA (ρ.length+κ.length) as os Fs' i=none:=fun {i} hi hn=>by
    cases e:qdA (ρ.length+κ.length) as os Fs' i with
    | none=>rfl
    | some q =>
      rcases qbx (qbo e) with z | z
      · exact absurd z hn
      · omega
  have E2:EnvM' K H0 Φ' H' (σ++(τ++ts)) (qbk ρ as os++(κ++List.replicate ts.length none)) (fpN (qdA (ρ.length+κ.length) as os Fs') fp):=by
    have cs:∀ {i:Nat} {x:Sm},(qbk ρ as os++(κ++List.replicate ts.length none))[i]?=some (some x)→(i<ρ.length∧(qbk ρ as os)[i]?=some (some x))∨(ρ.length≤i∧i<ρ.length+κ.length∧κ[i - ρ.length]?=some (some x)):=fun {i x} h=>by
      rcases Nat.lt_or_ge i ρ.length with c | c
      · rw [List.getElem?_append_left (by rw [qap];exact c)] at h
        exact .inl ⟨c,h⟩
      · rw [List.getElem?_append_right (by rw [qap];exact c),qap] at h
        rcases Nat.lt_or_ge (i - ρ.length) κ.length with c2 | c2
        · rw [List.getElem?_append_left c2] at h
          exact .inr ⟨c,by omega,h⟩
        · rw [List.getElem?_append_right c2,List.getElem?_replicate] at h
          split at h
          · cases h
          · cases h
    have kx:∀ {i:Nat} {x:Sm},ρ.length≤i→i<ρ.length+κ.length→κ[i - ρ.length]?=some (some x)→(ρ++(κ++tsm as))[i]?=some (some x):=fun {i x} c1 c2 h=>by
      rw [List.getElem?_append_right c1,List.getElem?_append_left (by omega)]
      exact h
    refine E.lend S.g.h (B:=(fpA fp (ρ.length+κ.length) as).flatten) (new:=qdA (ρ.length+κ.length) as os Fs') (fun b hb=>?_) (fun i q hq b hb=>fpA_mem.mpr ⟨i,qbo hq,hb⟩) g (by rw [List.length_append,List.length_append,List.length_append,List.length_append,List.length_replicate,qap,hlt]) (fun i d h=>?_) (fun i a o h=>?_) (fun i q hq=>(n2 i q hq).1) (fun i q hq b hb=>hno b (List.mem_append.mpr (.inr ((n2 i q hq).2.1 b hb)))) fun i j q r hq hr' c b hb=>(n2 i q hq).2.2 j r hr' c b hb
    · obtain ⟨i,hi,hbi⟩:=fpA_mem.mp hb
      obtain ⟨a,o,ho⟩:=po i hi
      obtain ⟨q,hq⟩:=n1 i hi
      exact ⟨i,a,o,q,hq,ho,hbi⟩
    · rcases cs h with ⟨c,h⟩ | ⟨c1,c2,h⟩
      · rcases Decidable.em (i∈qbe as) with z | z
        · obtain ⟨a,o0,q,e1,_⟩:=qcC (n:=ρ.length+κ.length) hr hv hout z (by omega) nd h sl
          cases e1
        · exact a1 _ _ (qbj z h)
      · exact kx c1 c2 h
    · rcases cs h with ⟨c,h⟩ | ⟨c1,c2,h⟩
      · rcases Decidable.em (i∈qbe as) with z | z
        · obtain ⟨a',o0,q,e1,e2,e3⟩:=qcC (n:=ρ.length+κ.length) hr hv hout z (by omega) nd h sl
          cases e1
          exact .inr ⟨o0,q.2,e2,a1 _ _ e3⟩
        · exact .inl ⟨pl (by omega) z,a1 _ _ (qbj z h)⟩
      · exact .inl ⟨pl c2 fun z=>by have:=slt i z;omega,kx c1 c2 h⟩
  have g0:=S.g.lend g B0
  have E3:=E2.snocG hres (fun b hb=>by
      obtain ⟨z1,z2⟩:=hno b (List.mem_append.mpr (.inl hb))
      refine ⟨?_,z2⟩
      rcases Decidable.em (b∈(fpA fp (ρ.length+κ.length) as).flatten) with c | c
      · exact B0 b c
      · rw [qa0 c] at z1
        exact S.g.h.free z1) fun b hb i a o hi hbi=>by
    unfold fpN at hbi
    cases e:qdA (ρ.length+κ.length) as os Fs' i with
    | some q =>
      rw [e] at hbi
      exact nd3 b hb b ((n2 i q e).2.1 b hbi) rfl
    | none =>
      rw [e] at hbi
      obtain ⟨p,_,_,r⟩:=E2.ow i a o hi
      unfold fpN at r
      rw [e] at r
      obtain ⟨z1,z2⟩:=hno b (List.mem_append.mpr (.inl hb))
      have own:∃ o',(ρ++(κ++tsm as))[i]?=some (some (.ob a o')):=by
        rcases Nat.lt_or_ge i ρ.length with c | c
        · rw [List.getElem?_append_left (by rw [qap];exact c)] at hi
          rcases Decidable.em (i∈qbe as) with z | z
          · obtain ⟨a',o0,q,_,e2,_⟩:=qcC (n:=ρ.length+κ.length) hr hv hout z (by omega) nd hi sl
            rw [e] at e2
            cases e2
          · exact ⟨o,a1 _ _ (qbj z hi)⟩
        · rw [List.getElem?_append_right (by rw [qap];exact c),qap] at hi
          rcases Nat.lt_or_ge (i - ρ.length) κ.length with c2 | c2
          · rw [List.getElem?_append_left c2] at hi
            exact ⟨o,by rw [List.getElem?_append_right c,List.getElem?_append_left c2];exact hi⟩
          · rw [List.getElem?_append_right c2,List.getElem?_replicate] at hi
            split at hi
            · cases hi
            · cases hi
      obtain ⟨o',ho'⟩:=own
      obtain ⟨p',_,_,r'⟩:=E.ow i a o' ho'
      obtain ⟨u,hu,_⟩:=r'.at b hbi
      have c:b∉(fpA fp (ρ.length+κ.length) as).flatten:=fun z=>by
        obtain ⟨j,hj,hbj⟩:=fpA_mem.mp z
        obtain ⟨q,hq⟩:=n1 j hj
        have cj:i≠j:=fun z=>by rw [z,hq] at e;cases e
        obtain ⟨a2',o2,hj2⟩:=po j hj
        exact E.dj i j a a2' o' o2 ho' hj2 cj b hbi hbj
      rw [qa0 c,hu] at z1
      cases z1
  refine ⟨g0,by rw [qap];exact lS,?_,S.x⟩
  refine E3.re (fun i=>if i<ρ.length+κ.length then i else ρ.length+κ.length+ts.length) (by simp only [List.length_append,List.length_cons,List.length_nil,qap];omega) (fun i x hx=>?_) fun i j a a' o o' hi hj e=>?_
  · rcases Nat.lt_or_ge i (ρ.length+κ.length) with c | c
    · rw [if_pos c]
      constructor
      · rcases Nat.lt_or_ge i ρ.length with c1 | c1
        · rw [List.getElem?_append_left (by rw [qap];exact c1)] at hx
          rw [List.getElem?_append_left (by simp only [List.length_append,qap];omega),List.getElem?_append_left (by rw [qap];exact c1)]
          exact hx
        · rw [List.getElem?_append_right (by rw [qap];exact c1),qap,List.getElem?_append_left (by omega)] at hx
          rw [List.getElem?_append_left (by simp only [List.length_append,qap];omega),List.getElem?_append_right (by rw [qap];exact c1),qap,List.getElem?_append_left (by omega)]
          exact hx
      · rcases Nat.lt_or_ge i σ.length with c1 | c1
        · rw [List.getElem?_append_left c1,List.getElem?_append_left (by simp only [List.length_append];omega),List.getElem?_append_left c1]
        · rw [List.getElem?_append_right c1,List.getElem?_append_left (by omega),List.getElem?_append_left (by simp only [List.length_append];omega),List.getElem?_append_right c1,List.getElem?_append_left (by omega)]
    · have hi:i=ρ.length+κ.length:=by
        have:=qal hx
        simp only [List.length_append,List.length_cons,List.length_nil,qap] at this
        omega
      subst hi
      rw [if_neg (by omega)]
      rw [List.getElem?_append_right (by rw [qap];omega),List.getElem?_append_right (by rw [qap];omega),qap,show ρ.length+κ.length - ρ.length - κ.length=0 by omega] at hx
      cases hx
      constructor
      · rw [List.getElem?_append_right (by simp only [List.length_append,List.length_replicate,qap];omega)]
        simp only [List.length_append,List.length_replicate,qap]
        rw [show ρ.length+κ.length+ts.length - (ρ.length+(κ.length+ts.length))=0 by omega]
        rfl
      · rw [List.getElem?_append_right (by omega),List.getElem?_append_right (by omega),List.getElem?_append_right (by simp only [List.length_append];omega)]
        simp only [List.length_append]
        rw [show ρ.length+κ.length - σ.length - τ.length=0 by omega,show ρ.length+κ.length+ts.length - (σ.length+(τ.length+ts.length))=0 by omega]
  · have hi1:=qal hi
    have hj1:=qal hj
    simp only [List.length_append,List.length_cons,List.length_nil,qap] at hi1 hj1
    have e:(if i<ρ.length+κ.length then i else ρ.length+κ.length+ts.length)=(if j<ρ.length+κ.length then j else ρ.length+κ.length+ts.length):=e
    split at e <;> split at e <;> omega
structure ClM (P:Program) (w:World) (K:PySem.W.Frag) (mg:Str→Option Value) (base:Heap) (n:Nat) (x:Str) (ps:List Str) (z:SpM):Prop where
  ex:∃ (f:Addr) (fd:FuncData),FnOk P w K mg base CX0 n f fd ps (qds K z)∧Binds K fd ps []∧PySem.W.keepIn K (.ref f)=true∧mg x=some (.ref f)
theorem qar {n:Nat} {x:Str} {ps:List Str} {z:SpM} (C:ClM X.prog X.w K X.mg X.base n x ps z) (hr:Room n X.A) (hg:Gl X x)
    (ha:PXA K X (e::es) tA) (he:starEach (e::es) X.env=(false,eval e X.env)::starEach es X.env) (hpl:(backTo pos (starEach es X.env)).any (·.1)=false) (hdb:(x == ("__debug__":Str))=false:=by decide) :
    PX K X (.Call (.Name x p) (e::es) [] pos) (qiz z tA):=⟨fun hK=>by
  obtain ⟨f,fd,F,b,k,m⟩:=C.ex
  refine (qe3 (dvs:=[]) (ds:=[]) (E:=E0) (hK ▸ F:FnOk X.prog X.w X.K X.mg X.base CX0 n f fd ps (qds K z)) hr hg m (hK ▸ k) (hK ▸ b) .nil qgk (ha.pa hK) hdb he hpl).imp fun σ H Q hq0=>?_
  obtain ⟨Φ0,H0,Φ,τ,ρ,κ,R,Rx,S,t,k⟩:=hq0
  refine ⟨Φ0,H0,Φ,τ,ρ,κ,_,Rx,S,t,fun as ρ1 Φ1 H1 vs ts r1 hl hv S1 f1=>?_⟩
  obtain ⟨sms,hres,hsl,r1⟩:=r1
  obtain ⟨Fs,g1,g2,g3,g4⟩:=S1.lend S.lk hres hv hsl
  rw [List.append_nil]
  exact ⟨Φ1,sms,Fs,_,_,S1.g.s,S1.E.tb,g1,g2,g3,r1,fun sm os Φ' H' v F Fs' r gr hr' ho hn hno=>k sm _ Φ' H' v r (g4 sm os Φ' H' v F Fs' gr hr' ho hn hno) (f1.trans gr.f)⟩⟩
end
structure EndsM where
  nx:qau→Prop
  rt:Sm→qau→Prop
  bk:qau→Prop:=fun _=>False
  ct:qau→Prop:=fun _=>False
  ex:XD→qau→Prop:=fun _ _=>False
abbrev TSM:=EndsM→qau→Prop
def qnz (K:PySem.W.Frag) (Φ0 H0:Hp) (P:qau→Prop) (Q:St→Hp→Prop):Prop:=∀ ρ' Φ' H' σ',P ρ'→Gr Φ0 H0 Φ' H'→EnvM K H0 Φ' H' σ' ρ'→Q σ' H'
structure EndOkM (K:PySem.W.Frag) (X:Cx) (Φ0 H0:Hp) (De:EndsM) (E:Ends):Prop where
  nx:qnz K Φ0 H0 De.nx E.nx
  rt:∀ sm ρ' Φ' H' v σ',De.rt sm ρ'→Gr Φ0 H0 Φ' H'→EnvM K H0 Φ' H' (σ'++[some v]) (ρ'++[some sm])→E.rt v H'
  bk:qnz K Φ0 H0 De.bk E.bk
  ct:qnz K Φ0 H0 De.ct E.ct
  ex:XeOk K X Φ0 H0 De.ex
def lM (K:PySem.W.Frag) (X:Cx) (t:TSM):TS:=fun E σ H=>∃ Φ0 H0 Φ ρ De,Gr Φ0 H0 Φ H∧EnvM K H0 Φ H σ ρ∧t De ρ∧EndOkM K X Φ0 H0 De E
structure PSM (K:PySem.W.Frag) (X:Cx) (st:Stmt) (t:TSM):Prop where ps:X.K=K→PS X st (lM K X t)
structure PSsM (K:PySem.W.Frag) (X:Cx) (st:List Stmt) (t:TSM):Prop where ps:X.K=K→PSs X st (lM K X t)
section
variable {K : PySem.W.Frag} {X : Cx} {Φ0 H0 Φ H Φ1 H1 : Hp} {σ : St} {ρ ρ1 : qau} {Rx : XD → qau → Prop} {v : V} {sm : Sm}
theorem st0 (g:Gr Φ0 H0 Φ H) (V:EnvM K H0 Φ H σ ρ) (x:XeOk K X Φ0 H0 Rx):StM K X Φ0 H0 Φ H σ [] ρ [] Rx:=⟨g,V.len.symm,by rw [List.append_nil,List.append_nil];exact V,x⟩
theorem StM.env1 (S:StM K X Φ0 H0 Φ H σ ([]++[some v]) ρ ([]++[some sm]) Rx):EnvM K H0 Φ H (σ++[some v]) (ρ++[some sm]):=S.E
end
section
variable {K : PySem.W.Frag} {X : Cx} {st : Stmt} {rest : List Stmt} {t u : TSM} {e a : Expr} {te : TX} {pos : Pos} {tt : TXB}
def qmU:TSM:=fun De ρ=>De.nx ρ
def qoA (t u:TSM):TSM:=fun De ρ=>t { De with nx:=u De } ρ
def qoC (t u:TSM):TSM:=fun De ρ=>∃ I:qau→Prop,t { De with nx:=I } ρ∧∀ ρ',I ρ'→u De ρ'
theorem qa1:PSsM K X [] qmU:=⟨fun _=>pss_nil.imp fun E σ H hq0=>by obtain ⟨Φ0,H0,Φ,ρ,De,g,V,t,k⟩:=hq0;exact k.nx ρ Φ H σ t g V⟩
theorem qaq (h1:PSM K X st t) (h2:PSsM K X rest u):PSsM K X (st::rest) (qoA t u):=⟨fun hK=>(qc0 (h1.ps hK) (h2.ps hK)).imp fun E σ H hq0=>by obtain ⟨Φ0,H0,Φ,ρ,De,g,V,t,k⟩:=hq0;exact
  ⟨Φ0,H0,Φ,ρ,_,g,V,t,⟨fun ρ' Φ' H' σ' t' g' V'=>⟨Φ0,H0,Φ',ρ',De,g',V',t',k⟩,k.rt,k.bk,k.ct,k.ex⟩⟩⟩
theorem qaY (h1:PSM K X st t) (h2:PSsM K X rest u):PSsM K X (st::rest) (qoC t u):=⟨fun hK=>(qc0 (h1.ps hK) (h2.ps hK)).imp fun E σ H hq0=>by obtain ⟨Φ0,H0,Φ,ρ,De,g,V,⟨I,t,c⟩,k⟩:=hq0;exact
  ⟨Φ0,H0,Φ,ρ,_,g,V,t,⟨fun ρ' Φ' H' σ' t' g' V'=>⟨Φ0,H0,Φ',ρ',De,g',V',c ρ' t',k⟩,k.rt,k.bk,k.ct,k.ex⟩⟩⟩
theorem qav (h1:PSM K X st t):PSsM K X [st] t:=⟨fun hK=>qe5 (h1.ps hK)⟩
def qnC (i:Nat) (te:TX):TSM:=fun De ρ=>te ρ (fun s ρ1=>De.nx (ρ1.set i (some s))) De.ex
theorem qhs {i:Nat} {E:Ends} {σ:St} {H:Hp} (h:lM K X (qnC i te) E σ H):qml (lXm K X te) (qj8 i) E σ H:=by
  obtain ⟨Φ0,H0,Φ,ρ,De,g,V,t,k⟩:=h
  exact ⟨Φ0,H0,Φ,[],ρ,[],_,De.ex,st0 g V k.ex,t,fun s ρ1 Φ1 H1 v r S1 _=>k.nx _ Φ1 H1 _ r S1.g (S1.env1.store i)⟩
theorem qaE {i:Nat} {x:Str} {pos':Pos} (hN:X.N.Nodup) (hi:X.N[i]?=some x) (hx:Loc X.env.scope x) (he:PX K X e te) (hs:swapsWith e (some (.Name x pos')) pos.line X.env=pure false:=by rfl) (hf:X.fn x=true∨X.env.scope.names.lookup x=some .local:=by first | exact .inl rfl | exact .inr rfl | assumption) :
    PSM K X (.Assign [.Name x pos'] e pos) (qnC i te):=⟨fun hK=>(qk6 hN hi hx (he.pe hK) hs hf).imp fun _ _ _=>qhs⟩
def qnv (te:TX):TSM:=fun De ρ=>te ρ (fun _ ρ1=>De.nx ρ1) De.ex
theorem qeH (he:PX K X e te) (hs:swapsWith e none pos.line X.env=pure false:=by rfl):PSM K X (.Expr e pos) (qnv te) :=
  ⟨fun hK=>(qfn (he.pe hK) hs).imp fun E σ H hq0=>by
    obtain ⟨Φ0,H0,Φ,ρ,De,g,V,t,k⟩:=hq0
    exact ⟨Φ0,H0,Φ,[],ρ,[],_,De.ex,st0 g V k.ex,t,fun s ρ1 Φ1 H1 v r S1 _=>k.nx _ Φ1 H1 σ r S1.g S1.env⟩⟩
def qnY (te:TX):TSM:=fun De ρ=>te ρ De.rt De.ex
theorem qaW (he:PX K X e te):PSM K X (.Return (some e) pos) (qnY te) :=
  ⟨fun hK=>(qi4 (he.pe hK)).imp fun E σ H hq0=>by
    obtain ⟨Φ0,H0,Φ,ρ,De,g,V,t,k⟩:=hq0
    exact ⟨Φ0,H0,Φ,[],ρ,[],_,De.ex,st0 g V k.ex,t,fun s ρ1 Φ1 H1 v r S1 _=>k.rt s ρ1 Φ1 H1 v σ r S1.g S1.env1⟩⟩
def mIf (c:TXB) (t u:TSM):TSM:=fun De ρ=>c ρ (fun b ρ1=>(b=true→t De ρ1)∧(b=false→u De ρ1)) De.ex
theorem qb9 {c:Expr} {a b:List Stmt} (hc:PXB K X c tt) (ha:PSsM K X a t) (hb:PSsM K X b u):PSM K X (.If c a b pos) (mIf tt t u) :=
  ⟨fun hK=>(qkF (hc.pt hK) (ha.ps hK) (hb.ps hK)).imp fun E σ H hq0=>by
    obtain ⟨Φ0,H0,Φ,ρ,De,g,V,t,k⟩:=hq0
    refine ⟨Φ0,H0,Φ,[],ρ,[],_,De.ex,st0 g V k.ex,t,fun c ρ1 Φ1 H1 r S1 _=>?_⟩
    cases c with
    | true=>refine qmb ?_;exact ⟨Φ0,H0,Φ1,ρ1,De,S1.g,S1.env,r.1 rfl,k⟩
    | false=>refine qmc ?_;exact ⟨Φ0,H0,Φ1,ρ1,De,S1.g,S1.env,r.2 rfl,k⟩⟩
abbrev TGM:=D→qau→(qau→Prop)→Prop
abbrev qjr:=List D→qau→(qau→Prop)→Prop
def lGM (K:PySem.W.Frag) (g:TGM):TG:=fun v σ H Q=>∃ H0 Φ ρ d R,EnvM K H0 Φ H σ ρ∧Rp K Φ d v∧g d ρ R∧∀ ρ' σ',R ρ'→EnvM K H0 Φ H σ' ρ'→Q σ' H
def qnA (K:PySem.W.Frag) (g:qjr):TGs:=fun vs σ H Q=>∃ H0 Φ ρ ds R,EnvM K H0 Φ H σ ρ∧RpL K Φ ds vs∧g ds ρ R∧∀ ρ' σ',R ρ'→EnvM K H0 Φ H σ' ρ'→Q σ' H
structure PGM (K:PySem.W.Frag) (X:Cx) (e:Expr) (g:TGM):Prop where pg:X.K=K→PG X e (lGM K g)
structure PGMs (K:PySem.W.Frag) (X:Cx) (es:List Expr) (g:qjr):Prop where pg:X.K=K→PGs X es (qnA K g)
end
section
variable {K : PySem.W.Frag} {X : Cx} {e : Expr} {es : List Expr} {pos : Pos} {g : TGM} {gs : qjr}
def qof (i:Nat):TGM:=fun d ρ R=>R (ρ.set i (some (.v d)))
theorem qdK {i:Nat} {x:Str} (hN:X.N.Nodup) (hi:X.N[i]?=some x) (hx:Loc X.env.scope x) (hf:X.fn x=true∨X.env.scope.names.lookup x=some .local:=by first | exact .inl rfl | exact .inr rfl | assumption):PGM K X (.Name x pos) (qof i) :=
  ⟨fun _=>(qhf hN hi hx hf).imp fun v σ H Q hq0=>by obtain ⟨H0,Φ,ρ,d,R,E,r,g,k⟩:=hq0;exact k _ _ g ((E.snocV r).store i)⟩
def qmV:qjr:=fun ds ρ R=>match ds with | []=>R ρ | _=>False
def qlG (t:TGM) (u:qjr):qjr:=fun ds ρ R=>match ds with | d::r=>t d ρ fun ρ'=>u r ρ' R | []=>False
theorem qk9:PGMs K X [] qmV:=⟨fun _=>pgs_nil.imp fun v σ H Q hq0=>by
  obtain ⟨H0,Φ,ρ,ds,R,E,r,g,k⟩:=hq0
  cases ds with
  | nil=>exact ⟨List.length_eq_zero_iff.mp r.1,k _ _ g E⟩
  | cons=>exact g.elim⟩
theorem qg8 (h1:PGM K X e g) (h2:PGMs K X es gs) (hs:(assignEach (e::es) X.env).map (·.2)=assign e X.env::(assignEach es X.env).map (·.2):=by rfl):PGMs K X (e::es) (qlG g gs) :=
  ⟨fun hK=>(qfF (h1.pg hK) (h2.pg hK) hs).imp fun vs σ H Q hq0=>by
    obtain ⟨H0,Φ,ρ,ds,R,E,r,g,k⟩:=hq0
    cases ds with
    | nil=>exact g.elim
    | cons d ds =>
      cases vs with
      | nil=>exact absurd r.1 (by simp)
      | cons v vs =>
        refine ⟨v,vs,rfl,H0,Φ,ρ,d,_,E,r.2 0 v d rfl rfl,g,fun ρ' σ' g' E'=>⟨H0,Φ,ρ',ds,R,E',⟨by have:=r.1;simpa using this,fun i u f hu hf=>r.2 (i+1) u f hu hf⟩,g',k⟩⟩⟩
def qn5 (n:Nat) (t:qjr):TGM:=fun d ρ R=>match d with | .tup ds=>ds.length=n∧t ds ρ R | .lst ds=>ds.length=n∧t ds ρ R | _=>False
def gTL (K:PySem.W.Frag) (n:Nat) (t:TGs):TG:=fun v σ H Q=>qnb K n t v σ H Q∨qmQ K n t v σ H Q
theorem qnc {k n:Nat} {t:TGs} (hK:X.K=K) (hc:X.calm=true) (h:PGs X es t) (hn:(assignEach es X.env).length=n) (hst:(assignEach es X.env).findIdx? (·.1)=none):PG X (.Tuple es k pos) (gTL K n t):=fun pins s σ H v u Q I r hw=>by
  rcases hw with hw | hw
  · exact qfH hK hc h hn hst pins s σ H v u Q I r hw
  · exact qfM hK hc h hn hst pins s σ H v u Q I r hw
theorem qmu {k n:Nat} (hc:X.calm=true) (h:PGMs K X es gs) (hn:(assignEach es X.env).length=n:=by rfl) (hst:(assignEach es X.env).findIdx? (·.1)=none:=by rfl):PGM K X (.Tuple es k pos) (qn5 n gs) :=
  ⟨fun hK=>(qnc hK hc (h.pg hK) hn hst:PG X (.Tuple es k pos) (gTL K n (qnA K gs))).imp fun v σ H Q hq0=>by
    obtain ⟨H0,Φ,ρ,d,R,E,r,g,k⟩:=hq0
    cases d with
    | tup ds=>cases r with | tup h1 h2 h3=>exact .inl ⟨_,_,rfl,.of (E.fz _ _ h1),by rw [h2];exact g.1,H0,Φ,ρ,ds,R,E,⟨h2,h3⟩,g.2,k⟩
    | lst ds=>cases r with | lst h1 h2 h3=>exact .inr ⟨_,_,rfl,.of (E.fz _ _ h1),by rw [h2];exact g.1,H0,Φ,ρ,ds,R,E,⟨h2,h3⟩,g.2,k⟩
    | _=>exact g.elim⟩
end
section
variable {K : PySem.W.Frag} {X : Cx} {st : Stmt} {rest : List Stmt} {t u : TSM} {e a : Expr} {te : TX} {pos : Pos} {tt : TXB}
def qoo (te:TX) (g:TGM):TSM:=fun De ρ=>te ρ (xV fun d ρ1=>g d ρ1 De.nx) De.ex
theorem qmq {tg:Expr} {gd:TGM} (he:PX K X e te) (hg:PGM K X tg gd) (hs:swapsWithSole [tg] e pos.line X.env=pure false:=by rfl) (hw:swappedStores [tg] e X.env=pure none:=by rfl)
    (h1:(assignEach [tg] X.env).map (·.2)=[assign tg X.env]:=by rfl):PSM K X (.Assign [tg] e pos) (qoo te gd) :=
  ⟨fun hK=>(qi0 (he.pe hK) (hg.pg hK) hs hw h1).imp fun E σ H hq0=>by
    obtain ⟨Φ0,H0,Φ,ρ,De,g,V,t,k⟩:=hq0
    refine ⟨Φ0,H0,Φ,[],ρ,[],_,De.ex,st0 g V k.ex,t,fun s ρ1 Φ1 H1 v r S1 _=>?_⟩
    obtain ⟨d,rfl,r⟩:=r.get
    exact ⟨H0,Φ1,ρ1,d,_,S1.env,S1.last,r,fun ρ' σ' r' V'=>k.nx ρ' Φ1 H1 σ' r' S1.g V'⟩⟩
def qlU (c:TXB) (tb:TSM):TSM:=fun De ρ=>∃ I:Nat→qau→Prop,(∃ m,I m ρ)∧∀ m ρ',I m ρ'→c ρ' (fun b ρ1=>(b=true→tb { De with nx:=fun ρ2=>∃ m',m'<m∧I m' ρ2,ct:=fun ρ2=>∃ m',m'<m∧I m' ρ2,bk:=De.nx } ρ1)∧(b=false→De.nx ρ1)) De.ex
theorem qkb {c:Expr} {body:List Stmt} {tb:TSM} (hp:PassesOwn (model X.prog X.w) X.A X.env X.xe) (hc:PXB K X c tt) (hb:PSsM K X body tb):PSM K X (.While c body [] pos) (qlU tt tb) :=
  ⟨fun hK=>(qir hp (hc.pt hK) (hb.ps hK)).imp fun E σ H hq0=>by
    obtain ⟨Φ0,H0,Φ,ρ,De,g,V,⟨I,⟨m,h0⟩,hw⟩,k⟩:=hq0
    refine ⟨fun m σ H=>∃ Φ' ρ',Gr Φ0 H0 Φ' H∧EnvM K H0 Φ' H σ ρ'∧I m ρ',⟨m,Φ,ρ,g,V,h0⟩,?_⟩
    rintro m σ' H' ⟨Φ',ρ',g',V',hi⟩
    refine ⟨Φ0,H0,Φ',[],ρ',[],_,De.ex,st0 g' V' k.ex,hw m ρ' hi,fun b ρ1 Φ1 H1 r S1 _=>?_⟩
    cases b with
    | false=>refine qmc ?_;exact k.nx ρ1 Φ1 H1 σ' (r.2 rfl) S1.g S1.env
    | true =>
      refine qmb ?_
      refine ⟨fun σ2 H2=>∃ m',m'<m∧∃ Φ' ρ',Gr Φ0 H0 Φ' H2∧EnvM K H0 Φ' H2 σ2 ρ'∧I m' ρ',fun σ2 H2 h=>h,Φ0,H0,Φ1,ρ1,_,S1.g,S1.env,r.1 rfl,⟨?_,k.rt,k.nx,?_,k.ex⟩⟩
      · rintro ρ2 Φ2 H2 σ2 ⟨m',hm,hi'⟩ g2 V2
        exact ⟨m',hm,Φ2,ρ2,g2,V2,hi'⟩
      · rintro ρ2 Φ2 H2 σ2 ⟨m',hm,hi'⟩ g2 V2
        exact ⟨m',hm,Φ2,ρ2,g2,V2,hi'⟩⟩
abbrev TIM:=qau→(List D→qau→Prop)→(XD→qau→Prop)→Prop
def lIM (K:PySem.W.Frag) (X:Cx) (t:TIM):TI:=fun σ H R'=>∃ Φ0 H0 Φ τ ρ κ R Rx,StM K X Φ0 H0 Φ H σ τ ρ κ Rx∧t ρ R Rx∧∀ ds ρ' Φ' H' J,R ds ρ'→StM K X Φ0 H0 Φ' H' σ τ ρ' κ Rx→Same Φ Φ'→SteadyD K J Φ' ds→R' J H'
structure PIM (K:PySem.W.Frag) (X:Cx) (tg e:Expr) (t:TIM):Prop where pi:X.K=K→PI X tg e (lIM K X t)
def iD (t:TDL):TIM:=fun ρ R _=>t (prR ρ) fun ds=>R ds ρ
theorem qi9 {tg:Expr} {t:TDL} (h:PID K X tg e t):PIM K X tg e (iD t):=⟨fun hK=>(h.pi hK).imp fun σ H R' hq0=>by
  obtain ⟨Φ0,H0,Φ,τ,ρ,κ,R,Rx,S,t,k⟩:=hq0
  exact ⟨H0,Φ,prR ρ,_,S.env.toD,t,fun ds Φ' H' J r g Sd=>k ds ρ Φ' H' J r (S.gr g) g.f Sd⟩⟩
def qje (t:TXA):TIM:=fun ρ R Rx=>t ρ (xaD fun ds ρ1=>match ds with | [.int j]=>(-(2 ^ 62)≤j∧j<2 ^ 62)∧R (qdd 0 j.toNat) ρ1 | _=>False) Rx
theorem qg3 {tg:Expr} {tA:TXA} {p:Pos} (hg:Gl X "range") (hm:X.mg "range"=none) (ha:PXA K X [a] tA) (hs:starEach [a] X.env=[(false,eval a X.env)]:=by rfl):PIM K X tg (.Call (.Name "range" p) [a] [] pos) (qje tA) :=
  ⟨fun hK=>(qeE hg hm (ha.pa hK) hs).imp fun σ H R' hq0=>by
    obtain ⟨Φ0,H0,Φ,τ,ρ,κ,R,Rx,S,t,k⟩:=hq0
    refine ⟨Φ0,H0,Φ,τ,ρ,κ,_,Rx,S,t,fun as ρ1 Φ1 H1 vs ts r1 hl hv S1 f1=>?_⟩
    obtain ⟨ds,hd,r1⟩:=r1.get
    have rl:=S1.vals S.lk hd hv
    match ds,r1,rl with
    | [.int j],r,rl =>
      obtain ⟨v,rfl,r1⟩:=rl.one_inv
      cases r1
      exact ⟨j,rfl,r.1.1,r.1.2,k _ ρ1 Φ1 H1 _ r.2 (S1.pop S.lk) f1 qcs⟩⟩
theorem XeOk.join {Φ0 H0 H Φ3:Hp} {Rx:XD→qau→Prop} (x:XeOk K X Φ0 H0 Rx) (g:Gr Φ0 H0 Φ3 H):XeOk K X Φ3 H0 Rx:=fun xd ρ' Φ' H' σ' e s' pins r g' V h=>x xd ρ' Φ' H' σ' e s' pins r (g.join g') V h
def qn3 (ti:TIM) (gd:TGM) (tb:TSM):TSM:=fun De ρ=>ti ρ (fun ds ρ0=>∃ I:Nat→qau→Prop,I 0 ρ0∧(∀ i d ρ',ds[i]?=some d→I i ρ'→gd d ρ' fun ρ2=>tb { De with nx:=I (i+1),ct:=I (i+1),bk:=De.nx } ρ2)∧∀ ρ',I ds.length ρ'→De.nx ρ') De.ex
theorem qlW {tg iter:Expr} {body:List Stmt} {ti:TIM} {gd:TGM} {tb:TSM} (hp:PassesOwn (model X.prog X.w) X.A X.env X.xe) (hc:X.calm=true) (hi:PIM K X tg iter ti) (hg:PGM K X tg gd) (hb:PSsM K X body tb)
    (hs:∀ x,foldedSetIterable iter X.env x=pure x:=by intro _;rfl):PSM K X (.For tg iter body [] pos) (qn3 ti gd tb) :=
  ⟨fun hK=>(qiX hp hc (hi.pi hK) (hg.pg hK) (hb.ps hK) hs).imp fun E σ H hq0=>by
    obtain ⟨Φ0,H0,Φ,ρ,De,g,V,t,k⟩:=hq0
    refine ⟨Φ0,H0,Φ,[],ρ,[],_,De.ex,st0 g V k.ex,t,fun ds ρ0 Φ1 H1 J hq1 S1 _ Sd=>?_⟩
    obtain ⟨I,h0,hst,hend⟩:=hq1
    refine ⟨fun i m σ H'=>m=ds.length - i∧i≤ds.length∧∃ Φ' ρ',Gr Φ0 H0 Φ' H'∧Same Φ1 Φ'∧EnvM K H0 Φ' H' σ ρ'∧I i ρ',⟨ds.length,by simp,Nat.zero_le _,Φ1,ρ0,S1.g,Same.refl _,S1.env,h0⟩,?_⟩
    rintro i m σ' H' ⟨rfl,hi,Φ',ρ',g',s',V',hI⟩
    by_cases hlt:i<ds.length
    · refine .inr ⟨Sd.go i H' (s'.trans V'.fz) hlt,fun σ2 H2=>∃ Φ' ρ',Gr Φ0 H0 Φ' H2∧Same Φ1 Φ'∧EnvM K H0 Φ' H2 σ2 ρ'∧I (i+1) ρ',fun σ2 H2 h2=>⟨ds.length - (i+1),by omega,rfl,hlt,h2⟩,fun x H2 y=>?_⟩
      obtain ⟨Φ3,g3,rx⟩:=Sd.yl i Φ' H' x H2 _ s' V'.fz (qaH hlt) y
      refine ⟨H0,Φ3,ρ',_,_,V'.gr g3,rx,hst i _ ρ' (qaH hlt) hI,fun ρ2 σ3 t2 V3=>?_⟩
      refine ⟨Φ3,H0,Φ3,ρ2,_,?_,V3,t2,⟨?_,?_,?_,?_,k.ex.join (g'.trans g3)⟩⟩
      · exact ⟨Same.refl _,(g'.trans g3).h,g3.s,fun p u hp hn _=>hn⟩
      · intro ρ4 Φ4 H4 σ4 t4 g4 V4
        exact ⟨Φ4,ρ4,(g'.trans g3).join g4,(s'.trans g3.f).trans g4.f,V4,t4⟩
      · intro sm ρ4 Φ4 H4 v σ4 r g4 V4
        exact k.rt sm ρ4 Φ4 H4 v σ4 r ((g'.trans g3).join g4) V4
      · intro ρ4 Φ4 H4 σ4 t4 g4 V4
        exact k.nx ρ4 Φ4 H4 σ4 t4 ((g'.trans g3).join g4) V4
      · intro ρ4 Φ4 H4 σ4 t4 g4 V4
        exact ⟨Φ4,ρ4,(g'.trans g3).join g4,(s'.trans g3.f).trans g4.f,V4,t4⟩
    · have e:i=ds.length:=by omega
      subst e
      exact .inl ⟨Sd.stop H' (s'.trans V'.fz),k.nx ρ' Φ' H' σ' (hend ρ' hI) g' V'⟩⟩
end
def qaw:List Sm→List Addr→qau
  | [],_=>[]
  | .v d::as,ps=>some (.v d)::qaw as ps
  | .ob _ o::as,p::ps=>some (.ob (some p) o)::qaw as ps
  | .ob _ _::as,[]=>none::qaw as []
def qch (N:List Str) (as:List Sm) (ps:List Addr):qau:=qaw as ps++List.replicate (N.length - as.length) none
def qaz:List Str→List Sm→List Addr→qau
  | [],as,ps=>qaw as ps
  | _::N,[],ps=>none::qaz N [] ps
  | _::N,.v d::as,ps=>some (.v d)::qaz N as ps
  | _::N,.ob _ o::as,p::ps=>some (.ob (some p) o)::qaz N as ps
  | _::N,.ob _ _::as,[]=>none::qaz N as []
theorem qbw:∀ (N:List Str) (as:List Sm) (ps:List Addr),qch N as ps=qaz N as ps
  | [],as,ps=>by unfold qch;rw [List.length_nil,Nat.zero_sub,List.replicate_zero,List.append_nil];rfl
  | n::N,[],ps=>by
    have:=qbw N [] ps
    unfold qch at this ⊢
    show List.replicate (N.length+1 - 0) none=none::qaz N [] ps
    rw [← this]
    rfl
  | n::N,.v d::as,ps=>by
    have:=qbw N as ps
    unfold qch at this ⊢
    rw [List.length_cons,List.length_cons,Nat.add_sub_add_right]
    exact congrArg (some (Sm.v d)::·) this
  | n::N,.ob a o::as,p::ps=>by
    have:=qbw N as ps
    unfold qch at this ⊢
    rw [List.length_cons,List.length_cons,Nat.add_sub_add_right]
    exact congrArg (some (Sm.ob (some p) o)::·) this
  | n::N,.ob _ _::as,[]=>by
    have:=qbw N as []
    unfold qch at this ⊢
    rw [List.length_cons,List.length_cons,Nat.add_sub_add_right]
    exact congrArg (none::·) this
def qgx (k:List Om→Prop):List Sm→List Addr→Nat→qau→Prop
  | [],_,_,_=>k []
  | .v _::as,ps,i,ρ=>qgx k as ps (i+1) ρ
  | .ob _ _::as,p::ps,i,ρ=>∃ o,ρ[i]?=some (some (.ob (some p) o))∧qgx (fun os=>k (o::os)) as ps (i+1) ρ
  | .ob _ _::_,[],_,_=>False
def qjX:List Sm→Nat
  | []=>0
  | .v _::as=>qjX as
  | .ob _ _::as=>qjX as+1
def qcd:List Sm→List V→List Addr
  | .v _::as,_::vs=>qcd as vs
  | .ob _ _::as,.ref p::vs=>p::qcd as vs
  | _,_=>[]
section
variable {K : PySem.W.Frag} {Φ H Φ' H' H0 : Hp}
theorem qcr:∀ {as:List Sm} {vs:List V} {Fs:List (List Addr)},ArgM K Φ H as vs Fs→(qcd as vs).length=qjX as
  | [],_,_,.nil=>rfl
  | _,_,_,.v (as:=as) (vs:=vs) _ t=>show (qcd as vs).length=qjX as from qcr t
  | _,_,_,.o _ t=>by show (_::qcd _ _).length=qjX _+1;rw [List.length_cons,qcr t]
theorem qb8:∀ {as:List Sm} {ps:List Addr},(qaw as ps).length=as.length
  | [],_=>rfl
  | .v d::as,ps=>by show (qaw as ps).length+1=_;rw [qb8];rfl
  | .ob _ o::as,p::ps=>by show (qaw as ps).length+1=_;rw [qb8];rfl
  | .ob _ _::as,[]=>by show (qaw as []).length+1=_;rw [qb8];rfl
theorem qbE:∀ {as:List Sm} {vs:List V} {Fs:List (List Addr)},ArgM K Φ H as vs Fs→∀ {i:Nat} {x:Sm},(qaw as (qcd as vs))[i]?=some (some x) →
    (∃ d v,x=.v d∧vs[i]?=some v∧Rp K Φ d v)∨∃ o p F,x=.ob (some p) o∧vs[i]?=some (.ref p)∧Fs[i]?=some F∧OmS K Φ H o p F
  | [],_,_,.nil,i,x,h=>by simp [qaw] at h
  | _,_,_,.v (d:=d) r t,0,x,h=>by cases h;exact .inl ⟨d,_,rfl,rfl,r⟩
  | _,_,_,.v r t,i+1,x,h=>qbE t (i:=i) h
  | _,_,_,.o (o:=o) (p:=p) (F:=F) r t,0,x,h=>by cases h;exact .inr ⟨o,p,F,rfl,rfl,rfl,r⟩
  | _,_,_,.o r t,i+1,x,h=>qbE t (i:=i) h
theorem qgR:∀ {Fs:List (List Addr)},Fs.flatten.Nodup→∀ {i j:Nat} {F G:List Addr},Fs[i]?=some F→Fs[j]?=some G→i≠j→∀ b∈F,b∉G
  | [],_,i,j,F,G,h,_,_,_,_=>by simp at h
  | L::Fs,nd,i,j,F,G,hi,hj,c,b,hb=>by
    obtain ⟨n1,n2,n3⟩:=List.nodup_append.mp (show (L++Fs.flatten).Nodup from nd)
    intro hb2
    cases i with
    | zero =>
      cases hi
      cases j with
      | zero=>exact c rfl
      | succ j=>exact n3 b hb b (List.mem_flatten.mpr ⟨G,List.mem_of_getElem? (i:=j) (by simpa using hj),hb2⟩) rfl
    | succ i =>
      cases j with
      | zero =>
        cases hj
        exact n3 b hb2 b (List.mem_flatten.mpr ⟨F,List.mem_of_getElem? (i:=i) (by simpa using hi),hb⟩) rfl
      | succ j=>exact qgR n2 (by simpa using hi) (by simpa using hj) (fun e=>c (by rw [e])) b hb hb2
theorem qdJ {N:List Str} {as:List Sm} {vs:List V} {Fs:List (List Addr)} (sm:Same Φ H) (tb:TabF K Φ) (ha:ArgM K Φ H as vs Fs) (nd:Fs.flatten.Nodup) (hn:∀ b∈Fs.flatten,Φ b=none):EnvM K (qaL H Fs.flatten) Φ H (qca N vs) (qch N as (qcd as vs)):=by
  have cs:∀ {i:Nat} {x:Sm},(qch N as (qcd as vs))[i]?=some (some x)→(qaw as (qcd as vs))[i]?=some (some x):=fun {i x} h=>by
    unfold qch at h
    rcases Nat.lt_or_ge i (qaw as (qcd as vs)).length with c | c
    · rwa [List.getElem?_append_left c] at h
    · rw [List.getElem?_append_right c,List.getElem?_replicate] at h
      split at h <;> cases h
  have sv:∀ {i:Nat} {v:V},vs[i]?=some v→(qca N vs)[i]?=some (some v):=fun {i v} h=>by
    unfold qca
    rw [List.getElem?_append_left (by rw [List.length_map];exact qal h),List.getElem?_map,h]
    rfl
  obtain ⟨l1,l2⟩:=ha.len
  refine ⟨fun i=>Fs.getD i [],sm,by unfold qca qch;rw [List.length_append,List.length_append,List.length_map,List.length_replicate,List.length_replicate,qb8,l1],fun i d h=>?_,fun i a o h=>?_,fun i a o h b hb=>?_,fun i j a a' o o' hi hj c b hb=>?_,tb⟩
  · rcases qbE ha (cs h) with ⟨d',v,e,hv,r⟩ | ⟨o,p,F,e,_⟩
    · cases e;exact ⟨v,sv hv,r⟩
    · cases e
  · rcases qbE ha (cs h) with ⟨d',v,e,hv,r⟩ | ⟨o',p,F,e,hv,hF,r⟩
    · cases e
    · cases e
      refine ⟨p,sv hv,(fun q e=>by cases e;rfl),?_⟩
      rw [List.getD_eq_getElem?_getD,hF]
      exact r
  · rcases qbE ha (cs h) with ⟨d',v,e,_⟩ | ⟨o',p,F,e,hv,hF,r⟩
    · cases e
    · rw [List.getD_eq_getElem?_getD,hF] at hb
      have hm:b∈Fs.flatten:=List.mem_flatten.mpr ⟨F,List.mem_of_getElem? hF,hb⟩
      exact ⟨qfU hm,hn b hm⟩
  · rcases qbE ha (cs hi) with ⟨d',v,e,_⟩ | ⟨o1,p1,F1,e,_,hF1,_⟩
    · cases e
    · rcases qbE ha (cs hj) with ⟨d',v,e,_⟩ | ⟨o2,p2,F2,e,_,hF2,_⟩
      · cases e
      · rw [List.getD_eq_getElem?_getD,hF1] at hb
        rw [List.getD_eq_getElem?_getD,hF2]
        exact qgR nd hF1 hF2 c b hb
theorem qdx {fp:Nat→List Addr} {σ:St} {ρ:qau} {k:List Om→Prop} (E:EnvM' K H0 Φ' H' σ ρ fp):∀ {as:List Sm} {vs:List V} {Fs:List (List Addr)} {i:Nat} {k:List Om→Prop},ArgM K Φ H as vs Fs→qgx k as (qcd as vs) i ρ →
    ∃ os Fs',OutM K Φ' H' as vs os Fs'∧k os∧Fs'.flatten.Nodup∧(∀ b∈Fs'.flatten,H0 b=none∧Φ' b=none)∧∀ b∈Fs'.flatten,∃ j a o,i≤j∧j<i+as.length∧ρ[j]?=some (some (.ob a o))∧b∈fp j
  | [],_,_,i,k,.nil,h=>⟨[],[],.nil,h,by simp,fun b hb=>(by cases hb),fun b hb=>(by cases hb)⟩
  | _,_,_,i,k,.v (as:=as) r t,h=>by
    obtain ⟨os,Fs',h1,h2,h3,h4,h5⟩:=qdx (k:=k) E (i:=i+1) t h
    refine ⟨os,[]::Fs',.v h1,h2,by simpa using h3,fun b hb=>h4 b (by simpa using hb),fun b hb=>?_⟩
    obtain ⟨j,a,o,j1,j2,j3⟩:=h5 b (by simpa using hb)
    exact ⟨j,a,o,by omega,by rw [List.length_cons];omega,j3⟩
  | _,_,_,i,k,.o (p:=p) (as:=as) (vs:=vs) r t,h=>by
    obtain ⟨o',ho,h⟩:=(show ∃ o,ρ[i]?=some (some (.ob (some p) o))∧qgx (fun os=>k (o::os)) as (qcd as vs) (i+1) ρ from h)
    obtain ⟨os,Fs',h1,h2,h3,h4,h5⟩:=qdx (k:=fun os=>k (o'::os)) E (i:=i+1) t h
    obtain ⟨q,e,ha,rr⟩:=E.ow i _ o' ho
    cases ha p rfl
    refine ⟨o'::os,fp i::Fs',.o rr h1,h2,?_,fun b hb=>?_,fun b hb=>?_⟩
    · refine List.nodup_append.mpr ⟨rr.nodup,h3,fun b hb c hc e=>?_⟩
      subst e
      obtain ⟨j,a,o,j1,j2,j3,j4⟩:=h5 b hc
      exact E.dj i j _ a o' o ho j3 (by omega) b hb j4
    · rcases List.mem_append.mp (show b∈fp i++Fs'.flatten from hb) with z | z
      · exact E.no i _ o' ho b z
      · exact h4 b z
    · rcases List.mem_append.mp (show b∈fp i++Fs'.flatten from hb) with z | z
      · exact ⟨i,_,o',Nat.le_refl _,by rw [List.length_cons];omega,ho,z⟩
      · obtain ⟨j,a,o,j1,j2,j3⟩:=h5 b z
        exact ⟨j,a,o,by omega,by rw [List.length_cons];omega,j3⟩
end
section
variable {P : Program} {w : World} {K : PySem.W.Frag} {mg : Str → Option Value} {base : Heap}
theorem Fun.okM {x qual:Str} {st:Stmt} {f:Addr} {fd:FuncData} {N ps:List Str} {k:Nat} {sp:SpM} (F:Fun K x qual st f fd) (S:FnScope N ps (qae st)) (len:∀ as R Rx,sp as R Rx→as.length=ps.length)
    (hbody:∀ (cdv:Value) (A:Around) (outer:List Env) (s:Shared) (H:Hp) (E:XK) (as:List Sm) (R:Sm→List Om→Prop) (Rx:XD→List Om→Prop) (qs:List Addr),fd.code=cdv→Room k (A.deeper (envOfC qual (qae st) s.heap.objs.size f cdv))→sp as R Rx→qs.length=qjX as →
      ∃ t,PSsM K (qgy CX0 P w K mg base N qual (qae st) f cdv A outer s H E).nox (qay st) t∧t { nx:=fun ρ=>qgx (R (.v .non)) as qs 0 ρ,rt:=fun sm ρ=>qgx (R sm) as qs 0 ρ } (qaz N as qs)):FnOk P w K mg base CX0 (k+1) f fd ps (qds K sp):=by
  refine F.okL S (fun vs H Q E ⟨Φ,as,Fs,R,Rx,sm,tb,ha,nd,hn,h,_⟩=>by rw [ha.len.1];exact len as R Rx h) (fun cdv A outer s H vs Q E hcd hr ⟨Φ,as,Fs,R,Rx,sm,tb,ha,nd,hn,h,kk⟩=>?_)
  obtain ⟨t,ht,hq⟩:=hbody cdv A outer s H E as R Rx (qcd as vs) hcd hr h (qcr ha)
  rw [← qbw] at hq
  have al:=len as R Rx h
  have nl:ps.length≤N.length:=by have:=congrArg List.length S.pre;rw [List.length_take] at this;omega
  have fin:∀ sm ρ' Φ' H' v σ',qgx (R sm) as (qcd as vs) 0 ρ'→Gr Φ (qaL H Fs.flatten) Φ' H'→EnvM K (qaL H Fs.flatten) Φ' H' (σ'++[some v]) (ρ'++[some sm])→Q v H':=fun smr ρ' Φ' H' v σ' hk g V=>by
    obtain ⟨fp,E'⟩:=V
    have hl:σ'.length=ρ'.length:=by have:=E'.len;simpa using this
    obtain ⟨os,Fs',h1,h2,h3,h4,h5⟩:=qdx (k:=R smr) (E'.take hl.symm) ha hk
    have hat:(ρ'++[some smr])[ρ'.length]?=some (some smr):=by rw [List.getElem?_append_right (Nat.le_refl _),Nat.sub_self];rfl
    cases smr with
    | v d =>
      obtain ⟨u,hu,r⟩:=E'.sl _ d hat
      rw [← hl,List.getElem?_append_right (Nat.le_refl _),Nat.sub_self] at hu
      cases hu
      exact kk (.v d) os Φ' H' v [] Fs' h2 g (.v r) h1 (by simpa using h3) (fun b hb=>h4 b (by simpa using hb))
    | ob a o =>
      obtain ⟨u,hu,hau,r⟩:=E'.ow _ a o hat
      rw [← hl,List.getElem?_append_right (Nat.le_refl _),Nat.sub_self] at hu
      cases hu
      refine kk (.ob a o) os Φ' H' _ (fp ρ'.length) Fs' h2 g (.o hau r) h1 ?_ fun b hb=>?_
      · refine List.nodup_append.mpr ⟨r.nodup,h3,fun b hb c hc e=>?_⟩
        subst e
        obtain ⟨j,a2,o2,_,_,j3,j4⟩:=h5 b hc
        have hj:=qal j3
        exact E'.dj _ j a a2 o o2 hat (by rw [List.getElem?_append_left hj];exact j3) (by omega) b hb j4
      · rcases List.mem_append.mp hb with z | z
        · exact E'.no _ a o hat b z
        · exact h4 b z
  have g0:Gr Φ (qaL H Fs.flatten) Φ H:=⟨Same.refl _,qdP,sm,fun _ _ _ h _=>h⟩
  refine ⟨lM K _ t,ht.ps rfl,Φ,qaL H Fs.flatten,Φ,_,_,g0,qdJ sm tb ha nd hn,hq,⟨fun ρ' Φ' H' σ' r g V=>?_,fun smr ρ' Φ' H' v σ' r g V=>fin smr ρ' Φ' H' v σ' r g V,fun _ _ _ _ h=>h.elim,fun _ _ _ _ h=>h.elim,fun _ _ _ _ _ _ _ _ h=>h.elim⟩⟩
  exact fin (.v .non) ρ' Φ' H' .non σ' r g (V.snocV .non)
theorem Fun.clM {x:Str} {st:Stmt} {f:Addr} {fd:FuncData} {ps:List Str} {n:Nat} {z:SpM} (F:Fun K x x st f fd) (m:mg x=some (.ref f)) (H:FnOk P w K mg base CX0 n f fd ps (qds K z))
    (b:∀ (kV doc pm:Value) (an:Option Addr) (cdv ct:Value) (us:List Value),us.length=ps.length→bindArgs (PySem.W.fnOf x x (qaP st) (qay st) (qae st) .none kV doc pm an cdv ct) ⟨us,[]⟩=pure (ps.zip us)):ClM P w K mg base n x ps z:=⟨f,fd,H,F.binds b,F.kp,m⟩
theorem ClM.mono {n m:Nat} {x:Str} {ps:List Str} {z:SpM} (C:ClM P w K mg base n x ps z) (k:n≤m):ClM P w K mg base m x ps z:=by
  obtain ⟨f,fd,F,r⟩:=C.ex
  exact ⟨f,fd,F.mono k,r⟩
end
section
variable {K : PySem.W.Frag} {X : Cx} {e a b : Expr} {te ta tk : TX} {pos apos cpos npos spos : Pos} {x : Str} {i : Nat}
def ownL (ρ:qau) (i:Nat) (k:Option Addr→List D→Prop):Prop:=match ρ[i]? with | some (some (.ob a (.lst ds)))=>k a ds | _=>False
theorem ownL.get {ρ:qau} {i:Nat} {k:Option Addr→List D→Prop} (h:ownL ρ i k):∃ a ds,ρ[i]?=some (some (.ob a (.lst ds)))∧k a ds:=by
  unfold ownL at h
  split at h
  · next a ds e=>exact ⟨a,ds,e,h⟩
  · exact h.elim
theorem StM.list {Φ0 H0 Φ H:Hp} {σ τ:St} {ρ κ:qau} {Rx:XD→qau→Prop} {a:Option Addr} {ds:List D} (S:StM K X Φ0 H0 Φ H σ τ ρ κ Rx) (hi:ρ[i]?=some (some (.ob a (.lst ds)))):∃ q vs,σ[i]?=some (some (.ref q))∧H q=some (.lst vs)∧RpL K Φ ds vs ∧
    ∀ (es:List D) (ws:List V),RpL K Φ es ws→StM K X Φ0 H0 Φ (upd H q (.lst ws)) σ τ (ρ.set i (some (.ob a (.lst es)))) κ Rx:=by
  have hlt:=qal hi
  obtain ⟨q,vs,e,h1,h2,h3,h4,h5⟩:=S.E.list (i:=i) (a:=a) (ds:=ds) S.g (by rw [List.getElem?_append_left hlt];exact hi)
  rw [List.getElem?_append_left (by rw [← S.l];exact hlt)] at e
  refine ⟨q,vs,e,h1,h4,fun es ws r=>?_⟩
  obtain ⟨z1,z2⟩:=h5 es ws r
  refine ⟨z2,by rw [List.length_set];exact S.l,?_,S.x⟩
  rw [List.set_append_left _ _ hlt] at z1
  exact z1
def qjZ (i:Nat) (te:TX):TSM:=fun De ρ=>ownL ρ i fun _ _=>te ρ (xV fun d ρ1=>ownL ρ1 i fun a ds=>ds.length<sizeLine∧NF (ds++[d]) fun es=>De.nx (ρ1.set i (some (.ob a (.lst es))))) De.ex
theorem qee (i:Nat) (he:PX K X e te) (hfew:((backTo cpos (starEach [e] X.env)).all (fun x=>!x.1) && (backToKw cpos (keywordEach [] X.env)).all (fun x=>x.1.isSome) && decide (([e]:List Expr).length+([]:List Keyword).length+(if ([]:List Keyword).isEmpty then 0 else 1)<30))=true)
    (hse:starEach [e] X.env=(false,eval e X.env)::starEach [] X.env) (hN:X.N[i]?=some x:=by rfl) (hv:Vis X.env.scope x:=by first | exact Or.inl rfl | exact Or.inr (Or.inl rfl) | exact Or.inr (Or.inr rfl)) (hd:(x == ("__debug__":Str))=false:=by decide) (hcd:(x == ("__classdict__":Str))=false:=by decide)
    (hbase:attributeBase (.Name x npos) "append" X.env (eval (.Name x npos) X.env)=eval (.Name x npos) X.env:=by rfl) (hline:(apos.endLine == cpos.line)=true:=by rfl) (hs:swapsWith (.Call (.Attribute (.Name x npos) "append" apos) [e] [] cpos) none pos.line X.env=pure false:=by rfl) :
    PSM K X (.Expr (.Call (.Attribute (.Name x npos) "append" apos) [e] [] cpos) pos) (qjZ i te) :=
  ⟨fun hK=>(qfn (qkS PySem.F.plainAttrs_list PySem.F.slot_list_append PySem.F.type_list_append qdn (pv i hN hv hd hcd) (qa9 (he.pe hK) pa_nil hse) hbase hfew hline hse qaf) hs).imp fun E σ H hq0=>by
    obtain ⟨Φ0,H0,Φ,ρ,De,g,V,t,k⟩:=hq0
    obtain ⟨a,ds,ho,t⟩:=ownL.get t
    have S:=st0 g V k.ex
    obtain ⟨q,vs,e1,hp,rl,_⟩:=S.list ho
    refine ⟨_,e1,.inl ⟨rfl,vs,SqL.of hp⟩,Φ0,H0,Φ,[],ρ,[],_,De.ex,S,t,fun s ρ1 Φ1 H1 v r S1 _=>?_⟩
    obtain ⟨d,rfl,r⟩:=r.get
    obtain ⟨a1,ds1,ho1,hl,r⟩:=ownL.get r
    obtain ⟨q1,vs1,e2,hp1,rl1,k1⟩:=S1.list ho1
    rw [e1] at e2
    cases e2
    have S2:=k1 _ _ (rl1.append (.one S1.last))
    exact ⟨q,vs1,v,rfl,rfl,hp1,by rw [rl1.1];exact hl,k.nx _ Φ1 _ σ r.get S2.g S2.env⟩⟩
def qoF (i:Nat):TX:=fun ρ R _=>ownL ρ i fun a ds=>∃ d,ds[ds.length - 1]?=some d∧NF ds.dropLast fun es=>R (.v d) (ρ.set i (some (.ob a (.lst es))))
theorem qlY (i:Nat) (hN:X.N[i]?=some x:=by rfl) (hv:Vis X.env.scope x:=by first | exact Or.inl rfl | exact Or.inr (Or.inl rfl) | exact Or.inr (Or.inr rfl)) (hd:(x == ("__debug__":Str))=false:=by decide) (hcd:(x == ("__classdict__":Str))=false:=by decide)
    (hbase:attributeBase (.Name x npos) "pop" X.env (eval (.Name x npos) X.env)=eval (.Name x npos) X.env:=by rfl) (hline:(apos.endLine == cpos.line)=true:=by rfl):PX K X (.Call (.Attribute (.Name x npos) "pop" apos) [] [] cpos) (qoF i) :=
  ⟨fun hK=>(qiJ PySem.F.plainAttrs_list PySem.F.slot_list_pop PySem.F.type_list_pop qiP (pv i hN hv hd hcd) hbase hline).imp fun σ H Q hq0=>by
    obtain ⟨Φ0,H0,Φ,τ,ρ,κ,R,Rx,S,t,k⟩:=hq0
    obtain ⟨a,ds,ho,d,hdd,t⟩:=ownL.get t
    obtain ⟨q,vs,e1,hp,rl,k1⟩:=S.list ho
    obtain ⟨v,hv,rv⟩:=rl.at hdd
    rw [← rl.1] at hv
    have S2:=k1 _ _ rl.dropLast
    exact ⟨_,e1,.inl ⟨rfl,vs,SqL.of hp⟩,q,vs,v,rfl,rfl,hp,hv,k _ _ Φ _ v t.get (S2.pushV rv) (Same.refl _)⟩⟩
def qoj (i:Nat) (te tk:TX):TSM:=fun De ρ=>te ρ (xV fun d ρ1=>ownL ρ1 i fun _ _=>tk ρ1 (xV fun kk ρ2=>match kk with | .int n=>ownL ρ2 i fun a ds=>∃ j,ixN ds.length n=some j∧NF (ds.set j d) fun es=>De.nx (ρ2.set i (some (.ob a (.lst es)))) | _=>False) De.ex) De.ex
theorem qlk (i:Nat) (he:PX K X e te) (hk:PX K X b tk) (hN:X.N[i]?=some x:=by rfl) (hv:Vis X.env.scope x:=by first | exact Or.inl rfl | exact Or.inr (Or.inl rfl) | exact Or.inr (Or.inr rfl)) (hd:(x == ("__debug__":Str))=false:=by decide) (hcd:(x == ("__classdict__":Str))=false:=by decide)
    (ha:∀ v,assign (.Subscript (.Name x npos) b spos) X.env v=(do
      let ov ← holding [v] (eval (.Name x npos) X.env)
      let iv ← holding [v,ov] (eval b X.env)
      standAt spos
      holding [v,ov,iv] (setItem ov iv v)
      release [v,ov,iv] []):=by intro _;rfl)
    (hs:swapsWithSole [.Subscript (.Name x npos) b spos] e pos.line X.env=pure false:=by rfl) (hw:swappedStores [.Subscript (.Name x npos) b spos] e X.env=pure none:=by rfl)
    (h1:(assignEach [.Subscript (.Name x npos) b spos] X.env).map (·.2)=[assign (.Subscript (.Name x npos) b spos) X.env]:=by rfl) :
    PSM K X (.Assign [.Subscript (.Name x npos) b spos] e pos) (qoj i te tk) :=
  ⟨fun hK=>(qi0 (he.pe hK) (qln (pv i hN hv hd hcd) (hk.pe hK) qfJ ha) hs hw h1).imp fun E σ H hq0=>by
    obtain ⟨Φ0,H0,Φ,ρ,De,g,V,t,k⟩:=hq0
    refine ⟨Φ0,H0,Φ,[],ρ,[],_,De.ex,st0 g V k.ex,t,fun s ρ1 Φ1 H1 v r S1 _=>?_⟩
    obtain ⟨d,rfl,r⟩:=r.get
    obtain ⟨a1,ds1,ho1,r⟩:=ownL.get r
    obtain ⟨q,vs,e1,_⟩:=S1.list ho1
    refine ⟨_,e1,Φ0,H0,Φ1,_,ρ1,_,_,De.ex,S1,r,fun s2 ρ2 Φ2 H2 w r2 S2 _=>?_⟩
    obtain ⟨kk,rfl,r2⟩:=r2.get
    obtain ⟨rd,rk⟩:=S2.last2
    cases kk with
    | int n =>
      cases rk
      obtain ⟨a2,ds2,ho2,j,hj,r2⟩:=ownL.get r2
      obtain ⟨q2,vs2,e2,hp2,rl2,k2⟩:=S2.list ho2
      rw [e1] at e2
      cases e2
      have S3:=k2 _ _ (rl2.set rd j)
      exact ⟨q,vs2,n,j,rfl,rfl,hp2,by rw [rl2.1];exact hj,k.nx _ Φ2 _ σ r2.get S3.g S3.env⟩
    | _=>exact r2.elim⟩
def qka (i:Nat) (f:Int→Int→Int) (tk te:TX):TSM:=fun De ρ=>(ownL ρ i fun _ _=>True)∧tk ρ (xV fun kk ρ1=>match kk with | .int n=>ownL ρ1 i fun a ds=>∃ (j:Nat) (v:Int),n=(j:Int)∧ds[j]?=some (.int v)∧te ρ1 (xV fun d ρ2=>match d with | .int m=>ownL ρ2 i fun a2 ds2=>j<ds2.length∧NF (ds2.set j (.int (f v m))) fun es=>De.nx (ρ2.set i (some (.ob a2 (.lst es)))) | _=>False) De.ex | _=>False) De.ex
theorem qh4 {op:Operator} {f:Int→Int→Int} (i:Nat) (hop:PIp X op (ipI f)) (hk:PX K X b tk) (he:PX K X e te) (hN:X.N[i]?=some x:=by rfl) (hv:Vis X.env.scope x:=by first | exact Or.inl rfl | exact Or.inr (Or.inl rfl) | exact Or.inr (Or.inr rfl)) (hd:(x == ("__debug__":Str))=false:=by decide) (hcd:(x == ("__classdict__":Str))=false:=by decide)
    (ha:∀ ov iv new,augStore b ov iv new=(do holding [new,ov,iv] (setItem ov iv new);release [new,ov,iv] [];pure .next):=by intros;rfl) :
    PSM K X (.AugAssign (.Subscript (.Name x npos) b spos) op e pos) (qka i f tk te) :=
  ⟨fun hK=>(qjK (pv i hN hv hd hcd) (hk.pe hK) (qgJ hK) (he.pe hK) hop qfJ ha).imp fun E σ H hq0=>by
    obtain ⟨Φ0,H0,Φ,ρ,De,g,V,⟨ho,t⟩,k⟩:=hq0
    obtain ⟨a,ds,ho,_⟩:=ownL.get ho
    have S:=st0 g V k.ex
    obtain ⟨q,vs,e1,hp,rl,_⟩:=S.list ho
    refine ⟨_,e1,Φ0,H0,Φ,[],ρ,[],_,De.ex,S,t,fun s1 ρ1 Φ1 H1 w r1 S1 _=>?_⟩
    obtain ⟨kk,rfl,r1⟩:=r1.get
    have rk:=S1.last
    cases kk with
    | int n =>
      cases rk
      obtain ⟨a1,ds1,ho1,j,v,rfl,hj,r1⟩:=ownL.get r1
      obtain ⟨q1,vs1,e2,hp1,rl1,_⟩:=S1.list ho1
      rw [e1] at e2
      cases e2
      obtain ⟨u,hu,ru⟩:=rl1.at hj
      cases ru
      refine ⟨q,vs1,_,j,_,rfl,rfl,.of hp1,rfl,hu,Φ0,H0,Φ1,_,ρ1,_,_,De.ex,S1,r1,fun s2 ρ2 Φ2 H2 z r2 S2 _=>?_⟩
      obtain ⟨d,rfl,r2⟩:=r2.get
      have rd:=S2.last
      cases d with
      | int m =>
        cases rd
        obtain ⟨a2,ds2,ho2,hjl,r2⟩:=ownL.get r2
        obtain ⟨q2,vs2,e3,hp2,rl2,k2⟩:=S2.list ho2
        rw [e1] at e3
        cases e3
        have S3:=k2 _ _ (rl2.set (.int (f v m)) j)
        exact ⟨v,m,rfl,rfl,q,vs2,_,j,rfl,rfl,hp2,qkd (by rw [rl2.1];exact hjl),k.nx _ Φ2 _ σ r2.get S3.g S3.env⟩
      | _=>exact r2.elim
    | _=>exact r1.elim⟩
end
section
variable {K : PySem.W.Frag} {X : Cx} {tg iter elt e a : Expr} {ifs : List Expr} {scope : Scope} {pos py spos : Pos} {N' : List Str} {cap : List (Option Nat)} {ti : TDL} {g : TGD} {tc : TDB} {te ta tb : TD} {i : Nat} {y : Str}
end
def zM (z:SpD):SpM:=fun as R _=>∃ ds,as=ds.map Sm.v∧z ds fun d=>R (.v d) []
theorem qgE {H:Hp}:qaL H []=H:=funext fun b=>if_neg (by simp)
theorem qep {K:PySem.W.Frag} {Φ H:Hp}:∀ {ds:List D} {vs:List V},RpL K Φ ds vs→ArgM K Φ H (ds.map Sm.v) vs (ds.map fun _=>[])
  | [],[],_=>.nil
  | [],_::_,h=>by cases h.1
  | _::_,[],h=>by cases h.1
  | d::ds,v::vs,h=>.v (h.2 0 v d rfl rfl) (qep ⟨by have:=h.1;simpa using this,fun i u e hu he=>h.2 (i+1) u e hu he⟩)
theorem qdz {α:Type}:∀ (ds:List α),(ds.map fun _=>([]:List Addr)).flatten=[]
  | []=>rfl
  | _::ds=>by simp
theorem qjc {K:PySem.W.Frag} {z:SpD}:∀ vs H Q E,lSp K z vs H Q E→qds K (zM z) vs H Q E:=fun vs H Q E h=>by
  obtain ⟨Φ,ds,R,sm,tb,rl,hz,k⟩:=h
  refine ⟨Φ,ds.map Sm.v,ds.map fun _=>[],fun s os=>∃ d,s=.v d∧R d,fun _ _=>False,sm,tb,qep rl,by rw [qdz];exact List.nodup_nil,fun b hb=>(by rw [qdz] at hb;cases hb),⟨ds,rfl,?_⟩,fun s os Φ' H' v F Fs' r g hr ho hn hno=>?_⟩
  · have e:R=fun d=>∃ d',(Sm.v d:Sm)=.v d'∧R d':=funext fun d=>propext ⟨fun h=>⟨d,rfl,h⟩,fun ⟨d',e,h⟩=>by cases e;exact h⟩
    rw [← e]
    exact hz
  · obtain ⟨d,rfl,r⟩:=r
    cases hr with
    | v rv =>
      rw [qdz,qgE] at g
      exact k d Φ' H' v r g rv
def pinned:Option Sm→Option Sm
  | some (.v d)=>some (.v d)
  | some (.ob (some p) o)=>some (.ob (some p) o)
  | _=>none
def qkl (cap:List (Option Nat)) (ρ:qau):qau:=cap.map fun o=>o.bind fun i=>pinned (ρ[i]?).join
def qiF:List (Option Nat)→qau→qau→(qau→Prop)→Prop
  | [],_,ρ,k=>k ρ
  | none::cap,_::ρc,ρ,k=>qiF cap ρc ρ k
  | some i::cap,x::ρc,ρ,k=>match ρ[i]? with
    | some (some (.ob (some p) _))=>∃ o,x=some (.ob (some p) o)∧qiF cap ρc (qbz ρ i o) k
    | _=>qiF cap ρc ρ k
  | _::_,[],_,_=>False
def qcf (cap:List (Option Nat)):List Nat:=cap.filterMap id
theorem qdq {cap:List (Option Nat)} {j i:Nat} (h:cap[j]?=some (some i)):i∈qcf cap:=List.mem_filterMap.mpr ⟨some i,List.mem_of_getElem? h,rfl⟩
theorem qdY:∀ {cap:List (Option Nat)} {ρc ρ:qau} {k:qau→Prop},(qcf cap).Nodup→qiF cap ρc ρ k→∃ ρ2,k ρ2∧ρ2.length=ρ.length∧(∀ (i:Nat) (x:Sm),ρ2[i]?=some (some x)→(∃ (j:Nat) (p:Addr) (o0 o:Om),cap[j]?=some (some i)∧ρ[i]?=some (some (.ob (some p) o0))∧ρc[j]?=some (some (.ob (some p) o))∧x=.ob (some p) o)∨(ρ[i]?=some (some x)∧∀ (j:Nat) (p:Addr) (o0:Om),cap[j]?=some (some i)→ρ[i]?≠some (some (.ob (some p) o0)))) ∧
    ∀ (j i:Nat) (p:Addr) (o0:Om),cap[j]?=some (some i)→ρ[i]?=some (some (.ob (some p) o0))→∃ o:Om,ρc[j]?=some (some (.ob (some p) o))
  | [],ρc,ρ,k,_,h=>⟨ρ,h,rfl,fun i x hx=>.inr ⟨hx,fun j p o0 hj=>(by simp at hj)⟩,fun j i p o0 hj=>(by simp at hj)⟩
  | none::cap,x::ρc,ρ,k,nd,h=>by
    obtain ⟨ρ2,h1,h2,h3,h4⟩:=qdY (cap:=cap) (ρc:=ρc) (ρ:=ρ) (k:=k) nd h
    refine ⟨ρ2,h1,h2,fun i y hy=>?_,fun j i p o0 hj hi=>?_⟩
    · rcases h3 i y hy with ⟨j,p,o0,o,z1,z2,z3,z4⟩ | ⟨z1,z2⟩
      · exact .inl ⟨j+1,p,o0,o,z1,z2,z3,z4⟩
      · refine .inr ⟨z1,fun j p o0 hj=>?_⟩
        cases j with
        | zero=>cases hj
        | succ j=>exact z2 j p o0 hj
    · cases j with
      | zero=>cases hj
      | succ j=>exact h4 j i p o0 hj hi
  | some i0::cap,x::ρc,ρ,k,nd,h=>by
    obtain ⟨nd1,nd2⟩:=List.nodup_cons.mp (show (i0::qcf cap).Nodup from nd)
    have h':(match ρ[i0]? with | some (some (.ob (some p) _))=>∃ o,x=some (.ob (some p) o)∧qiF cap ρc (qbz ρ i0 o) k | _=>qiF cap ρc ρ k):=h
    by_cases hp:∃ p o0,ρ[i0]?=some (some (.ob (some p) o0))
    · obtain ⟨p,o0,hp⟩:=hp
      rw [hp] at h'
      obtain ⟨o,rfl,h'⟩:=h'
      obtain ⟨ρ2,h1,h2,h3,h4⟩:=qdY nd2 h'
      have ne:∀ {j i:Nat},cap[j]?=some (some i)→i≠i0:=fun hj e=>nd1 (e ▸ qdq hj)
      refine ⟨ρ2,h1,by rw [h2,qfR],fun i y hy=>?_,fun j i p' o1 hj hi=>?_⟩
      · rcases h3 i y hy with ⟨j,p',o1,o',z1,z2,z3,z4⟩ | ⟨z1,z2⟩
        · rw [qbV (ne z1)] at z2
          exact .inl ⟨j+1,p',o1,o',z1,z2,z3,z4⟩
        · by_cases c:i=i0
          · subst c
            rw [qcI] at z1
            rw [hp] at z1
            simp only at z1
            rw [List.getElem?_set_self (qal hp)] at z1
            cases z1
            exact .inl ⟨0,p,o0,o,rfl,hp,rfl,rfl⟩
          · rw [qbV c] at z1 z2
            refine .inr ⟨z1,fun j p' o1 hj=>?_⟩
            cases j with
            | zero=>cases hj;exact absurd rfl c
            | succ j=>exact z2 j p' o1 hj
      · cases j with
        | zero=>cases hj;rw [hp] at hi;cases hi;exact ⟨o,rfl⟩
        | succ j=>exact h4 j i p' o1 hj (by rw [qbV (ne hj)];exact hi)
    · have h2':qiF cap ρc ρ k:=by
        split at h'
        · next p o0 e=>exact absurd ⟨p,o0,e⟩ hp
        · exact h'
      obtain ⟨ρ2,h1,h2,h3,h4⟩:=qdY nd2 h2'
      refine ⟨ρ2,h1,h2,fun i y hy=>?_,fun j i p o0 hj hi=>?_⟩
      · rcases h3 i y hy with ⟨j,p,o0,o,z1,z2,z3,z4⟩ | ⟨z1,z2⟩
        · exact .inl ⟨j+1,p,o0,o,z1,z2,z3,z4⟩
        · refine .inr ⟨z1,fun j p o0 hj=>?_⟩
          cases j with
          | zero=>cases hj;exact fun e=>hp ⟨p,o0,e⟩
          | succ j=>exact z2 j p o0 hj
      · cases j with
        | zero=>cases hj;exact absurd ⟨p,o0,hi⟩ hp
        | succ j=>exact h4 j i p o0 hj hi
  | none::_,[],_,_,_,h=>h.elim
  | some _::_,[],_,_,_,h=>h.elim
section
variable {K : PySem.W.Frag} {X : Cx} {H0 H H' Φ Φ' : Hp} {σ : St} {ρ : qau} {cap : List (Option Nat)}
theorem qgV {i:Nat} {x:Sm} (h:(qkl cap ρ)[i]?=some (some x)):∃ j,cap[i]?=some (some j)∧ρ[j]?=some (some x)∧pinned (some x)=some x:=by
  unfold qkl at h
  rw [List.getElem?_map] at h
  cases e:cap[i]? with
  | none=>rw [e] at h;cases h
  | some o =>
    rw [e] at h
    cases o with
    | none=>cases h
    | some j =>
      have h':pinned (ρ[j]?).join=some x:=Option.some.inj h
      cases e2:(ρ[j]?).join with
      | none=>rw [e2] at h';cases h'
      | some y =>
        rw [e2] at h'
        cases y with
        | v d=>cases h';exact ⟨j,rfl,qeV e2,rfl⟩
        | ob a o =>
          cases a with
          | none=>cases h'
          | some p=>cases h';exact ⟨j,rfl,qeV e2,rfl⟩
theorem qfT {i j:Nat} {v:V} (hc:cap[i]?=some (some j)) (hs:σ[j]?=some (some v)):(qdu cap σ)[i]?=some (some v):=by
  unfold qdu
  rw [List.getElem?_map,hc]
  simp [hs]
theorem EnvM.side {p:Addr} {u u':HO} (E:EnvM K H0 Φ H σ ρ) (h0:H0 p=some u) (hn:Φ p=none):EnvM K (upd H0 p u') Φ (upd H p u') σ ρ:=by
  obtain ⟨fp,E⟩:=E
  have ne:∀ {i:Nat} {a:Option Addr} {o:Om},ρ[i]?=some (some (.ob a o))→∀ b∈fp i,b≠p:=fun h b hb e=>by
    have:=(E.no _ _ _ h b hb).1
    rw [e,h0] at this
    cases this
  exact ⟨fp,fun b w e=>by rw [qag (qan e hn)];exact E.fz b w e,E.len,E.sl,fun i a o h=>let ⟨q,e,ha,r⟩:=E.ow i a o h;⟨q,e,ha,r.keep (Same.refl _) fun b hb w hw=>by rw [qag (ne h b hb)];exact hw⟩,
    fun i a o h b hb=>by rw [qag (ne h b hb)];exact E.no i a o h b hb,E.dj,E.tb⟩
structure StN (K:PySem.W.Frag) (Φ0 H0 Φ H:Hp) (σ τ:St) (ρ κ:qau):Prop where
  g:Gr Φ0 H0 Φ H
  l:ρ.length=σ.length
  E:EnvM K H0 Φ H (σ++τ) (ρ++κ)
def nox:XD→qau→Prop:=fun _ _=>False
theorem StM.n {Φ0 H0:Hp} {τ:St} {κ:qau} {Rx:XD→qau→Prop} (S:StM K X Φ0 H0 Φ H σ τ ρ κ Rx):StN K Φ0 H0 Φ H σ τ ρ κ:=⟨S.g,S.l,S.E⟩
theorem StN.m {Φ0 H0:Hp} {τ:St} {κ:qau} (S:StN K Φ0 H0 Φ H σ τ ρ κ):StM K X Φ0 H0 Φ H σ τ ρ κ nox:=⟨S.g,S.l,S.E,fun _ _ _ _ _ _ _ _ h=>h.elim⟩
def lNm (K:PySem.W.Frag) (t:TX):TE:=fun σ H Q=>∃ Φ0 H0 Φ τ ρ κ R,StN K Φ0 H0 Φ H σ τ ρ κ∧t ρ R nox∧∀ sm ρ' Φ' H' v,R sm ρ'→StN K Φ0 H0 Φ' H' σ (τ++[some v]) ρ' (κ++[some sm])→Same Φ Φ'→Q v H'
def lNb (K:PySem.W.Frag) (t:TXB):TT:=fun σ H Q=>∃ Φ0 H0 Φ τ ρ κ R,StN K Φ0 H0 Φ H σ τ ρ κ∧t ρ R nox∧∀ b ρ' Φ' H',R b ρ'→StN K Φ0 H0 Φ' H' σ τ ρ' κ→Same Φ Φ'→Q b H'
theorem lNm.m {t:TX} {Q:VK} (h:lNm K t σ H Q):lXm K X t σ H Q:=by
  obtain ⟨Φ0,H0,Φ,τ,ρ,κ,R,S,t,k⟩:=h
  exact ⟨Φ0,H0,Φ,τ,ρ,κ,R,nox,S.m,t,fun sm ρ' Φ' H' v r S' f=>k sm ρ' Φ' H' v r S'.n f⟩
theorem lNb.m {t:TXB} {Q:Bool→Hp→Prop} (h:lNb K t σ H Q):lXb K X t σ H Q:=by
  obtain ⟨Φ0,H0,Φ,τ,ρ,κ,R,S,t,k⟩:=h
  exact ⟨Φ0,H0,Φ,τ,ρ,κ,R,nox,S.m,t,fun b ρ' Φ' H' r S' f=>k b ρ' Φ' H' r S'.n f⟩
def qlm (ti:TIM) (cap:List (Option Nat)) (gd:TGM) (tc:TXB) (te:TX):TX:=fun ρ R Rx=>ti ρ (fun ds ρ0=>ds.length<sizeLine∧∃ I:Nat→List D→qau→Prop,I 0 [] (qkl cap ρ0) ∧
  (∀ i d ys ρc,ds[i]?=some d→I i ys ρc→gd d ρc fun ρ1=>tc ρ1 (fun b ρ2=>(b=true→te ρ2 (xV fun y ρ3=>I (i+1) (ys++[y]) ρ3) nox)∧(b=false→I (i+1) ys ρ2)) nox) ∧
  ∀ ys ρc,I ds.length ys ρc→qiF cap ρc ρ0 fun ρ2=>R (.own ys) ρ2) Rx
def qlL:TXB:=fun ρ R _=>R true ρ
structure PIfM (K:PySem.W.Frag) (X:Cx) (ifs:List Expr) (t:TXB):Prop where p:X.K=K→qme X ifs (lXb K X t)
theorem qgO:PIfM K X [] qlL:=⟨fun _ pins s σ H Q I hq0=>by obtain ⟨Φ0,H0,Φ,τ,ρ,κ,R,Rx,S,t,k⟩:=hq0;exact qhS pins s σ H Q I (k true ρ Φ H t S (Same.refl _))⟩
end
section
variable {K : PySem.W.Frag} {X : Cx} {tg iter elt : Expr} {ifs : List Expr} {scope : Scope} {pos : Pos} {N' : List Str} {cap : List (Option Nat)} {ti : TIM} {gd : TGM} {tc : TXB} {te : TX}
theorem qdH {n:Nat}:∀ {cap:List (Option Nat)},(qcf cap).Nodup→∀ {i j:Nat},cap[i]?=some (some n)→cap[j]?=some (some n)→i=j:=by
  intro cap
  induction cap with
  | nil=>intro _ i j h;simp at h
  | cons o cap ih =>
    intro nd i j h1 h2
    have nd':(qcf cap).Nodup:=by
      cases o with
      | none=>exact nd
      | some m=>exact (List.nodup_cons.mp (show (m::qcf cap).Nodup from nd)).2
    have one:∀ {i:Nat},o=some n→cap[i]?=some (some n)→False:=fun {i} ho hi=>by
      subst ho
      exact (List.nodup_cons.mp (show (n::qcf cap).Nodup from nd)).1 (qdq hi)
    cases i with
    | zero=>cases j with
      | zero=>rfl
      | succ j=>exact (one (by simpa using h1) (by simpa using h2)).elim
    | succ i=>cases j with
      | zero=>exact (one (by simpa using h2) (by simpa using h1)).elim
      | succ j=>exact congrArg Nat.succ (ih nd' (by simpa using h1) (by simpa using h2))
theorem qgb (hcap:(qcf cap).Nodup) {σ:St} {H:Hp} {Q:VK} {Φ0 H0 Φ:Hp} {ρ:qau} {R:Sm→qau→Prop} {Rx:XD→qau→Prop} {τ:St} {κ:qau} (S:StM K X Φ0 H0 Φ H σ τ ρ κ Rx) (t:qlm ti cap gd tc te ρ R Rx)
    (k:∀ sm ρ' Φ' H' v,R sm ρ'→StM K X Φ0 H0 Φ' H' σ (τ++[some v]) ρ' (κ++[some sm]) Rx→Same Φ Φ'→Q v H'):qlX (lIM K X ti) cap (lGM K gd) (lNb K tc) (lNm K te) σ H Q:=by
  refine ⟨Φ0,H0,Φ,τ,ρ,κ,_,Rx,S,t,fun ds ρ0 Φ1 H1 J hq1 S1 f1 Sd Dd hD=>?_⟩
  obtain ⟨hlen,I,h0,hst,hend⟩:=hq1
  obtain ⟨fp,Ex⟩:=S1.E
  have E:=Ex.take S1.l
  have up:∀ {i:Nat} {x:Sm},ρ0[i]?=some (some x)→(ρ0++κ)[i]?=some (some x):=fun h=>by rw [List.getElem?_append_left (qal h)];exact h
  have ups:∀ {i:Nat} {x:V},σ[i]?=some (some x)→(σ++τ)[i]?=some (some x):=fun h=>by rw [List.getElem?_append_left (qal h)];exact h
  let lent:Nat→Prop:=fun i=>(∃ j:Nat,cap[j]?=some (some i))∧∃ p o,ρ0[i]?=some (some (.ob (some p) o))
  obtain ⟨B,hB⟩:∃ B:List Addr,∀ b,b∈B↔∃ i,lent i∧b∈fp i:=by
    refine ⟨((qcf cap).filter fun i=>match ρ0[i]? with | some (some (.ob (some _) _))=>true | _=>false).flatMap fp,fun b=>?_⟩
    rw [List.mem_flatMap]
    constructor
    · rintro ⟨i,hi,hb⟩
      obtain ⟨hi,hp⟩:=List.mem_filter.mp hi
      refine ⟨i,⟨?_,?_⟩,hb⟩
      · obtain ⟨o,ho,e⟩:=List.mem_filterMap.mp hi
        cases o with
        | none=>cases e
        | some i'=>cases e;exact List.getElem?_of_mem ho
      · split at hp
        · next p o e=>exact ⟨p,o,e⟩
        · cases hp
    · rintro ⟨i,⟨⟨j,hj⟩,p,o,hp⟩,hb⟩
      exact ⟨i,List.mem_filter.mpr ⟨qdq hj,by rw [hp]⟩,hb⟩
  have hDB:Dd∉B:=fun h=>by
    obtain ⟨i,⟨_,p,o,ho⟩,hb⟩:=(hB Dd).mp h
    obtain ⟨_,_,_,r⟩:=E.ow i _ o ho
    obtain ⟨u,hu,_⟩:=r.at Dd hb
    rw [hD] at hu
    cases hu
  have hDΦ:Φ1 Dd=none:=S1.g.s.free hD
  have hDm:qaL H1 B Dd=none:=by rw [qa0 hDB];exact hD
  have m2:∀ {b:Addr} {u:HO},qaL H1 B b=some u→b≠Dd:=fun h=>qan h hDm
  have C0:EnvM K (upd (qaL H1 B) Dd (.lst [])) Φ1 (upd H1 Dd (.lst [])) (qdu cap σ) (qkl cap ρ0):=by
    have no:∀ {i:Nat} {a:Option Addr} {o:Om},(qkl cap ρ0)[i]?=some (some (.ob a o))→∃ j:Nat,cap[i]?=some (some j)∧ρ0[j]?=some (some (.ob a o))∧lent j:=fun {i a o} h=>by
      obtain ⟨j,h1,h2,h3⟩:=qgV h
      cases a with
      | none=>cases h3
      | some p=>exact ⟨j,h1,h2,⟨i,h1⟩,p,o,h2⟩
    have inB:∀ {i j:Nat} {a:Option Addr} {o:Om},ρ0[j]?=some (some (.ob a o))→lent j→∀ b∈fp j,b∈B∧b≠Dd:=fun {i j a o} h hl b hb=>⟨(hB b).mpr ⟨j,hl,hb⟩,fun e=>hDB (e ▸ (hB b).mpr ⟨j,hl,hb⟩)⟩
    have cj:∀ {i j n:Nat},cap[i]?=some (some n)→cap[j]?=some (some n)→i=j:=fun h1 h2=>qdH hcap h1 h2
    refine ⟨fun i=>match cap[i]? with | some (some j)=>fp j | _=>[],fun b u e=>?_,by unfold qdu qkl;rw [List.length_map,List.length_map],fun i d h=>?_,fun i a o h=>?_,fun i a o h b hb=>?_,fun i j a a' o o' hi hj c b hb hb2=>?_,S1.E.tb⟩
    · rw [qag (qan e hDΦ)]
      exact S1.g.s b u e
    · obtain ⟨j,h1,h2,_⟩:=qgV h
      obtain ⟨v,hv,r⟩:=E.sl j d h2
      exact ⟨v,qfT h1 hv,r⟩
    · obtain ⟨j,h1,h2,hl⟩:=no h
      obtain ⟨p,hp,ha,r⟩:=E.ow j a o h2
      refine ⟨p,qfT h1 hp,ha,?_⟩
      rw [h1]
      exact r.keep (Same.refl _) fun b hb u hu=>by rw [qag (inB (i:=i) h2 hl b hb).2];exact hu
    · obtain ⟨j,h1,h2,hl⟩:=no h
      rw [h1] at hb
      obtain ⟨z1,z2⟩:=inB (i:=i) h2 hl b hb
      exact ⟨by rw [qag z2];exact qfU z1,(E.no j a o h2 b hb).2⟩
    · obtain ⟨i',h1,h2,_⟩:=no hi
      obtain ⟨j',h3,h4,_⟩:=no hj
      rw [h1] at hb
      rw [h3] at hb2
      exact E.dj i' j' a a' o o' h2 h4 (fun e=>c (by subst e;exact cj h1 h3)) b hb hb2
  refine ⟨fun i m σ' H'=>m=ds.length - i∧i≤ds.length∧∃ (Φ':Hp) (ρc:qau) (vs:List V) (ys:List D),EnvM K (upd (qaL H1 B) Dd (.lst vs)) Φ' H' σ' ρc∧Gr Φ1 (qaL H1 B) Φ' H'∧Φ' Dd=none∧H' Dd=some (.lst vs)∧RpL K Φ' ys vs∧ys.length≤i∧I i ys ρc,⟨ds.length,by simp,Nat.zero_le _,Φ1,_,[],[],C0,⟨Same.refl _,fun b u e=>by rw [qag (m2 e)];exact (qdR e).2,fun b u e=>by rw [qag (qan e hDΦ)];exact S1.g.s b u e,fun _ _ _ h _=>h⟩,hDΦ,qai,.nil,Nat.zero_le _,h0⟩,?_⟩
  rintro i m σ' H' ⟨rfl,hi,Φ',ρc,vs,ys,Ei,gi,hDi,hDl,hrl,hyl,hI⟩
  by_cases hlt:i<ds.length
  · refine .inr ⟨Sd.go i H' (gi.f.trans gi.s) hlt,fun σ2 H2=>∃ (Φ':Hp) (ρc:qau) (vs:List V) (ys:List D),EnvM K (upd (qaL H1 B) Dd (.lst vs)) Φ' H2 σ2 ρc∧Gr Φ1 (qaL H1 B) Φ' H2∧Φ' Dd=none∧H2 Dd=some (.lst vs)∧RpL K Φ' ys vs∧ys.length≤i+1∧I (i+1) ys ρc,fun σ2 H2 h2=>⟨ds.length - (i+1),by omega,rfl,hlt,h2⟩,fun x H2 y=>?_⟩
    obtain ⟨Φ3,g3,rx⟩:=Sd.yl i Φ' H' x H2 _ gi.f gi.s (qaH hlt) y
    have E3:=Ei.gr g3
    refine ⟨_,Φ3,ρc,_,_,E3,rx,hst i _ ys ρc (qaH hlt) hI,fun ρ1 σ3 t1 E4=>?_⟩
    have hD3:Φ3 Dd=none:=g3.o _ _ hDl hDi
    have hDl3:=g3.h _ _ hDl
    have gt:Gr Φ3 (upd (qaL H1 B) Dd (.lst vs)) Φ3 H2:=⟨Same.refl _,fun b u e=>by
      by_cases c:b=Dd
      · subst c;rw [qai] at e;cases e;exact hDl3
      · rw [qag c] at e;exact g3.h b u (gi.h b u e),g3.s,fun _ _ _ h _=>h⟩
    have join:∀ {Φ5 H5:Hp},Gr Φ3 (upd (qaL H1 B) Dd (.lst vs)) Φ5 H5→Gr Φ1 (qaL H1 B) Φ5 H5∧Φ5 Dd=none∧H5 Dd=some (.lst vs):=fun {Φ5 H5} g5=>by
      refine ⟨⟨(gi.f.trans g3.f).trans g5.f,fun b u e=>g5.h b u (by rw [qag (m2 e)];exact e),g5.s,fun b u h1 h2 kk=>?_⟩,g5.o _ _ qai hD3 trivial,g5.h _ _ qai⟩
      have z1:=gi.o b u h1 h2 kk
      have z2:=g3.o b u (gi.h b u h1) z1 kk
      exact g5.o b u (by rw [qag (m2 h1)];exact h1) z2 kk
    refine ⟨Φ3,_,Φ3,[],ρ1,[],_,⟨gt,E4.len.symm,by rw [List.append_nil,List.append_nil];exact E4⟩,t1,fun b ρ2 Φ4 H4 rb S4 f4=>?_⟩
    cases b with
    | false =>
      refine qmc ?_
      obtain ⟨j1,j2,j3⟩:=join S4.g
      exact ⟨Φ4,ρ2,vs,ys,(S4.m (X:=X)).env,j1,j2,j3,(hrl.same g3.f).same f4,by omega,rb.2 rfl⟩
    | true =>
      refine qmb ?_
      refine ⟨Φ3,_,Φ4,[],ρ2,[],_,S4,rb.1 rfl,fun s ρ3 Φ5 H5 v rs S5' f5=>?_⟩
      have S5:=S5'.m (X:=X)
      obtain ⟨d,rfl,rs⟩:=rs.get
      obtain ⟨j1,j2,j3⟩:=join S5.g
      have rl5:=(hrl.same g3.f).same (f4.trans f5)
      refine ⟨vs,j3,by rw [hrl.1];omega,Φ5,ρ3,vs++[v],ys++[d],?_,?_,j2,qai,rl5.append (.one S5.last),by rw [List.length_append];exact Nat.succ_le_succ hyl,rs⟩
      · have:=S5.env.side (p:=Dd) (u:=.lst vs) (u':=.lst (vs++[v])) qai j2
        rw [qjl] at this
        exact this
      · exact ⟨j1.f,fun b u e=>by rw [qag (m2 e)];exact j1.h b u e,fun b u e=>by rw [qag (qan e j2)];exact j1.s b u e,fun b u h1 h2 kk=>j1.o b u h1 h2 kk⟩
  · have e:i=ds.length:=by omega
    subst e
    refine .inl ⟨Sd.stop H' (gi.f.trans gi.s),?_⟩
    obtain ⟨ρ2,hR,hl2,h3,h4⟩:=qdY hcap (hend ys ρc hI)
    obtain ⟨fc,Ec⟩:=Ei
    have inj:∀ {i j n:Nat},cap[i]?=some (some n)→cap[j]?=some (some n)→i=j:=fun h1 h2=>qdH hcap h1 h2
    have ex:∀ i,lent i→∃ (j:Nat) (p:Addr) (o0 o:Om),cap[j]?=some (some i)∧ρ0[i]?=some (some (.ob (some p) o0))∧ρc[j]?=some (some (.ob (some p) o)):=fun i hl=>by
      obtain ⟨⟨j,hj⟩,p,o0,ho⟩:=hl
      obtain ⟨o,h⟩:=h4 j i p o0 hj ho
      exact ⟨j,p,o0,o,hj,ho,h⟩
    obtain ⟨new,hnew,hnone⟩:∃ new:Nat→Option (Om × List Addr),(∀ i q,new i=some q→∃ (j:Nat) (p:Addr) (o0:Om),cap[j]?=some (some i)∧ρ0[i]?=some (some (.ob (some p) o0))∧ρc[j]?=some (some (.ob (some p) q.1))∧q.2=fc j)∧∀ i,new i=none↔¬ lent i:=by
      have dec:∀ i,Decidable (lent i):=fun i=>Classical.propDecidable _
      refine ⟨fun i=>if h:lent i then some ((ex i h).choose_spec.choose_spec.choose_spec.choose,fc (ex i h).choose) else none,fun i q hq=>?_,fun i=>?_⟩
      · by_cases h:lent i
        · simp only [h,dif_pos] at hq
          cases hq
          obtain ⟨z1,z2,z3⟩:=(ex i h).choose_spec.choose_spec.choose_spec.choose_spec
          exact ⟨_,_,_,z1,z2,z3,rfl⟩
        · simp only [h,dif_neg,not_false_eq_true] at hq
          cases hq
      · by_cases h:lent i
        · simp [h]
        · simp [h]
    have Dfc:∀ {j:Nat} {a:Option Addr} {o:Om},ρc[j]?=some (some (.ob a o))→∀ b∈fc j,b≠Dd∧qaL H1 B b=none∧Φ' b=none:=fun {j a o} h b hb=>by
      obtain ⟨z1,z2⟩:=Ec.no j a o h b hb
      have c:b≠Dd:=fun e=>by rw [e,qai] at z1;cases z1
      rw [qag c] at z1
      exact ⟨c,z1,z2⟩
    have adr:∀ {j i:Nat} {p:Addr} {o0 o:Om},ρ0[i]?=some (some (.ob (some p) o0))→ρc[j]?=some (some (.ob (some p) o))→σ[i]?=some (some (.ref p))∧OmS K Φ' H' o p (fc j):=fun {j i p o0 o} h1 h2=>by
      obtain ⟨q1,e1,a1,_⟩:=E.ow i _ o0 h1
      obtain ⟨q2,e2,a2,r⟩:=Ec.ow j _ o h2
      cases a1 p rfl
      cases a2 p rfl
      exact ⟨e1,r⟩
    have lnt:∀ {i:Nat},ρ0.length≤i→new i=none:=fun {i} c=>(hnone i).mpr fun hl=>by
      obtain ⟨_,p,o,ho⟩:=hl
      have:=qal ho
      omega
    have cs:∀ {i:Nat} {x:Sm},(ρ2++κ)[i]?=some (some x)→(i<ρ0.length∧ρ2[i]?=some (some x))∨(ρ0.length≤i∧(ρ0++κ)[i]?=some (some x)):=fun {i x} h=>by
      rcases Nat.lt_or_ge i ρ0.length with c | c
      · rw [List.getElem?_append_left (by omega)] at h
        exact .inl ⟨c,h⟩
      · rw [List.getElem?_append_right (by omega),hl2] at h
        exact .inr ⟨c,by rw [List.getElem?_append_right c];exact h⟩
    have E2:EnvM' K H0 Φ' H' (σ++τ) (ρ2++κ) (fpN new fp):=by
      refine Ex.lend S1.g.h (B:=B) (fun b hb=>?_) (fun i q hq b hb=>(hB b).mpr ⟨i,(Classical.byContradiction fun z=>by rw [(hnone i).mpr z] at hq;cases hq),hb⟩) gi (by rw [List.length_append,List.length_append,hl2]) (fun i d h=>?_) (fun i a o h=>?_) (fun i q hq=>?_) (fun i q hq b hb=>?_) fun i j q r hq hr c b hb hb2=>?_
      · obtain ⟨i,hl,hbi⟩:=(hB b).mp hb
        obtain ⟨_,p,o,ho⟩:=id hl
        cases e:new i with
        | none=>exact absurd hl ((hnone i).mp e)
        | some q=>exact ⟨i,_,o,q,e,up ho,hbi⟩
      · rcases cs h with ⟨_,h⟩ | ⟨_,h⟩
        · rcases h3 i _ h with ⟨_,_,_,_,_,_,_,z⟩ | ⟨z,_⟩
          · cases z
          · exact up z
        · exact h
      · rcases cs h with ⟨_,h⟩ | ⟨c,h⟩
        · rcases h3 i _ h with ⟨j,p,o0,o',z1,z2,z3,z4⟩ | ⟨z1,z2⟩
          · cases z4
            cases e:new i with
            | none=>exact absurd ⟨⟨j,z1⟩,p,o0,z2⟩ ((hnone i).mp e)
            | some q =>
              obtain ⟨j',p',o1,y1,y2,y3,y4⟩:=hnew i q e
              cases inj z1 y1
              rw [z3] at y3
              cases y3
              exact .inr ⟨o0,q.2,rfl,up z2⟩
          · refine .inl ⟨(hnone i).mpr fun hl=>?_,up z1⟩
            obtain ⟨⟨j,hj⟩,p,o0,ho⟩:=hl
            exact z2 j p o0 hj ho
        · exact .inl ⟨lnt c,h⟩
      · obtain ⟨j,p,o0,z1,z2,z3,z4⟩:=hnew i q hq
        obtain ⟨y1,y2⟩:=adr z2 z3
        exact ⟨p,ups y1,by rw [z4];exact y2⟩
      · obtain ⟨j,p,o0,z1,z2,z3,z4⟩:=hnew i q hq
        rw [z4] at hb
        exact (Dfc z3 b hb).2
      · obtain ⟨j1,p1,o1,z1,z2,z3,z4⟩:=hnew i q hq
        obtain ⟨j2,p2,o2,y1,y2,y3,y4⟩:=hnew j r hr
        rw [z4] at hb
        rw [y4] at hb2
        exact Ec.dj j1 j2 _ _ _ _ z3 y3 (fun e=>c (by rw [e,y1] at z1;cases z1;rfl)) b hb hb2
    have B0:∀ b∈B,H0 b=none:=fun b hb=>by
      obtain ⟨i,⟨_,p,o,ho⟩,hbi⟩:=(hB b).mp hb
      exact (E.no i _ o ho b hbi).1
    have g0:=S1.g.lend gi B0
    have E3:=E2.snocG (sm:=.own ys) (F:=[Dd]) (.o (fun q e=>by cases e) (.lst hDl hrl)) (fun b hb=>by rw [List.mem_singleton.mp hb];exact ⟨S1.g.h.free hD,hDi⟩) fun b hb i a o ho hbi=>by
      rw [List.mem_singleton.mp hb] at hbi
      unfold fpN at hbi
      cases e:new i with
      | some q =>
        rw [e] at hbi
        obtain ⟨j,p,o0,z1,z2,z3,z4⟩:=hnew i q e
        have hbi:Dd∈q.2:=hbi
        rw [z4] at hbi
        exact (Dfc z3 Dd hbi).1 rfl
      | none =>
        rw [e] at hbi
        have old:(ρ0++κ)[i]?=some (some (.ob a o)):=by
          rcases cs ho with ⟨_,ho⟩ | ⟨_,ho⟩
          · rcases h3 i _ ho with ⟨j,p,o0,o',z1,z2,_⟩ | ⟨z1,_⟩
            · exact absurd ⟨⟨j,z1⟩,p,o0,z2⟩ ((hnone i).mp e)
            · exact up z1
          · exact ho
        obtain ⟨_,_,_,r⟩:=Ex.ow i a o old
        obtain ⟨u,hu,_⟩:=r.at Dd hbi
        rw [hD] at hu
        cases hu
    rw [List.append_assoc,List.append_assoc] at E3
    exact k _ ρ2 Φ' H' _ hR ⟨g0,by rw [hl2];exact S1.l,E3,S1.x⟩ (f1.trans gi.f)
theorem qiS (hcalm:X.calm=true) (Sc:CompScope X.N X.env.scope scope N' cap) (hcap:(qcf cap).Nodup) (hi:PIM K X tg iter ti)
    (hg:∀ (cl:List (Str × Addr)) (fp:List Addr) (C:Addr) (s0:Shared) (H0:Hp),PGM K (qbg X scope N' cl C s0 H0 fp) tg gd) (ht:∀ (cl:List (Str × Addr)) (fp:List Addr) (C:Addr) (s0:Shared) (H0:Hp),PIfM K (qbg X scope N' cl C s0 H0 fp) ifs tc)
    (he:∀ (cl:List (Str × Addr)) (fp:List Addr) (C:Addr) (s0:Shared) (H0:Hp),PX K (qbg X scope N' cl C s0 H0 fp) elt te) (hs:∀ x,foldedSetIterable iter X.env x=pure x:=by intro _;rfl):PX K X (.ListComp elt [⟨tg,iter,ifs,0⟩] scope pos) (qlm ti cap gd tc te) :=
  ⟨fun hK=>(qjg hcalm Sc (hi.pi hK) (fun cl fp C s0 H0=>(hg cl fp C s0 H0).pg hK) (fun cl fp C s0 H0 pins s σ H Q I h=>(ht cl fp C s0 H0).p hK pins s σ H Q I (lNb.m h)) (fun cl fp C s0 H0=>((he cl fp C s0 H0).pe hK).imp fun _ _ _ h=>lNm.m h) hs).imp fun σ H Q hq0=>by
    obtain ⟨Φ0,H0,Φ,τ,ρ,κ,R,Rx,S,t,k⟩:=hq0
    exact qgb hcap S t k⟩
end
theorem qnP {qs:List Addr} (h:qs.length=0):qs=[]:=List.length_eq_zero_iff.mp h
theorem qeX {qs:List Addr} (h:qs.length=1):∃ a,qs=[a]:=by
  match qs,h with
  | [a],_=>exact ⟨a,rfl⟩
section
variable {K : PySem.W.Frag} {X : Cx} {e a b : Expr} {es : List Expr} {pos p : Pos} {ta tb te : TX} {tA : TXA}
theorem qmg (ha:PX K X a ta) (hb:PX K X b tb) (hs:qfl b):PX K X (.Subscript a b pos) (xOp zIx ta tb) :=
  ⟨fun hK=>(qlx (qnH hK) (ha.pe hK) (hb.pe hK) hs).imp fun _ _ _=>qc1⟩
end
section
variable {κ : Type} [DecidableEq κ] {K : PySem.W.Frag} {Φ : Hp}
end
section
variable {K : PySem.W.Frag} {X : Cx} {e a b ev : Expr} {tk tv : TD} {pos apos cpos npos spos : Pos} {x : Str} {i : Nat}
end
section
variable {K : PySem.W.Frag} {X : Cx}
def qkz (i j:Int):Prop:=0≤j∧∃ m:Nat,0<m∧i.natAbs<2 ^ m∧(m:Int)*j≤134217728
theorem qjJ:OpR X (binaryOp .Pow) (rI qkz fun i j=>.int (i ^ j.toNat)):=opI fun i j _ _ _ _ _ hc q=>by
  obtain ⟨h0,m,hm,hi,hj⟩:=hc
  refine pow_int h0 ?_ q
  have h1:((PySem.Builtin.Int.intBits i:Nat):Int)≤(m:Int):=Int.ofNat_le.mpr (qf4 hm hi)
  exact Int.le_trans (Int.mul_le_mul_of_nonneg_right h1 h0) hj
theorem qiW:OpD K X (binaryOp .Pow) (zI qkz fun i j=>.int (i ^ j.toNat)):=qil qjJ
end
section
variable {K : PySem.W.Frag} {X : Cx} {e a b ev : Expr} {tk tv td : TD} {pos apos cpos npos spos : Pos} {x : Str} {i : Nat}
end
section
variable {g : TGD} {tc : TDB} {te : TD} {ρ : Rho} {R : List D → Prop}
end
end L2
namespace PySem.SeqAt
open AutoSeq1 (wpAny_loadPart')
open MeetsSeq MeetsSeq2 MeetsSeq3 SeqRoads2
end PySem.SeqAt
namespace L2
open PySem PySem.Spec PyProof.Rows
section
variable {K : PySem.W.Frag} {X : Cx} {a b : Expr} {ta tb : TD} {apos cpos : Pos}
end
section
variable {K : PySem.W.Frag} {X : Cx} {e e2 : Expr} {te te2 : TX} {pos apos cpos npos : Pos} {x : Str} {i : Nat}
end
section
variable {P : Program} {w : World} {H H' : Hp} {h h' h1 h2 : Heap}
theorem HOk.keptT (x:HOk P w H h) (k:∀ b u v,H b=some v→h.get? b=some u→h'.get? b=some u):HOk P w H h':=fun a o e =>
  (x a o e).stay (fun b u hb q=>by
    rcases hb with rfl | hb
    · exact k _ u o e q
    · exact k b u _ hb q) (fun _ q=>q) (fun _ _ q=>q) fun _ _ _ q=>q
theorem Un.kept2 {fs fs':List Addr} {ea:Addr} {T:Option Addr} (u:Un fs [] H H' h h1) (k:Kept fs' ea T h1 h2) (he:h.get? ea=none) (hT:∀ T',T=some T'→h.get? T'=none) (hf:∀ b∈fs',b∈fs∨h.get? b=none):Un fs [] H H' h h2 where
  keep b o hb hn hfb hx:=by
    refine k.keep b o (u.keep b o hb hn hfb hx) (fun z=>by rw [z,he] at hb;cases hb) (fun z=>by rw [hT b z.symm] at hb;cases hb) fun z=>?_
    rcases hf b z with z | z
    · exact hfb z
    · rw [z] at hb;cases hb
  slot b o hb hn hfb hx:=by
    obtain ⟨sl,hs⟩:=u.slot b o hb hn hfb hx
    by_cases c:b∈fs'
    · obtain ⟨sl2,hs2⟩:=k.slot b _ hs c
      exact ⟨sl2,hs2⟩
    · exact ⟨sl,k.keep b _ hs (fun z=>by rw [z,he] at hb;cases hb) (fun z=>by rw [hT b z.symm] at hb;cases hb) c⟩
  free:=u.free
  there b o hb hx:=by
    obtain ⟨o',hs⟩:=u.there b o hb hx
    by_cases c:b∈fs'
    · obtain ⟨sl2,hs2⟩:=k.slot b _ hs c
      exact ⟨_,hs2⟩
    · exact ⟨o',k.keep b _ hs (fun z=>by rw [z,he] at hb;cases hb) (fun z=>by rw [hT b z.symm] at hb;cases hb) c⟩
  tups:=u.tups
  frzs:=u.frzs
  tbls:=u.tbls
end
def CXo (P:Program) (w:World):CXT:=fun outer H s E e s'=>∃ (ea T C:Addr) (dx:Option Addr) (H':Hp),e=.ref ea∧Fly s'.heap ea (some T) .none (.ref C) dx∧(s.heap.get? ea=none∧H' ea=none)∧(s.heap.get? T=none∧H' T=none) ∧
  s'.os=s.os∧AllBare s'.gens∧Un (frs outer) [] H H' s.heap s'.heap∧HOk P w H' s'.heap∧E (.ref C) dx H'
section
variable {X : Cx} {pins : List (Addr × Obj)} {σ : St} {H : Hp} {s s' : Shared} {E : XK} {e : Value}
theorem CXo.at (I:Inv X pins σ H s) (hex:X.ex=[]) (h:CXo X.prog X.w X.stack H s E e s'):∃ (ea T C:Addr) (dx:Option Addr) (H':Hp),e=.ref ea∧Inv X pins σ H' s'∧Fly s'.heap ea (some T) .none (.ref C) dx∧(X.s₀.heap.get? ea=none∧H' ea=none∧∀ p∈X.pn++pins,p.1≠ea)∧(X.s₀.heap.get? T=none∧H' T=none∧∀ p∈X.pn++pins,p.1≠T)∧E (.ref C) dx H':=by
  obtain ⟨ea,T,C,dx,H',e1,F,⟨f1,f2⟩,⟨g1,g2⟩,ho,hb,un,hok,hE⟩:=h
  have old:∀ b,s.heap.get? b=none→X.s₀.heap.get? b=none:=fun b hb=>by
    cases q:X.s₀.heap.get? b with
    | none=>rfl
    | some o =>
      obtain ⟨o',z⟩:=I.base.there b o q (by rw [hex];simp)
      rw [hb] at z;cases z
  exact ⟨ea,T,C,dx,H',e1,I.call' (ch:=[]) ho un hok hb (fun b z=>absurd z (by simp)),F,⟨old ea f1,f2,fun p hp z=>by have:=(I.pin p hp).1;rw [z,f1] at this;cases this⟩,⟨old T g1,g2,fun p hp z=>by have:=(I.pin p hp).1;rw [z,g1] at this;cases this⟩,hE⟩
end
section
variable {P : Program} {w : World} {K : PySem.W.Frag} {mg : Str → Option Value} {base : Heap} {N : List Str} {qual : Str} {scope : Scope} {f : Addr} {cd : Value} {A : Around} {outer : List Env} {s s' : Shared} {H H' : Hp} {E : XK} {pins : List (Addr × Obj)} {σ : St}
theorem qhI {ea C:Addr} {T dx:Option Addr} (I:Inv (qgy (CXo P w) P w K mg base N qual scope f cd A outer s H E) pins σ H' s') (F:Fly s'.heap ea T .none (.ref C) dx) (hea:s.heap.get? ea=none∧H' ea=none) (hT:∀ T',T=some T'→s.heap.get? T'=none∧H' T'=none) (hE:E (.ref C) dx H') :
    (qgy (CXo P w) P w K mg base N qual scope f cd A outer s H E).xe (.ref ea) s':=by
  have hfn:∀ b∈frs (envOfC qual scope s.heap.objs.size f cd::outer),H' b=none:=I.stkFree
  refine qj7 (base:=base) I.ok.frames I.stack rfl F fun h2 T' F2 n2 k2=>?_
  have hsz:s.heap.objs.size≤s'.heap.objs.size:=I.sz
  refine ⟨ea,T',C,dx,H',rfl,F2,hea,⟨Heap.get?_none_of_le (by omega),I.hok.fresh n2⟩,I.os,I.bare,?_,I.hok.keptT fun b u v hb q=>?_,hE⟩
  · refine (show Un (frs outer) [] H H' s.heap s'.heap from I.base).kept2 k2 hea.1 (fun T' e=>(hT T' e).1) fun b hb=>?_
    obtain ⟨env,he,hf⟩:=List.mem_filterMap.mp hb
    rcases List.mem_cons.mp he with rfl | he
    · right
      have:s.heap.objs.size=b:=Option.some.inj hf
      exact Heap.get?_none_of_le (by omega)
    · exact .inl (List.mem_filterMap.mpr ⟨env,he,hf⟩)
  · refine k2.keep b u q (fun z=>by rw [z,hea.2] at hb;cases hb) (fun z=>by rw [(hT b z.symm).2] at hb;cases hb) fun z=>?_
    rw [hfn b z] at hb;cases hb
end
section
variable {X : Cx} {CX : CXT} {k : Nat} {f : Addr} {fd : FuncData} {ps : List Str} {sp : Sp} {x : Str} {p pos : Pos} {e : Expr} {es : List Expr} {t : TA}
def qc4 (CX:CXT) (X:Cx) (E:XK) (σ:St) (H:Hp):Prop:=∀ (pins:List (Addr × Obj)) (s:Shared) (e:Value) (s':Shared),Inv X pins σ H s→CX X.stack H s E e s'→X.xe e s'
def qlv (CX:CXT) (X:Cx) (sp:Sp) (t:TA):TE:=fun σ H Q=>t σ H fun vs H1=>∃ E,qc4 CX X E σ H1∧sp vs H1 Q E
theorem qe2 {pins:List (Addr × Obj)} {σ:St} {H:Hp} {s:Shared} {Q:VK} {E:XK} {us:List Value} {vs:List V} (F:FnOk X.prog X.w X.K X.mg X.base CX k f fd ps sp) (hr:Room k X.A) (hb:Binds X.K fd ps []) (hx:qc4 CX X E σ H)
    (I:Inv X pins σ H s) (r:Vals vs us) (h:sp vs H Q E):wpAny (model X.prog X.w) X.A (call (.ref f) us) (EP X pins σ Q) X.xe s:=by
  have hl:us.length=ps.length:=by rw [← r.length];exact F.len _ _ _ _ h
  have hB:=hb s us I.kIn (by rw [List.append_nil];exact hl)
  rw [List.append_nil] at hB
  refine wpAny_call (codeAny_mono (F.run X.A X.stack s H ⟨us,[]⟩ us vs Q E hr I.env0 hB r h) fun res s1 hq=>?_)
  cases res with
  | error z=>exact hx pins s z s1 I hq
  | ok fl =>
    cases fl with
    | ret u=>exact I.after hq
    | _=>exact hq.elim
theorem qin (F:FnOk X.prog X.w X.K X.mg X.base CX k f fd ps sp) (hr:Room k X.A) (hg:Gl X x) (hm:X.mg x=some (.ref f)) (hk:PySem.W.keepIn X.K (.ref f)=true) (hb:Binds X.K fd ps [])
    (ha:PA X (e::es) t) (hdb:(x == ("__debug__":Str))=false) (he:starEach (e::es) X.env=(false,eval e X.env)::starEach es X.env) (hpl:(backTo pos (starEach es X.env)).any (·.1)=false) :
    PE X (.Call (.Name x p) (e::es) [] pos) (qlv CX X sp t):=by
  intro pins s σ H Q I h
  refine wpAny_Call_Name_kw (qbS I hg hm ?_ hdb)
  refine PySem.W.callWith_K (h₀:=X.base) I.ok.mod.kin hk (thn (ha pos pins s σ H _ I h) fun us s1 hq0=>?_) he hpl
  obtain ⟨vs,H1,I1,r,E,hx,q⟩:=hq0
  exact ⟨I1.kIn,qe2 F hr hb hx I1 r q⟩
end
section
variable {K : PySem.W.Frag} {X : Cx} {e : Expr} {es : List Expr} {pos p : Pos} {tA : TXA}
end
section
variable {P : Program} {w : World} {K : PySem.W.Frag} {mg : Str → Option Value} {base : Heap}
end
abbrev bmV:List Value:=[.type "ValueError",.type "Exception",.type "BaseException",.type "object"]
abbrev excNames:List Str:=["__init__","__setattr__","__getattribute__","__getattr__","at","__class__"]
inductive TailN (h:Heap):List Value→Prop where
  | base:TailN h bmV
  | own {A:Addr} {c0:Value} {dd:Option Addr} {cd:ClassData} {sl:Array (Option Value)} {mA:Str→Option Value} {tl:List Value}:h.get? A=some { cls:=c0,dict:=dd,data:=.cls cd,slots:=sl }→h.Ns cd.ns mA→(∀ n∈excNames,mA n=none)→TailN h tl→TailN h (.ref A::tl)
theorem TailN.tail {h:Heap} {tl:List Value} (T:TailN h tl):OwnTail h bmV tl:=by
  induction T with
  | base=>exact .base
  | own a b c _ ih=>exact .own a b (c _ (by simp)) ih
theorem TailN.keeps {h h':Heap} {tl:List Value} (T:TailN h tl) (k:∀ b o,h.get? b=some o→h'.get? b=some o):TailN h' tl:=by
  induction T with
  | base=>exact .base
  | own a b c _ ih=>exact .own (k _ _ a) (b.keeps k) c ih
structure ExcAt (h:Heap) (C:Addr) (init:Option Value):Prop where
  ex:∃ nm q N bs bm sn sub ab col dd k0 k1 k2 k3 k5 mN,h.get? C=some (excClassObj nm q C N bs bm true sn sub ab col dd k0 k1 k2 k3 k5 "ValueError.__new__")∧h.Ns N mN∧mN "__init__"=init∧(∀ n∈excNames,n≠"__init__"→mN n=none)∧TailN h bm
theorem ObjOk.is {P:Program} {w:World} {H:Hp} {h:Heap} {a:Addr} {o:HO} (x:ObjOk P w H h a o):∃ ob,h.get? a=some ob:=by
  cases o with
  | lst xs=>obtain ⟨_,_,_,_,e⟩:=x;exact ⟨_,e⟩
  | tup xs=>obtain ⟨_,_,_,o,e,_⟩:=x;exact ⟨_,e⟩
  | dK kvs=>obtain ⟨_,_,_,_,o,_,_,e,_⟩:=x;exact ⟨_,e⟩
  | dT kvs=>obtain ⟨_,_,_,_,o,_,_,e,_⟩:=x;exact ⟨_,e⟩
  | set S n=>obtain ⟨o,_,_,_,e,_⟩:=x;exact ⟨_,e⟩
  | ins C dx fs=>obtain ⟨_,_,_,e,_⟩:=x;exact ⟨_,e⟩
  | own y=>obtain ⟨_,e⟩:=x;exact ⟨_,e⟩
  | xd fs=>obtain ⟨_,⟨_,_,_,e,_⟩,_⟩:=x;exact ⟨_,e⟩
  | rng lo hi=>obtain ⟨_,_,_,e⟩:=x;exact ⟨_,e⟩
  | frz ob u=>obtain ⟨e,_⟩:=x;exact ⟨_,e⟩
  | tbl ps=>rcases x with x | ⟨_,_,_,_,_,_,_,_,_,_,x,_⟩ <;> exact ⟨_,x⟩
  | met f y=>exact ⟨_,(show h.get? a=some _ from x)⟩
  | ext φ=>obtain ⟨_,e,_⟩:=x;exact e
theorem HOk.no {P:Program} {w:World} {H:Hp} {h:Heap} (x:HOk P w H h) {a:Addr} (e:h.get? a=none):H a=none:=by
  cases q:H a with
  | none=>rfl
  | some o =>
    obtain ⟨ob,z⟩:=(x a o q).is
    rw [e] at z
    cases z
section
variable {X : Cx} {pins : List (Addr × Obj)} {σ : St} {H : Hp} {s : Shared} {h' : Heap} {K : PySem.W.Frag}
theorem Inv.old (I:Inv X pins σ H s) (hex:X.ex=[]) {b:Addr} (hb:s.heap.get? b=none):X.s₀.heap.get? b=none:=by
  cases q:X.s₀.heap.get? b with
  | none=>rfl
  | some o =>
    obtain ⟨o',z⟩:=I.base.there b o q (by rw [hex];simp)
    rw [hb] at z;cases z
theorem Inv.more (I:Inv X pins σ H s) (k:∀ b o,s.heap.get? b=some o→h'.get? b=some o):Inv X pins σ H { s with heap:=h' } :=
  I.call' (s':={ s with heap:=h' }) (ch:=[]) rfl (Un.kept k) (I.hok.kept k) I.bare (fun b z=>absurd z (by simp))
theorem qh8 {C:Addr} {x:Str} {np cpos pos:Pos} (hcalm:X.calm=true) (hex:X.ex=[]) (hg:Gl X x) (hm:X.mg x=some (.ref C)) (hC:∀ h:Heap,X.K.In h→ExcAt h C none) (hdb:(x == ("__debug__":Str))=false:=by decide) :
    PSM K X (.Raise (some (.Call (.Name x np) [] [] cpos)) none pos) (fun De ρ=>De.ex ⟨x,none⟩ ρ):=⟨fun hK=>by
  intro pins s σ H E I hq0
  obtain ⟨Φ0,H0,Φ,ρ,De,g,V,t,k⟩:=hq0
  obtain ⟨nm,q,N,bs,bm,sn,sub,ab,col,dd,k0,k1,k2,k3,k5,mN,c1,c2,c3,c4,c5⟩:=(hC s.heap I.kIn).ex
  refine wpAny_Raise_call_subT (C:=C) (nm:=nm) (q:=q) (N:=N) (bs:=bs) (bm:=bm) (hdct:=true) (sn:=sn) (sub:=sub) (ab:=ab) (col:=col) (dd:=dd) (k0:=k0) (k1:=k1) (k2:=k2) (k3:=k3) (k5:=k5) (mN:=mN) PySem.F.excBase_ValueError (c5.tail.hasType (by decide +kernel)) (I.ok.hd hcalm) rfl c3 (qbS I hg hm ⟨rfl,?_⟩ hdb)
  refine PySem.evalArgs_none ?_
  refine ⟨rfl,by show 0≤sizeLine;exact Nat.zero_le _,c1,c2,c5.tail,fun h' e hmk=>?_⟩
  obtain ⟨t',h1,h2,h3⟩:=hmk.there
  have hno:=I.hok.no hmk.new
  exact k.ex ⟨x,none⟩ ρ Φ H σ _ _ pins t g V ⟨I.more hmk.keeps,e,C,none,none,rfl,⟨_,_,h1,rfl,rfl,rfl,rfl⟩,hm,rfl,⟨I.old hex hmk.new,hno,fun p hp z=>by have:=(I.pin p hp).1;rw [z,hmk.new] at this;cases this⟩,fun T' z=>(by cases z)⟩⟩
end
abbrev Cx.tried (X:Cx) (pn:List (Addr × Obj)) (xe:Value→Shared→Prop):Cx:={ X with pn:=pn,xe:=xe }
abbrev Cx.held (X:Cx) (pn:List (Addr × Obj)) (e:Value):Cx:={ X with A:=X.A.mark (some e),calm:=false,pn:=pn,xe:=fun _ _=>False }
section
variable {X : Cx} {pins pins' : List (Addr × Obj)} {σ : St} {H : Hp} {s : Shared} {xe : Value → Shared → Prop} {e : Value}
theorem Cx.Ok.tried (o:X.Ok) (pn:List (Addr × Obj)) (xe:Value→Shared→Prop):(X.tried pn xe).Ok :=
  ⟨o.mod,o.kind,o.glob,o.blt,o.above,o.inj,o.has,o.cab,o.hd,o.frames,o.stk,o.exf,o.bs,o.bsz,o.noex,o.exfs,o.funs,o.frf⟩
theorem Cx.Ok.held (o:X.Ok) (pn:List (Addr × Obj)) (e:Value):(X.held pn e).Ok :=
  ⟨o.mod,o.kind,o.glob,o.blt,o.above,o.inj,o.has,o.cab,fun h=>(by cases h),o.frames,o.stk,o.exf,o.bs,o.bsz,o.noex,o.exfs,o.funs,o.frf⟩
theorem Inv.tried (I:Inv X pins σ H s) (xe:Value→Shared→Prop):Inv (X.tried (X.pn++pins) xe) [] σ H s :=
  ⟨I.ok.tried _ _,I.os,I.bare,I.base,I.loc,I.cell,I.free,I.freeC,fun p hp=>I.pin p (by rw [List.append_nil] at hp;exact hp),I.hok,I.len⟩
theorem Inv.untried (ok:X.Ok) (I:Inv (X.tried (X.pn++pins) xe) pins' σ H s):Inv X pins σ H s :=
  ⟨ok,I.os,I.bare,I.base,I.loc,I.cell,I.free,I.freeC,fun p hp=>I.pin p (List.mem_append_left _ hp),I.hok,I.len⟩
theorem Inv.held (I:Inv X pins σ H s) (e:Value):Inv (X.held (X.pn++pins) e) [] σ H s :=
  ⟨I.ok.held _ _,I.os,I.bare,I.base,I.loc,I.cell,I.free,I.freeC,fun p hp=>I.pin p (by rw [List.append_nil] at hp;exact hp),I.hok,I.len⟩
theorem Inv.unheld (ok:X.Ok) (I:Inv (X.held (X.pn++pins) e) pins' σ H s):Inv X pins σ H s :=
  ⟨ok,I.os,I.bare,I.base,I.loc,I.cell,I.free,I.freeC,fun p hp=>I.pin p (List.mem_append_left _ hp),I.hok,I.len⟩
theorem Inv.knowX {a:Addr} {o:HO} (I:Inv X pins σ H s) (h0:X.s₀.heap.get? a=none) (hn:H a=none) (hp:∀ p∈X.pn++pins,p.1≠a) (hl:X.env.locals≠a) (hc:∀ x c,X.env.cells.lookup x=some c→c≠a) (new:ObjOk X.prog X.w (upd H a o) s.heap a o):Inv X pins σ (upd H a o) s where
  ok:=I.ok
  os:=I.os
  bare:=I.bare
  base:=⟨I.base.keep,I.base.slot,fun b ob q n hx=>by rw [qag (fun z=>by rw [z,h0] at q;cases q)];exact I.base.free b ob q n hx,I.base.there,fun b xs q=>by have:=I.base.tups b xs q;rw [qag (qan this hn)];exact this,fun b ob xs q=>by have:=I.base.frzs b ob xs q;rw [qag (qan this hn)];exact this,fun b ps q=>by have:=I.base.tbls b ps q;rw [qag (qan this hn)];exact this⟩
  loc:=I.loc
  cell:=I.cell
  free:=by rw [qag hl];exact I.free
  freeC x c h:=by rw [qag (hc x c h)];exact I.freeC x c h
  pin p h:=by
    obtain ⟨a1,a2,a3⟩:=I.pin p h
    exact ⟨a1,by rw [qag (hp p h)];exact a2,a3⟩
  hok:=I.hok.know hn new
  len:=I.len
theorem qk4 {h:Heap} {a:Addr} {m m':Str→Option Value} (x:h.Ns a m) (y:h.Ns a m') (n:Str):m n=m' n:=by
  obtain ⟨o,es,ep,ho,hd,_,hm⟩:=x
  obtain ⟨o',es',ep',ho',hd',_,hm'⟩:=y
  rw [ho] at ho'
  cases ho'
  rw [hd] at hd'
  cases hd'
  rw [← hm n,← hm' n]
theorem Inv.unname {i:Nat} {n:Str} {h':Heap} {m:Str→Option Value} {v:Option Value} {t':Nat} (I:Inv X pins σ H s) (hN:X.N.Nodup) (hi:X.N[i]?=some n) (hm:s.heap.Ns X.env.locals m) (hn:h'.Ns X.env.locals (fun x=>if x=n then v else m x)) (hs:Heap.SameBut X.env.locals s.heap h'):Inv X pins (σ.set i none) H { s with heap:=h',toks:=t' }:=by
  have old:X.s₀.heap.get? X.env.locals=none:=Heap.get?_none_of_le I.ok.above
  have kp:∀ b,b≠X.env.locals→h'.get? b=s.heap.get? b:=fun b hb=>hs.2 b hb
  obtain ⟨m0,hm0,hl⟩:=I.loc
  refine ⟨I.ok,I.os,I.bare,⟨fun b o q n1 n2 n3=>?_,fun b o q n1 n2 n3=>?_,I.base.free,fun b o q n3=>?_,I.base.tups,I.base.frzs,I.base.tbls⟩,⟨_,hn,fun j x w hj hw hv=>?_⟩,fun x c h=>?_,I.free,I.freeC,fun p hp=>?_,I.hok.keptT fun b u w hb q=>?_,by rw [List.length_set];exact I.len⟩
  · rw [kp b (fun z=>by rw [z,old] at q;cases q)];exact I.base.keep b o q n1 n2 n3
  · obtain ⟨sl,z⟩:=I.base.slot b o q n1 n2 n3
    exact ⟨sl,(kp b (fun z=>by rw [z,old] at q;cases q)).trans z⟩
  · obtain ⟨o',z⟩:=I.base.there b o q n3
    exact ⟨o',(kp b (fun z=>by rw [z,old] at q;cases q)).trans z⟩
  · have hji:j≠i:=fun z=>by
      rw [z] at hw
      simp [List.getElem?_set] at hw
    rw [List.getElem?_set_ne (Ne.symm hji)] at hw
    obtain ⟨u,ru,lk⟩:=hl j x w hj hw hv
    have hxn:x≠n:=fun z=>hji ((List.getElem?_inj (qal hj) hN).mp (by rw [hj,hi,z]))
    refine ⟨u,ru,?_⟩
    rcases lk with ⟨k1,k2⟩ | ⟨k1,c,k2,k3⟩
    · refine .inl ⟨k1,?_⟩
      show (if x=n then v else m x)=some u
      rw [if_neg hxn,qk4 hm hm0 x]
      exact k2
    · refine .inr ⟨k1,c,k2,?_⟩
      obtain ⟨o,ho,hd⟩:=k3
      exact ⟨o,(kp c (I.cne x c k2)).trans ho,hd⟩
  · obtain ⟨w,o,ho,hd⟩:=I.cell x c h
    exact ⟨w,o,(kp c (I.cne x c h)).trans ho,hd⟩
  · obtain ⟨a1,a2,a3,a4⟩:=I.pin p hp
    exact ⟨(kp p.1 a3).trans a1,a2,a3,a4⟩
  · exact (kp b (fun z=>by rw [z,I.free] at hb;cases hb)).trans q
theorem qeG (ok:X.Ok) {b:Addr} (h:b∈frs X.stack):b∈X.fs∨b=X.env.locals:=by
  rcases ok.stk with e | ⟨e,hf⟩
  · rw [e] at h;exact .inl h
  · rw [e] at h
    obtain ⟨env,he,hb⟩:=List.mem_filterMap.mp h
    rcases List.mem_cons.mp he with rfl | he
    · rw [hf] at hb;exact .inr (Option.some.inj hb).symm
    · exact .inl (List.mem_filterMap.mpr ⟨env,he,hb⟩)
theorem Inv.passed {ea:Addr} {T:Option Addr} {h':Heap} (I:Inv X pins σ H s) (k:Kept (frs X.stack) ea T s.heap h') (he:X.s₀.heap.get? ea=none∧H ea=none∧∀ p∈X.pn++pins,p.1≠ea) (hT:∀ T',T=some T'→X.s₀.heap.get? T'=none∧H T'=none∧∀ p∈X.pn++pins,p.1≠T')
    (de:∃ o vs,s.heap.get? ea=some o∧o.data=.fields vs) (dT:∀ T',T=some T'→∃ o vs,s.heap.get? T'=some o∧o.data=.fields vs):Inv X pins σ H { s with heap:=h' }:=by
  have old:X.s₀.heap.get? X.env.locals=none:=Heap.get?_none_of_le I.ok.above
  have kd:∀ b o,s.heap.get? b=some o→(∀ vs,o.data≠.fields vs)→∃ sl,h'.get? b=some { o with slots:=sl }:=fun b o hb hn=>by
    have b1:b≠ea:=fun z=>by
      obtain ⟨o',vs,h1,h2⟩:=de
      rw [z,h1] at hb;cases hb;exact hn vs h2
    have b2:some b≠T:=fun z=>by
      obtain ⟨o',vs,h1,h2⟩:=dT b z.symm
      rw [h1] at hb;cases hb;exact hn vs h2
    by_cases c:b∈frs X.stack
    · exact k.slot b o hb c
    · exact ⟨o.slots,k.keep b o hb b1 b2 c⟩
  have k0:∀ b o,s.heap.get? b=some o→X.s₀.heap.get? b≠none→b≠ea∧some b≠T:=fun b o hb h0=>⟨fun z=>h0 (by rw [z];exact he.1),fun z=>h0 (hT b z.symm).1⟩
  obtain ⟨m,hm,hl⟩:=I.loc
  have hm':h'.Ns X.env.locals m:=by
    obtain ⟨o,es,ep,ho,hd,hk,hmm⟩:=hm
    obtain ⟨sl,z⟩:=kd _ o ho (fun vs q=>by rw [hd] at q;cases q)
    exact ⟨_,es,ep,z,hd,hk,hmm⟩
  have cl:∀ c v,s.heap.IsCell c v→h'.IsCell c v:=fun c v hc=>by
    obtain ⟨o,ho,hd⟩:=hc
    obtain ⟨sl,z⟩:=kd _ o ho (fun vs q=>by rw [hd] at q;cases q)
    exact ⟨_,z,hd⟩
  refine ⟨I.ok,I.os,I.bare,⟨fun b o q n1 n2 n3=>?_,fun b o q n1 n2 n3=>?_,I.base.free,fun b o q n3=>?_,I.base.tups,I.base.frzs,I.base.tbls⟩,⟨m,hm',fun j x w hj hw hv=>?_⟩,fun x c h=>?_,I.free,I.freeC,fun p hp=>?_,I.hok.keptT fun b u w hb q=>?_,I.len⟩
  · have z:=I.base.keep b o q n1 n2 n3
    obtain ⟨b1,b2⟩:=k0 b o z (by rw [q];simp)
    refine k.keep b o z b1 b2 fun c=>?_
    rcases qeG I.ok c with c | c
    · exact n2 c
    · rw [c,old] at q;cases q
  · obtain ⟨sl,z⟩:=I.base.slot b o q n1 n2 n3
    obtain ⟨b1,b2⟩:=k0 b _ z (by rw [q];simp)
    by_cases c:b∈frs X.stack
    · obtain ⟨sl2,z2⟩:=k.slot b _ z c
      exact ⟨sl2,z2⟩
    · exact ⟨sl,k.keep b _ z b1 b2 c⟩
  · obtain ⟨o',z⟩:=I.base.there b o q n3
    obtain ⟨b1,b2⟩:=k0 b _ z (by rw [q];simp)
    by_cases c:b∈frs X.stack
    · obtain ⟨sl2,z2⟩:=k.slot b _ z c
      exact ⟨_,z2⟩
    · exact ⟨o',k.keep b _ z b1 b2 c⟩
  · obtain ⟨u,ru,lk⟩:=hl j x w hj hw hv
    refine ⟨u,ru,?_⟩
    rcases lk with ⟨k1,k2⟩ | ⟨k1,c,k2,k3⟩
    · exact .inl ⟨k1,k2⟩
    · exact .inr ⟨k1,c,k2,cl c _ k3⟩
  · obtain ⟨w,hw⟩:=I.cell x c h
    exact ⟨w,cl c w hw⟩
  · obtain ⟨a1,a2,a3,a4⟩:=I.pin p hp
    refine ⟨k.keep p.1 p.2 a1 (he.2.2 p hp) (fun z=>(hT p.1 z.symm).2.2 p hp rfl) fun c=>?_,a2,a3,a4⟩
    rcases qeG I.ok c with c | c
    · exact a4.1 c
    · exact a3 c
  · refine k.keep b u q (fun z=>by rw [z,he.2.1] at hb;cases hb) (fun z=>by rw [(hT b z.symm).2.1] at hb;cases hb) fun c=>?_
    rw [I.stkFree b c] at hb;cases hb
theorem qgM {M:Model} {A:Around} {E:Value→Shared→Prop} {Q:Unit→Shared→Prop} {i:Nat} {n:Str} {pos:Pos} (I:Inv X pins σ H s) (hN:X.N.Nodup) (hi:X.N[i]?=some n) (hx:X.env.scope.names.lookup n=some .local) (hf:X.fn n=true∨X.env.scope.names.lookup n=some .local)
    (k:∀ s',Inv X pins (σ.set i none) H s'→Q () s'):wpAny M A (do bindName X.env n .none;unbindBehindTheSuite X.env n pos) Q E s:=by
  have hp:(X.env.scope.kind == .class || (X.env.scope.kind == .module && X.env.locals != X.env.globals))=false:=by rw [I.ok.kind];rfl
  have hk:X.env.kindOf n=some .local:=hx
  have hil:i<σ.length:=by rw [I.len];exact qal hi
  refine wpAny_bind (wpAny_bindName (qei I hN hi (.inl hx) (v:=.non) rfl (fun s1 I1=>?_) hf))
  obtain ⟨m,hm,hl⟩:=id I1.loc
  obtain ⟨u,ru,lk⟩:=hl i n .non hi (by rw [List.getElem?_set];simp [hil]) (.inl hx)
  have hmn:(m n).isSome=true:=by
    rcases lk with ⟨_,h2⟩ | ⟨h1,_⟩
    · rw [h2];rfl
    · rcases h1 with h1 | h1 <;> (rw [hk] at h1;cases h1)
  unfold unbindBehindTheSuite
  refine wpAny_onRaise ?_
  unfold unbindName
  refine wpAny_bind (wpAny_point (wpAny_bind ?_))
  unfold deleteName
  simp only [hk,hp]
  rw [if_neg (by decide)]
  refine wpAny_bind (wpAny_nsDel_keeps hm fun h2 v hn2 hs2=>?_)
  rw [hmn]
  simp only [if_true,Bool.not_true,Bool.false_eq_true,if_false]
  refine wpAny_pure (wpAny_point ?_)
  have I2:=I1.unname (t':=s1.toks) hN hi hm hn2 hs2
  rw [List.set_set] at I2
  exact k _ I2
end
section
variable {M : Model} {A : Around} {E : Value → Shared → Prop} {s : Shared}
def qgm (h:Heap) (C:Addr):List Value:=match h.get? C with | some o=>(match o.data with | .cls cd=>cd.mro | _=>[]) | none=>[]
theorem qeC {e C D:Addr} {oe:Obj} {i i':Option Value} {Q:Bool→Shared→Prop} (hC:ExcAt s.heap C i) (hD:ExcAt s.heap D i') (he:s.heap.get? e=some oe) (hcls:oe.cls=.ref C) (hq:Q ((qgm s.heap C).contains (.ref D)) s):wpAny M A (excMatches (.ref e) (.ref D)) Q E s:=by
  obtain ⟨hp,g,d,tk,os⟩:=s
  obtain ⟨nm,q,N,bs,bm,sn,sub,ab,col,dd,k0,k1,k2,k3,k5,mN,c1,c2,c3,c4,c5⟩:=hC.ex
  obtain ⟨nm',q',N',bs',bm',sn',sub',ab',col',dd',k0',k1',k2',k3',k5',mN',d1,d2,d3,d4,d5⟩:=hD.ex
  have hm:qgm hp C=.ref C::bm:=by unfold qgm;rw [show hp.get? C=_ from c1]
  have hq:Q ((Value.ref C::bm).contains (.ref D)) ⟨hp,g,d,tk,os⟩:=by rw [← hm];exact hq
  have hcB:(Value.ref D::bm').contains (.type "BaseException")=true:=by rw [List.contains_cons,d5.tail.hasType (X:="BaseException") (b:=true) (by decide +kernel),Bool.or_true]
  have f:=tc_notTuple
  unfold excMatches
  repeat (first | (with_reducible refine wpAny_loadPart_at he ?_;rw [hcls]) | with_reducible refine wpAny_loadPart_at d1 ?_ | (with_reducible refine wpAny_isSubtype_exc d1 ?_;rw [hcB]) | (with_reducible refine wpAny_isSubtype_exc c1 ?_) | wp_step)
  cases hb:(Value.ref C::bm).contains (.ref D) <;> (rw [hb] at hq;wp_walk;exact hq)
end
structure Exs (K:PySem.W.Frag) (mg:Str→Option Value) (isa:Str→Str→Bool) (names:List Str):Prop where
  cls:∀ nm∈names,∀ C,mg nm=some (.ref C)→∀ h:Heap,K.In h→∃ i,ExcAt h C i
  sub:∀ nm∈names,∀ c∈names,∀ C D,mg nm=some (.ref C)→mg c=some (.ref D)→∀ h:Heap,K.In h→(qgm h C).contains (.ref D)=isa nm c
  inK:∀ nm∈names,∀ C,mg nm=some (.ref C)→PySem.W.nsIn K mainGlobals nm=some (some (.ref C))
structure PHM (K:PySem.W.Frag) (X:Cx) (hs:List ExceptHandler) (th:XD→EndsM→qau→Prop):Prop where
  ph:X.K=K→∀ (pins:List (Addr × Obj)) (s:Shared) (σ:St) (H:Hp) (D:Ends) (ea T C:Addr) (dx:Option Addr) (xd:XD) (Φ0 H0 Φ:Hp) (ρ:qau) (De:EndsM),Inv X pins σ H s→Fly s.heap ea (some T) .none (.ref C) dx→X.mg xd.nm=some (.ref C)→XAt X.K H xd.at_ dx →
    (X.s₀.heap.get? ea=none∧H ea=none∧∀ p∈X.pn++pins,p.1≠ea)→(X.s₀.heap.get? T=none∧H T=none∧∀ p∈X.pn++pins,p.1≠T)→Gr Φ0 H0 Φ H→EnvM K H0 Φ H σ ρ→th xd De ρ→EndOkM K X Φ0 H0 De D→wpAny (model X.prog X.w) X.A (handleBy (.ref ea) X.env hs) (SP X pins D) X.xe s
theorem EnvM.unset {K:PySem.W.Frag} {H0 Φ H:Hp} {σ:St} {ρ:qau} (E:EnvM K H0 Φ H σ ρ) (i:Nat):EnvM K H0 Φ H (σ.set i none) (ρ.set i none):=by
  have hl:=E.len
  refine E.re id (by rw [List.length_set,List.length_set,hl]) (fun j x h=>?_) (fun j k a a' o o' _ _ h=>h)
  have hji:j≠i:=fun z=>by
    rw [z] at h
    simp [List.getElem?_set] at h
  rw [List.getElem?_set_ne (Ne.symm hji)] at h
  exact ⟨h,List.getElem?_set_ne (Ne.symm hji)⟩
theorem qdl {h h':Heap} {fs:List Addr} {ea T:Addr} (k:∀ b o,h.get? b=some o→b≠T→h'.get? b=some o) (hT:∃ o vs,h.get? T=some o∧o.data=.fields vs) (hf:∀ b∈fs,∀ o,h.get? b=some o→∀ vs,o.data≠.fields vs):Kept fs ea (some T) h h' where
  keep b o hb _ b2 _:=k b o hb fun z=>b2 (by rw [z])
  slot b o hb c:=⟨o.slots,k b o hb fun z=>by
    obtain ⟨o',vs,h1,h2⟩:=hT
    rw [z,h1] at hb
    cases hb
    exact hf T (z ▸ c) _ h1 vs h2⟩
theorem Fly.note {h:Heap} {e T:Addr} {fl cls:Value} {dx:Option Addr} (F:Fly h e (some T) fl cls dx):∃ o vs,h.get? T=some o∧o.data=.fields vs:=by
  obtain ⟨oe,vs,_,_,_,_,_,_,oT,ts,h1,h2,_⟩:=F.ex
  exact ⟨oT,ts,h1,h2⟩
theorem Fly.obj {h:Heap} {e:Addr} {T:Option Addr} {fl cls:Value} {dx:Option Addr} (F:Fly h e T fl cls dx):∃ o vs,h.get? e=some o∧o.data=.fields vs:=by
  obtain ⟨oe,vs,h1,h2,_⟩:=F.ex
  exact ⟨oe,vs,h1,h2⟩
section
variable {K : PySem.W.Frag} {X : Cx} {isa : Str → Str → Bool} {names : List Str}
theorem qcj {pins:List (Addr × Obj)} {σ:St} {H:Hp} {s:Shared} (I:Inv X pins σ H s):∀ b∈frs X.stack,∀ o,s.heap.get? b=some o→∀ vs,o.data≠.fields vs:=fun b hb o ho=>by
  obtain ⟨_,o',ho',hn⟩:=I.stack.mem hb
  rw [ho] at ho'
  cases ho'
  exact hn
theorem qiY:PHM K X [] (fun _ _ _=>False):=⟨fun _ _ _ _ _ _ _ _ _ _ _ _ _ _ _ _ _ _ _ _ _ _ _ _ h=>h.elim⟩
theorem qjI {rest:List ExceptHandler} {th:XD→EndsM→qau→Prop} {c n:Str} {Da:Addr} {np hpos:Pos} {b₀:Stmt} {suite:List Stmt} {tu:TSM} (i:Nat) (Ex:Exs X.K X.mg isa names) (hc:c∈names) (hg:Gl X c) (hm:X.mg c=some (.ref Da)) (hN:X.N.Nodup) (hs:∀ pn e,PSsM K (X.held pn e) (b₀::suite) tu) (hr:PHM K X rest th)
    (hi:X.N[i]?=some n:=by rfl) (hloc:X.env.scope.names.lookup n=some .local:=by rfl) (hfn:X.fn n=true∨X.env.scope.names.lookup n=some .local:=by first | exact .inl rfl | exact .inr rfl) (hdb:(c == ("__debug__":Str))=false:=by decide) :
    PHM K X (.ExceptHandler (some (.Name c np)) (some n) (b₀::suite) hpos::rest) (fun xd De ρ=>xd.nm∈names∧(isa xd.nm c=true→tu { nx:=fun ρ'=>De.nx (ρ'.set i none),rt:=De.rt,bk:=fun ρ'=>De.bk (ρ'.set i none),ct:=fun ρ'=>De.ct (ρ'.set i none) } (ρ.set i (some (.v (.exc xd.nm xd.at_.toList)))))∧(isa xd.nm c=false→th xd De ρ)) :=
  ⟨fun hK pins s σ H D ea T C dx xd Φ0 H0 Φ ρ De I F hnm hat fe fT g V t k=>by
    obtain ⟨hin,t1,t2⟩:=t
    obtain ⟨oe,he,hcl,hdx,vs,hvs⟩:=F.live
    obtain ⟨iC,kC⟩:=Ex.cls xd.nm hin C hnm s.heap I.kIn
    obtain ⟨iD,kD⟩:=Ex.cls c hc Da hm s.heap I.kIn
    have hsub:=Ex.sub xd.nm hin c hc C Da hnm hm s.heap I.kIn
    refine wpAny_handleBy_cons (codeAny_handlers_test (qbS (X:=X.held (X.pn++pins) (.ref ea)) (I.held (.ref ea)) hg hm ?_ hdb)) (by intro q;cases q)
    refine qeC kC kD he hcl ?_
    rw [hsub]
    cases hb:isa xd.nm c with
    | false=>exact hr.ph hK pins s σ H D ea T C dx xd Φ0 H0 Φ ρ De I F hnm hat fe fT g V (t2 hb) k
    | true =>
      refine codeAny_handlers_suite_as (qfV F fun h1 F1 k1 n1=>?_)
      have I1:Inv X pins σ H { s with heap:=h1 }:=I.passed (qdl k1 F.note (qcj I)) fe (fun T' z=>by cases z;exact fT) F.obj (fun T' z=>by cases z;exact F.note)
      refine qeQ I1 hN hi (.inl hloc) (v:=.ref ea) rfl (fun s2 I2 hs2=>?_) hfn
      obtain ⟨oe2,ve2,he2,hd2,hc2,hx2,_⟩:=F1.ex
      have hel:ea≠X.env.locals:=fun z=>by
        obtain ⟨m,⟨o',es,ep,ho',hd',_⟩,_⟩:=I1.loc
        rw [z,show h1.get? X.env.locals=_ from ho'] at he2
        cases he2
        rw [hd'] at hd2;cases hd2
      have hec:∀ x c,X.env.cells.lookup x=some c→c≠ea:=fun x c h z=>by
        obtain ⟨v,o',ho',hd'⟩:=I1.cell x c h
        rw [z,show h1.get? ea=_ from he2] at ho'
        cases ho'
        rw [hd'] at hd2;cases hd2
      have he3:s2.heap.get? ea=some oe2:=by
        obtain ⟨a,sb,ha⟩:=hs2
        refine (sb.2 ea ?_).trans he2
        rcases ha with rfl | ha
        · exact hel
        · exact fun z=>hec _ _ ha z.symm
      have new:ObjOk X.prog X.w (upd H ea (.ext (qgo ea C dx))) s2.heap ea (.ext (qgo ea C dx)):=⟨⟨oe2,ve2,he3,hc2,hx2,hd2⟩,⟨oe2,he3⟩,fun a b ⟨o,w,z1,z2⟩ kk=>⟨o,w,kk o z1,z2⟩⟩
      have I3:=I2.knowX fe.1 fe.2.1 fe.2.2 (Ne.symm hel) hec new
      have hno:H0 ea=none:=by
        cases q:H0 ea with
        | none=>rfl
        | some u=>have:=g.h _ _ q;rw [fe.2.1] at this;cases this
      have hΦe:Φ ea=none:=by
        cases q:Φ ea with
        | none=>rfl
        | some u=>have:=g.s _ _ q;rw [fe.2.1] at this;cases this
      obtain ⟨Φ2,g2,r2⟩:∃ Φ2,Gr Φ H Φ2 (upd H ea (.ext (qgo ea C dx)))∧Rp K Φ2 (.exc xd.nm xd.at_.toList) (.ref ea):=by
        have g1:Gr Φ H (upd Φ ea (.ext (qgo ea C dx))) (upd H ea (.ext (qgo ea C dx))):=(Gr.fresh g.s fe.2.1 _).freeze fe.2.1 hΦe qai
        cases ha:xd.at_ with
        | none =>
          rw [ha] at hat
          have hat:dx=none:=hat
          subst hat
          exact ⟨_,g1,.exc0 (hK ▸ Ex.inK xd.nm hin C hnm) qai⟩
        | some d =>
          rw [ha] at hat
          obtain ⟨p,v,rfl,hp,rv⟩:=hat
          have hpe:p≠ea:=fun z=>by rw [z,fe.2.1] at hp;cases hp
          have hp':upd H ea (.ext (qgo ea C (some p))) p=some (.xd [("at",v)]):=by rw [qag hpe];exact hp
          have rv':∀ Ψ:Hp,Rp K Ψ d v:=fun Ψ=>(hK ▸ rv:Rp K (fun _=>none) d v).same fun b u z=>(by cases z)
          cases q:(upd Φ ea (.ext (qgo ea C (some p)))) p with
          | some u =>
            have:=g1.s _ _ q
            rw [hp'] at this
            cases this
            exact ⟨_,g1,.exc1 (hK ▸ Ex.inK xd.nm hin C hnm) qai q (rv' _)⟩
          | none =>
            refine ⟨upd (upd Φ ea (.ext (qgo ea C (some p)))) p (.xd [("at",v)]),⟨g1.f.trans (qaA q _),g1.h,fun b u z=>?_,fun b u z1 z2 z3=>?_⟩,.exc1 (hK ▸ Ex.inK xd.nm hin C hnm) (by rw [qag (Ne.symm hpe)];exact qai) qai (rv' _)⟩
            · by_cases cb:b=p
              · rw [cb,qai] at z;cases z;rw [cb];exact hp'
              · rw [qag cb] at z;exact g1.s b u z
            · by_cases cb:b=p
              · rw [cb,hp] at z1;cases z1;exact z3.elim
              · rw [qag cb];exact g1.o b u z1 z2 z3
      have V2:=((V.gr g2).snocV r2).store i
      have run:=(hs (X.pn++pins) (.ref ea)).ps hK [] s2 _ _ { nx:=fun σ' H'=>D.nx (σ'.set i none) H',rt:=D.rt,bk:=fun σ' H'=>D.bk (σ'.set i none) H',ct:=fun σ' H'=>D.ct (σ'.set i none) H' } (I3.held (.ref ea))
        ⟨Φ0,H0,Φ2,_,_,g.trans g2,V2,t1 hb,⟨fun ρ' Φ' H' σ' r g' V'=>k.nx _ Φ' H' _ r g' (V'.unset i),k.rt,fun ρ' Φ' H' σ' r g' V'=>k.bk _ Φ' H' _ r g' (V'.unset i),fun ρ' Φ' H' σ' r g' V'=>k.ct _ Φ' H' _ r g' (V'.unset i),fun _ _ _ _ _ _ _ _ h=>h.elim⟩⟩
      refine wpAny_mono run (fun f s3 hf=>?_) fun _ _ h=>h.elim
      have go:∀ {σ':St} {H':Hp},Inv (X.held (X.pn++pins) (.ref ea)) [] σ' H' s3→(∀ s',Inv X pins (σ'.set i none) H' s'→SP X pins D f s')→wpAny (model X.prog X.w) X.A (do bindName X.env n .none;unbindBehindTheSuite X.env n hpos) (fun _ s'=>SP X pins D f s') X.xe s3:=fun {σ' H'} J kk=>qgM (Inv.unheld I.ok J) hN hi hloc hfn kk
      cases f with
      | next=>obtain ⟨σ',H',J,q⟩:=hf;exact go J fun s' J'=>⟨_,H',J',q⟩
      | brk=>obtain ⟨σ',H',J,q⟩:=hf;exact go J fun s' J'=>⟨_,H',J',q⟩
      | cont=>obtain ⟨σ',H',J,q⟩:=hf;exact go J fun s' J'=>⟨_,H',J',q⟩
      | ret u=>obtain ⟨v,σ',H',J,rv,q⟩:=hf;exact go J fun s' J'=>⟨v,_,H',J',rv,q⟩⟩
theorem qkA {body:List Stmt} {h₀:ExceptHandler} {hs:List ExceptHandler} {pos:Pos} {tb:TSM} {th:XD→EndsM→qau→Prop} (hb:∀ pn xe,PSsM K (X.tried pn xe) body tb) (hh:PHM K X (h₀::hs) th) (hstk:X.stack=X.env::X.outer) (hfr:X.env.frame=some X.env.locals) :
    PSM K X (.Try body (h₀::hs) [] [] pos) (fun De ρ=>tb { De with ex:=fun xd ρ1=>th xd De ρ1 } ρ):=⟨fun hK=>by
  intro pins s σ H D I hq0
  obtain ⟨Φ0,H0,Φ,ρ,De,g,V,t,k⟩:=hq0
  refine wpAny_Try_except ?_
  refine wpAny_mono ((hb (X.pn++pins) (fun e s₁=>wpAny (model X.prog X.w) X.A (noteFrame e X.env) (fun _ s₂=>wpAny (model X.prog X.w) X.A (setFlight e none) (fun _ s₃=>wpAny (model X.prog X.w) X.A (handleBy e X.env (h₀::hs)) (SP X pins D) X.xe s₃) X.xe s₂) X.xe s₁)).ps hK [] s σ H D (I.tried _)
    ⟨Φ0,H0,Φ,ρ,_,g,V,t,⟨k.nx,k.rt,k.bk,k.ct,fun xd ρ' Φ' H' σ' e s' pins' hth g' V' st=>?_⟩⟩) (fun f s1 hf=>?_) fun _ _ h=>h
  · obtain ⟨ea,C,T,dx,e1,F,hnm,hat,fe,fT⟩:=st.ex
    subst e1
    have Iu:Inv X pins σ' H' s':=Inv.untried I.ok st.inv
    have fe':X.s₀.heap.get? ea=none∧H' ea=none∧∀ p∈X.pn++pins,p.1≠ea:=⟨fe.1,fe.2.1,fun p hp=>fe.2.2 p (List.mem_append_left _ hp)⟩
    have fT':∀ T',T=some T'→X.s₀.heap.get? T'=none∧H' T'=none∧∀ p∈X.pn++pins,p.1≠T':=fun T' z=>⟨(fT T' z).1,(fT T' z).2.1,fun p hp=>(fT T' z).2.2 p (List.mem_append_left _ hp)⟩
    have hst:=Iu.stack
    have hfs:=Iu.ok.frames
    rw [hstk] at hst hfs
    refine qiC (base:=X.base) hfs hst hfr F fun h1 T1 F1 n1 k1=>?_
    rw [← hstk] at k1
    have I1:Inv X pins σ' H' { s' with heap:=h1 }:=Iu.passed k1 fe' fT' F.obj (fun T' z=>by subst z;exact F.note)
    have fT1:X.s₀.heap.get? T1=none∧H' T1=none∧∀ p∈X.pn++pins,p.1≠T1:=⟨Heap.get?_none_of_le (Nat.le_trans Iu.sz n1),Iu.hok.fresh n1,fun p hp z=>absurd (Heap.lt_size (Iu.pin p hp).1) (by rw [z];exact Nat.not_lt.mpr n1)⟩
    refine qfV (s:={ s' with heap:=h1 }) F1 fun h2 F2 k2 n2=>?_
    have I2:Inv X pins σ' H' { s' with heap:=h2 }:=I1.passed (qdl k2 F1.note (qcj I1)) fe' (fun T' z=>by cases z;exact fT1) F1.obj (fun T' z=>by cases z;exact F1.note)
    exact hh.ph hK pins _ σ' H' D ea T1 C dx xd Φ0 H0 Φ' ρ' De I2 F2 hnm hat fe' fT1 g' V' hth k
  · cases f with
    | next=>obtain ⟨σ',H',J,q⟩:=hf;exact wpAny_execs_nil ⟨σ',H',Inv.untried I.ok J,q⟩
    | brk=>obtain ⟨σ',H',J,q⟩:=hf;exact ⟨σ',H',Inv.untried I.ok J,q⟩
    | cont=>obtain ⟨σ',H',J,q⟩:=hf;exact ⟨σ',H',Inv.untried I.ok J,q⟩
    | ret u=>obtain ⟨v,σ',H',J,rv,q⟩:=hf;exact ⟨v,σ',H',Inv.untried I.ok J,rv,q⟩⟩
end
section
variable {M : Model} {prog : Program} {w : World} {A : Around} {E : Value → Shared → Prop} {h : Heap} {g : Array GenState} {d : Drawn} {t : Nat} {os : OsState} {a : Addr} {o : Obj} {vs : Array Value}
  {nm q:Str} {C N:Addr} {bs bm:List Value} {hdct:Bool} {sn:List Str} {sub:List Value} {ab:Bool} {col:Option Bool} {dd:Option Addr} {k0 k1 k2 k3 k5:Option Value} {newId:String} {mN:Str→Option Value} {name:Str}
theorem qgd {y:Option Value} {Q:Option Value→Shared→Prop} (hm:name∈excNames) (T:TailN h bm) (hr:lookupAlong bmV name=pure y) (hq:Q y ⟨h,g,d,t,os⟩):wpAny M A (lookupAlong bm name) Q E ⟨h,g,d,t,os⟩:=by
  induction T with
  | base=>rw [hr];exact wpAny_pure hq
  | own hA hN hn _ ih =>
    rw [lookupAlong_cons]
    refine wpAny_bind (wpAny_classOwn_cls hA hN ?_)
    rw [hn name hm]
    exact ih
theorem qbc {y:Option Value} {Q:Option Value→Shared→Prop} (hm:name∈excNames) (hC:h.get? C=some (excClassObj nm q C N bs bm hdct sn sub ab col dd k0 k1 k2 k3 k5 newId)) (hn:h.Ns N mN) (hmN:mN name=none) (T:TailN h bm) (hB:typeLookup (.type "ValueError") name=pure y)
    (hq:Q y ⟨h,g,d,t,os⟩):wpAny M A (typeLookup (.ref C) name) Q E ⟨h,g,d,t,os⟩:=by
  have hr:lookupAlong bmV name=pure y:=by rw [typeLookup_eq,PySem.F.excBase_ValueError.mroIs] at hB;exact hB
  rw [typeLookup_eq]
  refine wpAny_bind (wpAny_mroOf_exc hC ?_)
  rw [lookupAlong_cons]
  refine wpAny_bind (wpAny_classOwn_exc hC hn ?_)
  rw [hmN]
  exact qgd hm T hr hq
theorem qkT:typeLookup (.type "ValueError") "__class__"=pure (some (.builtin "object.__class__")):=by rw [typeLookup_type,builtinLookup_eq_fast];kernel_rfl
theorem qeg {R:Result→Shared→Prop} (hC:h.get? C=some (excClassObj nm q C N bs bm hdct sn sub ab col dd k0 k1 k2 k3 k5 newId)) (T:TailN h bm) (hx:h.get? a=some o) (hc:o.cls=.ref C) (hq:R (.ok (.ret (.ref C))) ⟨h,g,d,t,os⟩) :
    codeAny (model prog w) A (.call (.builtin "getset_descriptor.__get__") ⟨[.builtin "object.__class__",.ref a,.ref C],[]⟩) R ⟨h,g,d,t,os⟩:=by
  have hT5:(⟨h,g,d,t,os⟩:Shared).TypeIs (.builtin "object.__class__") "getset_descriptor":=F.typeOf_object_class
  have hcB:(Value.ref C::bm).contains (.type (".".intercalate ("object.__class__".cutAt '.').dropLast))=true:=by
    rw [F.owner_object_class,List.contains_cons,T.tail.hasType (X:="object") (b:=true) (by decide +kernel),Bool.or_true]
  refine codeAny_call_builtin F.slot_gs_get.plain F.entry_gs_get (F.slot_gs_get.check _ _ _ _ _ _ _ _ hT5 (F.args_gs_get _ _ _) ?_)
  repeat (any_goals (first | assumption | (with_reducible refine wpAny_loadPart_at hx ?_;rw [hc]) | (with_reducible refine wpAny_isSubtype_exc hC ?_;rw [hcB]) | wp_step))
  refine ⟨Code.quiet_builtin _ (by decide +kernel),codeAny_builtin F.entry_object_class ?_⟩
  repeat (any_goals (first | assumption | (with_reducible refine wpAny_loadPart_at hx ?_;rw [hc]) | wp_step))
theorem qcT {nameV:Value} {Q:Unit→Shared→Prop} (hC:h.get? C=some (excClassObj nm q C N bs bm hdct sn sub ab col dd k0 k1 k2 k3 k5 newId)) (T:TailN h bm) (hx:h.get? a=some o) (hc:o.cls=.ref C) (hq:Q () ⟨h,g,d,t,os⟩):wpAny M A (checkBuiltinCall "BaseException.__getattribute__" ⟨[.ref a,nameV],[]⟩) Q E ⟨h,g,d,t,os⟩:=by
  have hk:builtinKind "BaseException.__getattribute__"=some .slot:=by decide +kernel
  have hsplit:splitId "BaseException.__getattribute__"=some ("BaseException","__getattribute__"):=by decide +kernel
  have hcB:(Value.ref C::bm).contains (.type "BaseException")=true:=by rw [List.contains_cons,T.tail.hasType (X:="BaseException") (b:=true) (by decide +kernel),Bool.or_true]
  have ha:=F.args_bexc_ga (.ref a) nameV
  simp only [checkBuiltinCall,hk,hsplit]
  refine wpAny_bind ?_
  unfold isInstance
  repeat (first | (with_reducible refine wpAny_loadPart_at hx ?_;rw [hc]) | (with_reducible refine wpAny_isSubtype_exc hC ?_;rw [hcB]) | wp_step)
  exact hq
theorem qc9 {tk:Tok} {Q:Fin→Shared→Prop} (hC:h.get? C=some (excClassObj nm q C N bs bm hdct sn sub ab col dd k0 k1 k2 k3 k5 newId)) (hN:h.Ns N mN) (hmN:mN "__class__"=none) (T:TailN h bm) (hx:h.get? a=some o) (hc:o.cls=.ref C) (hq:Q (.done (.ret (.ref C))) ⟨h,g,d,t,os⟩) :
    wpAny (model prog w) A (Builtin.«object.__getattribute__» ⟨[.ref a,.str "__class__" tk],[]⟩) Q E ⟨h,g,d,t,os⟩:=by
  have hT5:(⟨h,g,d,t,os⟩:Shared).TypeIs (.builtin "object.__class__") "getset_descriptor":=F.typeOf_object_class
  have f5:=F.typeOf_object_class
  have f6:=F.slot_gs_get.lookup
  have f7:=F.slot_gs_set.lookup
  have hm:("__class__":Str)∈excNames:=by simp
  repeat (any_goals (first | assumption | (with_reducible refine wpAny_loadPart_at hx ?_;rw [hc]) | with_reducible refine qbc hm hC hN hmN T qkT ?_ | wp_step))
  refine qeg hC T hx hc ?_
  repeat (any_goals (first | assumption | wp_step))
theorem qeq {tk:Tok} {fill expr:Bool} {Q:Value→Shared→Prop} (hC:h.get? C=some (excClassObj nm q C N bs bm hdct sn sub ab col dd k0 k1 k2 k3 k5 newId)) (hN:h.Ns N mN) (hmN:∀ n∈excNames,n≠"__init__"→mN n=none) (T:TailN h bm) (hx:h.get? a=some o) (hc:o.cls=.ref C) (hq:Q (.ref C) ⟨h,g,d,t,os⟩) :
    wpAny (model prog w) A (getAttrBy (.ref a) (.str "__class__" tk) fill expr) Q E ⟨h,g,d,t,os⟩:=by
  have f3:=PySem.F.attrBase_ValueError.ga.bind (.ref a)
  have hx0:(expr && onTheHeap (Value.builtin "BaseException.__getattribute__"))=false:=by cases expr <;> rfl
  have hx2:(Value.builtin "BaseException.__getattribute__" == Value.builtin "object.__getattribute__")=false:=by decide +kernel
  have hx1:(onTheHeap (Value.ref C) && Value.builtin "BaseException.__getattribute__" == Value.builtin "object.__getattribute__")=false:=by rw [hx2];rfl
  have hm1:("__getattribute__":Str)∈excNames:=by simp
  have hm2:("__getattr__":Str)∈excNames:=by simp
  have n1:=hmN "__getattribute__" hm1 (by decide)
  have n2:=hmN "__getattr__" hm2 (by decide)
  have n3:=hmN "__class__" (by simp) (by decide)
  repeat (any_goals (first | assumption | (with_reducible refine wpAny_loadPart_at hx ?_;rw [hc]) | with_reducible refine qbc hm1 hC hN n1 T PySem.F.attrBase_ValueError.ga.lookup ?_ | with_reducible refine qbc hm2 hC hN n2 T PySem.F.attrBase_ValueError.noGetattr ?_ | wp_step))
  refine codeAny_call_builtin PySem.F.attrBase_ValueError.ga.plain F.entry_bexc_ga (qcT hC T hx hc (qc9 hC hN n3 T hx hc ?_))
  repeat (any_goals (first | assumption | wp_step))
theorem qdE {Q:Option Value→Shared→Prop} (hC:h.get? C=some (excClassObj nm q C N bs bm hdct sn sub ab col dd k0 k1 k2 k3 k5 newId)) (hN:h.Ns N mN) (hmN:∀ n∈excNames,n≠"__init__"→mN n=none) (T:TailN h bm) (hx:h.get? a=some o) (hc:o.cls=.ref C) (hq:Q (some (.ref C)) ⟨h,g,d,t+1,os⟩) :
    wpAny (model prog w) A (getAttr? (.ref a) "__class__") Q E ⟨h,g,d,t,os⟩:=by
  unfold getAttr? getAttrBy?
  repeat (any_goals (first | assumption | with_reducible apply qeq hC hN hmN T hx hc | wp_step))
end
def qnK (a C:Addr) (h:Heap):Prop:=∃ o,h.get? a=some o∧o.cls=.ref C
theorem qh1 {K:PySem.W.Frag} {a C:Addr} (hC:∀ h:Heap,K.In h→∃ i,ExcAt h C i):PySem.W.KitX K (.ref a) (.ref C) (qnK a C) where
  ty:=fun M h _ p=>by
    obtain ⟨o,h1,h2⟩:=p
    exact h2 ▸ (PySem.W.Looks.ld h1).andThen .now
  it:=fun _ h X _=>by
    obtain ⟨i,hc⟩:=hC h X
    obtain ⟨nm,q,N,bs,bm,sn,sub,ab,col,dd,k0,k1,k2,k3,k5,mN,c1,_⟩:=hc.ex
    intro A' Q' E' s' k q
    unfold isType loadHead
    exact wpAny_bind (wpAny_loadPart (k _ _ c1) (wpAny_pure q))
  ne:=fun h tp dd its n sl X htp=>by
    obtain ⟨i,hc⟩:=hC h X
    obtain ⟨nm,q,N,bs,bm,sn,sub,ab,col,dd,k0,k1,k2,k3,k5,mN,c1,_⟩:=hc.ex
    refine Bool.eq_false_iff.mpr fun q=>?_
    have e:C=tp:=Value.ref.inj (beq_iff_eq.mp q)
    rw [e,htp] at c1
    have z:=congrArg Obj.data (Option.some.inj c1)
    cases z
  ca:=fun {prog w A E Q s} X p k=>by
    obtain ⟨o,h1,h2⟩:=p
    obtain ⟨i,hc⟩:=hC _ X
    obtain ⟨nm,q,N,bs,bm,sn,sub,ab,col,dd,k0,k1,k2,k3,k5,mN,c1,c2,c3,c4,c5⟩:=hc.ex
    obtain ⟨hp,g,d,t,os⟩:=s
    exact qdE c1 c2 c4 c5 h1 h2 k
structure Isa (K:PySem.W.Frag) (mg:Str→Option Value) (isa:Str→Str→Bool) (names:List Str):Prop where
  own:∀ nm∈names,∀ c∈names,∀ C D,mg nm=some (.ref C)→mg c=some (.ref D)→PySem.W.kitOne K (.ref C) (.ref D)=some (isa nm c)
  val:∀ nm∈names,∀ C,mg nm=some (.ref C)→PySem.W.kitOne K (.ref C) (.type "ValueError")=some true
  mgK:∀ nm∈names,∀ C,PySem.W.nsIn K mainGlobals nm=some (some (.ref C))→mg nm=some (.ref C)
section
variable {K : PySem.W.Frag} {X : Cx} {a : Expr} {ta : TD} {pos p : Pos} {isa : Str → Str → Bool} {names : List Str}
theorem qk8 {pins:List (Addr × Obj)} {σ:St} {H Φ:Hp} {s:Shared} {nm:Str} {ats:List D} {v:V} (I:Inv X pins σ H s) (sm:Same Φ H) (r:Rp K Φ (.exc nm ats) v):∃ ea C,v=.ref ea∧PySem.W.nsIn K mainGlobals nm=some (some (.ref C))∧qnK ea C s.heap:=by
  cases r with
  | @exc0 ea C _ h0 h1 =>
    obtain ⟨⟨o,vs,z1,z2,_⟩,_⟩:=(show ObjOk X.prog X.w H s.heap ea (.ext (qgo ea C none)) from I.hok ea _ (sm _ _ h1))
    exact ⟨ea,C,rfl,h0,o,z1,z2⟩
  | @exc1 ea C p _ w d h0 h1 h2 h3 =>
    obtain ⟨⟨o,vs,z1,z2,_⟩,_⟩:=(show ObjOk X.prog X.w H s.heap ea (.ext (qgo ea C (some p))) from I.hok ea _ (sm _ _ h1))
    exact ⟨ea,C,rfl,h0,o,z1,z2⟩
def qn6 (K:PySem.W.Frag) (X:Cx):List V→Hp→VK→Prop:=fun vs H Q=>∃ Φ nm ats v c u C b,vs=[v,c]∧Same Φ H∧Rp K Φ (.exc nm ats) v∧RelV c u∧PySem.W.nsIn K mainGlobals nm=some (some (.ref C))∧(∀ h:Heap,X.K.In h→∃ i,ExcAt h C i)∧PySem.W.kitOne X.K (.ref C) u=some b∧Q (.bl b) H
theorem qg7 {c:V} {u u':Value} (h:RelV c u) (h':RelV c u') (hc:(∃ D,c=.ref D)∨∃ T,c=.ty T):u=u':=by
  rcases hc with ⟨D,rfl⟩ | ⟨T,rfl⟩
  · cases (show u=Value.ref D from h);cases (show u'=Value.ref D from h');rfl
  · cases (show u=Value.type T from h);cases (show u'=Value.type T from h');rfl
theorem qfX:qdF X (.builtin "isinstance") (fun vs H Q=>(∃ v c,vs=[v,c]∧((∃ D,c=.ref D)∨∃ T,c=.ty T))∧qn6 K X vs H Q):=by
  intro pins s σ H vs us Q I rv hq0
  obtain ⟨⟨v0,c0,e0,hk⟩,Φ,nm,ats,v,c,u,C,b,rfl,sm,r,ru,hns,hC,hkit,q⟩:=hq0
  cases e0
  obtain ⟨u1,u2,rfl,r1,r2⟩:∃ u1 u2,us=[u1,u2]∧RelV v0 u1∧RelV c0 u2:=by
    cases rv with
    | cons a rv=>cases rv with
      | cons b rv=>cases rv;exact ⟨_,_,rfl,a,b⟩
  obtain ⟨ea,C',rfl,hns',hx⟩:=qk8 I sm r
  rw [hns] at hns'
  cases hns'
  cases (show u1=Value.ref ea from r1)
  have:=qg7 ru r2 hk
  subst this
  exact PySem.W.kia_one (qh1 hC) I.kIn hx hkit (fun z=>nomatch z) fun tk=>⟨.bl b,H,I.tok tk,rfl,q⟩
def qmT (isa:Str→Str→Bool) (names:List Str) (c:Str) (t:TD):TD:=fun ρ R=>t ρ fun d=>∃ nm ats,d=.exc nm ats∧nm∈names∧R (.bl (isa nm c))
theorem qmh {c:Str} {D:Addr} {np:Pos} (Ex:Exs X.K X.mg isa names) (Is:Isa X.K X.mg isa names) (hc:c∈names) (hgc:Gl X c) (hm:X.mg c=some (.ref D)) (hg:Gl X "isinstance") (hmi:X.mg "isinstance"=none) (ha:PD K X a ta)
    (he:starEach [a,.Name c np] X.env=(false,eval a X.env)::starEach [.Name c np] X.env) (he2:starEach [.Name c np] X.env=(false,eval (.Name c np) X.env)::starEach [] X.env) (hdb:(c == ("__debug__":Str))=false:=by decide):PD K X (.Call (.Name "isinstance" p) [a,.Name c np] [] pos) (qmT isa names c ta) :=
  ⟨fun hK=>(qco (qfX (K:=K)) hg hmi boot_isinstance (qa9 (ha.pe hK) (qa9 (qgD (v:=.ref D) hgc hm rfl hdb) pa_nil he2) he) (by decide) (by decide) he (qaj he2 qaf)).imp fun σ H Q hq0=>by
    obtain ⟨H0,Φ,ρ,R,E,t,k⟩:=hq0
    refine ⟨H0,Φ,ρ,_,E,t,fun d Φ1 H1 v r g rv=>?_⟩
    obtain ⟨nm,ats,rfl,hin,r⟩:=r
    obtain ⟨C,hns⟩:∃ C,PySem.W.nsIn K mainGlobals nm=some (some (.ref C)):=by
      cases rv with
      | exc0 h0 _=>exact ⟨_,h0⟩
      | exc1 h0 _ _ _=>exact ⟨_,h0⟩
    have hmg:=Is.mgK nm hin C (hK ▸ hns)
    exact ⟨⟨v,.ref D,rfl,.inl ⟨D,rfl⟩⟩,Φ1,nm,ats,v,.ref D,.ref D,C,_,rfl,g.s,rv,rfl,hns,fun h hin'=>Ex.cls nm hin C hmg h hin',Is.own nm hin c hc C D hmg hm,k _ Φ1 H1 _ r g (.bl _)⟩⟩
theorem qmk {np:Pos} (Ex:Exs X.K X.mg isa names) (Is:Isa X.K X.mg isa names) (hgv:Gl X "ValueError") (hmv:X.mg "ValueError"=none) (hg:Gl X "isinstance") (hmi:X.mg "isinstance"=none) (ha:PD K X a ta)
    (he:starEach [a,.Name "ValueError" np] X.env=(false,eval a X.env)::starEach [.Name "ValueError" np] X.env) (he2:starEach [.Name "ValueError" np] X.env=(false,eval (.Name "ValueError" np) X.env)::starEach [] X.env):PD K X (.Call (.Name "isinstance" p) [a,.Name "ValueError" np] [] pos) (qmT (fun _ _=>true) names "ValueError" ta) :=
  ⟨fun hK=>(qco (qfX (K:=K)) hg hmi boot_isinstance (qa9 (ha.pe hK) (qa9 (qci (v:=.ty "ValueError") (u:=.type "ValueError") hgv hmv (by kernel_rfl) rfl) pa_nil he2) he) (by decide) (by decide) he (qaj he2 qaf)).imp fun σ H Q hq0=>by
    obtain ⟨H0,Φ,ρ,R,E,t,k⟩:=hq0
    refine ⟨H0,Φ,ρ,_,E,t,fun d Φ1 H1 v r g rv=>?_⟩
    obtain ⟨nm,ats,rfl,hin,r⟩:=r
    obtain ⟨C,hns⟩:∃ C,PySem.W.nsIn K mainGlobals nm=some (some (.ref C)):=by
      cases rv with
      | exc0 h0 _=>exact ⟨_,h0⟩
      | exc1 h0 _ _ _=>exact ⟨_,h0⟩
    have hmg:=Is.mgK nm hin C (hK ▸ hns)
    exact ⟨⟨v,.ty "ValueError",rfl,.inr ⟨_,rfl⟩⟩,Φ1,nm,ats,v,.ty "ValueError",.type "ValueError",C,_,rfl,g.s,rv,rfl,hns,fun h hin'=>Ex.cls nm hin C hmg h hin',Is.val nm hin C hmg,k _ Φ1 H1 _ r g (.bl _)⟩⟩
end
section
variable {M : Model} {prog : Program} {w : World} {A : Around} {E : Value → Shared → Prop} {h : Heap} {g : Array GenState} {d : Drawn} {t : Nat} {os : OsState} {a p : Addr} {o : Obj} {vs : Array Value} {v : Value}
  {nm q:Str} {C N:Addr} {bs bm:List Value} {sn:List Str} {sub:List Value} {ab:Bool} {col:Option Bool} {dd:Option Addr} {k0 k1 k2 k3 k5:Option Value} {newId:String} {mN mA:Str→Option Value}
theorem qlc:typeLookup (.type "ValueError") "at"=pure none:=by rw [typeLookup_type,builtinLookup_eq_fast];kernel_rfl
theorem qeR {tk:Tok} {Q:Fin→Shared→Prop} (hC:h.get? C=some (excClassObj nm q C N bs bm true sn sub ab col dd k0 k1 k2 k3 k5 newId)) (hN:h.Ns N mN) (hmN:mN "at"=none) (T:TailN h bm) (hx:h.get? a=some o) (hc:o.cls=.ref C) (hd:o.data=.fields vs) (hp:o.dict=some p) (hA:h.Ns p mA) (hv:mA "at"=some v) (hq:Q (.done (.ret v)) ⟨h,g,d,t,os⟩) :
    wpAny (model prog w) A (Builtin.«object.__getattribute__» ⟨[.ref a,.str "at" tk],[]⟩) Q E ⟨h,g,d,t,os⟩:=by
  have hm:("at":Str)∈excNames:=by simp
  unfold Builtin.«object.__getattribute__»
  repeat (first | (with_reducible refine wpAny_loadPart_at hx ?_;rw [hc]) | with_reducible refine qbc hm hC hN hmN T qlc ?_ | wp_step)
  rw [hd]
  show wpAny _ _ (instanceDict a false) _ _ _
  unfold instanceDict
  repeat (first | (with_reducible refine wpAny_loadPart_at hx ?_;rw [hc]) | with_reducible refine wpAny_loadPart_at hC ?_ | wp_step)
  rw [hp]
  refine wpAny_pure ?_
  unfold Builtin.ObjectAttr.inDict
  repeat (first | (with_reducible refine wpAny_nsGet hA ?_;rw [hv]) | wp_step)
  exact hq
theorem qgK {tk:Tok} {fill expr:Bool} {Q:Value→Shared→Prop} (hC:h.get? C=some (excClassObj nm q C N bs bm true sn sub ab col dd k0 k1 k2 k3 k5 newId)) (hN:h.Ns N mN) (hmN:∀ n∈excNames,n≠"__init__"→mN n=none) (T:TailN h bm) (hx:h.get? a=some o) (hc:o.cls=.ref C) (hd:o.data=.fields vs) (hp:o.dict=some p) (hA:h.Ns p mA) (hv:mA "at"=some v) (hh:handedOut v=pure v) (hq:Q v ⟨h,g,d,t,os⟩) :
    wpAny (model prog w) A (getAttrBy (.ref a) (.str "at" tk) fill expr) Q E ⟨h,g,d,t,os⟩:=by
  have f3:=PySem.F.attrBase_ValueError.ga.bind (.ref a)
  have hx0:(expr && onTheHeap (Value.builtin "BaseException.__getattribute__"))=false:=by cases expr <;> rfl
  have hx2:(Value.builtin "BaseException.__getattribute__" == Value.builtin "object.__getattribute__")=false:=by decide +kernel
  have hx1:(onTheHeap (Value.ref C) && Value.builtin "BaseException.__getattribute__" == Value.builtin "object.__getattribute__")=false:=by rw [hx2];rfl
  have hm1:("__getattribute__":Str)∈excNames:=by simp
  have hm2:("__getattr__":Str)∈excNames:=by simp
  have n1:=hmN "__getattribute__" hm1 (by decide)
  have n2:=hmN "__getattr__" hm2 (by decide)
  have n3:=hmN "at" (by simp) (by decide)
  repeat (any_goals (first | assumption | (with_reducible refine wpAny_loadPart_at hx ?_;rw [hc]) | with_reducible refine qbc hm1 hC hN n1 T PySem.F.attrBase_ValueError.ga.lookup ?_ | with_reducible refine qbc hm2 hC hN n2 T PySem.F.attrBase_ValueError.noGetattr ?_ | wp_step))
  refine codeAny_call_builtin PySem.F.attrBase_ValueError.ga.plain F.entry_bexc_ga (qcT hC T hx hc (qeR hC hN n3 T hx hc hd hp hA hv ?_))
  repeat (any_goals (first | assumption | wp_step))
theorem qft {expr:Bool} {Q:Value→Shared→Prop} (hC:h.get? C=some (excClassObj nm q C N bs bm true sn sub ab col dd k0 k1 k2 k3 k5 newId)) (hN:h.Ns N mN) (hmN:∀ n∈excNames,n≠"__init__"→mN n=none) (T:TailN h bm) (hx:h.get? a=some o) (hc:o.cls=.ref C) (hd:o.data=.fields vs) (hp:o.dict=some p) (hA:h.Ns p mA) (hv:mA "at"=some v) (hh:handedOut v=pure v) (hq:Q v ⟨h,g,d,t+1,os⟩) :
    wpAny (model prog w) A (getAttr (.ref a) "at" expr) Q E ⟨h,g,d,t,os⟩:=by
  unfold getAttr
  repeat (any_goals (first | assumption | with_reducible apply qgK hC hN hmN T hx hc hd hp hA hv hh | wp_step))
end
section
variable {K : PySem.W.Frag} {X : Cx} {a : Expr} {ta : TD} {pos : Pos} {isa : Str → Str → Bool} {names : List Str}
theorem qf2:handedOut .none=pure .none:=by rfl
theorem qf5 (i:Int) (t:Tok):handedOut (.int i t)=pure (.int i t):=by rfl
def qhA:D→Prop | .non=>True | .int _=>True | _=>False
def qoz (names:List Str) (t:TD):TD:=fun ρ R=>t ρ fun d=>∃ nm x,d=.exc nm [x]∧nm∈names∧qhA x∧R x
theorem qny (Ex:Exs X.K X.mg isa names) (Is:Isa X.K X.mg isa names) (ha:PD K X a ta) (hb:attributeBase a "at" X.env (eval a X.env)=eval a X.env:=by rfl):PD K X (.Attribute a "at" pos) (qoz names ta) :=
  ⟨fun hK=>by
    intro pins s σ H Q I hq0
    obtain ⟨H0,Φ,ρ,R,E,t,k⟩:=hq0
    refine qhn hb (thn (ha.pe hK pins s σ H _ I ⟨H0,Φ,ρ,_,E,t,fun d Φ1 H1 v r g rv=>(⟨Φ1,d,r,g,rv⟩:∃ Φ1 d,(∃ nm x,d=.exc nm [x]∧nm∈names∧qhA x∧R x)∧Gr Φ H Φ1 H1∧Rp K Φ1 d v)⟩) fun u s1 hq1=>?_)
    obtain ⟨v,H1,I1,rv,Φ1,d,⟨nm,x,rfl,hin,hfl,hR⟩,g,r⟩:=hq1
    cases r with
    | @exc1 ea C p _ w _ h0 h1 h2 h3 =>
      obtain rfl:u=Value.ref ea:=rv
      have hmg:=Is.mgK nm hin C (hK ▸ h0)
      obtain ⟨i,hc⟩:=Ex.cls nm hin C hmg s1.heap I1.kIn
      obtain ⟨nm',q,N,bs,bm,sn,sub,ab,col,dd,k0,k1,k2,k3,k5,mN,c1,c2,c3,c4,c5⟩:=hc.ex
      obtain ⟨⟨o,vs,z1,z2,z3,z4⟩,_⟩:=(show ObjOk X.prog X.w H1 s1.heap ea (.ext (qgo ea C (some p))) from I1.hok ea _ (g.s _ _ h1))
      obtain ⟨mA,n1,n2⟩:=(show ObjOk X.prog X.w H1 s1.heap p (.xd [("at",w)]) from I1.hok p _ (g.s _ _ h2))
      have hat:=n2 "at"
      have hl:([("at",w)]:List (Str × V)).lookup ("at":Str)=some w:=by rw [List.lookup_cons,beq_self_eq_true]
      rw [hl] at hat
      obtain ⟨u',e1,ru⟩:∃ u',mA "at"=some u'∧RelV w u':=by
        cases q:mA "at" with
        | none=>rw [q] at hat;exact hat.elim
        | some u'=>rw [q] at hat;exact ⟨u',rfl,hat⟩
      have hh:handedOut u'=pure u':=by
        cases h3 with
        | non=>cases (show u'=Value.none from ru);exact qf2
        | int j=>obtain ⟨t',e⟩:=(show ∃ t,u'=Value.int j t from ru);rw [e];exact qf5 j t'
        | _=>exact hfl.elim
      obtain ⟨hp,gg,dr,tk,os⟩:=s1
      exact qft c1 c2 c4 c5 z1 z2 z4 z3 n1.ns e1 hh ⟨w,H1,I1.tok _,ru,k x Φ1 H1 w hR g h3⟩⟩
end
open Builtin Builtin.ObjectAttr
section
variable {M : Model} {prog : Program} {w : World} {A : Around} {E : Value → Shared → Prop} {h : Heap} {g : Array GenState} {d : Drawn} {t : Nat} {os : OsState} {x : Addr} {o : Obj} {vs : Array Value} {v : Value}
  {nm q:Str} {C N:Addr} {bs bm:List Value} {sn:List Str} {sub:List Value} {ab:Bool} {col:Option Bool} {dd:Option Addr} {k0 k1 k2 k3 k5:Option Value} {newId:String} {mN:Str→Option Value}
theorem qfm (self:Value) {h:Heap} {bm:List Value} (T:TailN h bm):refuseLoop self "__setattr__" bm=pure ():=by
  induction T with
  | base=>exact F.store_ValueError.passes self
  | own _ _ _ _ ih=>rw [refuseLoop_ref];exact ih
theorem qeI {nameV:Value} {Q:Unit→Shared→Prop} (hC:h.get? C=some (excClassObj nm q C N bs bm true sn sub ab col dd k0 k1 k2 k3 k5 newId)) (T:TailN h bm) (hx:h.get? x=some o) (hc:o.cls=.ref C) (hq:Q () ⟨h,g,d,t,os⟩) :
    wpAny M A (checkBuiltinCall "object.__setattr__" ⟨[.ref x,nameV,v],[]⟩) Q E ⟨h,g,d,t,os⟩:=by
  have hcB:(Value.ref C::bm).contains (.type "object")=true:=by rw [List.contains_cons,T.tail.hasType (X:="object") (b:=true) (by decide +kernel),Bool.or_true]
  have ha:=F.store_ValueError.args (.ref x) nameV v
  simp only [checkBuiltinCall,F.store_ValueError.kind,F.store_ValueError.split]
  refine wpAny_bind ?_
  · unfold isInstance
    repeat (first | (with_reducible refine wpAny_loadPart_at hx ?_;rw [hc]) | (with_reducible refine wpAny_isSubtype_exc hC ?_;rw [hcB]) | wp_step)
    exact hq
structure Stored (h h':Heap) (x:Addr) (o:Obj) (p:Addr) (v:Value):Prop where
  at_:h'.get? x=some { cls:=o.cls,dict:=some p,data:=o.data,slots:=o.slots }
  ns:h'.Ns1 p (fun y=>if y="at" then some v else none)
  new:h.objs.size≤p
  keep:∀ b ob,b≠x→h.get? b=some ob→h'.get? b=some ob
theorem qde {tk:Tok} {Q:Fin→Shared→Prop} (hC:h.get? C=some (excClassObj nm q C N bs bm true sn sub ab col dd k0 k1 k2 k3 k5 newId)) (hN:h.Ns N mN) (hmN:mN "at"=none) (T:TailN h bm) (hx:h.get? x=some o) (hc:o.cls=.ref C) (hd:o.data=.fields vs) (hp:o.dict=none)
    (hq:∀ h' p tk',Stored h h' x o p v→Q (.done (.ret .none)) ⟨h',g,d,tk',os⟩):wpAny (model prog w) A (Builtin.«object.__setattr__» ⟨[.ref x,.str "at" tk,v],[]⟩) Q E ⟨h,g,d,t,os⟩:=by
  have hpass:=qfm (.ref x) T
  have hm:("at":Str)∈excNames:=by simp
  unfold Builtin.«object.__setattr__»
  repeat (first | rw [refuse_eq] | (rw [refuseLoop_ref,hpass]) | (with_reducible refine wpAny_loadPart_at hx ?_;rw [hc]) | with_reducible refine wpAny_mroOf_exc hC ?_ | with_reducible refine qbc hm hC hN hmN T qlc ?_ | wp_step)
  rw [hp]
  show wpAny _ _ (if (!true || !typeHasDict (Value.ref C))=true then pure none else match o.data with | Data.cls c=>pure none | _=>_) _ _ _
  rw [if_neg (by simp [typeHasDict]),hd]
  have hx1:(h.push { cls:=.type "dict",data:=.dict #[] }).get? x=some o:=Heap.get?_push_of_some _ hx
  have hxs:x≠h.objs.size:=Nat.ne_of_lt (Heap.lt_size hx)
  refine wpAny_bind (wpAny_alloc' ?_)
  refine wpAny_bind (wpAny_update' hx1 ?_)
  refine wpAny_pure ?_
  generalize hh2:((h.push { cls:=.type "dict",data:=.dict #[] }).update x fun o=>{ cls:=o.cls,dict:=some h.objs.size,data:=o.data,slots:=o.slots })=h2
  have gd:h2.get? h.objs.size=some { cls:=.type "dict",data:=.dict #[] }:=by
    rw [← hh2]
    exact (Heap.get?_update_ne _ _ _ _ hxs.symm).trans (Heap.get?_push_at rfl rfl)
  have gx:h2.get? x=some { cls:=o.cls,dict:=some h.objs.size,data:=o.data,slots:=o.slots }:=by
    rw [← hh2]
    refine Heap.get?_update_self _ hx1 ?_
    have hfr:=(Heap.get?_some_iff.mp hx).2
    obtain ⟨oc,od,odt,osl⟩:=o
    cases odt <;> first | rfl | exact hfr
  have go:∀ b ob,b≠x→h.get? b=some ob→h2.get? b=some ob:=fun b ob hb hbo=>by
    rw [← hh2]
    exact (Heap.get?_update_ne _ _ _ _ hb).trans (Heap.get?_push_of_some _ hbo)
  have nd:h2.Ns h.objs.size (fun _=>none):=⟨_,#[],_,gd,rfl,fun e he=>absurd he (by simp),fun _=>rfl⟩
  show wpAny _ _ (storeInDict h.objs.size (.str "at" tk) "at" v) _ _ _
  unfold storeInDict newKeyGuard
  refine wpAny_bind (wpAny_pure (wpAny_bind (wpAny_nsSet1 (Heap.Ns1.of_empty nd) fun h' hn' hs=>?_)))
  obtain ⟨oD,esD,epD,hoD,hdD,hcD⟩:=hn'.count (Within.cons "at" v Within.nil)
  refine wpAny_bind (wpAny_lookBehind hoD (by rw [hdD];exact pastItsLine_dict (Nat.le_trans hcD (by rw [List.length_cons,List.length_nil,sizeLine_eq];omega))) ?_)
  wp_walk
  exact hq h' h.objs.size _ ⟨(hs.2 x hxs).trans gx,hn',Nat.le_refl _,fun b ob hb hbo=>(hs.2 b (Nat.ne_of_lt (Heap.lt_size hbo))).trans (go b ob hb hbo)⟩
theorem qhw {Q:Unit→Shared→Prop} (hC:h.get? C=some (excClassObj nm q C N bs bm true sn sub ab col dd k0 k1 k2 k3 k5 newId)) (hN:h.Ns N mN) (hmN:∀ n∈excNames,n≠"__init__"→mN n=none) (T:TailN h bm) (hx:h.get? x=some o) (hc:o.cls=.ref C) (hd:o.data=.fields vs) (hp:o.dict=none)
    (hq:∀ h' p tk',Stored h h' x o p v→Q () ⟨h',g,d,tk',os⟩):wpAny (model prog w) A (setAttr (.ref x) "at" v) Q E ⟨h,g,d,t,os⟩:=by
  have f3:=F.store_ValueError.slot.bind (.ref x)
  have hm:("__setattr__":Str)∈excNames:=by simp
  have n1:=hmN "__setattr__" hm (by decide)
  have n3:=hmN "at" (by simp) (by decide)
  unfold setAttr callSpecial? specialOf
  repeat (any_goals (first | assumption | (with_reducible refine wpAny_loadPart_at hx ?_;rw [hc]) | with_reducible refine qbc hm hC hN n1 T F.store_ValueError.slot.lookup ?_ | wp_step))
  refine codeAny_call_builtin F.store_ValueError.slot.plain F.store_ValueError.entry (qeI hC T hx hc (qde hC hN n3 T hx hc hd hp fun h' p tk' S=>?_))
  repeat (any_goals (first | assumption | wp_step))
  exact hq h' p tk' S
end
end L2
namespace L2
open PySem PySem.Spec PyProof.Rows
def qfs (a C t:Addr) (dx:Option Addr):Heap→Prop:=fun h=>∃ sl,h.get? a=some { cls:=.ref C,dict:=dx,data:=.fields #[.ref t,.none,.none,.none,.bool false,.none],slots:=sl }
section
variable {X : Cx} {pins : List (Addr × Obj)} {σ : St} {H : Hp} {s : Shared} {C t : Addr}
theorem Inv.stored {e p:Addr} {sl:Array (Option Value)} {v:Value} {y:V} {h':Heap} {t':Nat} (I:Inv X pins σ H s) (he:H e=some (.ext (qfs e C t none))) (S:Stored s.heap h' e { cls:=.ref C,dict:=none,data:=.fields #[.ref t,.none,.none,.none,.bool false,.none],slots:=sl } p v) (ry:RelV y v) :
    Inv X pins σ (upd (upd H p (.xd [("at",y)])) e (.ext (qfs e C t (some p)))) { s with heap:=h',toks:=t' }:=by
  have hpn:H p=none:=I.hok.fresh S.new
  have hpe:p≠e:=fun z=>by rw [z,he] at hpn;cases hpn
  have hsp:∀ b ob,s.heap.get? b=some ob→b≠p:=fun b ob hb z=>by
    subst z
    exact absurd (Heap.lt_size hb) (Nat.not_lt.mpr S.new)
  have ne:∀ {b:Addr},H b=none→b≠e:=fun {b} hb z=>by rw [z,he] at hb;cases hb
  refine I.un (h':=h') (t':=t') ⟨fun b ob q n _ _=>S.keep b ob (ne n) q,fun b ob q n _ _=>⟨ob.slots,S.keep b ob (ne n) q⟩,fun b ob q n _=>?_,fun b ob q _=>?_,fun b xs q=>?_,fun b ob xs q=>?_,fun b xs q=>?_⟩ fun b u q=>?_
  · rw [qag (ne n),qag (hsp b ob q)];exact n
  · by_cases c:b=e
    · rw [c];exact ⟨_,S.at_⟩
    · exact ⟨ob,S.keep b ob c q⟩
  · rw [qag (fun z=>by rw [z,he] at q;cases q),qag (fun z=>by rw [z,hpn] at q;cases q)];exact q
  · rw [qag (fun z=>by rw [z,he] at q;cases q),qag (fun z=>by rw [z,hpn] at q;cases q)];exact q
  · rw [qag (fun z=>by rw [z,he] at q;cases q),qag (fun z=>by rw [z,hpn] at q;cases q)];exact q
  · by_cases c:b=e
    · subst c
      rw [qai] at q
      cases q
      exact ⟨⟨sl,S.at_⟩,⟨_,S.at_⟩,fun a b' ⟨w,z1⟩ kk=>⟨w,kk _ z1⟩⟩
    · rw [qag c] at q
      by_cases c2:b=p
      · subst c2
        rw [qai] at q
        cases q
        refine ⟨_,S.ns,fun f=>?_⟩
        by_cases cf:f="at"
        · subst cf
          rw [List.lookup_cons,beq_self_eq_true]
          show RelO (some y) (if ("at":Str)="at" then some v else none)
          rw [if_pos rfl]
          exact ry
        · have:([("at",y)]:List (Str × V)).lookup f=none:=by
            rw [List.lookup_cons]
            have:(f == ("at":Str))=false:=by simpa using cf
            rw [this]
            rfl
          rw [this]
          show RelO none (if f="at" then some v else none)
          rw [if_neg cf]
          trivial
      · rw [qag c2] at q
        have keepT:∀ z u',H z=some u'→u'≠.ext (qfs e C t none)→z≠e:=fun z u' h1 h2 h3=>by rw [h3,he] at h1;exact h2 (Option.some.inj h1).symm
        refine (I.hok b u q).stay (fun z w' hz q'=>S.keep z w' ?_ q') (fun z hz=>?_) (fun z xs hz=>?_) (fun z ob w' hz=>?_)
        · rcases hz with rfl | hz
          · exact c
          · exact fun z2=>by rw [z2,he] at hz;cases hz
        · rw [qag (fun z2=>by rw [z2,he] at hz;cases hz),qag (fun z2=>by rw [z2,hpn] at hz;cases hz)];exact hz
        · rw [qag (fun z2=>by rw [z2,he] at hz;cases hz),qag (fun z2=>by rw [z2,hpn] at hz;cases hz)];exact hz
        · rw [qag (fun z2=>by rw [z2,he] at hz;cases hz),qag (fun z2=>by rw [z2,hpn] at hz;cases hz)];exact hz
def qho (C t:Addr):Sp:=fun vs H Q _=>∃ e v,vs=[.ref e,v]∧H e=some (.ext (qfs e C t none))∧∀ p,H p=none→p≠e→Q .non (upd (upd H p (.xd [("at",v)])) e (.ext (qfs e C t (some p))))
def sAt (C t:Addr):TS:=fun D σ H=>∃ e v,σ=[some (.ref e),some v]∧H e=some (.ext (qfs e C t none))∧∀ p,H p=none→p≠e→D.nx σ (upd (upd H p (.xd [("at",v)])) e (.ext (qfs e C t (some p))))
theorem qm8 {p1 p2 p3 p4:Pos} {i:Option Value} (hN:X.N=[("self":Str),("at":Str)]) (hC:∀ h:Heap,X.K.In h→ExcAt h C i) (hv1:Vis X.env.scope "self") (hv2:Vis X.env.scope "at") (hs:swapsWith (.Name "at" p3) (some (.Attribute (.Name "self" p1) "at" p2)) p4.line X.env=pure false):PS X (.Assign [.Attribute (.Name "self" p1) "at" p2] (.Name "at" p3) p4) (sAt C t):=by
  intro pins s σ H D I hq0
  obtain ⟨e,v,rfl,he,k⟩:=hq0
  have pat:PE X (.Name "at" p3) (qma 1):=qgG (by rw [hN];rfl) hv2 (by decide) (by decide)
  have psf:PE X (.Name "self" p1) (qma 0):=qgG (by rw [hN];rfl) hv1 (by decide) (by decide)
  refine plainObj_wpAny_Assign_Attribute (thn (pat pins s _ H (fun y H1=>y=v∧H1=H) I ⟨v,rfl,rfl,rfl⟩) fun u s1 hq1=>?_) hs
  obtain ⟨y,H1,I1,ry,e1,e2⟩:=hq1
  subst e1;subst e2
  refine thn (psf pins s1 _ H1 (fun x H2=>x=.ref e∧H2=H1) I1 ⟨_,rfl,rfl,rfl⟩) fun ov s2 hq2=>?_
  obtain ⟨x,H2,I2,rx,e3,e4⟩:=hq2
  subst e3;subst e4
  obtain rfl:ov=Value.ref e:=rx
  obtain ⟨nm,q,N,bs,bm,sn,sub,ab,col,dd,k0,k1,k2,k3,k5,mN,c1,c2,c3,c4,c5⟩:=(hC s2.heap I2.kIn).ex
  obtain ⟨⟨sl,z1⟩,_⟩:=(show ObjOk X.prog X.w H2 s2.heap e (.ext (qfs e C t none)) from I2.hok e _ he)
  obtain ⟨hp,gg,dr,tk,os⟩:=s2
  refine qhw c1 c2 c4 c5 z1 rfl rfl rfl fun h' p tk' S=>?_
  have hpn:H2 p=none:=I2.hok.fresh S.new
  exact ⟨_,_,I2.stored (t':=tk') he S ry,k p hpn (fun z=>by rw [z,he] at hpn;cases hpn)⟩
end
section
variable {M : Model} {A : Around} {E : Value → Shared → Prop} {s : Shared} {env : Env} {C : Addr}
theorem qhe {x:Sem Value} {Q:Flow→Shared→Prop} (hh:A.handled=none)
    (h:wpAny M A x (fun v s₁=>∃ e t dx sl i,v=.ref e∧ExcAt s₁.heap C i∧s₁.heap.get? e=some { cls:=.ref C,dict:=dx,data:=.fields #[.ref t,.none,.none,.none,.bool false,.none],slots:=sl }∧E (.ref e) s₁) E s):wpAny M A (raiseStmt env (some x) none) Q E s:=by
  unfold raiseStmt
  refine wpAny_bind (wpAny_mono h (fun v s₁ h₁=>?_) fun _ _ x=>x)
  obtain ⟨e,t,dx,sl,i,rfl,hC,he,hE⟩:=h₁
  obtain ⟨nm,q,N,bs,bm,sn,sub,ab,col,dd,k0,k1,k2,k3,k5,mN,c1,c2,c3,c4,c5⟩:=hC.ex
  have hcB:(Value.ref C::bm).contains (.type "BaseException")=true:=by rw [List.contains_cons,c5.tail.hasType (X:="BaseException") (b:=true) (by decide +kernel),Bool.or_true]
  obtain ⟨hp,g,d,tk,os⟩:=s₁
  repeat (first | with_reducible refine wpAny_loadPart_at he ?_ | with_reducible refine wpAny_loadPart_at c1 ?_ | (with_reducible refine wpAny_isSubtype_exc c1 ?_;rw [hcB]) | wp_step)
  exact wpAny_raiseNew_none hh hE
end
section
variable {prog : Program} {w : World} {A : Around} {E : Value → Shared → Prop} {h : Heap} {g : Array GenState} {d : Drawn} {t : Nat} {os : OsState}
variable {C fI : Addr} {oI : Obj} {rest : List Value}
theorem qd9 {Q:Fin→Shared→Prop} (hC:ExcAt h C (some (.ref fI))) (hfI:h.get? fI=some oI) (hfc:oI.cls=.type "function") (hrest:rest.length≤sizeLine)
    (hq:∀ h' e,Heap.MadeExcOf h h' e (.ref C) rest→wpAny (model prog w) A (call (.ref fI) (.ref e::rest)) (fun r s'=>r=.none∧Q (.done (.ret (.ref e))) s') E ⟨h',g,d,t,os⟩) :
    wpAny (model prog w) A (Builtin.«type.__call__» ⟨.ref C::rest,[]⟩) Q E ⟨h,g,d,t,os⟩:=by
  obtain ⟨nm,q,N,bs,bm,sn,sub,ab,col,dd,k0,k1,k2,k3,k5,mN,c1,c2,c3,c4,c5⟩:=hC.ex
  repeat (first | with_reducible refine wpAny_loadPart_at c1 ?_ | with_reducible refine wpAny_madeBy_exc c1 ?_ | wp_step)
  refine codeAny_call_builtin_code (Code.quiet_builtin _ PySem.F.excBase_ValueError.quiet) (wpAny_check_new_subT PySem.F.excBase_ValueError c5.tail c1 ?_)
  refine codeAny_exc_new_subT PySem.F.excBase_ValueError c5.tail c1 ?_ hrest
  show wpAny _ _ _ _ _ _
  generalize hh2:((h.push { cls:=.type "tuple",data:=.seq rest.toArray }).push { cls:=.ref C,data:=.fields #[.ref h.objs.size,.none,.none,.none,.bool false,.none] })=h2
  have kp:∀ b o,h.get? b=some o→h2.get? b=some o:=fun b o hb=>by rw [← hh2];exact Heap.get?_push_of_some _ (Heap.get?_push_of_some _ hb)
  have hget:h2.get? (h.objs.size+1)=some { cls:=.ref C,data:=.fields #[.ref h.objs.size,.none,.none,.none,.bool false,.none] }:=by rw [← hh2];heap_get
  have htup:h2.get? h.objs.size=some { cls:=.type "tuple",data:=.seq rest.toArray }:=by rw [← hh2];exact Heap.get?_push_of_some _ (Heap.get?_push_at rfl rfl)
  have hcC:(Value.ref C::bm).contains (.ref C)=true:=by simp
  have c1':=kp _ _ c1
  unfold isInstance
  repeat (first | with_reducible refine wpAny_loadPart_at hget ?_ | (with_reducible refine wpAny_isSubtype_exc c1' ?_;rw [hcC]) | wp_step)
  show wpAny _ _ (typeLookup (.ref C) _) _ _ _
  refine wpAny_typeLookup_tail c1' (c2.keeps kp) (c5.keeps kp).tail PySem.F.excBase_ValueError.mroIs PySem.F.excBase_ValueError.init.lookup ?_
  rw [c3]
  refine wpAny_holding (wpAny_bind ?_)
  unfold bindSpecial
  refine wpAny_bind (wpAny_typeOf (T:="function") ⟨_,kp _ _ hfI,hfc⟩ ?_)
  rw [if_pos (by decide)]
  refine wpAny_pure (wpAny_bind (wpAny_mono (hq h2 (h.objs.size+1) ⟨kp,Heap.get?_none_of_le (Nat.le_succ _),h.objs.size,hget,Heap.get?_none_of_le (Nat.le_refl _),htup⟩) (fun r s' hr=>?_) fun _ _ x=>x))
  obtain ⟨rfl,hQ⟩:=hr
  wp_walk
  exact hQ
theorem qib {Q:Value→Shared→Prop} (hC:ExcAt h C (some (.ref fI))) (hfI:h.get? fI=some oI) (hfc:oI.cls=.type "function") (hrest:rest.length≤sizeLine)
    (hq:∀ h' e,Heap.MadeExcOf h h' e (.ref C) rest→wpAny (model prog w) (A.under (.builtin "type.__call__" ⟨.ref C::rest,[]⟩)) (call (.ref fI) (.ref e::rest)) (fun r s'=>r=.none∧Q (.ref e) s') E ⟨h',g,d,t,os⟩) :
    wpAny (model prog w) A (call (.ref C) rest) Q E ⟨h,g,d,t,os⟩:=by
  obtain ⟨nm,q,N,bs,bm,sn,sub,ab,col,dd,k0,k1,k2,k3,k5,mN,c1,_⟩:=id hC.ex
  have f1:=tc_lookup
  have f2:=tc_bind (.ref C)
  have hT:(⟨h,g,d,t,os⟩:Shared).TypeIs (.ref C) "type":=⟨_,c1,rfl⟩
  refine wpAny_call (codeAny_of_tree ?_)
  show wpAny _ _ (callAny (.ref C) _) _ _ _
  repeat (any_goals (first | assumption | with_reducible refine wpAny_loadPart_at c1 ?_ | wp_step))
  refine ⟨rfl,?_⟩
  refine codeAny_call_builtin_at (Code.quiet_builtin _ (by decide +kernel)) entry_typeCall (wpAny_check_type_call_sub c1 (qd9 hC hfI hfc hrest fun h' e hm=>?_))
  exact hq h' e hm
end
section
variable {P : Program} {w : World} {K : PySem.W.Frag} {mg : Str → Option Value} {base : Heap} {CX : CXT} {k : Nat} {qual : Str} {st : Stmt} {f C t : Addr} {fd : FuncData} {i : Option Value} {p1 p2 p3 p4 : Pos}
theorem qjF (F:Fun K "__init__" qual st f fd) (S:FnScope [("self":Str),("at":Str)] [("self":Str),("at":Str)] (qae st)) (hb:qay st=[.Assign [.Attribute (.Name "self" p1) "at" p2] (.Name "at" p3) p4]) (hv1:Vis (qae st) "self") (hv2:Vis (qae st) "at")
    (hs:∀ env,swapsWith (.Name "at" p3) (some (.Attribute (.Name "self" p1) "at" p2)) p4.line env=pure false) (hC:∀ h:Heap,K.In h→ExcAt h C i):FnOk P w K mg base CX (k+1) f fd [("self":Str),("at":Str)] (qho C t):=by
  obtain ⟨oc,od,kV,doc,pm,an,cdv,ct,osl,rfl,lk,hcd⟩:=F.ex
  refine qiv lk hcd S (fun vs H Q E hq0=>?_) fun A outer s H vs Q E hr hq0=>⟨sAt C t,?_,?_⟩
  · obtain ⟨e,v,rfl,_⟩:=hq0
    rfl
  · rw [hb]
    exact qe5 (qm8 rfl hC hv1 hv2 (hs _))
  · obtain ⟨e,v,rfl,he,kk⟩:=hq0
    exact ⟨e,v,rfl,he,kk⟩
end
section
variable {X : Cx} {pins : List (Addr × Obj)} {σ : St} {H : Hp} {s : Shared} {K : PySem.W.Frag}
def qki (H:Hp) (e:Addr):Hp:=fun b=>if b=e then none else H b
theorem qbX {e b:Addr} (h:b≠e):qki H e b=H b:=if_neg h
theorem qex {e:Addr}:qki H e e=none:=if_pos rfl
theorem qcp {e b:Addr} (h:H b=none):qki H e b=none:=by unfold qki;split <;> first | rfl | exact h
theorem Inv.drop {e:Addr} {φ:Heap→Prop} (I:Inv X pins σ H s) (he:H e=some (.ext φ)) (h0:X.s₀.heap.get? e=none):Inv X pins σ (qki H e) s where
  ok:=I.ok
  os:=I.os
  bare:=I.bare
  base:=⟨I.base.keep,I.base.slot,fun b ob q n hx=>qcp (I.base.free b ob q n hx),I.base.there,
    fun b xs q=>by have:=I.base.tups b xs q;rw [qbX (fun z=>by rw [z,he] at this;cases this)];exact this,
    fun b ob xs q=>by have:=I.base.frzs b ob xs q;rw [qbX (fun z=>by rw [z,he] at this;cases this)];exact this,
    fun b ps q=>by have:=I.base.tbls b ps q;rw [qbX (fun z=>by rw [z,he] at this;cases this)];exact this⟩
  loc:=I.loc
  cell:=I.cell
  free:=qcp I.free
  freeC x c h:=qcp (I.freeC x c h)
  pin p h:=by
    obtain ⟨a1,a2,a3⟩:=I.pin p h
    exact ⟨a1,qcp a2,a3⟩
  hok b u q:=by
    have hbe:b≠e:=fun z=>by rw [z,qex] at q;cases q
    rw [qbX hbe] at q
    exact (I.hok b u q).stay (fun _ _ _ q=>q) (fun z hz=>by rw [qbX (fun z2=>by rw [z2,he] at hz;cases hz)];exact hz) (fun z xs hz=>by rw [qbX (fun z2=>by rw [z2,he] at hz;cases hz)];exact hz) (fun z ob w' hz=>by rw [qbX (fun z2=>by rw [z2,he] at hz;cases hz)];exact hz)
  len:=I.len
theorem qhP {C f:Addr} {fd:FuncData} {oI:Obj} {x:Str} {np cpos pos:Pos} {arg:Expr} {ta:TD} {n:Nat} (hcalm:X.calm=true) (hex:X.ex=[]) (hg:Gl X x) (hm:X.mg x=some (.ref C)) (hC:∀ h:Heap,X.K.In h→ExcAt h C (some (.ref f))) (hkp:PySem.W.keepIn X.K (.ref C)=true)
    (hfl:X.K.lookup f=some oI) (hfc:oI.cls=.type "function") (hF:∀ t,FnOk X.prog X.w X.K X.mg X.base CX0 n f fd [("self":Str),("at":Str)] (qho C t)) (hb:Binds X.K fd [("self":Str),("at":Str)] []) (hr:Room (n+1) X.A) (ha:PD K X arg ta)
    (he:starEach [arg] X.env=(false,eval arg X.env)::starEach [] X.env) (hdb:(x == ("__debug__":Str))=false:=by decide) :
    PSM K X (.Raise (some (.Call (.Name x np) [arg] [] cpos)) none pos) (fun De ρ=>ta (prR ρ) fun d=>qhA d∧De.ex ⟨x,some d⟩ ρ):=⟨fun hK=>by
  intro pins s σ H D I hq0
  obtain ⟨Φ0,H0,Φ,ρ,De,g,V,t,k⟩:=hq0
  rw [arm_exec_Raise]
  refine wpAny_bind (wpAny_standAt ?_)
  refine qhe (C:=C) (I.ok.hd hcalm) ?_
  refine wpAny_bind ?_
  refine wpAny_Call_Name_kw (qbS I hg hm ?_ hdb)
  have pa:=qa9 (ha.pe hK) pa_nil he
  refine PySem.W.callWith_K (h₀:=X.base) I.ok.mod.kin hkp (thn (pa cpos pins s σ H (fun vs H1=>∃ d Φ1 v,vs=[v]∧(qhA d∧De.ex ⟨x,some d⟩ ρ)∧Gr Φ H Φ1 H1∧Rp K Φ1 d v) I ⟨_,Φ,prR ρ,_,V.toD,t,fun d Φ1 H1 v r g1 rv=>⟨d,Φ1,v,rfl,r,g1,rv⟩⟩) fun us s1 hq1=>?_) he qaf
  obtain ⟨vs,H1,I1,r,d,Φ1,v,rfl,⟨hfl',hx⟩,g1,rv⟩:=hq1
  obtain ⟨u,rfl,ru⟩:=qhZ r
  refine ⟨I1.kIn,?_⟩
  have hCs:=hC s1.heap I1.kIn
  obtain ⟨hp,gg,dr,tk,os⟩:=s1
  refine qib hCs (I1.kIn _ _ hfl) hfc (by show 1≤sizeLine;rw [sizeLine_eq];decide) fun h' e hmk=>?_
  obtain ⟨tt,t1,t2,t3⟩:=hmk.there
  have I2:=I1.more hmk.keeps
  have hno:H1 e=none:=I1.hok.no hmk.new
  have hold:=I1.old hex hmk.new
  have hpin:∀ p∈X.pn++pins,p.1≠e:=fun p hp' z=>by have:=(I1.pin p hp').1;rw [z,show hp.get? e=none from hmk.new] at this;cases this
  have hloc:X.env.locals≠e:=fun z=>by
    obtain ⟨m,⟨o',es,ep,ho',_⟩,_⟩:=I1.loc
    rw [z,show hp.get? e=none from hmk.new] at ho';cases ho'
  have hcel:∀ y c,X.env.cells.lookup y=some c→c≠e:=fun y c hc z=>by
    obtain ⟨w',o',ho',_⟩:=I1.cell y c hc
    rw [z,show hp.get? e=none from hmk.new] at ho';cases ho'
  have I3:=I2.knowX (o:=.ext (qfs e C tt none)) hold hno hpin hloc hcel ⟨⟨_,t1⟩,⟨_,t1⟩,fun a b ⟨w',z1⟩ kk=>⟨w',kk _ z1⟩⟩
  have r2:Vals [L2.V.ref e,v] [Value.ref e,u]:=.cons rfl (.cons ru .nil)
  have hB:=hb _ [Value.ref e,u] I3.kIn rfl
  rw [List.append_nil] at hB
  refine wpAny_call (codeAny_mono ((hF tt).run _ X.stack _ _ ⟨[Value.ref e,u],[]⟩ [Value.ref e,u] [L2.V.ref e,v] (fun v' H'=>v'=.non∧∃ p,upd H1 e (.ext (qfs e C tt none)) p=none∧p≠e∧H'=upd (upd (upd H1 e (.ext (qfs e C tt none))) p (.xd [("at",v)])) e (.ext (qfs e C tt (some p)))) E0 (hr.make C [u] []) (I3.env0.make C [u] []) hB r2 ⟨e,v,rfl,qai,fun p hp1 hp2=>⟨rfl,p,hp1,hp2,rfl⟩⟩) fun res s' hq'=>?_)
  cases res with
  | error z=>exact hq'.elim
  | ok fl =>
    cases fl with
    | ret u' =>
      obtain ⟨v',H',J,ru',rfl,p,hp1,hp2,rfl⟩:=I3.after hq'
      cases (show u'=Value.none from ru')
      have hpn:H1 p=none:=by rw [qag hp2] at hp1;exact hp1
      obtain ⟨⟨sl,z1⟩,_⟩:=(show ObjOk X.prog X.w _ s'.heap e (.ext (qfs e C tt (some p))) from J.hok e _ qai)
      have Jd:=J.drop qai hold
      have eH:qki (upd (upd (upd H1 e (.ext (qfs e C tt none))) p (.xd [("at",v)])) e (.ext (qfs e C tt (some p)))) e=upd H1 p (.xd [("at",v)]):=by
        funext b
        by_cases cb:b=e
        · rw [cb,qex,qag (Ne.symm hp2)];exact hno.symm
        · rw [qbX cb,qag cb]
          by_cases cp:b=p
          · rw [cp,qai,qai]
          · rw [qag cp,qag cp,qag cb]
      rw [eH] at Jd
      have gF:Gr Φ1 H1 Φ1 (upd H1 p (.xd [("at",v)])):=Gr.fresh g1.s hpn _
      have rvf:Rp X.K (fun _=>none) d v:=by
        cases rv with
        | non=>exact .non
        | int j=>exact .int j
        | _=>exact hfl'.elim
      refine ⟨rfl,wpAny_bind (wpAny_standAt (wpAny_pure ⟨e,tt,some p,sl,_,rfl,hC s'.heap J.kIn,z1,?_⟩))⟩
      refine k.ex ⟨x,some d⟩ ρ Φ1 _ σ _ _ pins hx (g.trans (g1.trans gF)) ((V.gr g1).gr gF) ⟨Jd,e,C,none,some p,rfl,⟨_,_,z1,rfl,rfl,rfl,rfl⟩,hm,⟨p,v,rfl,qai,rvf⟩,⟨hold,?_,hpin⟩,fun T' z=>(by cases z)⟩
      rw [qag (Ne.symm hp2)];exact hno
    | _=>exact hq'.elim⟩
end
section
variable {K : PySem.W.Frag} {h : Heap} {N C : Addr}
def qlj (v:Value):Bool:=match v with | .str _ _=>true | _=>false
def qed (K:PySem.W.Frag) (N:Addr):Bool:=match K.lookup N with
  | some ⟨_,_,.dict es _,_⟩=>es.toList.all fun e=>qlj e.key
  | _=>false
def noName (K:PySem.W.Frag) (N:Addr) (n:Str):Bool:=match PySem.W.nsIn K N n with | some none=>true | _=>false
theorem noName.is {n:Str} (h:noName K N n=true):PySem.W.nsIn K N n=some none:=by
  unfold noName at h
  split at h
  · assumption
  · cases h
theorem qkP (X:K.In h) (e:qed K N=true):∃ mN,h.Ns N mN∧∀ n r,PySem.W.nsIn K N n=some r→mN n=r:=by
  unfold qed at e
  split at e
  · rename_i c d es ep sl ho
    have sk:StrKeys es:=fun en hen=>by
      have hk:=List.all_eq_true.mp e en (Array.mem_toList_iff.mpr hen)
      cases q:en.key <;> rw [q] at hk <;> first | exact ⟨_,_,rfl⟩ | cases hk
    have G:h.Ns N (fun n=>nsFind es n):=⟨_,es,ep,X _ _ ho,rfl,sk,fun _=>rfl⟩
    refine ⟨_,G,fun n r hn=>?_⟩
    cases r with
    | none =>
      unfold PySem.W.nsIn at hn
      rw [ho] at hn
      dsimp only at hn
      split at hn
      · cases hn
      · rename_i he
        show nsFind es n=none
        unfold nsFind findBy
        rw [← Array.find?_toList,he]
        rfl
    | some v =>
      unfold PySem.W.nsIn at hn
      rw [ho] at hn
      dsimp only at hn
      split at hn
      · rename_i en he
        cases hn
        show nsFind es n=some en.val
        unfold nsFind findBy
        rw [← Array.find?_toList,he]
        rfl
      · split at hn <;> cases hn
  · cases e
def isBmV (l:List Value):Bool:=match l with
  | [.type a,.type b,.type c,.type d]=>a == "ValueError" && b == "Exception" && c == "BaseException" && d == "object"
  | _=>false
theorem isBmV.is {l:List Value} (h:isBmV l=true):l=bmV:=by
  unfold isBmV at h
  split at h
  · rw [Bool.and_eq_true,Bool.and_eq_true,Bool.and_eq_true] at h
    obtain ⟨⟨⟨h1,h2⟩,h3⟩,h4⟩:=h
    rw [eq_of_beq h1,eq_of_beq h2,eq_of_beq h3,eq_of_beq h4]
  · cases h
def refOf (v:Value):Option Addr:=match v with | .ref A=>some A | _=>none
theorem refOf.is {v:Value} {A:Addr} (h:refOf v=some A):v=.ref A:=by
  cases v <;> first | (cases h;rfl) | cases h
def tailOk (K:PySem.W.Frag):List Value→Bool
  | []=>false
  | v::tl=>(match refOf v with
    | some A=>(match K.lookup A with
      | some ⟨_,_,.cls cd,_⟩=>qed K cd.ns && excNames.all (noName K cd.ns) && tailOk K tl
      | _=>false)
    | none=>isBmV (v::tl))
theorem tailOk.tail (X:K.In h):∀ {l:List Value},tailOk K l=true→TailN h l
  | [],e=>by cases e
  | v::tl,e=>by
    unfold tailOk at e
    split at e
    · rename_i A hv
      rw [refOf.is hv]
      split at e
      · rename_i c d cd sl ho
        rw [Bool.and_eq_true,Bool.and_eq_true] at e
        obtain ⟨⟨e1,e2⟩,e3⟩:=e
        obtain ⟨mN,G,k⟩:=qkP X e1
        exact .own (X _ _ ho) G (fun n hn=>k n none (noName.is (List.all_eq_true.mp e2 n hn))) (tailOk.tail X e3)
      · cases e
    · rw [isBmV.is e];exact .base
def clsOk (K:PySem.W.Frag) (C:Addr):Bool:=match K.lookup C with
  | some ⟨.type t,_,.cls ⟨_,_,v::bm,N,_,hd,_,_,_,_,hdel⟩,⟨[_,_,_,_,some (.builtin b),_]⟩⟩ =>
    t == "type" && b == "ValueError.__new__" && hd && !hdel && (v == .ref C) && qed K N && (excNames.all fun n=>n == "__init__" || noName K N n) && tailOk K bm && (PySem.W.nsIn K N "__init__").isSome
  | _=>false
def qdN (K:PySem.W.Frag) (C:Addr):Option (Option Value):=match K.lookup C with
  | some ⟨_,_,.cls cd,_⟩=>PySem.W.nsIn K cd.ns "__init__"
  | _=>none
theorem clsOk.at (X:K.In h) {i:Option Value} (e:clsOk K C=true) (hi:qdN K C=some i):ExcAt h C i:=by
  unfold clsOk at e
  split at e
  · rename_i t dd nm bs v bm N q hd sn sub ab col hdel k0 k1 k2 k3 b k5 ho
    unfold qdN at hi
    rw [ho] at hi
    simp only [Bool.and_eq_true] at e
    obtain ⟨⟨⟨⟨⟨⟨⟨⟨e1,e2⟩,e3⟩,e4⟩,e5⟩,e6⟩,e7⟩,e8⟩,e9⟩:=e
    obtain ⟨mN,G,k⟩:=qkP X e6
    have h1:=eq_of_beq e1
    have h2:=eq_of_beq e2
    have h5:=eq_of_beq e5
    subst h1 h2 h5 e3
    have h4:hdel=false:=by cases hdel <;> first | rfl | cases e4
    subst h4
    refine ⟨nm,q,N,bs,bm,sn,sub,ab,col,dd,k0,k1,k2,k3,k5,mN,X _ _ ho,G,k _ _ hi,fun n hn hne=>?_,tailOk.tail X e8⟩
    have:=List.all_eq_true.mp e7 n hn
    rw [Bool.or_eq_true] at this
    rcases this with c | c
    · exact absurd (eq_of_beq c) hne
    · exact k _ _ (noName.is c)
  · cases e
theorem clsOk.some (e:clsOk K C=true):∃ i,qdN K C=some i:=by
  unfold clsOk at e
  split at e
  · rename_i t dd nm bs v bm N q hd sn sub ab col hdel k0 k1 k2 k3 b k5 ho
    simp only [Bool.and_eq_true] at e
    obtain ⟨_,e9⟩:=e
    unfold qdN
    rw [ho]
    exact Option.isSome_iff_exists.mp e9
  · cases e
def qfG (K:PySem.W.Frag) (C:Addr):Option (List Value):=match K.lookup C with
  | some o=>(match o.data with | .cls cd=>some cd.mro | _=>none)
  | none=>none
theorem qgA (X:K.In h) {l:List Value} (e:qfG K C=some l):qgm h C=l:=by
  unfold qfG at e
  cases ho:K.lookup C with
  | none=>rw [ho] at e;cases e
  | some o =>
    rw [ho] at e
    unfold qgm
    rw [X _ _ ho]
    obtain ⟨c,d,dt,sl⟩:=o
    cases dt <;> first | exact Option.some.inj e | cases e
def glbRef (K:PySem.W.Frag) (nm:Str):Option Addr:=match PySem.W.nsIn K mainGlobals nm with
  | some (some v)=>refOf v
  | _=>none
theorem glbRef.is {nm:Str} (e:glbRef K nm=some C):PySem.W.nsIn K mainGlobals nm=some (some (.ref C)):=by
  unfold glbRef at e
  split at e
  · rename_i v hv
    rw [hv,refOf.is e]
  · cases e
def pairOk (K:PySem.W.Frag) (isa:Str→Str→Bool) (nm:Str) (C:Addr) (c:Str):Bool:=match glbRef K c,qfG K C with
  | some D,some l=>(PySem.W.kitOne K (.ref C) (.ref D) == some (isa nm c)) && (l.contains (.ref D) == isa nm c)
  | _,_=>false
def qeZ (K:PySem.W.Frag) (isa:Str→Str→Bool) (names:List Str):Bool:=names.all fun nm=>match glbRef K nm with
  | some C=>clsOk K C && PySem.W.keepIn K (.ref C) && (PySem.W.kitOne K (.ref C) (.type "ValueError") == some true) && names.all (pairOk K isa nm C)
  | none=>false
section
variable {isa : Str → Str → Bool} {names : List Str} {mg : Str → Option Value}
theorem qbW (e:qeZ K isa names=true) {nm:Str} (hn:nm∈names):∃ C,PySem.W.nsIn K mainGlobals nm=some (some (.ref C))∧clsOk K C=true∧PySem.W.kitOne K (.ref C) (.type "ValueError")=some true∧(∀ c∈names,pairOk K isa nm C c=true)∧PySem.W.keepIn K (.ref C)=true:=by
  have:=List.all_eq_true.mp e nm hn
  split at this
  · rename_i C hC
    rw [Bool.and_eq_true,Bool.and_eq_true,Bool.and_eq_true] at this
    exact ⟨C,glbRef.is hC,this.1.1.1,eq_of_beq this.1.2,fun c hc=>List.all_eq_true.mp this.2 c hc,this.1.1.2⟩
  · cases this
theorem pairOk.is {nm c:Str} (e:pairOk K isa nm C c=true):∃ D l,PySem.W.nsIn K mainGlobals c=some (some (.ref D))∧qfG K C=some l∧PySem.W.kitOne K (.ref C) (.ref D)=some (isa nm c)∧l.contains (.ref D)=isa nm c:=by
  unfold pairOk at e
  split at e
  · rename_i D l hD hl
    rw [Bool.and_eq_true] at e
    exact ⟨D,l,glbRef.is hD,hl,eq_of_beq e.1,eq_of_beq e.2⟩
  · cases e
theorem qkf (X:K.In h) (G:h.Ns mainGlobals mg) (e:qeZ K isa names=true):Exs K mg isa names where
  cls nm hn C hm h' X':=by
    obtain ⟨C',h1,h2,_⟩:=qbW e hn
    rw [PySem.W.mg_of X G h1] at hm
    cases hm
    obtain ⟨i,hi⟩:=clsOk.some h2
    exact ⟨i,clsOk.at X' h2 hi⟩
  sub nm hn c hc C D hm hd h' X':=by
    obtain ⟨C',h1,h2,_,h4,_⟩:=qbW e hn
    rw [PySem.W.mg_of X G h1] at hm
    cases hm
    obtain ⟨D',l,z1,z2,z3,z4⟩:=pairOk.is (h4 c hc)
    rw [PySem.W.mg_of X G z1] at hd
    cases hd
    rw [qgA X' z2]
    exact z4
  inK nm hn C hm:=by
    obtain ⟨C',h1,h2,_⟩:=qbW e hn
    rw [PySem.W.mg_of X G h1] at hm
    cases hm
    exact h1
theorem qjQ (X:K.In h) (G:h.Ns mainGlobals mg) (e:qeZ K isa names=true):Isa K mg isa names where
  own nm hn c hc C D hm hd:=by
    obtain ⟨C',h1,h2,_,h4,_⟩:=qbW e hn
    rw [PySem.W.mg_of X G h1] at hm
    cases hm
    obtain ⟨D',l,z1,z2,z3,z4⟩:=pairOk.is (h4 c hc)
    rw [PySem.W.mg_of X G z1] at hd
    cases hd
    exact z3
  val nm hn C hm:=by
    obtain ⟨C',h1,h2,h3,_⟩:=qbW e hn
    rw [PySem.W.mg_of X G h1] at hm
    cases hm
    exact h3
  mgK nm hn C hC:=PySem.W.mg_of X G hC
theorem qbD (X:K.In h) (G:h.Ns mainGlobals mg) (e:qeZ K isa names=true) {nm:Str} (hn:nm∈names):∃ D,mg nm=some (.ref D):=by
  obtain ⟨C',h1,_⟩:=qbW e hn
  exact ⟨C',PySem.W.mg_of X G h1⟩
end
structure Rz0 (K:PySem.W.Frag) (mg:Str→Option Value) (x:Str):Prop where
  ex:∃ C,mg x=some (.ref C)∧(∀ h:Heap,K.In h→ExcAt h C none)∧PySem.W.keepIn K (.ref C)=true∧PySem.W.nsIn K mainGlobals x=some (some (.ref C))
structure Rz1 (P:Program) (w:World) (K:PySem.W.Frag) (mg:Str→Option Value) (base:Heap) (x:Str):Prop where
  ex:∃ C f fd oI,mg x=some (.ref C)∧(∀ h:Heap,K.In h→ExcAt h C (some (.ref f)))∧PySem.W.keepIn K (.ref C)=true∧K.lookup f=some oI∧oI.cls=.type "function"∧(∀ t,FnOk P w K mg base CX0 1 f fd [("self":Str),("at":Str)] (qho C t))∧Binds K fd [("self":Str),("at":Str)] []∧PySem.W.nsIn K mainGlobals x=some (some (.ref C))
def initOf (K:PySem.W.Frag) (x:Str):Option (Option Value):=(glbRef K x).bind (qdN K)
section
variable {isa : Str → Str → Bool} {names : List Str} {mg : Str → Option Value} {P : Program} {w : World} {base : Heap}
theorem initOf.is {x:Str} {i:Option Value} (hi:initOf K x=some i) (h1:PySem.W.nsIn K mainGlobals x=some (some (.ref C))):qdN K C=some i:=by
  have:glbRef K x=some C:=by unfold glbRef;rw [h1];rfl
  unfold initOf at hi
  rw [this] at hi
  exact hi
theorem qhi (X:K.In h) (G:h.Ns mainGlobals mg) (e:qeZ K isa names=true) {x:Str} (hn:x∈names) (hi:initOf K x=some none):Rz0 K mg x:=by
  obtain ⟨C,h1,h2,_,_,h5⟩:=qbW e hn
  exact ⟨C,PySem.W.mg_of X G h1,fun h' X'=>clsOk.at X' h2 (initOf.is hi h1),h5,h1⟩
theorem qj0 {q:Str} {st:Stmt} {f:Addr} {p1 p2 p3 p4:Pos} (X:K.In h) (G:h.Ns mainGlobals mg) (e:qeZ K isa names=true) {x:Str} (hn:x∈names) (hi:initOf K x=some (some (.ref f)))
    {oc:Value} {od:Option Addr} {kV doc pm:Value} {an:Option Addr} {cdv ct:Value} {osl:Array (Option Value)} (lk:K.lookup f=some ⟨oc,od,.func (PySem.W.fnOf "__init__" q (qaP st) (qay st) (qae st) .none kV doc pm an cdv ct),osl⟩) (hoc:oc=.type "function") (hcd:PySem.W.codeIn K cdv q=true) (kp:PySem.W.keepIn K (.ref f)=true)
    (S:FnScope [("self":Str),("at":Str)] [("self":Str),("at":Str)] (qae st)) (hb:qay st=[.Assign [.Attribute (.Name "self" p1) "at" p2] (.Name "at" p3) p4]) (hv1:Vis (qae st) "self") (hv2:Vis (qae st) "at")
    (hs:∀ env,swapsWith (.Name "at" p3) (some (.Attribute (.Name "self" p1) "at" p2)) p4.line env=pure false)
    (b:∀ (kV doc pm:Value) (an:Option Addr) (cdv ct:Value) (us:List Value),us.length=2→bindArgs (PySem.W.fnOf "__init__" q (qaP st) (qay st) (qae st) .none kV doc pm an cdv ct) ⟨us,[]⟩=pure ([("self":Str),("at":Str)].zip us)):Rz1 P w K mg base x:=by
  obtain ⟨C,h1,h2,_,_,h5⟩:=qbW e hn
  have F:Fun K "__init__" q st f _:=⟨⟨oc,od,kV,doc,pm,an,cdv,ct,osl,rfl,lk,hcd⟩,kp⟩
  have hC:∀ h':Heap,K.In h'→ExcAt h' C (some (.ref f)):=fun h' X'=>clsOk.at X' h2 (initOf.is hi h1)
  exact ⟨C,f,_,_,PySem.W.mg_of X G h1,hC,h5,lk,hoc,fun t=>qjF (k:=0) F S hb hv1 hv2 hs hC,F.binds b,h1⟩
end
end
section
variable {P : Program} {w : World} {K : PySem.W.Frag} {mg : Str → Option Value} {base : Heap} {n : Nat} {f : Addr} {fd : FuncData} {ps : List Str} {z : SpD} {r : SpR}
end
section
variable {K : PySem.W.Frag} {X : Cx} {x : Str} {np cpos pos : Pos} {arg : Expr} {ta : TD}
def qoK (x:Str):TSM:=fun De ρ=>De.ex ⟨x,none⟩ ρ
theorem qlP (Z:Rz0 X.K X.mg x) (hcalm:X.calm=true) (hex:X.ex=[]) (hg:Gl X x) (hdb:(x == ("__debug__":Str))=false:=by decide):PSM K X (.Raise (some (.Call (.Name x np) [] [] cpos)) none pos) (qoK x):=by
  obtain ⟨C,h1,h2,_⟩:=Z.ex
  exact qh8 hcalm hex hg h1 h2 hdb
def qoJ (x:Str) (ta:TD):TSM:=fun De ρ=>ta (prR ρ) fun d=>qhA d∧De.ex ⟨x,some d⟩ ρ
theorem qmy (Z:Rz1 X.prog X.w X.K X.mg X.base x) (hcalm:X.calm=true) (hex:X.ex=[]) (hg:Gl X x) (hr:Room 2 X.A) (ha:PD K X arg ta) (he:starEach [arg] X.env=(false,eval arg X.env)::starEach [] X.env) (hdb:(x == ("__debug__":Str))=false:=by decide) :
    PSM K X (.Raise (some (.Call (.Name x np) [arg] [] cpos)) none pos) (qoJ x ta):=by
  obtain ⟨C,f,fd,oI,h1,h2,h3,h4,h5,h6,h7,_⟩:=Z.ex
  exact qhP (n:=1) hcalm hex hg h1 h2 h3 h4 h5 h6 h7 hr ha he hdb
theorem qiB {rest:List ExceptHandler} {th:XD→EndsM→qau→Prop} {c n:Str} {hpos:Pos} {b₀:Stmt} {suite:List Stmt} {tu:TSM} {isa:Str→Str→Bool} {names:List Str} (i:Nat) (Ex:Exs X.K X.mg isa names) (hm:∃ Da,X.mg c=some (.ref Da)) (hc:c∈names) (hg:Gl X c) (hN:X.N.Nodup) (hs:∀ pn e,PSsM K (X.held pn e) (b₀::suite) tu) (hr:PHM K X rest th)
    (hi:X.N[i]?=some n:=by rfl) (hloc:X.env.scope.names.lookup n=some .local:=by rfl) (hfn:X.fn n=true∨X.env.scope.names.lookup n=some .local:=by first | exact .inl rfl | exact .inr rfl) (hdb:(c == ("__debug__":Str))=false:=by decide) :
    PHM K X (.ExceptHandler (some (.Name c np)) (some n) (b₀::suite) hpos::rest) (fun xd De ρ=>xd.nm∈names∧(isa xd.nm c=true→tu { nx:=fun ρ'=>De.nx (ρ'.set i none),rt:=De.rt,bk:=fun ρ'=>De.bk (ρ'.set i none),ct:=fun ρ'=>De.ct (ρ'.set i none) } (ρ.set i (some (.v (.exc xd.nm xd.at_.toList)))))∧(isa xd.nm c=false→th xd De ρ)):=by
  obtain ⟨Da,hm⟩:=hm
  exact qjI i Ex hc hg hm hN hs hr hi hloc hfn hdb
end
section
variable {K : PySem.W.Frag} {X : Cx} {a : Expr} {ta : TD} {pos p : Pos} {isa : Str → Str → Bool} {names : List Str}
theorem qcN {c:Str} {np:Pos} (Ex:Exs X.K X.mg isa names) (Is:Isa X.K X.mg isa names) (hm:∃ Da,X.mg c=some (.ref Da)) (hc:c∈names) (hgc:Gl X c) (hg:Gl X "isinstance") (hmi:X.mg "isinstance"=none) (ha:PD K X a ta)
    (he:starEach [a,.Name c np] X.env=(false,eval a X.env)::starEach [.Name c np] X.env) (he2:starEach [.Name c np] X.env=(false,eval (.Name c np) X.env)::starEach [] X.env) (hdb:(c == ("__debug__":Str))=false:=by decide):PD K X (.Call (.Name "isinstance" p) [a,.Name c np] [] pos) (qmT isa names c ta):=by
  obtain ⟨Da,hm⟩:=hm
  exact qmh Ex Is hc hgc hm hg hmi ha he he2 hdb
end
end L2
namespace L2
open PySem PySem.Spec PyProof.Rows
section
variable {P : Program} {w : World} {K : PySem.W.Frag} {mg : Str → Option Value} {base : Heap}
end
section
variable {K : PySem.W.Frag} {X : Cx} {e : Expr} {es : List Expr} {pos p : Pos} {tl : TDL}
end
section
variable {K : PySem.W.Frag} {X : Cx} {x : Str} {np pos : Pos} {arg : Expr} {ta : TD}
end
section
variable {prog : Program} {w : World} {A : Around} {R : Result → Shared → Prop} {I : Addr} {fp wr : List Addr} {G : Array GenState → Array GenState → Prop} {n : Nat} {P : Nat → Value → Prop} {St : Nat → Shared → Prop}
end
section
variable {prog : Program} {w : World} {A : Around} {E : Value → Shared → Prop} {s : Shared}
end
section
variable {ks : List Key}
end
section
variable {K : PySem.W.Frag} {X : Cx} {a : Expr} {ta : TD} {pos p1 p2 ps : Pos}
end
section
variable {prog : Program} {w : World} {A : Around} {R : Result → Shared → Prop} {I : Addr} {fp wr : List Addr} {n : Nat} {P : Nat → Value → Prop} {St : Nat → Heap → Prop} {kw : List (Str × Value)}
end
section
variable {prog : Program} {w : World} {A : Around} {E : Value → Shared → Prop} {s : Shared}
end
section
variable {K : PySem.W.Frag} {X : Cx} {l : Expr} {tl : TD} {np pos kp2 kp3 : Pos} {c : Int} {j : Nat}
end
section
variable {K : PySem.W.Frag} {H0 H H' Φ Φ' Φ0 : Hp} {σ : St} {ρ : qau} {fp : Nat → List Addr} {o o' oi oj : Om} {p q : Addr} {i j : Nat} {a a' b b' : Option Addr}
theorem EnvM.adr (E:EnvM K H0 Φ H σ ρ) (hi:ρ[i]?=some (some (.ob none o))):∃ q,EnvM K H0 Φ H σ (ρ.set i (some (.ob (some q) o))):=by
  obtain ⟨fp,E⟩:=E
  obtain ⟨p,si,_,ri⟩:=E.ow i _ _ hi
  have cs:∀ {m:Nat} {x:Sm},(ρ.set i (some (Sm.ob (some p) o)))[m]?=some (some x)→(m=i∧x=.ob (some p) o)∨(m≠i∧ρ[m]?=some (some x)):=fun {m x} h=>by
    rcases qbU h with ⟨e,_,e1⟩ | ⟨e,h⟩
    · cases e1;exact .inl ⟨e,rfl⟩
    · exact .inr ⟨e,h⟩
  have back:∀ {m:Nat} {c:Option Addr} {om:Om},(ρ.set i (some (Sm.ob (some p) o)))[m]?=some (some (.ob c om))→∃ c',ρ[m]?=some (some (.ob c' om)):=fun {m c om} h=>by
    rcases cs h with ⟨c1,h9⟩ | ⟨_,h9⟩
    · cases h9;exact ⟨_,by rw [c1];exact hi⟩
    · exact ⟨_,h9⟩
  refine ⟨p,fp,E.fz,by rw [List.length_set,E.len],fun m d h=>?_,fun m c om h=>?_,fun m c om h=>?_,fun m k c c' om om' hm hk=>?_,E.tb⟩
  · rcases cs h with ⟨_,h⟩ | ⟨_,h⟩
    · cases h
    · exact E.sl m d h
  · rcases cs h with ⟨c1,h9⟩ | ⟨_,h9⟩
    · cases h9;exact ⟨p,by rw [c1];exact si,fun q e=>by cases e;rfl,by rw [c1];exact ri⟩
    · exact E.ow m c om h9
  · obtain ⟨c',h'⟩:=back h;exact E.no m c' om h'
  · obtain ⟨e1,h1⟩:=back hm
    obtain ⟨e2,h2⟩:=back hk
    exact E.dj m k e1 e2 om om' h1 h2
theorem EnvM.pnt (E:EnvM K H0 Φ H σ ρ) (i:Nat) (p:Addr):EnvM K H0 Φ H (σ.set i (some (.ref p))) (ρ.set i (some (.ob (some p) .ptr))):=by
  obtain ⟨fp,E⟩:=E
  have cs:∀ {m:Nat} {x:Sm},(ρ.set i (some (Sm.ob (some p) .ptr)))[m]?=some (some x)→(m=i∧i<ρ.length∧x=.ob (some p) .ptr)∨(m≠i∧ρ[m]?=some (some x)):=fun {m x} h=>by
    rcases qbU h with ⟨e,hl,e1⟩ | ⟨e,h⟩
    · cases e1;exact .inl ⟨e,hl,rfl⟩
    · exact .inr ⟨e,h⟩
  refine ⟨fun m=>if m=i then [] else fp m,E.fz,by rw [List.length_set,List.length_set,E.len],fun m d h=>?_,fun m c om h=>?_,fun m c om h x hx=>?_,fun m k c c' om om' hm hk cc x hx hx2=>?_,E.tb⟩
  · rcases cs h with ⟨_,_,h⟩ | ⟨c,h⟩
    · cases h
    · obtain ⟨v,e,r⟩:=E.sl m d h
      exact ⟨v,by rw [List.getElem?_set_ne (Ne.symm c)];exact e,r⟩
  · rcases cs h with ⟨c1,hl,h9⟩ | ⟨c',h9⟩
    · cases h9;exact ⟨p,by rw [c1];exact List.getElem?_set_self (by rw [E.len];exact hl),fun q e=>by cases e;rfl,by rw [if_pos c1];exact .ptr⟩
    · obtain ⟨q,e,r⟩:=E.ow m c om h9
      exact ⟨q,by rw [List.getElem?_set_ne (Ne.symm c')];exact e,by rw [if_neg c'];exact r⟩
  · rcases cs h with ⟨c1,_,h9⟩ | ⟨c',h9⟩
    · rw [if_pos c1] at hx;cases hx
    · rw [if_neg c'] at hx;exact E.no m c om h9 x hx
  · have y1:x∈(if m=i then [] else fp m):=hx
    have y2:x∈(if k=i then [] else fp k):=hx2
    rcases cs hm with ⟨c1,_,hm9⟩ | ⟨c1,hm9⟩
    · rw [if_pos c1] at y1;cases y1
    rcases cs hk with ⟨c2,_,hk9⟩ | ⟨c2,hk9⟩
    · rw [if_pos c2] at y2;cases y2
    rw [if_neg c1] at y1
    rw [if_neg c2] at y2
    exact E.dj m k c c' om om' hm9 hk9 cc x y1 y2
end
section
variable {K : PySem.W.Frag} {X : Cx} {rest : List Stmt} {t : TSM} {e : Expr} {es : List Expr} {pos p1 p2 p3 p4 p5 : Pos} {tA : TXA}
def qoh (i:Nat) (t:TSM):TSM:=fun De ρ=>∃ o,ρ[i]?=some (some (.ob none o))∧∀ q,t De (ρ.set i (some (.ob (some q) o)))
theorem qmi (i:Nat) (h:PSsM K X rest t):PSsM K X rest (qoh i t):=⟨fun hK=>(h.ps hK).imp fun E σ H hq0=>by
  obtain ⟨Φ0,H0,Φ,ρ,De,g,V,⟨o,h1,t⟩,k⟩:=hq0
  obtain ⟨q,V'⟩:=V.adr h1
  exact ⟨Φ0,H0,Φ,_,De,g,V',t q,k⟩⟩
end
def flD:Fl→Option D
  | .v d=>some d
  | .l xs=>some (.lst xs)
  | .al _=>none
def qgw:List (Str × Fl)→Option (List (Str × D))
  | []=>some []
  | (f,x)::r=>match flD x,qgw r with
    | some d,some ds=>some ((f,d)::ds)
    | _,_=>none
def prV:Option Sm→Option Sl
  | some (.ob _ (.obj nm fs))=>(qgw fs).map fun ds=>.v (.obj nm ds)
  | x=>prM x
abbrev qiy (ρ:qau):Rho:=ρ.map prV
def qnG:HO→Bool
  | .lst _=>true
  | .dK _=>true
  | .dT _=>true
  | .ins _ _ _=>true
  | _=>false
theorem qjm {u:HO} (h:OwK u):qnG u=true:=by cases u <;> first | rfl | exact h.elim
inductive NoL:D→Prop where
  | int (i:Int):NoL (.int i)
  | bl (b:Bool):NoL (.bl b)
  | str (x:Str):NoL (.str x)
  | non:NoL .non
  | tup {ds:List D}:(∀ d∈ds,NoL d)→NoL (.tup ds)
def qcy (Φ H:Hp) (A:List Addr):Hp:=fun b=>match Φ b with
  | some u=>some u
  | none=>if b∈A then H b else none
def qeL (Φ Φ1:Hp):Hp:=fun b=>match Φ b with
  | some u=>some u
  | none=>match Φ1 b with
    | some u=>if qnG u then none else some u
    | none=>none
section
variable {K : PySem.W.Frag} {H0 H H1 Φ Φ1 : Hp} {σ : St} {ρ : qau} {fp : Nat → List Addr} {A : List Addr} {d : D} {v : V} {b : Addr} {u : HO}
theorem qhR (h:Φ b=some u):qcy Φ H A b=some u:=by unfold qcy;rw [h]
theorem qj4 (hb:b∈A) (h:H b=some u) (s:Same Φ H):qcy Φ H A b=some u:=by
  unfold qcy
  cases e:Φ b with
  | some w=>have:=s _ _ e;rw [h] at this;cases this;rfl
  | none=>simp only;rw [if_pos hb];exact h
theorem qfA (h:qcy Φ H A b=some u):Φ b=some u∨(b∈A∧H b=some u):=by
  unfold qcy at h
  cases e:Φ b with
  | some w=>rw [e] at h;exact .inl h
  | none =>
    rw [e] at h
    simp only at h
    split at h
    · next c=>exact .inr ⟨c,h⟩
    · cases h
theorem view_same:Same Φ (qcy Φ H A):=fun _ _ h=>qhR h
theorem qkp (s:Same Φ H):Same (qcy Φ H A) H:=fun b u h=>(qfA h).elim (s b u) (·.2)
theorem qh9 (h:Φ b=some u):qeL Φ Φ1 b=some u:=by unfold qeL;rw [h]
theorem qiu {vs:List V} (s:Same Φ Φ1) (h:Φ1 b=some (.tup vs)):qeL Φ Φ1 b=some (.tup vs):=by
  unfold qeL
  cases e:Φ b with
  | some w=>have:=s _ _ e;rw [h] at this;cases this;rfl
  | none=>simp only;rw [h];rfl
theorem qe7 (s:Same Φ H) (g:Gr (qcy Φ H A) H Φ1 H1):Gr Φ H (qeL Φ Φ1) H1:=by
  refine ⟨fun b u e=>qh9 e,g.h,fun b u e=>?_,fun p u hp hn k=>?_⟩
  · unfold qeL at e
    cases e1:Φ b with
    | some w=>rw [e1] at e;cases e;exact g.h _ _ (s _ _ e1)
    | none =>
      rw [e1] at e
      simp only at e
      cases e2:Φ1 b with
      | none=>rw [e2] at e;cases e
      | some w =>
        rw [e2] at e
        simp only at e
        split at e
        · cases e
        · cases e;exact g.s _ _ e2
  · unfold qeL
    rw [hn]
    simp only
    cases e2:Φ1 p with
    | none=>rfl
    | some w =>
      have h1:=g.s _ _ e2
      rw [g.h _ _ hp] at h1
      cases h1
      simp only
      rw [if_pos (qjm k)]
theorem Rp.thawN (s:Same Φ Φ1) (hn:NoL d) (r:Rp K Φ1 d v):Rp K (qeL Φ Φ1) d v:=by
  induction hn generalizing v with
  | int i=>cases r;exact .int i
  | bl b=>cases r;exact .bl b
  | str x=>cases r;exact .str x
  | non=>cases r;exact .non
  | tup _ ih =>
    cases r with
    | tup h1 h2 h3=>exact .tup (qiu s h1) h2 fun i v d hv hd=>ih d (List.mem_of_getElem? hd) (h3 i v d hv hd)
def qio:Option (Option Sm)→Bool
  | some (some (.ob _ (.obj _ _)))=>true
  | _=>false
def qiG (fp:Nat→List Addr) (ρ:qau):List Addr:=(List.range ρ.length).flatMap fun i=>if qio (ρ[i]?) then fp i else []
theorem qj2 {i:Nat} {a:Option Addr} {nm:Str} {fs:List (Str × Fl)} (h:ρ[i]?=some (some (.ob a (.obj nm fs)))) (hb:b∈fp i):b∈qiG fp ρ:=by
  unfold qiG
  refine List.mem_flatMap.mpr ⟨i,List.mem_range.mpr (qal h),?_⟩
  rw [h,if_pos (show qio (some (some (Sm.ob a (Om.obj nm fs))))=true from rfl)]
  exact hb
theorem qhQ (h:b∈qiG fp ρ):∃ i a nm fs,ρ[i]?=some (some (.ob a (.obj nm fs)))∧b∈fp i:=by
  unfold qiG at h
  obtain ⟨i,_,h⟩:=List.mem_flatMap.mp h
  by_cases c:qio (ρ[i]?)=true
  · rw [if_pos c] at h
    unfold qio at c
    split at c
    · next a nm fs e=>exact ⟨i,a,nm,fs,e,h⟩
    · cases c
  · rw [if_neg c] at h;cases h
theorem qk2 {fs:List (Str × Fl)} {ds:List (Str × D)} {vs:List (Str × V)} {qs:List Addr} (hf:qgw fs=some ds) (h:FlsR K Φ H fs vs qs) (hs:Same Φ Φ1) (hq:∀ b∈qs,∀ u,H b=some u→Φ1 b=some u) :
    vs.map (·.1)=ds.map (·.1)∧∀ (i:Nat) (v:Str × V) (d:Str × D),vs[i]?=some v→ds[i]?=some d→Rp K Φ1 d.2 v.2:=by
  induction h generalizing ds with
  | nil=>cases hf;exact ⟨rfl,fun i v d hv=>by simp at hv⟩
  | v r _ ih =>
    rename_i f d0 v0 fs0 vs0 qs0 _
    have hf:(match some d0,qgw fs0 with | some d,some ds=>some ((f,d)::ds) | _,_=>none)=some ds:=hf
    cases e:qgw fs0 with
    | none=>rw [e] at hf;cases hf
    | some es =>
      rw [e] at hf
      cases hf
      obtain ⟨h1,h2⟩:=ih e hq
      refine ⟨by rw [List.map_cons,List.map_cons,h1],fun i v d hv hd=>?_⟩
      cases i with
      | zero=>cases hv;cases hd;exact r.same hs
      | succ i=>exact h2 i v d hv hd
  | l h1 h2 _ ih =>
    rename_i f d0 w0 q0 fs0 vs0 qs0 _
    have hf:(match some (D.lst d0),qgw fs0 with | some d,some ds=>some ((f,d)::ds) | _,_=>none)=some ds:=hf
    cases e:qgw fs0 with
    | none=>rw [e] at hf;cases hf
    | some es =>
      rw [e] at hf
      cases hf
      obtain ⟨k1,k2⟩:=ih e fun b hb=>hq b (List.mem_cons_of_mem _ hb)
      refine ⟨by rw [List.map_cons,List.map_cons,k1],fun i v d hv hd=>?_⟩
      cases i with
      | zero =>
        cases hv;cases hd
        have r:=h2.same hs
        exact .lst (hq _ List.mem_cons_self _ h1) r.1 r.2
      | succ i=>exact k2 i v d hv hd
  | al _ ih =>
    rename_i f p0 fs0 vs0 qs0 _
    have hf:(match (none:Option D),qgw fs0 with | some d,some ds=>some ((f,d)::ds) | _,_=>none)=some ds:=hf
    cases hf
theorem EnvM'.view (E:EnvM' K H0 Φ H σ ρ fp):EnvD K H0 (qcy Φ H (qiG fp ρ)) H σ (qiy ρ):=by
  have hs:Same Φ (qcy Φ H (qiG fp ρ)):=view_same
  have at_:∀ {i:Nat} {x:Sl},(qiy ρ)[i]?=some (some x)→∃ y,ρ[i]?=some (some y)∧prV (some y)=some x:=fun {i x} h=>by
    rw [List.getElem?_map] at h
    cases e:ρ[i]? with
    | none=>rw [e] at h;cases h
    | some y =>
      rw [e] at h
      cases y with
      | none=>cases h
      | some y=>exact ⟨y,rfl,Option.some.inj h⟩
  have ow:∀ {i:Nat} {o:Ow},(qiy ρ)[i]?=some (some (.ob o))→∃ a om p u,ρ[i]?=some (some (.ob a om))∧(∀ nm fs,om≠.obj nm fs)∧σ[i]?=some (some (.ref p))∧p∈fp i∧H p=some u∧OwR K Φ o u:=fun {i o} h=>by
    obtain ⟨y,hy,e⟩:=at_ h
    cases y with
    | v d=>cases e
    | ob a om =>
      obtain ⟨p,e1,_,r⟩:=E.ow i a om hy
      refine ⟨a,om,p,?_⟩
      cases om with
      | lst ds=>obtain ⟨_,vs,h1,h2⟩:=r.lst_inv;cases e;exact ⟨_,hy,(fun _ _ z=>by cases z),e1,r.mem,h1,h2⟩
      | map kvs=>obtain ⟨_,vs,h1,h2⟩:=r.map_inv;cases e;exact ⟨_,hy,(fun _ _ z=>by cases z),e1,r.mem,h1,qda h2⟩
      | mpT kvs=>obtain ⟨_,vs,h1,h2⟩:=r.mpT_inv;cases e;exact ⟨_,hy,(fun _ _ z=>by cases z),e1,r.mem,h1,qda h2⟩
      | obj nm fs =>
        have e:(qgw fs).map (fun ds=>Sl.v (.obj nm ds))=some (.ob o):=e
        cases e2:qgw fs with
        | none=>rw [e2] at e;cases e
        | some ds=>rw [e2] at e;cases e
      | ptr=>cases e
      | tl ps=>cases e
  refine ⟨qkp E.fz,by rw [List.length_map,E.len],fun i d h=>?_,fun i o h=>?_,fun i j o w p hi hj si sj=>?_,E.tb.same hs⟩
  · obtain ⟨y,hy,e⟩:=at_ h
    cases y with
    | v d'=>cases e;obtain ⟨v,e1,r⟩:=E.sl i d hy;exact ⟨v,e1,r.same hs⟩
    | ob a om =>
      cases om with
      | obj nm fs =>
        have e:(qgw fs).map (fun ds=>Sl.v (.obj nm ds))=some (.v d):=e
        cases e2:qgw fs with
        | none=>rw [e2] at e;cases e
        | some ds =>
          rw [e2] at e
          cases e
          obtain ⟨p,e1,_,r⟩:=E.ow i a _ hy
          obtain ⟨C,dx,vs,qs,eF,c1,c2,c3,_⟩:=r.obj_inv
          have hin:∀ b∈fp i,∀ u,H b=some u→qcy Φ H (qiG fp ρ) b=some u:=fun b hb u hu=>qj4 (qj2 hy hb) hu E.fz
          obtain ⟨k1,k2⟩:=qk2 e2 c3 hs fun b hb=>hin b (by rw [eF];exact List.mem_cons_of_mem _ hb)
          exact ⟨.ref p,e1,.obj c1 (hin p (by rw [eF];exact List.mem_cons_self) _ c2) k1 k2⟩
      | _=>cases e
  · obtain ⟨a,om,p,u,h1,hno,h2,h3,h4,h5⟩:=ow h
    have n1:=E.no i a om h1 p h3
    refine ⟨p,u,h2,n1.1,?_,h4,?_⟩
    · cases e:qcy Φ H (qiG fp ρ) p with
      | none=>rfl
      | some w =>
        rcases qfA e with z | ⟨z,_⟩
        · rw [n1.2] at z;cases z
        · obtain ⟨j,a',nm,fs,k1,k2⟩:=qhQ z
          have hij:i≠j:=fun c=>by subst c;rw [h1] at k1;cases k1;exact hno _ _ rfl
          exact absurd k2 (E.dj i j a a' om _ h1 k1 hij p h3)
    · cases o with
      | lst ds=>cases u with
        | lst vs=>exact RpL.same hs h5
        | _=>exact h5.elim
      | _=>cases u <;> exact h5
  · obtain ⟨a,om,p1,u,h1,_,h2,h3,_,_⟩:=ow hi
    obtain ⟨a',om',p2,u',k1,_,k2,k3,_,_⟩:=ow hj
    rw [si] at h2
    cases h2
    rw [sj] at k2
    cases k2
    rcases Decidable.em (i=j) with c | c
    · exact c
    · exact absurd k3 (E.dj i j a a' om om' h1 k1 c p h3)
end
section
variable {K : PySem.W.Frag} {X : Cx} {e : Expr}
def qmJ (t:TD):TX:=fun ρ R _=>t (qiy ρ) fun d=>NoL d∧R (.v d) ρ
theorem qdM {t:TD} (h:PD K X e t):PX K X e (qmJ t):=⟨fun hK=>(h.pe hK).imp fun σ H Q hq0=>by
  obtain ⟨Φ0,H0,Φ,τ,ρ,κ,R,Rx,S,t,k⟩:=hq0
  obtain ⟨fp,E⟩:=S.env
  refine ⟨H0,_,qiy ρ,_,E.view,t,fun d Φ1 H1 v r g rv=>?_⟩
  have g':=qe7 E.fz g
  exact k _ ρ _ H1 v r.2 ((S.gr g').pushV (rv.thawN (view_same.trans g.f) r.1)) g'.f⟩
def qlK (t:TDB):TXB:=fun ρ R _=>t (qiy ρ) fun b=>R b ρ
theorem qhE {t:TDB} (h:PTD K X e t):PXB K X e (qlK t):=⟨fun hK=>(h.pt hK).imp fun σ H Q hq0=>by
  obtain ⟨Φ0,H0,Φ,τ,ρ,κ,R,Rx,S,t,k⟩:=hq0
  obtain ⟨fp,E⟩:=S.env
  refine ⟨H0,_,qiy ρ,_,E.view,t,fun b Φ1 H1 r g=>?_⟩
  have g':=qe7 E.fz g
  exact k b ρ _ H1 r (S.gr g') g'.f⟩
end
def qcZ (f:Str) (x:Fl):List (Str × Fl)→List (Str × Fl)
  | []=>[(f,x)]
  | (g,y)::r=>if g=f then (g,x)::r else (g,y)::qcZ f x r
section
variable {K : PySem.W.Frag} {Φ H H' : Hp} {fs : List (Str × Fl)} {vs : List (Str × V)} {qs : List Addr} {f : Str} {ds es : List D} {ws : List V} {d : D} {v : V}
theorem FlsR.look (h:FlsR K Φ H fs vs qs) (nd:qs.Nodup) (hf:fs.lookup f=some (.l ds)):∃ q ws,vs.lookup f=some (.ref q)∧q∈qs∧H q=some (.lst ws)∧RpL K Φ ds ws ∧
    ∀ (H':Hp) (es:List D) (ws':List V),(∀ b∈qs,b≠q→∀ u,H b=some u→H' b=some u)→H' q=some (.lst ws')→RpL K Φ es ws'→FlsR K Φ H' (qcZ f (.l es) fs) vs qs:=by
  induction h with
  | nil=>cases hf
  | v r t ih =>
    rename_i g d0 v0 fs0 vs0 qs0
    rw [List.lookup_cons] at hf
    cases c:f == g with
    | true=>rw [c] at hf;cases hf
    | false =>
      rw [c] at hf
      obtain ⟨q,ws,h1,h2,h3,h4,h5⟩:=ih nd hf
      refine ⟨q,ws,by rw [List.lookup_cons,c];exact h1,h2,h3,h4,fun H' es ws' k1 k2 k3=>?_⟩
      show FlsR K Φ H' (if g=f then _ else _) _ _
      rw [if_neg fun e=>by rw [e,beq_self_eq_true] at c;cases c]
      exact .v r (h5 H' es ws' k1 k2 k3)
  | l a1 a2 t ih =>
    rename_i g d0 w0 q0 fs0 vs0 qs0
    rw [List.nodup_cons] at nd
    rw [List.lookup_cons] at hf
    cases c:f == g with
    | true =>
      rw [c] at hf
      cases hf
      refine ⟨q0,w0,by rw [List.lookup_cons,c],List.mem_cons_self,a1,a2,fun H' es ws' k1 k2 k3=>?_⟩
      show FlsR K Φ H' (if g=f then _ else _) _ _
      rw [if_pos (eq_of_beq c).symm]
      exact .l k2 k3 (t.keep (Same.refl _) fun b hb u hu=>k1 b (List.mem_cons_of_mem _ hb) (fun z=>nd.1 (z ▸ hb)) u hu)
    | false =>
      rw [c] at hf
      obtain ⟨q,ws,h1,h2,h3,h4,h5⟩:=ih nd.2 hf
      refine ⟨q,ws,by rw [List.lookup_cons,c];exact h1,List.mem_cons_of_mem _ h2,h3,h4,fun H' es ws' k1 k2 k3=>?_⟩
      show FlsR K Φ H' (if g=f then _ else _) _ _
      rw [if_neg fun e=>by rw [e,beq_self_eq_true] at c;cases c]
      exact .l (k1 q0 List.mem_cons_self (fun z=>nd.1 (z ▸ h2)) _ a1) a2 (h5 H' es ws' (fun b hb=>k1 b (List.mem_cons_of_mem _ hb)) k2 k3)
  | al t ih =>
    rename_i g p0 fs0 vs0 qs0
    rw [List.lookup_cons] at hf
    cases c:f == g with
    | true=>rw [c] at hf;cases hf
    | false =>
      rw [c] at hf
      obtain ⟨q,ws,h1,h2,h3,h4,h5⟩:=ih nd hf
      refine ⟨q,ws,by rw [List.lookup_cons,c];exact h1,h2,h3,h4,fun H' es ws' k1 k2 k3=>?_⟩
      show FlsR K Φ H' (if g=f then _ else _) _ _
      rw [if_neg fun e=>by rw [e,beq_self_eq_true] at c;cases c]
      exact .al (h5 H' es ws' k1 k2 k3)
def qiO (f:Str) (fs:List (Str × Fl)):Bool:=match fs.lookup f with
  | none=>true
  | some (.v _)=>true
  | _=>false
theorem FlsR.setV (h:FlsR K Φ H fs vs qs) (hc:qiO f fs=true) (r:Rp K Φ d v):FlsR K Φ H (qcZ f (.v d) fs) (qc2 f v vs) qs:=by
  induction h with
  | nil=>exact .v r .nil
  | v r0 t ih =>
    rename_i g d0 v0 fs0 vs0 qs0
    show FlsR K Φ H (if g=f then _ else _) (if g=f then _ else _) _
    by_cases c:g=f
    · rw [if_pos c,if_pos c];exact .v r t
    · rw [if_neg c,if_neg c]
      refine .v r0 (ih ?_)
      unfold qiO at hc ⊢
      rw [List.lookup_cons,show (f == g)=false from beq_false_of_ne fun z=>c z.symm] at hc
      exact hc
  | l a1 a2 t ih =>
    rename_i g d0 w0 q0 fs0 vs0 qs0
    show FlsR K Φ H (if g=f then _ else _) (if g=f then _ else _) _
    by_cases c:g=f
    · subst c
      unfold qiO at hc
      rw [List.lookup_cons,beq_self_eq_true] at hc
      cases hc
    · rw [if_neg c,if_neg c]
      refine .l a1 a2 (ih ?_)
      unfold qiO at hc ⊢
      rw [List.lookup_cons,show (f == g)=false from beq_false_of_ne fun z=>c z.symm] at hc
      exact hc
  | al t ih =>
    rename_i g p0 fs0 vs0 qs0
    show FlsR K Φ H (if g=f then _ else _) (if g=f then _ else _) _
    by_cases c:g=f
    · subst c
      unfold qiO at hc
      rw [List.lookup_cons,beq_self_eq_true] at hc
      cases hc
    · rw [if_neg c,if_neg c]
      refine .al (ih ?_)
      unfold qiO at hc ⊢
      rw [List.lookup_cons,show (f == g)=false from beq_false_of_ne fun z=>c z.symm] at hc
      exact hc
theorem FlsR.setL {q:Addr} (h:FlsR K Φ H fs vs qs) (hc:fs.lookup f=none) (hq:H q=some (.lst ws)) (r:RpL K Φ ds ws):FlsR K Φ H (qcZ f (.l ds) fs) (qc2 f (.ref q) vs) (qs++[q]):=by
  have tail:∀ {g:Str} {y:Fl} {r:List (Str × Fl)},List.lookup f ((g,y)::r)=none→g≠f∧r.lookup f=none:=fun {g y r} e=>by
    rw [List.lookup_cons] at e
    cases c:f == g with
    | true=>rw [c] at e;cases e
    | false=>rw [c] at e;exact ⟨(fun z=>by rw [z,beq_self_eq_true] at c;cases c),e⟩
  induction h with
  | nil=>exact .l hq r .nil
  | v r0 t ih =>
    rename_i g d0 v0 fs0 vs0 qs0
    obtain ⟨c,hc⟩:=tail hc
    show FlsR K Φ H (if g=f then _ else _) (if g=f then _ else _) _
    rw [if_neg c,if_neg c];exact .v r0 (ih hc)
  | l a1 a2 t ih =>
    rename_i g d0 w0 q0 fs0 vs0 qs0
    obtain ⟨c,hc⟩:=tail hc
    show FlsR K Φ H (if g=f then _ else _) (if g=f then _ else _) _
    rw [if_neg c,if_neg c];exact .l a1 a2 (ih hc)
  | al t ih =>
    rename_i g p0 fs0 vs0 qs0
    obtain ⟨c,hc⟩:=tail hc
    show FlsR K Φ H (if g=f then _ else _) (if g=f then _ else _) _
    rw [if_neg c,if_neg c];exact .al (ih hc)
theorem FlsR.len (h:FlsR K Φ H fs vs qs):vs.length=fs.length:=by have:=congrArg List.length h.names;rwa [List.length_map,List.length_map] at this
end
section
variable {K : PySem.W.Frag} {X : Cx} {Φ0 H0 Φ H : Hp} {σ τ : St} {ρ κ : qau} {Rx : XD → qau → Prop} {a : Option Addr} {nm f : Str} {fs : List (Str × Fl)} {ds : List D} {i : Nat} {C : Addr}
theorem EnvM.flist (E:EnvM K H0 Φ H σ ρ) (g:Gr Φ0 H0 Φ H) (hC:PySem.W.nsIn K mainGlobals nm=some (some (.ref C))) (hi:ρ[i]?=some (some (.ob a (.obj nm fs)))) (hf:fs.lookup f=some (.l ds)):∃ p dx vs q ws,σ[i]?=some (some (.ref p))∧H p=some (.ins C dx vs)∧vs.lookup f=some (.ref q)∧H q=some (.lst ws)∧RpL K Φ ds ws ∧
    ∀ (es:List D) (ws':List V),RpL K Φ es ws'→EnvM K H0 Φ (upd H q (.lst ws')) σ (ρ.set i (some (.ob a (.obj nm (qcZ f (.l es) fs)))))∧Gr Φ0 H0 Φ (upd H q (.lst ws')):=by
  obtain ⟨fp,E⟩:=E
  obtain ⟨p,e,_,r⟩:=E.ow i a _ hi
  obtain ⟨C',dx,vs,qs,eF,c1,c2,c3,nd⟩:=r.obj_inv
  rw [hC] at c1
  cases c1
  rw [List.nodup_cons] at nd
  obtain ⟨q,ws,l1,l2,l3,l4,l5⟩:=c3.look nd.2 hf
  have hqF:q∈fp i:=by rw [eF];exact List.mem_cons_of_mem _ l2
  have hpq:p≠q:=fun z=>nd.1 (z ▸ l2)
  refine ⟨p,dx,vs,q,ws,e,c2,l1,l3,l4,fun es ws' rw'=>?_⟩
  have hH:∀ b u,H b=some u→b∉fp i→upd H q (.lst ws') b=some u:=fun b u e hn=>by
    rw [qag fun z=>hn (by rw [z];exact hqF)]
    exact e
  refine ⟨⟨_,E.put hi e hH (F':=p::qs) (.obj hC ((qag hpq).trans c2) (l5 _ es ws' (fun b hb hne u hu=>by rw [qag hne];exact hu) qai rw') (List.nodup_cons.mpr nd)) fun b hb=>.inl (by rw [eF];exact hb)⟩,E.grput g hi hH⟩
theorem StM.flist (S:StM K X Φ0 H0 Φ H σ τ ρ κ Rx) (hC:PySem.W.nsIn K mainGlobals nm=some (some (.ref C))) (hi:ρ[i]?=some (some (.ob a (.obj nm fs)))) (hf:fs.lookup f=some (.l ds)):∃ p dx vs q ws,σ[i]?=some (some (.ref p))∧H p=some (.ins C dx vs)∧vs.lookup f=some (.ref q)∧H q=some (.lst ws)∧RpL K Φ ds ws ∧
    ∀ (es:List D) (ws':List V),RpL K Φ es ws'→StM K X Φ0 H0 Φ (upd H q (.lst ws')) σ τ (ρ.set i (some (.ob a (.obj nm (qcZ f (.l es) fs))))) κ Rx:=by
  have hlt:=qal hi
  obtain ⟨p,dx,vs,q,ws,e,h1,h2,h3,h4,h5⟩:=S.E.flist (i:=i) S.g hC (by rw [List.getElem?_append_left hlt];exact hi) hf
  rw [List.getElem?_append_left (by rw [← S.l];exact hlt)] at e
  refine ⟨p,dx,vs,q,ws,e,h1,h2,h3,h4,fun es ws' r=>?_⟩
  obtain ⟨z1,z2⟩:=h5 es ws' r
  refine ⟨z2,by rw [List.length_set];exact S.l,?_,S.x⟩
  rw [List.set_append_left _ _ hlt] at z1
  exact z1
theorem EnvM.fsetV {d:D} {v:V} (E:EnvM K H0 Φ H σ ρ) (g:Gr Φ0 H0 Φ H) (hC:PySem.W.nsIn K mainGlobals nm=some (some (.ref C))) (hi:ρ[i]?=some (some (.ob a (.obj nm fs)))) (hc:qiO f fs=true) (r:Rp K Φ d v):∃ p dx vs,σ[i]?=some (some (.ref p))∧H p=some (.ins C dx vs)∧vs.length=fs.length ∧
    EnvM K H0 Φ (upd H p (.ins C dx (qc2 f v vs))) σ (ρ.set i (some (.ob a (.obj nm (qcZ f (.v d) fs)))))∧Gr Φ0 H0 Φ (upd H p (.ins C dx (qc2 f v vs))):=by
  obtain ⟨fp,E⟩:=E
  obtain ⟨p,e,_,ro⟩:=E.ow i a _ hi
  obtain ⟨C',dx,vs,qs,eF,c1,c2,c3,nd⟩:=ro.obj_inv
  rw [hC] at c1
  cases c1
  have hpF:p∈fp i:=by rw [eF];exact List.mem_cons_self
  have hH:∀ b u,H b=some u→b∉fp i→upd H p (.ins C dx (qc2 f v vs)) b=some u:=fun b u e hn=>by
    rw [qag fun z=>hn (by rw [z];exact hpF)]
    exact e
  have nd':=nd
  rw [List.nodup_cons] at nd'
  refine ⟨p,dx,vs,e,c2,c3.len,⟨_,E.put hi e hH (F':=p::qs) (.obj hC qai ((c3.setV hc r).keep (Same.refl _) fun b hb u hu=>by rw [qag (show b≠p from fun z=>nd'.1 (by rw [← z];exact hb))];exact hu) nd) fun b hb=>.inl (by rw [eF];exact hb)⟩,E.grput g hi hH⟩
end
def qnL (ρ:qau) (i:Nat) (nm f:Str) (k:Option Addr→List (Str × Fl)→List D→Prop):Prop:=∃ a fs ds,ρ[i]?=some (some (.ob a (.obj nm fs)))∧fs.lookup f=some (.l ds)∧k a fs ds
section
variable {K : PySem.W.Frag} {X : Cx} {e a b : Expr} {te : TX} {t tb : TD} {pos npos apos cpos fpos spos : Pos} {x nm f : Str} {C : Addr}
def qna (i:Nat) (nm f:Str) (t:TD):TSM:=fun De ρ=>qnL ρ i nm f fun a fs ds=>t (qiy ρ) fun d=>NoL d∧ds.length<sizeLine∧NF (qcZ f (.l (ds++[d])) fs) fun fs'=>De.nx (ρ.set i (some (.ob a (.obj nm fs'))))
theorem qks (i:Nat) (c:Cls K C) (nA:NoAttr K C f) (hC:PySem.W.nsIn K mainGlobals nm=some (some (.ref C))) (he:PD K X e t) (hfew:((backTo cpos (starEach [e] X.env)).all (fun x=>!x.1) && (backToKw cpos (keywordEach [] X.env)).all (fun x=>x.1.isSome) && decide (([e]:List Expr).length+([]:List Keyword).length+(if ([]:List Keyword).isEmpty then 0 else 1)<30))=true)
    (hse:starEach [e] X.env=(false,eval e X.env)::starEach [] X.env) (hN:X.N[i]?=some x:=by rfl) (hv:Vis X.env.scope x:=by first | exact Or.inl rfl | exact Or.inr (Or.inl rfl) | exact Or.inr (Or.inr rfl)) (hd:(x == ("__debug__":Str))=false:=by decide) (hcd:(x == ("__classdict__":Str))=false:=by decide)
    (hb0:attributeBase (.Name x npos) f X.env (eval (.Name x npos) X.env)=eval (.Name x npos) X.env:=by rfl)
    (hbase:attributeBase (.Attribute (.Name x npos) f fpos) "append" X.env (eval (.Attribute (.Name x npos) f fpos) X.env)=eval (.Attribute (.Name x npos) f fpos) X.env:=by rfl) (hline:(apos.endLine == cpos.line)=true:=by rfl) (hs:swapsWith (.Call (.Attribute (.Attribute (.Name x npos) f fpos) "append" apos) [e] [] cpos) none pos.line X.env=pure false:=by rfl) :
    PSM K X (.Expr (.Call (.Attribute (.Attribute (.Name x npos) f fpos) "append" apos) [e] [] cpos) pos) (qna i nm f t) :=
  ⟨fun hK=>(qfn (qkS PySem.F.plainAttrs_list PySem.F.slot_list_append PySem.F.type_list_append qdn (qfq hK (pv i hN hv hd hcd) hb0) (qa9 (he.pe hK) pa_nil hse) hbase hfew hline hse qaf) hs).imp fun E σ H hq0=>by
    obtain ⟨Φ0,H0,Φ,ρ,De,g,V,⟨a0,fs0,ds0,ho,hf,t⟩,k⟩:=hq0
    have S:=st0 g V k.ex
    obtain ⟨p,dx,vs,q,ws,e1,h1,h2,h3,rl,_⟩:=S.flist hC ho hf
    obtain ⟨fp,E0⟩:=id V
    refine ⟨_,e1,p,C,dx,vs,.ref q,rfl,h1,c,nA,h2,.inl ⟨rfl,ws,SqL.of h3⟩,H0,_,qiy ρ,_,E0.view,t,fun d Φ1 H1 v r g1 rv=>?_⟩
    have S1:=S.gr (qe7 E0.fz g1)
    obtain ⟨p',dx',vs',q',ws',e1',h1',h2',h3',rl',k1⟩:=S1.flist hC ho hf
    rw [e1] at e1'
    cases e1'
    rw [g1.h _ _ h1] at h1'
    cases h1'
    rw [h2] at h2'
    cases h2'
    have S2:=k1 _ _ (rl'.append (.one (rv.thawN (view_same.trans g1.f) r.1)))
    exact ⟨q,ws',v,rfl,rfl,h3',by rw [rl'.1];exact r.2.1,k.nx _ _ _ σ r.2.2.get S2.g S2.env⟩⟩
def qmK (i:Nat) (nm f:Str):TX:=fun ρ R _=>qnL ρ i nm f fun a fs ds=>∃ d,ds[ds.length - 1]?=some d∧NF (qcZ f (.l ds.dropLast) fs) fun fs'=>R (.v d) (ρ.set i (some (.ob a (.obj nm fs'))))
theorem ql2 (i:Nat) (c:Cls K C) (nA:NoAttr K C f) (hC:PySem.W.nsIn K mainGlobals nm=some (some (.ref C))) (hN:X.N[i]?=some x:=by rfl) (hv:Vis X.env.scope x:=by first | exact Or.inl rfl | exact Or.inr (Or.inl rfl) | exact Or.inr (Or.inr rfl)) (hd:(x == ("__debug__":Str))=false:=by decide) (hcd:(x == ("__classdict__":Str))=false:=by decide)
    (hb0:attributeBase (.Name x npos) f X.env (eval (.Name x npos) X.env)=eval (.Name x npos) X.env:=by rfl)
    (hbase:attributeBase (.Attribute (.Name x npos) f fpos) "pop" X.env (eval (.Attribute (.Name x npos) f fpos) X.env)=eval (.Attribute (.Name x npos) f fpos) X.env:=by rfl) (hline:(apos.endLine == cpos.line)=true:=by rfl):PX K X (.Call (.Attribute (.Attribute (.Name x npos) f fpos) "pop" apos) [] [] cpos) (qmK i nm f) :=
  ⟨fun hK=>(qiJ PySem.F.plainAttrs_list PySem.F.slot_list_pop PySem.F.type_list_pop qiP (qfq hK (pv i hN hv hd hcd) hb0) hbase hline).imp fun σ H Q hq0=>by
    obtain ⟨Φ0,H0,Φ,τ,ρ,κ,R,Rx,S,⟨a0,fs0,ds0,ho,hf,d,hdd,t⟩,k⟩:=hq0
    obtain ⟨p,dx,vs,q,ws,e1,h1,h2,h3,rl,k1⟩:=S.flist hC ho hf
    obtain ⟨v,hv,rv⟩:=rl.at hdd
    rw [← rl.1] at hv
    have S2:=k1 _ _ rl.dropLast
    exact ⟨_,e1,p,C,dx,vs,.ref q,rfl,h1,c,nA,h2,.inl ⟨rfl,ws,SqL.of h3⟩,q,ws,v,rfl,rfl,h3,hv,k _ _ Φ _ v t.get (S2.pushV rv) (Same.refl _)⟩⟩
def qmN (i:Nat) (nm f:Str) (te:TX):TSM:=fun De ρ=>te ρ (xV fun d ρ1=>∃ a fs,ρ1[i]?=some (some (.ob a (.obj nm fs)))∧qiO f fs=true∧fs.length<1000∧NF (qcZ f (.v d) fs) fun fs'=>De.nx (ρ1.set i (some (.ob a (.obj nm fs'))))) De.ex
theorem qdI (i:Nat) (c:Cls K C) (nA:NoAttr K C f) (hC:PySem.W.nsIn K mainGlobals nm=some (some (.ref C))) (he:PX K X e te) (hN:X.N[i]?=some x:=by rfl) (hv:Vis X.env.scope x:=by first | exact Or.inl rfl | exact Or.inr (Or.inl rfl) | exact Or.inr (Or.inr rfl)) (hd:(x == ("__debug__":Str))=false:=by decide) (hcd:(x == ("__classdict__":Str))=false:=by decide)
    (hs:swapsWith e (some (.Attribute (.Name x npos) f fpos)) pos.line X.env=pure false:=by rfl):PSM K X (.Assign [.Attribute (.Name x npos) f fpos] e pos) (qmN i nm f te) :=
  ⟨fun hK=>(qiR (f:=f) (pv i hN hv hd hcd) (he.pe hK) hs).imp fun E σ H hq0=>by
    obtain ⟨Φ0,H0,Φ,ρ,De,g,V,t,k⟩:=hq0
    refine ⟨Φ0,H0,Φ,[],ρ,[],_,De.ex,st0 g V k.ex,t,fun s ρ1 Φ1 H1 v r S1 _=>?_⟩
    obtain ⟨d,rfl,a0,fs0,ho,hc,hl,r⟩:=r.get
    obtain ⟨p,dx,vs,e1,h1,h2,E',g'⟩:=S1.env.fsetV (f:=f) S1.g hC ho hc S1.last
    exact ⟨_,e1,p,C,dx,vs,rfl,h1,hK ▸ c,hK ▸ nA,by rw [h2];exact hl,k.nx _ Φ1 _ σ r.get g' E'⟩⟩
end
theorem FlsR.lookN {K:PySem.W.Frag} {Φ H:Hp} {fs:List (Str × Fl)} {vs:List (Str × V)} {qs:List Addr} {f:Str} (h:FlsR K Φ H fs vs qs) (hf:fs.lookup f=none):vs.lookup f=none:=by
  have tail:∀ {α:Type} {g:Str} {y:α} {r:List (Str × α)},List.lookup f ((g,y)::r)=none→(f == g)=false∧r.lookup f=none:=fun {α g y r} e=>by
    rw [List.lookup_cons] at e
    cases c:f == g with
    | true=>rw [c] at e;cases e
    | false=>rw [c] at e;exact ⟨rfl,e⟩
  induction h with
  | nil=>rfl
  | v r t ih=>obtain ⟨c,hf⟩:=tail hf;rw [List.lookup_cons,c];exact ih hf
  | l a1 a2 t ih=>obtain ⟨c,hf⟩:=tail hf;rw [List.lookup_cons,c];exact ih hf
  | al t ih=>obtain ⟨c,hf⟩:=tail hf;rw [List.lookup_cons,c];exact ih hf
structure MthM (P:Program) (w:World) (K:PySem.W.Frag) (mg:Str→Option Value) (base:Heap) (n:Nat) (C:Addr) (m:Str) (ps:List Str) (z:SpM):Prop where
  ex:∃ (f:Addr) (fd:FuncData),FnOk P w K mg base CX0 n f fd ps (qds K z)∧Binds K fd ps []∧Meth K C m f
structure MkM (P:Program) (w:World) (K:PySem.W.Frag) (mg:Str→Option Value) (base:Heap) (n:Nat) (C:Addr) (ps:List Str) (z:SpM):Prop where
  ex:∃ (f:Addr) (fd:FuncData),FnOk P w K mg base CX0 n f fd ps (qds K z)∧Binds K fd ps []∧Mk K C f
section
variable {K : PySem.W.Frag} {X : Cx} {e : Expr} {es : List Expr} {pos p apos npos : Pos} {tA : TXA} {C : Addr} {nm m x : Str}
def qjB (i:Nat) (nm m:Str) (z:SpM) (tA:TXA):TX:=fun ρ R Rx=>(∃ a fs,ρ[i]?=some (some (.ob a (.obj nm fs)))∧fs.lookup m=none)∧tA ρ (fun as ρ1=>∃ sms,qbA ρ1 (.s i::as)=some sms∧qek (.s i::as)=true∧z sms (fun sm os=>R sm (qbk ρ1 (.s i::as) os)) (fun xd os=>Rx xd (qbk ρ1 (.s i::as) os))) Rx
theorem qfx (i:Nat) {n:Nat} {ps:List Str} {z:SpM} {pl:Sem Bool} (M:MthM X.prog X.w K X.mg X.base n C m ps z) (hr:Room n X.A) (c:Cls K C) (hC:PySem.W.nsIn K mainGlobals nm=some (some (.ref C)))
    (ha:PXA K X (e::es) tA) (he:starEach (e::es) X.env=(false,eval e X.env)::starEach es X.env) (hpl:(backTo pos (starEach es X.env)).any (·.1)=false)
    (ht:eval (.Call (.Attribute (.Name x npos) m apos) (e::es) [] pos) X.env=(do
      let ov ← eval (.Name x npos) X.env
      standAt apos.atName
      let (f,first) ← holding [ov] (getMethod ov m pl)
      callWith pos f first (backTo pos (starEach (e::es) X.env)) (backToKw pos (keywordEach [] X.env))):=by rfl)
    (hN:X.N[i]?=some x:=by rfl) (hv:Vis X.env.scope x:=by first | exact Or.inl rfl | exact Or.inr (Or.inl rfl) | exact Or.inr (Or.inr rfl)) (hd:(x == ("__debug__":Str))=false:=by decide) (hcd:(x == ("__classdict__":Str))=false:=by decide) :
    PX K X (.Call (.Attribute (.Name x npos) m apos) (e::es) [] pos) (qjB i nm m z tA):=⟨fun hK=>by
  obtain ⟨f,fd,F,b,hm⟩:=M.ex
  refine (qkg (dvs:=[]) (ds:=[]) (E:=E0) (pl:=pl) (pv i hN hv hd hcd) (hK ▸ c) (hK ▸ hm) (hK ▸ F:FnOk X.prog X.w X.K X.mg X.base CX0 n f fd ps (qds K z)) hr (hK ▸ b) .nil qgk (ha.pa hK) he hpl ht).imp fun σ H Q hq0=>?_
  obtain ⟨Φ0,H0,Φ,τ,ρ,κ,R,Rx,S,⟨⟨a,fs,ho,hl⟩,t⟩,k⟩:=hq0
  obtain ⟨fp,E⟩:=S.env
  obtain ⟨q,e1,_,ro⟩:=E.ow i a _ ho
  obtain ⟨C',dx,vs,qs,eF,c1,c2,c3,nd⟩:=ro.obj_inv
  rw [hC] at c1
  cases c1
  refine ⟨_,e1,q,dx,vs,rfl,c2,c3.lookN hl,Φ0,H0,Φ,τ,ρ,κ,_,Rx,S,t,fun as ρ1 Φ1 H1 us ts r1 hl hv S1 f1=>?_⟩
  obtain ⟨sms,hres,hsl,r1⟩:=r1
  obtain ⟨Fs,g1,g2,g3,g4⟩:=S1.lend (as:=.s i::as) S.lk hres (.s e1 hv) hsl
  rw [List.append_nil]
  exact ⟨Φ1,sms,Fs,_,_,S1.g.s,S1.E.tb,g1,g2,g3,r1,fun sm os Φ' H' v F Fs' r gr hr' ho hn hno=>k sm _ Φ' H' v r (g4 sm os Φ' H' v F Fs' gr hr' ho hn hno) (f1.trans gr.f)⟩⟩
def qmC (nm:Str) (z:SpM) (tA:TXA):TX:=fun ρ R Rx=>tA ρ (xaD fun ds ρ1=>z (.ob none (.obj nm [])::ds.map Sm.v) (fun sm os=>match sm,os with | .v .non,[o]=>R (.ob none o) ρ1 | _,_=>False) (fun _ _=>False)) Rx
theorem qhp {Φ H:Hp}:∀ {ds:List D} {vs:List V},RpL K Φ ds vs→ArgM K Φ H (ds.map Sm.v) vs (ds.map fun _=>[])
  | [],[],_=>.nil
  | [],_::_,h=>by cases h.1
  | _::_,[],h=>by cases h.1
  | d::ds,v::vs,h=>.v (h.2 0 v d rfl rfl) (qhp ⟨by have:=h.1;simpa using this,fun i v' d' hv hd=>h.2 (i+1) v' d' hv hd⟩)
theorem qhv {Φ H:Hp}:∀ {ds:List D} {vs:List V} {os:List Om} {Fs:List (List Addr)},OutM K Φ H (ds.map Sm.v) vs os Fs→os=[]∧Fs.flatten=[]
  | [],_,_,_,.nil=>⟨rfl,rfl⟩
  | _::ds,_,_,_,.v h=>by obtain ⟨h1,h2⟩:=qhv (ds:=ds) h;exact ⟨h1,by rw [List.flatten_cons,h2];rfl⟩
theorem qc3 {α β:Type}:∀ (ds:List α),(ds.map fun _=>([]:List β)).flatten=[]
  | []=>rfl
  | _::ds=>by rw [List.map_cons,List.flatten_cons,qc3 ds];rfl
theorem qlI {n:Nat} {ps:List Str} {z:SpM} (M:MkM X.prog X.w K X.mg X.base n C ps z) (hr:Room (n+1) X.A) (hg:Gl X x) (hm:X.mg x=some (.ref C)) (hC:PySem.W.nsIn K mainGlobals x=some (some (.ref C)))
    (ha:PXA K X (e::es) tA) (he:starEach (e::es) X.env=(false,eval e X.env)::starEach es X.env) (hpl:(backTo pos (starEach es X.env)).any (·.1)=false) (hdb:(x == ("__debug__":Str))=false:=by decide) :
    PX K X (.Call (.Name x p) (e::es) [] pos) (qmC x z tA):=⟨fun hK=>by
  obtain ⟨f,fd,F,b,mk⟩:=M.ex
  refine (qjx (dvs:=[]) (ds:=[]) (E:=E0) (hK ▸ mk) (hK ▸ F:FnOk X.prog X.w X.K X.mg X.base CX0 n f fd ps (qds K z)) hr hg hm (hK ▸ b) .nil qgk (ha.pa hK) hdb he hpl).imp fun σ H Q hq0=>?_
  obtain ⟨Φ0,H0,Φ,τ,ρ,κ,R,Rx,S,t,k⟩:=hq0
  refine ⟨Φ0,H0,Φ,τ,ρ,κ,_,Rx,S,t,fun as ρ1 Φ1 H1 vs ts r1 hl hv S1 f1=>?_⟩
  obtain ⟨ds,hd,r1⟩:=r1.get
  have rl:=S1.vals S.lk hd hv
  intro y dy hy hdy hne
  rw [List.append_nil]
  have old:∀ b u,H1 b=some u→upd (upd H1 dy (.own y)) y (.ins C dy []) b=some u:=fun b u e=>by
    rw [qag (qan e hy),qag (qan e hdy)]
    exact e
  refine ⟨Φ1,_,_,_,_,fun b u e=>old b u (S1.g.s b u e),S1.E.tb,.o (.obj hC qai .nil (by simp)) (qhp rl),?_,fun b hb=>?_,r1,fun sm os Φ' H' v F Fs' r gr hr' ho hn hno=>?_⟩
  · rw [List.flatten_cons,qc3];simp
  · rw [List.flatten_cons,qc3,List.append_nil,List.mem_singleton] at hb
    rw [hb]
    exact S1.g.s.free hy
  · split at r
    · next o =>
      cases hr' with
      | v rv =>
        cases rv
        cases ho with
        | o ho1 ho2 =>
          rename_i F' Fs'
          obtain ⟨_,eF⟩:=qhv ho2
          have hfl:(([y]:List Addr)::ds.map fun _=>([]:List Addr)).flatten=[y]:=by rw [List.flatten_cons,qc3];rfl
          rw [hfl] at gr hno
          have up:∀ b u,H1 b=some u→qaL (upd (upd H1 dy (.own y)) y (.ins C dy [])) [y] b=some u:=fun b u e=>by
            rw [qa0 fun z=>qan e hy (List.mem_singleton.mp z)]
            exact old b u e
          have g':Gr Φ1 H1 Φ' H':=⟨gr.f,fun b u e=>gr.h b u (up b u e),gr.s,fun b u h1 h2 k=>gr.o b u (up b u h1) h2 k⟩
          refine ⟨rfl,k _ ρ1 Φ' H' _ r ((S1.pop S.lk).pushO g' ho1 fun b hb=>?_) (f1.trans gr.f)⟩
          obtain ⟨z1,z2⟩:=hno b (by rw [List.nil_append,List.flatten_cons];exact List.mem_append.mpr (.inl hb))
          refine ⟨?_,z2⟩
          by_cases c:b=y
          · rw [c];exact hy
          · rw [qa0 (by simpa using c),qag c] at z1
            by_cases c2:b=dy
            · rw [c2];exact hdy
            · rwa [qag c2] at z1
    · exact r.elim⟩
end
section
variable {K : PySem.W.Frag} {H0 H H' Φ Φ' Φ0 : Hp} {σ σ2 : St} {ρ ρ2 : qau} {fp : Nat → List Addr} {F F' : List Addr} {o o' : Om} {p : Addr} {d : D} {v : V} {i : Nat} {a : Option Addr}
theorem EnvM'.put2 (E:EnvM' K H0 Φ H σ ρ fp) (hi:ρ[i]?=some (some (.ob a o))) (si:σ[i]?=some (some (.ref p))) (hH:∀ b u,H b=some u→b∉fp i→H' b=some u) (hO:OmS K Φ H' o' p F') (hF:∀ b∈F',b∈fp i∨(H0 b=none∧Φ b=none∧∀ (j:Nat) (a':Option Addr) (o2:Om),ρ[j]?=some (some (.ob a' o2))→b∉fp j)) :
    EnvM' K H0 Φ H' σ (ρ.set i (some (.ob a o'))) (fun j=>if j=i then F' else fp j):=by
  have hlt:=qal hi
  have cs:∀ {j:Nat} {x:Sm},(ρ.set i (some (Sm.ob a o')))[j]?=some (some x)→(j=i∧x=.ob a o')∨(j≠i∧ρ[j]?=some (some x)):=fun {j x} h=>by
    rcases qbU h with ⟨e,_,e1⟩ | ⟨e,h⟩
    · cases e1;exact .inl ⟨e,rfl⟩
    · exact .inr ⟨e,h⟩
  have nf:∀ b∈F',∀ (j:Nat) (a':Option Addr) (o2:Om),ρ[j]?=some (some (.ob a' o2))→j≠i→b∉fp j:=fun b hb j a' o2 hj c z=>by
    rcases hF b hb with h | ⟨_,_,h⟩
    · exact E.dj j i a' a o2 o hj hi c b z h
    · exact h j a' o2 hj z
  refine ⟨fun b u e=>hH b u (E.fz b u e) fun z=>?_,by rw [List.length_set,E.len],fun j d h=>?_,fun j a' o2 h=>?_,fun j a' o2 h b hb=>?_,fun j k a1 a2 o1 o2 hj hk c b hb hb2=>?_,E.tb⟩
  · rw [(E.no i a o hi b z).2] at e
    cases e
  · rcases cs h with ⟨_,h⟩ | ⟨_,h⟩
    · cases h
    · exact E.sl j d h
  · rcases cs h with ⟨c,h⟩ | ⟨c,h⟩
    · cases h
      subst c
      obtain ⟨q,e,ha,_⟩:=E.ow j a o hi
      rw [si] at e
      cases e
      exact ⟨p,si,ha,by rw [if_pos rfl];exact hO⟩
    · obtain ⟨q,e,ha,r⟩:=E.ow j a' o2 h
      refine ⟨q,e,ha,?_⟩
      rw [if_neg c]
      exact r.keep (Same.refl _) fun b hb u hu=>hH b u hu fun z=>E.dj j i a' a o2 o h hi c b hb z
  · rcases cs h with ⟨c,h⟩ | ⟨c,h⟩
    · rw [if_pos c] at hb
      rcases hF b hb with z | ⟨z1,z2,_⟩
      · exact E.no i a o hi b z
      · exact ⟨z1,z2⟩
    · rw [if_neg c] at hb
      exact E.no j a' o2 h b hb
  · rcases cs hj with ⟨cj,hj⟩ | ⟨cj,hj⟩
    · rw [if_pos cj] at hb
      rcases cs hk with ⟨ck,hk⟩ | ⟨ck,hk⟩
      · omega
      · rw [if_neg ck] at hb2
        exact nf b hb k a2 o2 hk ck hb2
    · rw [if_neg cj] at hb
      rcases cs hk with ⟨ck,hk⟩ | ⟨ck,hk⟩
      · rw [if_pos ck] at hb2
        exact nf b hb2 j a1 o1 hj cj hb
      · rw [if_neg ck] at hb2
        exact E.dj j k a1 a2 o1 o2 hj hk c b hb hb2
theorem EnvM.fsetL {nm f:Str} {fs:List (Str × Fl)} {ds:List D} {C:Addr} {a':Option Addr} (E:EnvM K H0 Φ H (σ++[some v]) (ρ++[some (.ob a' (.lst ds))])) (hl:ρ.length=σ.length) (g:Gr Φ0 H0 Φ H) (hC:PySem.W.nsIn K mainGlobals nm=some (some (.ref C))) (hi:ρ[i]?=some (some (.ob a (.obj nm fs)))) (hc:fs.lookup f=none):∃ p dx vs,σ[i]?=some (some (.ref p))∧H p=some (.ins C dx vs)∧vs.length=fs.length ∧
    EnvM K H0 Φ (upd H p (.ins C dx (qc2 f v vs))) σ (ρ.set i (some (.ob a (.obj nm (qcZ f (.l ds) fs)))))∧Gr Φ0 H0 Φ (upd H p (.ins C dx (qc2 f v vs))):=by
  obtain ⟨fp,E⟩:=E
  have hat:(ρ++[some (Sm.ob a' (.lst ds))])[ρ.length]?=some (some (.ob a' (.lst ds))):=by rw [List.getElem?_append_right (Nat.le_refl _),Nat.sub_self];rfl
  obtain ⟨q,eq,_,rq⟩:=E.ow _ _ _ hat
  have ev:v=.ref q:=by
    rw [hl,List.getElem?_append_right (Nat.le_refl _),Nat.sub_self] at eq
    cases eq;rfl
  subst ev
  obtain ⟨eFq,ws,q1,q2⟩:=rq.lst_inv
  have hq:q∈fp ρ.length:=by rw [eFq];exact List.mem_singleton.mpr rfl
  have noq:=E.no _ _ _ hat q hq
  have up:∀ {j:Nat} {x:Sm},ρ[j]?=some (some x)→(ρ++[some (Sm.ob a' (.lst ds))])[j]?=some (some x):=fun h=>by rw [List.getElem?_append_left (qal h)];exact h
  have djq:∀ (j:Nat) (a2:Option Addr) (o2:Om),ρ[j]?=some (some (.ob a2 o2))→q∉fp j:=fun j a2 o2 hj z=>E.dj j ρ.length a2 a' o2 _ (up hj) hat (by have:=qal hj;omega) q z hq
  have E1:EnvM' K H0 Φ H σ ρ fp:=E.take hl
  obtain ⟨p,e,_,ro⟩:=E1.ow i a _ hi
  obtain ⟨C',dx,vs,qs,eF,c1,c2,c3,nd⟩:=ro.obj_inv
  rw [hC] at c1
  cases c1
  have hpF:p∈fp i:=by rw [eF];exact List.mem_cons_self
  have hH:∀ b u,H b=some u→b∉fp i→upd H p (.ins C dx (qc2 f (.ref q) vs)) b=some u:=fun b u e hn=>by
    rw [qag fun z=>hn (by rw [z];exact hpF)]
    exact e
  have nd':=nd
  rw [List.nodup_cons] at nd'
  have hqn:q∉p::qs:=by rw [← eF];exact djq i a _ hi
  have nd2:(p::(qs++[q])).Nodup:=by
    rw [← List.cons_append,List.nodup_append]
    exact ⟨nd,by simp,fun b hb c hc z=>by rw [List.mem_singleton.mp hc] at z;exact hqn (z ▸ hb)⟩
  refine ⟨p,dx,vs,e,c2,c3.len,⟨_,E1.put2 hi e hH (F':=p::(qs++[q])) (.obj hC qai ((c3.setL hc q1 q2).keep (Same.refl _) fun b hb u hu=>?_) nd2) fun b hb=>?_⟩,E1.grput g hi hH⟩
  · rw [qag (show b≠p from fun z=>?_)]
    · exact hu
    · rw [List.nodup_cons] at nd2;exact nd2.1 (by rw [← z];exact hb)
  · rw [← List.cons_append] at hb
    rcases List.mem_append.mp hb with hb | hb
    · exact .inl (by rw [eF];exact hb)
    · rw [List.mem_singleton.mp hb]
      exact .inr ⟨noq.1,noq.2,djq⟩
end
section
variable {K : PySem.W.Frag} {X : Cx} {e a b : Expr} {te : TX} {t tb : TD} {pos npos apos cpos fpos spos : Pos} {x nm f : Str} {C : Addr}
def ql4 (i:Nat) (nm f:Str) (te:TX):TSM:=fun De ρ=>te ρ (fun s ρ1=>match s with | .ob _ (.lst ds)=>(∃ a fs,ρ1[i]?=some (some (.ob a (.obj nm fs)))∧fs.lookup f=none∧fs.length<1000∧NF (qcZ f (.l ds) fs) fun fs'=>De.nx (ρ1.set i (some (.ob a (.obj nm fs'))))) | _=>False) De.ex
theorem qjn (i:Nat) (c:Cls K C) (nA:NoAttr K C f) (hC:PySem.W.nsIn K mainGlobals nm=some (some (.ref C))) (he:PX K X e te) (hN:X.N[i]?=some x:=by rfl) (hv:Vis X.env.scope x:=by first | exact Or.inl rfl | exact Or.inr (Or.inl rfl) | exact Or.inr (Or.inr rfl)) (hd:(x == ("__debug__":Str))=false:=by decide) (hcd:(x == ("__classdict__":Str))=false:=by decide)
    (hs:swapsWith e (some (.Attribute (.Name x npos) f fpos)) pos.line X.env=pure false:=by rfl):PSM K X (.Assign [.Attribute (.Name x npos) f fpos] e pos) (ql4 i nm f te) :=
  ⟨fun hK=>(qiR (f:=f) (pv i hN hv hd hcd) (he.pe hK) hs).imp fun E σ H hq0=>by
    obtain ⟨Φ0,H0,Φ,ρ,De,g,V,t,k⟩:=hq0
    refine ⟨Φ0,H0,Φ,[],ρ,[],_,De.ex,st0 g V k.ex,t,fun s ρ1 Φ1 H1 v r S1 _=>?_⟩
    split at r
    · next a1 ds =>
      obtain ⟨a0,fs0,ho,hc,hl,r⟩:=r
      obtain ⟨p,dx,vs,e1,h1,h2,E',g'⟩:=EnvM.fsetL (f:=f) S1.E S1.l S1.g hC ho hc
      exact ⟨_,e1,p,C,dx,vs,rfl,h1,hK ▸ c,hK ▸ nA,by rw [h2];exact hl,k.nx _ Φ1 _ σ r.get g' E'⟩
    · exact r.elim⟩
end
section
variable {K : PySem.W.Frag} {H0 H Φ Φ0 : Hp} {σ : St} {ρ : qau} {fp : Nat → List Addr} {a : Option Addr} {nm : Str} {fs : List (Str × Fl)} {ds : List (Str × D)} {k : Nat}
end
section
variable {K : PySem.W.Frag} {X : Cx} {e a : Expr} {es : List Expr} {te : TX} {ta : TD} {tl : TDL} {pos npos apos cpos fpos spos p : Pos} {x y nm f m : Str} {C : Addr} {rest : List Stmt} {t : TSM}
structure MthD (P:Program) (w:World) (K:PySem.W.Frag) (mg:Str→Option Value) (base:Heap) (n:Nat) (C:Addr) (m:Str) (ps:List Str) (z:SpD):Prop where
  ex:∃ (f:Addr) (fd:FuncData),FnOk P w K mg base CX0 n f fd ps (lSp K z)∧Binds K fd ps []∧Meth K C m f
theorem qdU {Φ:Hp} {g:Str}:∀ {vs:List (Str × V)} {fs:List (Str × D)},vs.map (·.1)=fs.map (·.1)→fs.lookup g=none→vs.lookup g=none
  | [],_,_,_=>rfl
  | _::_,[],h,_=>by cases h
  | (x,v)::vs,(y,f)::fs,h,hl=>by
    rw [List.map_cons,List.map_cons] at h
    obtain ⟨h1,h2⟩:=List.cons.inj h
    have h1:x=y:=h1
    subst h1
    rw [List.lookup_cons] at hl ⊢
    cases c:g == x with
    | true=>rw [c] at hl;cases hl
    | false=>rw [c] at hl;exact qdU (Φ:=Φ) h2 hl
def qnx (nm m:Str) (z:SpD) (ta:TD) (tl:TDL):TD:=fun ρ R=>ta ρ fun x=>match x with | .obj nm' fs=>nm'=nm∧fs.lookup m=none∧tl ρ fun ds=>z (.obj nm' fs::ds) R | _=>False
end
section
variable {K : PySem.W.Frag} {X : Cx} {tg a : Expr} {pos p : Pos}
end
section
variable {P : Program} {w : World} {K : PySem.W.Frag} {mg : Str → Option Value} {base : Heap} {n m : Nat} {C : Addr} {x : Str} {ps : List Str}
theorem MthM.mono {z:SpM} (M:MthM P w K mg base n C x ps z) (k:n≤m):MthM P w K mg base m C x ps z:=by
  obtain ⟨f,fd,F,r⟩:=M.ex
  exact ⟨f,fd,F.mono k,r⟩
theorem MkM.mono {z:SpM} (M:MkM P w K mg base n C ps z) (k:n≤m):MkM P w K mg base m C ps z:=by
  obtain ⟨f,fd,F,r⟩:=M.ex
  exact ⟨f,fd,F.mono k,r⟩
theorem MthD.mono {z:SpD} (M:MthD P w K mg base n C x ps z) (k:n≤m):MthD P w K mg base m C x ps z:=by
  obtain ⟨f,fd,F,r⟩:=M.ex
  exact ⟨f,fd,F.mono k,r⟩
end
section
variable {K : PySem.W.Frag} {X : Cx} {tg iter elt e a : Expr} {ifs : List Expr} {scope : Scope} {pos py spos apos : Pos} {N' : List Str} {cap : List (Option Nat)} {ti : TDL} {g : TGD} {tc : TDB} {te ta tb : TD} {i : Nat} {y nm m : Str} {C : Addr}
theorem qgW {n:Nat} {ps:List Str} {z:SpD} {pl:Sem Bool} (M:MthD X.prog X.w K X.mg X.base n C m ps z) (hr:Room n X.A) (c:Cls K C) (hC:PySem.W.nsIn K mainGlobals nm=some (some (.ref C)))
    (hx:PD K X a ta) (ht:eval (.Call (.Attribute a m apos) [] [] pos) X.env=(do
      let ov ← eval a X.env
      standAt apos.atName
      let (f,first) ← holding [ov] (getMethod ov m pl)
      callWith pos f first (backTo pos (starEach [] X.env)) (backToKw pos (keywordEach [] X.env))):=by rfl) :
    PD K X (.Call (.Attribute a m apos) [] [] pos) (qnx nm m z ta qnk):=⟨fun hK=>by
  obtain ⟨f,fd,F,b,hm⟩:=M.ex
  refine (qih (dvs:=[]) (ds:=[]) (E:=E0) (pl:=pl) (hx.pe hK) (hK ▸ c) (hK ▸ hm) (hK ▸ F:FnOk X.prog X.w X.K X.mg X.base CX0 n f fd ps (lSp K z)) hr (hK ▸ b) .nil qgk ht).imp fun σ H Q hq0=>?_
  obtain ⟨H0,Φ,ρ,R,E,t,k⟩:=hq0
  refine ⟨H0,Φ,ρ,_,E,t,fun d Φ1 H1 v r g rv=>?_⟩
  cases d with
  | obj nm' fs =>
    obtain ⟨rfl,hl,r⟩:=r
    have rv0:=rv
    cases rv with
    | obj h0 h1 h2 h3 =>
      rw [hC] at h0
      cases h0
      refine ⟨_,_,_,rfl,g.s _ _ h1,qdU (Φ:=Φ1) h2 hl,Φ1,[_],R,g.s,E.tb.same g.f,?_,r,fun d Φ' H' v rd g' rv=>k d Φ' H' v rd (g.trans g') rv⟩
      refine ⟨rfl,fun i u d hu hd=>?_⟩
      cases i with
      | zero=>cases hu;cases hd;exact rv0
      | succ i=>cases hu
  | _=>exact r.elim⟩
end
section
variable {K : PySem.W.Frag} {X : Cx} {a b : Expr} {pos p p2 pos2 : Pos} {tl : TDL}
end
section
variable {K : PySem.W.Frag} {X : Cx}
end
section
variable {K : PySem.W.Frag} {X : Cx} {e : Expr} {tk : TD} {pos npos : Pos} {x : Str}
end
section
variable {K : PySem.W.Frag} {H0 H H' Φ Φ' Φ0 : Hp} {σ : St} {ρ : qau} {fp : Nat → List Addr} {p q : Addr} {i k : Nat}
end
section
variable {K : PySem.W.Frag} {X : Cx} {e a b : Expr} {es : List Expr} {te ta tb : TX} {tA : TXA} {pos p1 p2 p3 p4 : Pos}
end
def qcV (K:PySem.W.Frag) (mg:Str→Option Value) (sp:SpM):Sp:=fun vs H Q E=>∃ Φ as Fs R Rx,Same Φ H∧TabF K Φ∧ArgM K Φ H as vs Fs∧Fs.flatten.Nodup∧(∀ b∈Fs.flatten,Φ b=none)∧sp as R Rx ∧
  (∀ sm os Φ' H' v F Fs',R sm os→Gr Φ (qaL H Fs.flatten) Φ' H'→ResM K Φ' H' sm v F→OutM K Φ' H' as vs os Fs'→(F++Fs'.flatten).Nodup→(∀ b∈F++Fs'.flatten,qaL H Fs.flatten b=none∧Φ' b=none)→Q v H') ∧
  ∀ xd os C dx Φ' H' Fs',Rx xd os→Gr Φ (qaL H Fs.flatten) Φ' H'→OutM K Φ' H' as vs os Fs'→Fs'.flatten.Nodup→(∀ b∈Fs'.flatten,qaL H Fs.flatten b=none∧Φ' b=none)→mg xd.nm=some (.ref C)→XAt K H' xd.at_ dx→E (.ref C) dx H'
structure ClMX (P:Program) (w:World) (K:PySem.W.Frag) (mg:Str→Option Value) (base:Heap) (n:Nat) (x:Str) (ps:List Str) (z:SpM):Prop where
  ex:∃ (f:Addr) (fd:FuncData),FnOk P w K mg base (CXo P w) n f fd ps (qcV K mg z)∧Binds K fd ps []∧PySem.W.keepIn K (.ref f)=true∧mg x=some (.ref f)
structure MthMX (P:Program) (w:World) (K:PySem.W.Frag) (mg:Str→Option Value) (base:Heap) (n:Nat) (C:Addr) (m:Str) (ps:List Str) (z:SpM):Prop where
  ex:∃ (f:Addr) (fd:FuncData),FnOk P w K mg base (CXo P w) n f fd ps (qcV K mg z)∧Binds K fd ps []∧Meth K C m f
section
variable {P : Program} {w : World} {K : PySem.W.Frag} {mg : Str → Option Value} {base : Heap}
theorem Fun.okMX {x qual:Str} {st:Stmt} {f:Addr} {fd:FuncData} {N ps:List Str} {k:Nat} {sp:SpM} (F:Fun K x qual st f fd) (S:FnScope N ps (qae st)) (len:∀ as R Rx,sp as R Rx→as.length=ps.length)
    (hbody:∀ (cdv:Value) (A:Around) (outer:List Env) (s:Shared) (H:Hp) (E:XK) (as:List Sm) (R:Sm→List Om→Prop) (Rx:XD→List Om→Prop) (qs:List Addr),fd.code=cdv→Room k (A.deeper (envOfC qual (qae st) s.heap.objs.size f cdv))→sp as R Rx→qs.length=qjX as →
      ∃ t,PSsM K (qgy (CXo P w) P w K mg base N qual (qae st) f cdv A outer s H E) (qay st) t∧t { nx:=fun ρ=>qgx (R (.v .non)) as qs 0 ρ,rt:=fun sm ρ=>qgx (R sm) as qs 0 ρ,ex:=fun xd ρ=>qgx (Rx xd) as qs 0 ρ } (qaz N as qs)):FnOk P w K mg base (CXo P w) (k+1) f fd ps (qcV K mg sp):=by
  obtain ⟨oc,od,kV,doc,pm,an,cdv,ct,osl,rfl,lk,hcd⟩:=F.ex
  refine qiv lk hcd S (fun vs H Q E hq0=>?_) fun A outer s H vs Q E hr hq0=>?_
  · obtain ⟨Φ,as,Fs,R,Rx,sm,tb,ha,nd,hn,h,_⟩:=hq0
    rw [ha.len.1];exact len as R Rx h
  · obtain ⟨Φ,as,Fs,R,Rx,sm,tb,ha,nd,hn,h,kk,kx⟩:=hq0
    obtain ⟨t,ht,hq⟩:=hbody cdv A outer s H E as R Rx (qcd as vs) rfl hr h (qcr ha)
    rw [← qbw] at hq
    have fin:∀ sm ρ' Φ' H' v σ',qgx (R sm) as (qcd as vs) 0 ρ'→Gr Φ (qaL H Fs.flatten) Φ' H'→EnvM K (qaL H Fs.flatten) Φ' H' (σ'++[some v]) (ρ'++[some sm])→Q v H':=fun smr ρ' Φ' H' v σ' hk g V=>by
      obtain ⟨fp,E'⟩:=V
      have hl:σ'.length=ρ'.length:=by have:=E'.len;simpa using this
      obtain ⟨os,Fs',h1,h2,h3,h4,h5⟩:=qdx (k:=R smr) (E'.take hl.symm) ha hk
      have hat:(ρ'++[some smr])[ρ'.length]?=some (some smr):=by rw [List.getElem?_append_right (Nat.le_refl _),Nat.sub_self];rfl
      cases smr with
      | v d =>
        obtain ⟨u,hu,r⟩:=E'.sl _ d hat
        rw [← hl,List.getElem?_append_right (Nat.le_refl _),Nat.sub_self] at hu
        cases hu
        exact kk (.v d) os Φ' H' v [] Fs' h2 g (.v r) h1 (by simpa using h3) (fun b hb=>h4 b (by simpa using hb))
      | ob a o =>
        obtain ⟨u,hu,hau,r⟩:=E'.ow _ a o hat
        rw [← hl,List.getElem?_append_right (Nat.le_refl _),Nat.sub_self] at hu
        cases hu
        refine kk (.ob a o) os Φ' H' _ (fp ρ'.length) Fs' h2 g (.o hau r) h1 ?_ fun b hb=>?_
        · refine List.nodup_append.mpr ⟨r.nodup,h3,fun b hb c hc e=>?_⟩
          subst e
          obtain ⟨j,a2,o2,_,_,j3,j4⟩:=h5 b hc
          have hj:=qal j3
          exact E'.dj _ j a a2 o o2 hat (by rw [List.getElem?_append_left hj];exact j3) (by omega) b hb j4
        · rcases List.mem_append.mp hb with z | z
          · exact E'.no _ a o hat b z
          · exact h4 b z
    have g0:Gr Φ (qaL H Fs.flatten) Φ H:=⟨Same.refl _,qdP,sm,fun _ _ _ h _=>h⟩
    refine ⟨lM K _ t,ht.ps rfl,Φ,qaL H Fs.flatten,Φ,_,_,g0,qdJ sm tb ha nd hn,hq,⟨fun ρ' Φ' H' σ' r g V=>?_,fun smr ρ' Φ' H' v σ' r g V=>fin smr ρ' Φ' H' v σ' r g V,fun _ _ _ _ h=>h.elim,fun _ _ _ _ h=>h.elim,fun xd ρ' Φ' H' σ' z s' pins hw g V st=>?_⟩⟩
    · exact fin (.v .non) ρ' Φ' H' .non σ' r g (V.snocV .non)
    · obtain ⟨ea,C,T,dx,e1,F',hm,hat,fa,fT⟩:=st.ex
      subst e1
      obtain ⟨fp,E'⟩:=V
      obtain ⟨os,Fs',h1,h2,h3,h4,h5⟩:=qdx (k:=Rx xd) E' ha hw
      exact qhI st.inv F' ⟨fa.1,fa.2.1⟩ (fun T' z=>⟨(fT T' z).1,(fT T' z).2.1⟩) (kx xd os C dx Φ' H' Fs' h2 g h1 h3 h4 hm hat)
theorem Fun.clMX {x:Str} {st:Stmt} {f:Addr} {fd:FuncData} {ps:List Str} {n:Nat} {z:SpM} (F:Fun K x x st f fd) (m:mg x=some (.ref f)) (H:FnOk P w K mg base (CXo P w) n f fd ps (qcV K mg z))
    (b:∀ (kV doc pm:Value) (an:Option Addr) (cdv ct:Value) (us:List Value),us.length=ps.length→bindArgs (PySem.W.fnOf x x (qaP st) (qay st) (qae st) .none kV doc pm an cdv ct) ⟨us,[]⟩=pure (ps.zip us)):ClMX P w K mg base n x ps z:=⟨f,fd,H,F.binds b,F.kp,m⟩
theorem ClMX.mono {n m:Nat} {x:Str} {ps:List Str} {z:SpM} (C:ClMX P w K mg base n x ps z) (k:n≤m):ClMX P w K mg base m x ps z:=by
  obtain ⟨f,fd,F,r⟩:=C.ex
  exact ⟨f,fd,F.mono k,r⟩
theorem MthMX.mono {n m:Nat} {C:Addr} {x:Str} {ps:List Str} {z:SpM} (M:MthMX P w K mg base n C x ps z) (k:n≤m):MthMX P w K mg base m C x ps z:=by
  obtain ⟨f,fd,F,r⟩:=M.ex
  exact ⟨f,fd,F.mono k,r⟩
end
section
variable {X : Cx} {CX : CXT} {k : Nat} {C f : Addr} {fd : FuncData} {ps : List Str} {sp : Sp} {m : Str} {apos pos : Pos} {o e : Expr} {es : List Expr} {t : TA} {ta : TE}
def qiQ (CX:CXT) (X:Cx) (C:Addr) (m:Str) (sp:Sp) (ta:TE) (t:TA):TE:=fun σ H Q=>ta σ H fun x H1=>∃ a dx fs,x=.ref a∧H1 a=some (.ins C dx fs)∧fs.lookup m=none∧t σ H1 fun vs H2=>∃ E,qc4 CX X E σ H2∧sp (.ref a::vs) H2 Q E
theorem qhY {pl:Sem Bool} (he:PE X o ta) (c:Cls X.K C) (hm:Meth X.K C m f) (F:FnOk X.prog X.w X.K X.mg X.base CX k f fd ps sp) (hr:Room k X.A) (hb:Binds X.K fd ps []) (ha:PA X (e::es) t)
    (hst:starEach (e::es) X.env=(false,eval e X.env)::starEach es X.env) (hpl:(backTo pos (starEach es X.env)).any (·.1)=false)
    (ht:eval (.Call (.Attribute o m apos) (e::es) [] pos) X.env=(do
      let ov ← eval o X.env
      standAt apos.atName
      let (f,first) ← holding [ov] (getMethod ov m pl)
      callWith pos f first (backTo pos (starEach (e::es) X.env)) (backToKw pos (keywordEach [] X.env)))) :
    PE X (.Call (.Attribute o m apos) (e::es) [] pos) (qiQ CX X C m sp ta t):=by
  intro pins s σ H Q I h
  refine PySem.W.methodCall_KW (pl:=pl) (thn (he pins s σ H _ I h) fun u s1 hq0=>?_) ht
  obtain ⟨x,H1,I1,rx,a,dx,fs,ex,ea,l,q⟩:=hq0
  subst ex
  obtain rfl:u=Value.ref a:=rx
  refine qb4 I1 ea c hm l ?_
  refine PySem.W.callWith_K (first:=[.ref a]) (h₀:=X.base) I.ok.mod.kin hm.kp (thn (ha pos pins s1 σ H1 _ I1 q) fun us s2 hq1=>?_) hst hpl
  obtain ⟨vs,H2,I2,r,E,hx,q2⟩:=hq1
  exact ⟨I2.kIn,qe2 (us:=.ref a::us) (vs:=.ref a::vs) F hr hb hx I2 (.cons rfl r) q2⟩
theorem qg9 {pl:Sem Bool} (he:PE X o ta) (c:Cls X.K C) (hm:Meth X.K C m f) (F:FnOk X.prog X.w X.K X.mg X.base CX k f fd ps sp) (hr:Room k X.A) (hb:Binds X.K fd ps [])
    (ht:eval (.Call (.Attribute o m apos) [] [] pos) X.env=(do
      let ov ← eval o X.env
      standAt apos.atName
      let (f,first) ← holding [ov] (getMethod ov m pl)
      callWith pos f first (backTo pos (starEach [] X.env)) (backToKw pos (keywordEach [] X.env)))) :
    PE X (.Call (.Attribute o m apos) [] [] pos) (qiQ CX X C m sp ta qmO):=by
  intro pins s σ H Q I h
  refine PySem.W.methodCall_KW (pl:=pl) (thn (he pins s σ H _ I h) fun u s1 hq0=>?_) ht
  obtain ⟨x,H1,I1,rx,a,dx,fs,ex,ea,l,E,hx,q⟩:=hq0
  subst ex
  obtain rfl:u=Value.ref a:=rx
  refine qb4 I1 ea c hm l ?_
  exact PySem.W.callWith_K0 (first:=[.ref a]) I1.kIn hm.kp (qe2 (us:=[.ref a]) (vs:=[.ref a]) F hr hb hx I1 (.cons rfl .nil) q)
end
section
variable {K : PySem.W.Frag} {X : Cx} {e : Expr} {es : List Expr} {pos p apos npos : Pos} {tA : TXA} {C : Addr} {nm m x : Str}
theorem StM.lendX {z:SpM} {Φ0 H0 Φ H:Hp} {σ τ ts:St} {ρ κ:qau} {R:Sm→qau→Prop} {Rx:XD→qau→Prop} {as:List Ar} {sms:List Sm} {vs:List V} {Q:VK} (hK:X.K=K) (hex:X.ex=[]) (S:StM K X Φ0 H0 Φ H σ (τ++ts) ρ (κ++tsm as) Rx) (hl:κ.length=τ.length) (hr:qbA ρ as=some sms) (hv:ArV σ as vs ts) (hs:qek as=true)
    (hz:z sms (fun sm os=>R sm (qbk ρ as os)) (fun xd os=>Rx xd (qbk ρ as os))) (k:∀ sm ρ' Φ' H' v,R sm ρ'→StM K X Φ0 H0 Φ' H' σ (τ++[some v]) ρ' (κ++[some sm]) Rx→Same Φ Φ'→Q v H'):∃ E,qc4 (CXo X.prog X.w) X E σ H∧qcV K X.mg z vs H Q E:=by
  obtain ⟨Fs,g1,g2,g3,g4⟩:=S.lend hl hr hv hs
  refine ⟨fun cls dx H'=>∃ xd C Φ' os Fs',Rx xd (qbk ρ as os)∧Gr Φ (qaL H Fs.flatten) Φ' H'∧OutM K Φ' H' sms vs os Fs'∧Fs'.flatten.Nodup∧(∀ b∈Fs'.flatten,qaL H Fs.flatten b=none∧Φ' b=none)∧cls=.ref C∧X.mg xd.nm=some (.ref C)∧XAt K H' xd.at_ dx,fun pins s e' s' I hx=>?_,
    Φ,sms,Fs,_,_,S.g.s,S.E.tb,g1,g2,g3,hz,fun sm os Φ' H' v F Fs' r gr hr' ho hn hno=>k sm _ Φ' H' v r (g4 sm os Φ' H' v F Fs' gr hr' ho hn hno) gr.f,fun xd os C dx Φ' H' Fs' h1 h2 h3 h4 h5 h6 h7=>⟨xd,C,Φ',os,Fs',h1,h2,h3,h4,h5,rfl,h6,h7⟩⟩
  obtain ⟨ea,T,C,dx,H',e1,I',F',fa,fT,xd,C',Φ',os,Fs',hRx,g,ho,hn,hno,ec,hm,ha⟩:=CXo.at I hex hx
  cases ec
  subst e1
  have S2:=g4 (.v .non) os Φ' H' .non [] Fs' g (.v .non) ho (by simpa using hn) (fun b hb=>hno b (by simpa using hb))
  refine S2.x xd _ Φ' H' σ _ s' pins hRx S2.g (S2.pop hl).env ⟨I',ea,C,some T,dx,rfl,F',hm,hK ▸ ha,fa,fun T' z=>?_⟩
  cases z
  exact fT
theorem qfB {n:Nat} {ps:List Str} {z:SpM} (C:ClMX X.prog X.w K X.mg X.base n x ps z) (hr:Room n X.A) (hg:Gl X x) (hex:X.ex=[])
    (ha:PXA K X (e::es) tA) (he:starEach (e::es) X.env=(false,eval e X.env)::starEach es X.env) (hpl:(backTo pos (starEach es X.env)).any (·.1)=false) (hdb:(x == ("__debug__":Str))=false:=by decide) :
    PX K X (.Call (.Name x p) (e::es) [] pos) (qiz z tA):=⟨fun hK=>by
  obtain ⟨f,fd,F,b,k,m⟩:=C.ex
  refine (qin (hK ▸ F:FnOk X.prog X.w X.K X.mg X.base (CXo X.prog X.w) n f fd ps (qcV K X.mg z)) hr hg m (hK ▸ k) (hK ▸ b) (ha.pa hK) hdb he hpl).imp fun σ H Q hq0=>?_
  obtain ⟨Φ0,H0,Φ,τ,ρ,κ,R,Rx,S,t,k⟩:=hq0
  refine ⟨Φ0,H0,Φ,τ,ρ,κ,_,Rx,S,t,fun as ρ1 Φ1 H1 vs ts r1 hl hv S1 f1=>?_⟩
  obtain ⟨sms,hres,hsl,r1⟩:=r1
  exact S1.lendX (R:=R) hK hex S.lk hres hv hsl r1 fun sm ρ' Φ' H' v r S' s'=>k sm ρ' Φ' H' v r S' (f1.trans s')⟩
theorem qhh (i:Nat) {n:Nat} {ps:List Str} {z:SpM} {pl:Sem Bool} (M:MthMX X.prog X.w K X.mg X.base n C m ps z) (hr:Room n X.A) (hex:X.ex=[]) (c:Cls K C) (hC:PySem.W.nsIn K mainGlobals nm=some (some (.ref C)))
    (ha:PXA K X (e::es) tA) (he:starEach (e::es) X.env=(false,eval e X.env)::starEach es X.env) (hpl:(backTo pos (starEach es X.env)).any (·.1)=false)
    (ht:eval (.Call (.Attribute (.Name x npos) m apos) (e::es) [] pos) X.env=(do
      let ov ← eval (.Name x npos) X.env
      standAt apos.atName
      let (f,first) ← holding [ov] (getMethod ov m pl)
      callWith pos f first (backTo pos (starEach (e::es) X.env)) (backToKw pos (keywordEach [] X.env))):=by rfl)
    (hN:X.N[i]?=some x:=by rfl) (hv:Vis X.env.scope x:=by first | exact Or.inl rfl | exact Or.inr (Or.inl rfl) | exact Or.inr (Or.inr rfl)) (hd:(x == ("__debug__":Str))=false:=by decide) (hcd:(x == ("__classdict__":Str))=false:=by decide) :
    PX K X (.Call (.Attribute (.Name x npos) m apos) (e::es) [] pos) (qjB i nm m z tA):=⟨fun hK=>by
  obtain ⟨f,fd,F,b,hm⟩:=M.ex
  refine (qhY (pl:=pl) (pv i hN hv hd hcd) (hK ▸ c) (hK ▸ hm) (hK ▸ F:FnOk X.prog X.w X.K X.mg X.base (CXo X.prog X.w) n f fd ps (qcV K X.mg z)) hr (hK ▸ b) (ha.pa hK) he hpl ht).imp fun σ H Q hq0=>?_
  obtain ⟨Φ0,H0,Φ,τ,ρ,κ,R,Rx,S,⟨⟨a,fs,ho,hl⟩,t⟩,k⟩:=hq0
  obtain ⟨fp,E⟩:=S.env
  obtain ⟨q,e1,_,ro⟩:=E.ow i a _ ho
  obtain ⟨C',dx,vs,qs,eF,c1,c2,c3,nd⟩:=ro.obj_inv
  rw [hC] at c1
  cases c1
  refine ⟨_,e1,q,dx,vs,rfl,c2,c3.lookN hl,Φ0,H0,Φ,τ,ρ,κ,_,Rx,S,t,fun as ρ1 Φ1 H1 us ts r1 hl hv S1 f1=>?_⟩
  obtain ⟨sms,hres,hsl,r1⟩:=r1
  exact StM.lendX (R:=R) (as:=.s i::as) hK hex S1 S.lk hres (.s e1 hv) hsl r1 fun sm ρ' Φ' H' v r S' s'=>k sm ρ' Φ' H' v r S' (f1.trans s')⟩
theorem qfK (i:Nat) {n:Nat} {ps:List Str} {z:SpM} {pl:Sem Bool} (M:MthMX X.prog X.w K X.mg X.base n C m ps z) (hr:Room n X.A) (hex:X.ex=[]) (c:Cls K C) (hC:PySem.W.nsIn K mainGlobals nm=some (some (.ref C)))
    (ht:eval (.Call (.Attribute (.Name x npos) m apos) [] [] pos) X.env=(do
      let ov ← eval (.Name x npos) X.env
      standAt apos.atName
      let (f,first) ← holding [ov] (getMethod ov m pl)
      callWith pos f first (backTo pos (starEach [] X.env)) (backToKw pos (keywordEach [] X.env))):=by rfl)
    (hN:X.N[i]?=some x:=by rfl) (hv:Vis X.env.scope x:=by first | exact Or.inl rfl | exact Or.inr (Or.inl rfl) | exact Or.inr (Or.inr rfl)) (hd:(x == ("__debug__":Str))=false:=by decide) (hcd:(x == ("__classdict__":Str))=false:=by decide) :
    PX K X (.Call (.Attribute (.Name x npos) m apos) [] [] pos) (qjB i nm m z ql3):=⟨fun hK=>by
  obtain ⟨f,fd,F,b,hm⟩:=M.ex
  refine (qg9 (pl:=pl) (pv i hN hv hd hcd) (hK ▸ c) (hK ▸ hm) (hK ▸ F:FnOk X.prog X.w X.K X.mg X.base (CXo X.prog X.w) n f fd ps (qcV K X.mg z)) hr (hK ▸ b) ht).imp fun σ H Q hq0=>?_
  obtain ⟨Φ0,H0,Φ,τ,ρ,κ,R,Rx,S,⟨⟨a,fs,ho,hl⟩,t⟩,k⟩:=hq0
  obtain ⟨fp,E⟩:=S.env
  obtain ⟨q,e1,_,ro⟩:=E.ow i a _ ho
  obtain ⟨C',dx,vs,qs,eF,c1,c2,c3,nd⟩:=ro.obj_inv
  rw [hC] at c1
  cases c1
  obtain ⟨sms,hres,hsl,r1⟩:=t
  have S1:StM K X Φ0 H0 Φ H σ (τ++[]) ρ (κ++tsm [.s i]) Rx:=by rw [List.append_nil,show tsm [.s i]=[] from rfl,List.append_nil];exact S
  refine ⟨_,e1,q,dx,vs,rfl,c2,c3.lookN hl,?_⟩
  exact StM.lendX (R:=R) (as:=[.s i]) hK hex S1 S.lk hres (.s e1 .nil) hsl r1 fun sm ρ' Φ' H' v r S' s'=>k sm ρ' Φ' H' v r S' s'⟩
end
section
variable {K : PySem.W.Frag} {X : Cx} {e : Expr}
theorem qjA:PTD K X e (fun _ _=>False):=⟨fun _ _ _ _ _ _ _ h=>by obtain ⟨_,_,_,_,_,h,_⟩:=h;exact h.elim⟩
end
section
variable {K : PySem.W.Frag} {X : Cx} {isa : Str → Str → Bool} {names : List Str}
theorem qjw {rest:List ExceptHandler} {th:XD→EndsM→qau→Prop} {c:Str} {Da:Addr} {np hpos:Pos} {b₀:Stmt} {suite:List Stmt} {tu:TSM} (Ex:Exs X.K X.mg isa names) (hc:c∈names) (hg:Gl X c) (hm:X.mg c=some (.ref Da)) (hs:∀ pn e,PSsM K (X.held pn e) (b₀::suite) tu) (hr:PHM K X rest th)
    (hdb:(c == ("__debug__":Str))=false:=by decide) :
    PHM K X (.ExceptHandler (some (.Name c np)) none (b₀::suite) hpos::rest) (fun xd De ρ=>xd.nm∈names∧(isa xd.nm c=true→tu { nx:=De.nx,rt:=De.rt,bk:=De.bk,ct:=De.ct } ρ)∧(isa xd.nm c=false→th xd De ρ)) :=
  ⟨fun hK pins s σ H D ea T C dx xd Φ0 H0 Φ ρ De I F hnm hat fe fT g V t k=>by
    obtain ⟨hin,t1,t2⟩:=t
    obtain ⟨oe,he,hcl,hdx,vs,hvs⟩:=F.live
    obtain ⟨iC,kC⟩:=Ex.cls xd.nm hin C hnm s.heap I.kIn
    obtain ⟨iD,kD⟩:=Ex.cls c hc Da hm s.heap I.kIn
    have hsub:=Ex.sub xd.nm hin c hc C Da hnm hm s.heap I.kIn
    refine wpAny_handleBy_cons (codeAny_handlers_test (qbS (X:=X.held (X.pn++pins) (.ref ea)) (I.held (.ref ea)) hg hm ?_ hdb)) (by intro q;cases q)
    refine qeC kC kD he hcl ?_
    rw [hsub]
    cases hb:isa xd.nm c with
    | false=>exact hr.ph hK pins s σ H D ea T C dx xd Φ0 H0 Φ ρ De I F hnm hat fe fT g V (t2 hb) k
    | true =>
      refine codeAny_handlers_suite (qfV F fun h1 F1 k1 n1=>?_)
      have I1:Inv X pins σ H { s with heap:=h1 }:=I.passed (qdl k1 F.note (qcj I)) fe (fun T' z=>by cases z;exact fT) F.obj (fun T' z=>by cases z;exact F.note)
      have run:=(hs (X.pn++pins) (.ref ea)).ps hK [] _ _ _ { nx:=D.nx,rt:=D.rt,bk:=D.bk,ct:=D.ct } (I1.held (.ref ea)) ⟨Φ0,H0,Φ,_,_,g,V,t1 hb,⟨k.nx,k.rt,k.bk,k.ct,fun _ _ _ _ _ _ _ _ h=>h.elim⟩⟩
      refine wpAny_mono run (fun f s3 hf=>?_) fun _ _ h=>h.elim
      cases f with
      | next=>obtain ⟨σ',H',J,q⟩:=hf;exact ⟨_,H',Inv.unheld I.ok J,q⟩
      | brk=>obtain ⟨σ',H',J,q⟩:=hf;exact ⟨_,H',Inv.unheld I.ok J,q⟩
      | cont=>obtain ⟨σ',H',J,q⟩:=hf;exact ⟨_,H',Inv.unheld I.ok J,q⟩
      | ret u=>obtain ⟨v,σ',H',J,rv,q⟩:=hf;exact ⟨v,_,H',Inv.unheld I.ok J,rv,q⟩⟩
theorem qhl {rest:List ExceptHandler} {th:XD→EndsM→qau→Prop} {c:Str} {np hpos:Pos} {b₀:Stmt} {suite:List Stmt} {tu:TSM} (Ex:Exs X.K X.mg isa names) (hm:∃ Da,X.mg c=some (.ref Da)) (hc:c∈names) (hg:Gl X c) (hs:∀ pn e,PSsM K (X.held pn e) (b₀::suite) tu) (hr:PHM K X rest th)
    (hdb:(c == ("__debug__":Str))=false:=by decide) :
    PHM K X (.ExceptHandler (some (.Name c np)) none (b₀::suite) hpos::rest) (fun xd De ρ=>xd.nm∈names∧(isa xd.nm c=true→tu { nx:=De.nx,rt:=De.rt,bk:=De.bk,ct:=De.ct } ρ)∧(isa xd.nm c=false→th xd De ρ)):=by
  obtain ⟨Da,hm⟩:=hm
  exact qjw Ex hc hg hm hs hr hdb
end
section
variable {K : PySem.W.Frag} {X : Cx} {pos : Pos} {t : TSM} {rest : List Stmt}
theorem qjd {α:Type} {l m:List α} {i:Nat} {x:α} (h:i<l.length):(l++m).set i x=l.set i x++m:=by
  rw [List.set_append,if_pos h]
def qkt (i:Nat):TX:=fun ρ R _=>∃ q o,ρ[i]?=some (some (.ob (some q) o))∧R (.ob (some q) o) (ρ.set i (some (.ob (some q) .ptr)))
theorem qjP (i:Nat) {x:Str} (hN:X.N[i]?=some x:=by rfl) (hv:Vis X.env.scope x:=by first | exact Or.inl rfl | exact Or.inr (Or.inl rfl) | exact Or.inr (Or.inr rfl)) (hd:(x == ("__debug__":Str))=false:=by decide)
    (hcd:(x == ("__classdict__":Str))=false:=by decide):PX K X (.Name x pos) (qkt i):=⟨fun _=>(pv i hN hv hd hcd).imp fun σ H Q hq0=>by
  obtain ⟨Φ0,H0,Φ,τ,ρ,κ,R,Rx,S,⟨q,o,h,t⟩,k⟩:=hq0
  have hi:=qal h
  have hl:=S.l
  have hk:=S.lk
  obtain ⟨fp,E⟩:=S.env
  obtain ⟨p,e,ha,_⟩:=E.ow i _ o h
  cases ha q rfl
  refine ⟨_,e,k _ _ Φ H _ t ⟨S.g,by rw [List.length_set];exact hl,?_,S.x⟩ (Same.refl _)⟩
  have E1:EnvM K H0 Φ H (σ++(τ++[some (.ref q)])) (ρ.set i none++(κ++[some (.ob (some q) o)])):=by
    refine S.E.re (fun j=>if j=ρ.length+κ.length then i else j) (by simp only [List.length_append,List.length_set,List.length_cons,List.length_nil];omega) (fun j x hx=>?_) fun j1 j2 a a' o1 o2 h1 h2 e12=>?_
    · have hj:=qal hx
      simp only [List.length_append,List.length_set,List.length_cons,List.length_nil] at hj
      rcases Nat.lt_or_ge j ρ.length with c | c
      · rw [List.getElem?_append_left (by rw [List.length_set];exact c)] at hx
        rw [if_neg (by omega),List.getElem?_append_left c,List.getElem?_append_left (by omega),List.getElem?_append_left (by omega)]
        rcases qbU hx with ⟨_,_,z⟩ | ⟨_,z⟩
        · cases z
        · exact ⟨z,rfl⟩
      · rw [List.getElem?_append_right (by rw [List.length_set];exact c),List.length_set] at hx
        rcases Nat.lt_or_ge j (ρ.length+κ.length) with c2 | c2
        · rw [List.getElem?_append_left (by omega)] at hx
          rw [if_neg (by omega)]
          constructor
          · rw [List.getElem?_append_right c];exact hx
          · rw [← List.append_assoc,List.getElem?_append_left (by rw [List.length_append];omega)]
        · have ej:j=ρ.length+κ.length:=by omega
          subst ej
          rw [show ρ.length+κ.length - ρ.length=κ.length by omega,List.getElem?_append_right (Nat.le_refl _),Nat.sub_self] at hx
          cases hx
          rw [if_pos rfl]
          constructor
          · rw [List.getElem?_append_left hi];exact h
          · rw [List.getElem?_append_right (by omega),List.getElem?_append_right (by omega),show ρ.length+κ.length - σ.length - τ.length=0 by omega,List.getElem?_append_left (by omega),e]
            rfl
    · have u1:j1≠i:=fun z=>by
        subst z
        rw [List.getElem?_append_left (by rw [List.length_set];exact hi),List.getElem?_set_self hi] at h1
        cases h1
      have u2:j2≠i:=fun z=>by
        subst z
        rw [List.getElem?_append_left (by rw [List.length_set];exact hi),List.getElem?_set_self hi] at h2
        cases h2
      have e12:(if j1=ρ.length+κ.length then i else j1)=(if j2=ρ.length+κ.length then i else j2):=e12
      split at e12 <;> split at e12 <;> omega
  have E2:=E1.pnt i q
  have e1:(σ++(τ++[some (V.ref q)])).set i (some (.ref q))=σ++(τ++[some (.ref q)]):=by
    refine List.ext_getElem? fun j=>?_
    by_cases c:i=j
    · subst c
      rw [List.getElem?_set_self (by rw [List.length_append];omega),List.getElem?_append_left (by omega),e]
    · rw [List.getElem?_set_ne c]
  rw [e1,qjd (by rw [List.length_set];exact hi),List.set_set] at E2
  exact E2⟩
theorem EnvM.ret {H0 Φ H:Hp} {σ:St} {ρ:qau} {q:Addr} {o:Om} {i j:Nat} (E:EnvM K H0 Φ H σ ρ) (hij:i≠j) (hi:ρ[i]?=some (some (.ob (some q) .ptr))) (hj:ρ[j]?=some (some (.ob (some q) o))):EnvM K H0 Φ H σ ((ρ.set i (some (.ob (some q) o))).set j none):=by
  have si:σ[i]?=some (some (.ref q)):=by
    obtain ⟨fp,E⟩:=E
    obtain ⟨p,e,ha,_⟩:=E.ow i _ _ hi
    cases ha q rfl
    exact e
  have sj:σ[j]?=some (some (.ref q)):=by
    obtain ⟨fp,E⟩:=E
    obtain ⟨p,e,ha,_⟩:=E.ow j _ _ hj
    cases ha q rfl
    exact e
  have hlt:=qal hi
  have cs:∀ {k:Nat} {x:Sm},((ρ.set i (some (.ob (some q) o))).set j none)[k]?=some (some x)→k≠j∧((k=i∧x=.ob (some q) o)∨(k≠i∧ρ[k]?=some (some x))):=fun {k x} h=>by
    rcases qbU h with ⟨_,_,z⟩ | ⟨c,h⟩
    · cases z
    · refine ⟨c,?_⟩
      rcases qbU h with ⟨e,_,z⟩ | ⟨e,h⟩
      · cases z;exact .inl ⟨e,rfl⟩
      · exact .inr ⟨e,h⟩
  refine E.re (fun k=>if k=i then j else k) (by rw [List.length_set,List.length_set,E.len]) (fun k x hx=>?_) fun k1 k2 a a' o1 o2 h1 h2 e=>?_
  · obtain ⟨c,⟨c2,z⟩ | ⟨c2,z⟩⟩:=cs hx
    · subst c2 z
      rw [if_pos rfl]
      exact ⟨hj,by rw [si,sj]⟩
    · rw [if_neg c2];exact ⟨z,rfl⟩
  · have c1:=(cs h1).1
    have c2:=(cs h2).1
    have e:(if k1=i then j else k1)=(if k2=i then j else k2):=e
    split at e <;> split at e <;> omega
def qoi (i j:Nat) (t:TSM):TSM:=fun De ρ=>∃ q o,ρ[i]?=some (some (.ob (some q) .ptr))∧ρ[j]?=some (some (.ob (some q) o))∧t De ((ρ.set i (some (.ob (some q) o))).set j none)
theorem qnl (i j:Nat) (h:PSsM K X rest t) (hij:i≠j:=by decide):PSsM K X rest (qoi i j t):=⟨fun hK=>(h.ps hK).imp fun E σ H hq0=>by
  obtain ⟨Φ0,H0,Φ,ρ,De,g,V,⟨q,o,hi,hj,t⟩,k⟩:=hq0
  exact ⟨Φ0,H0,Φ,_,De,g,V.ret hij hi hj,t,k⟩⟩
def qnW (i j:Nat) (t:TSM):TSM:=fun De ρ=>∃ I:qau→Prop,(I ρ∨∃ q o,ρ[i]?=some (some (.ob (some q) .ptr))∧ρ[j]?=some (some (.ob (some q) o))∧I ((ρ.set i (some (.ob (some q) o))).set j none))∧∀ ρ',I ρ'→t De ρ'
theorem qmt (i j:Nat) (h:PSsM K X rest t) (hij:i≠j:=by decide):PSsM K X rest (qnW i j t):=⟨fun hK=>(h.ps hK).imp fun E σ H hq0=>by
  obtain ⟨Φ0,H0,Φ,ρ,De,g,V,⟨J,hJ | ⟨q,o,hi,hj,hJ⟩,t⟩,k⟩:=hq0
  · exact ⟨Φ0,H0,Φ,_,De,g,V,t _ hJ,k⟩
  · exact ⟨Φ0,H0,Φ,_,De,g,V.ret hij hi hj,t _ hJ,k⟩⟩
end
end L2
namespace Kx
open PySem L2
section
variable {P : Program} {w : World} {K : PySem.W.Frag} {mg : Str → Option Value} {base : Heap}
def top (i:Nat):Stmt:=PySem.Challenge.pw_cutyard_k66_a_yard_changed.main.body.getD i (.Pass ⟨0,0,0,0⟩)
abbrev qjY:Stmt:=top 0
abbrev qlM:Stmt:=top 12
abbrev qlp:Stmt:=top 13
abbrev qjH:Stmt:=top 14
abbrev qhJ:Stmt:=top 15
abbrev qit:Stmt:=top 18
abbrev qdC:Stmt:=top 20
abbrev qeO:Stmt:=top 21
abbrev qa2:Stmt:=top 22
theorem qcE:FnScope ["known","plan","row","first_moved"] ["known","plan","row"] (qae qa2):=⟨rfl,rfl,rfl,by decide +kernel,rfl,by decide +kernel,by decide +kernel⟩
abbrev qaN:Stmt:=top 23
theorem qcc:FnScope ["known"] ["known"] (qae qaN):=⟨rfl,rfl,rfl,by decide +kernel,rfl,by decide +kernel,by decide +kernel⟩
abbrev qbI:Stmt:=top 26
theorem sc__law_pool:FnScope ["_law_script","_law_at","_law_rest"] ["_law_script","_law_at"] (qae qbI):=⟨rfl,rfl,rfl,by decide +kernel,rfl,by decide +kernel,by decide +kernel⟩
abbrev qbB:Stmt:=top 27
theorem sc__law_next:FnScope ["_law_pool_here","_law_size","_law_drawn","_law_cell","_law_stir"] ["_law_pool_here","_law_size"] (qae qbB):=⟨rfl,rfl,rfl,by decide +kernel,rfl,by decide +kernel,by decide +kernel⟩
abbrev qbH:Stmt:=top 28
theorem qeB:FnScope ["_law_pool_here","_law_size"] ["_law_pool_here","_law_size"] (qae qbH):=⟨rfl,rfl,rfl,by decide +kernel,rfl,by decide +kernel,by decide +kernel⟩
abbrev qbq:Stmt:=top 29
theorem sc__law_same:FnScope ["_law_told","_law_due","_law_one","_law_other"] ["_law_told","_law_due"] (qae qbq):=⟨rfl,rfl,rfl,by decide +kernel,rfl,by decide +kernel,by decide +kernel⟩
abbrev qbt:Stmt:=top 30
theorem sc__law_sized:FnScope ["_law_pool_here","_law_way","_law_top"] ["_law_pool_here","_law_way"] (qae qbt):=⟨rfl,rfl,rfl,by decide +kernel,rfl,by decide +kernel,by decide +kernel⟩
abbrev qby:Stmt:=top 31
theorem sc__law_row:FnScope ["_law_pool_here","_law_count","_law_way","_law_entries"] ["_law_pool_here","_law_count","_law_way"] (qae qby):=⟨rfl,rfl,rfl,by decide +kernel,rfl,by decide +kernel,by decide +kernel⟩
abbrev qbp:Stmt:=top 32
theorem sc__law_plan:FnScope ["_law_pool_here","_law_count","_law_way","_law_bounds","_law_k","_law_least","_law_many","_law_rows"] ["_law_pool_here"] (qae qbp):=⟨rfl,rfl,rfl,by decide +kernel,rfl,by decide +kernel,by decide +kernel⟩
abbrev qbb:Stmt:=top 33
theorem sc__law_deed_of:FnScope ["_law_pool_here","_law_plan_here","_law_way","_law_size","_law_count","_law_row_here","_law_goal"] ["_law_pool_here","_law_plan_here"] (qae qbb):=⟨rfl,rfl,rfl,by decide +kernel,rfl,by decide +kernel,by decide +kernel⟩
abbrev qbs:Stmt:=top 34
theorem sc__law_after:FnScope ["_law_plan_here","_law_past","_law_deed","_law_rows"] ["_law_plan_here","_law_past","_law_deed"] (qae qbs):=⟨rfl,rfl,rfl,by decide +kernel,rfl,by decide +kernel,by decide +kernel⟩
abbrev qb5:Stmt:=top 35
theorem qff:FnScope ["_law_yard","_law_deed"] ["_law_yard","_law_deed"] (qae qb5):=⟨rfl,rfl,rfl,by decide +kernel,rfl,by decide +kernel,by decide +kernel⟩
abbrev qbC:Stmt:=top 36
theorem sc__law_done:FnScope ["_law_yard","_law_deed","_law_seen","_law_told","_law_at","e"] ["_law_yard","_law_deed"] (qae qbC):=⟨rfl,rfl,rfl,by decide +kernel,rfl,by decide +kernel,by decide +kernel⟩
abbrev qbu:Stmt:=top 37
theorem sc__law_kinds:FnScope ["_law_yard","_law_deed","_law_kinds_here","e"] ["_law_yard","_law_deed"] (qae qbu):=⟨rfl,rfl,rfl,by decide +kernel,rfl,by decide +kernel,by decide +kernel⟩
abbrev qik:Stmt:=top 38
theorem sc_law:FnScope ["_law_script","_law_pool_here","_law_plan_here","_law_yard","_law_past","_law_k","_law_own","_law_deed","_law_due","_law_later","_law_kinds_here"] ["_law_script"] (qae qik):=⟨rfl,rfl,rfl,by decide +kernel,rfl,by decide +kernel,by decide +kernel⟩
abbrev qaB:Stmt:=qbh (top 24) 0
theorem qcw:FnScope ["self","plan"] ["self","plan"] (qae qaB):=⟨rfl,rfl,rfl,by decide +kernel,rfl,by decide +kernel,by decide +kernel⟩
abbrev qaJ:Stmt:=qbh (top 24) 1
theorem qdv:FnScope ["self","plan","known"] ["self","plan","known"] (qae qaJ):=⟨rfl,rfl,rfl,by decide +kernel,rfl,by decide +kernel,by decide +kernel⟩
abbrev qaF:Stmt:=qbh (top 24) 2
theorem sc_Yard__put_row:FnScope ["self","row","plan"] ["self","row"] (qae qaF):=⟨rfl,rfl,rfl,by decide +kernel,rfl,by decide +kernel,by decide +kernel⟩
abbrev qaC:Stmt:=qbh (top 24) 3
theorem sc_Yard__take_row:FnScope ["self","number","plan","rows"] ["self","number"] (qae qaC):=⟨rfl,rfl,rfl,by decide +kernel,rfl,by decide +kernel,by decide +kernel⟩
abbrev qaV:Stmt:=qbh (top 24) 4
theorem qdZ:FnScope ["self","goal"] ["self","goal"] (qae qaV):=⟨rfl,rfl,rfl,by decide +kernel,rfl,by decide +kernel,by decide +kernel⟩
abbrev qaU:Stmt:=qbh (top 24) 5
theorem sc_Yard__back:FnScope ["self","before"] ["self"] (qae qaU):=⟨rfl,rfl,rfl,by decide +kernel,rfl,by decide +kernel,by decide +kernel⟩
abbrev qaD:Stmt:=qbh (top 24) 6
theorem qcK:FnScope ["self"] ["self"] (qae qaD):=⟨rfl,rfl,rfl,by decide +kernel,rfl,by decide +kernel,by decide +kernel⟩
abbrev qdD:Stmt:=qbh (top 24) 7
structure TxtYard (K:PySem.W.Frag) (mg:Str→Option Value) (C:Addr):Prop where
  cl:Cls K C
  n_plan:NoAttr K C "plan"
  n_known:NoAttr K C "known"
  n_changes:NoAttr K C "changes"
  mgC:mg "Yard"=some (.ref C)
  ns:PySem.W.nsIn K mainGlobals "Yard"=some (some (.ref C))
def exN:List Str:=["YardError","NoNumber","NoName","Twice","TooGreat","NoText","NoRow","NoChange","BelowNought"]
def qc5:Str→Str→Bool:=fun a b=>a == b || b == "YardError"
abbrev qhD:Stmt:=qbh (top 4) 0
abbrev qhG:Stmt:=qbh (top 5) 0
abbrev qbl:Stmt:=qbh (top 6) 0
theorem qeU:FnScope ["self","at"] ["self","at"] (qae qbl):=⟨rfl,rfl,rfl,by decide +kernel,rfl,by decide +kernel,by decide +kernel⟩
abbrev qhu:Stmt:=qbh (top 7) 0
theorem toB {R:D→Prop} {a b:Bool} (q:R (.bl a)) (e:b=a):R (.bl b):=e ▸ q
theorem qmf {a b:Int} (h:(a == b)=true):a=b:=eq_of_beq h
def Pl (n:Nat) (o:Om):Prop:=∃ (ns:List Int) (r st c:Int),o=.lst [.fzl (ns.map D.int),.int r,.int st,.int c]∧ns.length≤63∧0≤c∧c≤n
theorem Pl.mono {n m:Nat} {o:Om} (h:Pl n o) (hm:n≤m):Pl m o:=by
  obtain ⟨ns,r,st,c,e,h1,h2,h3⟩:=h
  exact ⟨ns,r,st,c,e,h1,h2,by omega⟩
def qdg:SpM:=fun as R _=>∃ (ns:List Int) (k:Int),as=[.v (.fzl (ns.map D.int)),.v (.int k)]∧ns.length≤63∧0≤k∧∀ o,Pl 0 o→R (.ob none o) []
theorem qer {n:Nat} {f:Addr} {fd:FuncData} (F:Fun K "_law_pool" "_law_pool" qbI f fd) (z_len:mg "len"=none):FnOk P w K mg base CX0 (n+1) f fd ["_law_script","_law_at"] (qds K qdg):=by
  refine F.okM sc__law_pool (fun as R Rx h=>?_) (fun cdv A outer s H E as R Rx qs hcd hr h hqs=>?_)
  · obtain ⟨ns,k,rfl,_⟩:=h;rfl
  obtain ⟨ns,k,rfl,hl,hk,q⟩:=h
  obtain rfl:=qnP hqs
  refine ⟨_,(qaq (qaE (i:=2) sc__law_pool.nd rfl (Or.inl rfl) (qat qab))
      (qaY (qb9 (qa8 (PWD.td (qeh (qaG qkj (dvq 1) (PD.q (qaQ qbF rfl z_len PySem.boot_len (qaK (dvq 0) qa4 qaa) qaa qaf)) (qam _)) (qcl (qaG qlz (PD.q (qaZ (dvq 0) (dvq 1) (fun _ _=>rfl))) (PD.q (qcg qk7 (PD.q qab) (PD.q qab))) (qam _)))))) (qav (qaE (i:=2) sc__law_pool.nd rfl (Or.inl rfl) (qat (qaZ (dvq 0) (dvq 1) (fun _ _=>rfl))))) qa1)
      (qav (qaW (qmd (qea (qak (dv 0) (qak (dv 2) (qak (qcg qb3 (PD.q qab) (dvq 1)) (qak qab qaS qac) qa7) qaa) qaa))))))),?_⟩
  have hl63:(ns.map D.int).length≤63:=by rw [List.length_map];exact hl
  have fin:∀ r:Int,Pl 0 (.lst [.fzl (ns.map D.int),.int r,.int (7+k),.int 0]):=fun r=>⟨ns,r,7+k,0,rfl,hl,by omega,by omega⟩
  refine ⟨fun ρ=>∃ r:Int,ρ=[some (.v (.fzl (ns.map D.int))),some (.v (.int k)),some (.v (.int r))],⟨fun h=>?_,fun h=>?_⟩,?_⟩
  · have h:=dP h
    obtain ⟨v,hv⟩:=qgz (ns:=ns) (k:=k) hk (by rw [List.length_map] at h;exact h)
    exact ⟨_,hv,⟨by decide,by decide,by decide⟩,fun _=>⟨_,hv,_,rfl⟩,fun _=>⟨_,rfl⟩⟩
  · exact ⟨fun c=>(by cases c),fun _=>⟨_,rfl⟩⟩
  rintro ρ ⟨r,rfl⟩
  exact q _ (fin r)
def qa3:SpM:=fun as R _=>∃ (a:Option Addr) (o:Om) (z:Int) (n:Nat),as=[.ob a o,.v (.int z)]∧Pl n o∧n<2 ^ 20∧0<z∧z<2 ^ 9000∧∀ (x:Int) (o':Om),0≤x→x<z→Pl (n+1) o'→R (.v (.int x)) [o']
theorem qeu {n:Nat} {f:Addr} {fd:FuncData} (F:Fun K "_law_next" "_law_next" qbB f fd) (z_len:mg "len"=none):FnOk P w K mg base CX0 (n+1) f fd ["_law_pool_here","_law_size"] (qds K qa3):=by
  refine F.okM sc__law_next (fun as R Rx h=>?_) (fun cdv A outer s H E as R Rx qs hcd hr h hqs=>?_)
  · obtain ⟨a,o,z,n,rfl,_⟩:=h;rfl
  obtain ⟨a,o,z,n,rfl,hp,hn,h0,hz,q⟩:=h
  obtain ⟨pa,rfl⟩:=qeX hqs
  refine ⟨_,(qaY (qb9 (qa8 (qaG qkn (PD.q (qaZ (dvq 0) (PD.q qab) (fun _ _=>rfl))) (PD.q qab) (qam _))) (qaq (qaE (i:=2) sc__law_next.nd rfl (Or.inl rfl) (qat (qcg qgs (PD.q (qaZ (dvq 0) (PD.q qab) (fun _ _=>rfl))) (dvq 1))))
      (qaq (qlk 0 (qat (qcg qkR (PD.q (qaZ (dvq 0) (PD.q qab) (fun _ _=>rfl))) (dvq 1))) (qat qab))
      (qav (qaW (qat (dv 2)))))) qa1)
      (qaq (qh4 0 ql0 (qat qab) (qat qab))
      (qaq (qaE (i:=3) sc__law_next.nd rfl (Or.inl rfl) (qat (qaZ (dvq 0) (PD.q qab) (fun _ _=>rfl))))
      (qaY (qb9 (qa8 (qaG qkn (PD.q (qaQ qbF rfl z_len PySem.boot_len (qaK (PD.q (qaZ (dvq 0) (PD.q qab) (fun _ _=>rfl))) qa4 qad) qad qaf)) (PD.q qab) (qam _))) (qav (qaE (i:=3) sc__law_next.nd rfl (Or.inl rfl) (qat (qaZ (PD.q (qaZ (dvq 0) (PD.q qab) (fun _ _=>rfl))) (PD.q (qcg qgs (PD.q (qaZ (dvq 0) (PD.q qab) (fun _ _=>rfl))) (PD.q (qaQ qbF rfl z_len PySem.boot_len (qaK (PD.q (qaZ (dvq 0) (PD.q qab) (fun _ _=>rfl))) qa4 qad) qad qaf)))) (fun _ _=>rfl))))) qa1)
      (qaq (qaE (i:=4) sc__law_next.nd rfl (Or.inl rfl) (qat (qcg qb3 (PD.q (qcg qb3 (PD.q (qcg qb3 (PD.q (qcg qb3 (PD.q (qaZ (dvq 0) (PD.q qab) (fun _ _=>rfl))) (dvq 3))) (PD.q (qcg qgu (PD.q (qcg qgu (PD.q qab) (PD.q (qaZ (dvq 0) (PD.q qab) (fun _ _=>rfl))))) (PD.q (qaZ (dvq 0) (PD.q qab) (fun _ _=>rfl))))))) (PD.q (qcg qgu (PD.q qab) (PD.q (qaZ (dvq 0) (PD.q qab) (fun _ _=>rfl))))))) (PD.q qab))))
      (qaq (qlk 0 (qat (qcg qgs (PD.q (qcg qgu (dvq 4) (PD.q qab))) (PD.q qab))) (qat qab))
      (qav (qaW (qat (qcg qgs (PD.q (qcg qgs (PD.q (qcg qgu (PD.q (qaZ (dvq 0) (PD.q qab) (fun _ _=>rfl))) (PD.q qab))) (PD.q qab))) (dvq 1))))))))))),?_⟩
  obtain ⟨ns,r,st,c,rfl,hl,hc0,hcn⟩:=hp
  refine ⟨fun ρ=>ρ=[some (.ob (some pa) (.lst [.fzl (ns.map D.int),.int r,.int st,.int c])),some (.v (.int z)),none,none,none],⟨_,rfl,fun h=>?_,fun _=>rfl⟩,?_⟩
  · exact ⟨_,rfl,h0,_,rfl,CDivB.of h0 hz,_,rfl,_,rfl,_,rfl,q _ _ (Int.emod_nonneg _ (by omega)) (Int.emod_lt_of_pos _ h0) ⟨ns,_,st,c,rfl,hl,hc0,by omega⟩⟩
  rintro ρ rfl
  refine ⟨trivial,3,c,rfl,rfl,(by show 3<4;decide),_,rfl,_,rfl,?_⟩
  refine ⟨fun ρ=>∃ v:Int,ρ=[some (.ob (some pa) (.lst [.fzl (ns.map D.int),.int r,.int st,.int (c+1)])),some (.v (.int z)),none,some (.v (.int v)),none],⟨_,rfl,fun h=>?_,fun _=>⟨_,rfl⟩⟩,?_⟩
  · have h:=dP h
    have hp:(0:Int)<((ns.map D.int).length:Int):=by omega
    obtain ⟨v,hv⟩:=qgz (ns:=ns) (k:=(c+1) % ((ns.map D.int).length:Int)) (Int.emod_nonneg _ (by omega)) (by have:=Int.emod_lt_of_pos (c+1) hp;rw [List.length_map] at this ⊢;exact this)
    exact ⟨_,rfl,_,rfl,_,rfl,hp,_,hv,_,rfl⟩
  rintro ρ ⟨v,rfl⟩
  have b1:-(2 ^ 64)<c+1:=by omega
  have b2:c+1<2 ^ 64:=by omega
  refine ⟨_,rfl,_,rfl,qe6 (by decide) (by decide),_,rfl,qfr b1 b2,_,rfl,qe6 (by decide) (by decide),qfr (by decide) (by decide),(by decide:(0:Int)<2147483647),_,rfl,_,rfl,_,rfl,qfr (by decide) (by decide),(by decide:(0:Int)<1000000007),h0,_,rfl,?_⟩
  exact q _ _ (Int.emod_nonneg _ (by omega)) (Int.emod_lt_of_pos _ h0) ⟨ns,r,_,c+1,rfl,hl,by omega,by omega⟩
theorem lt9 {z:Int} (h:z<2 ^ 64):z<2 ^ 9000:=by
  have h1:(2:Nat) ^ 64≤2 ^ 9000:=Nat.pow_le_pow_right (by decide) (by omega)
  have h2:(2:Int) ^ 64≤2 ^ 9000:=by exact_mod_cast h1
  omega
def qdf:SpM:=qa3
theorem qeF {n:Nat} {f:Addr} {fd:FuncData} (F:Fun K "_law_wide" "_law_wide" qbH f fd) (R__law_next:ClM P w K mg base n "_law_next" ["_law_pool_here","_law_size"] qa3):FnOk P w K mg base CX0 (n+1) f fd ["_law_pool_here","_law_size"] (qds K qdf):=by
  refine F.okM qeB (fun as R Rx h=>?_) (fun cdv A outer s H E as R Rx qs hcd hr h hqs=>?_)
  · obtain ⟨a,o,z,n,rfl,_⟩:=h;rfl
  obtain ⟨a,o,z,n,rfl,hp,hn,h0,hz,q⟩:=h
  obtain ⟨pa,rfl⟩:=qeX hqs
  refine ⟨_,(qaY (qb9 (qa8 (qaG qkn (PD.q (qaZ (dvq 0) (PD.q qab) (fun _ _=>rfl))) (PD.q qab) (qam _))) (qav (qaW (qar R__law_next hr rfl (qas 0 (qah (qat (dv 1)) qao qaa) qaa) qaa (qaj qaa qaf)))) qa1)
      (qav (qaW (qi2 qgs (qi2 qk7 (qi2 qb3 (qar R__law_next hr rfl (qas 0 (qah (qat qab) qao qac) qaa) qaa (qaj qac qaf)) (qat qab)) (qat qab)) (qat (dv 1)))))),?_⟩
  obtain ⟨ns,r,st,c,rfl,hl,hc0,hcn⟩:=hp
  refine ⟨fun ρ=>ρ=[some (.ob (some pa) (.lst [.fzl (ns.map D.int),.int r,.int st,.int c])),some (.v (.int z))],⟨_,rfl,fun h=>?_,fun _=>rfl⟩,?_⟩
  · exact ⟨⟨_,_,rfl⟩,_,rfl,rfl,_,_,z,n,rfl,⟨ns,r,st,c,rfl,hl,hc0,hcn⟩,hn,h0,hz,fun x o' hx0 hx1 hp=>⟨_,rfl,q _ _ hx0 hx1 hp⟩⟩
  rintro ρ rfl
  refine ⟨⟨_,_,rfl⟩,_,rfl,rfl,_,_,1000000007,n,rfl,⟨ns,r,st,c,rfl,hl,hc0,hcn⟩,hn,by decide,lt9 (by decide),fun x o' hx0 hx1 hp=>?_⟩
  exact ⟨⟨by decide,by decide,by show (x+3).natAbs<2 ^ 64;omega⟩,h0,_,rfl,q _ _ (Int.emod_nonneg _ (by omega)) (Int.emod_lt_of_pos _ h0) hp⟩
theorem qmB {a b:Nat} (h:a≤b):(2:Nat) ^ a≤2 ^ b:=Nat.pow_le_pow_right (by decide) h
def qb2:SpM:=fun as R _=>∃ (a:Option Addr) (o:Om) (w:Int) (n:Nat),as=[.ob a o,.v (.int w)]∧Pl n o∧n<2 ^ 20∧∀ (x:Int) (o':Om),x.natAbs<2 ^ 700→Pl (n+1) o'→R (.v (.int x)) [o']
theorem p50:((10:Int) ^ (50:Int).toNat).natAbs<2 ^ 200:=by decide
theorem qod:((10:Int) ^ (50:Int).toNat) ^ (4:Int).toNat<2 ^ 699:=by decide
theorem qnr:1≤((10:Int) ^ (50:Int).toNat) ^ (4:Int).toNat:=by decide
theorem qoa {z:Int} (h:z<2 ^ 800):z<2 ^ 9000:=by
  have h1:(2:Nat) ^ 800≤2 ^ 9000:=Nat.pow_le_pow_right (by decide) (by omega)
  have h2:(2:Int) ^ 800≤2 ^ 9000:=by exact_mod_cast h1
  exact Int.lt_of_lt_of_le h h2
theorem qdm {x:Int} (h:x.natAbs<2 ^ 64):x.natAbs<2 ^ 700:=Nat.lt_of_lt_of_le h (qmB (by decide))
theorem t20:0<2*(((10:Int) ^ (50:Int).toNat) ^ (4:Int).toNat - 1)+1:=by decide
theorem t21:2*(((10:Int) ^ (50:Int).toNat) ^ (4:Int).toNat - 1)+1<2 ^ 800:=by decide
theorem t22 {x:Int} (h0:0≤x) (h1:x<2*(((10:Int) ^ (50:Int).toNat) ^ (4:Int).toNat - 1)+1):(x - (((10:Int) ^ (50:Int).toNat) ^ (4:Int).toNat - 1)).natAbs<2 ^ 700:=by
  have e1:=qod
  have e2:=qnr
  generalize ((10:Int) ^ (50:Int).toNat) ^ (4:Int).toNat=t at h1 e1 e2 ⊢
  omega
theorem qem {n:Nat} {f:Addr} {fd:FuncData} (F:Fun K "_law_sized" "_law_sized" qbt f fd) (R__law_next:ClM P w K mg base n "_law_next" ["_law_pool_here","_law_size"] qa3) (R__law_wide:ClM P w K mg base n "_law_wide" ["_law_pool_here","_law_size"] qdf):FnOk P w K mg base CX0 (n+1) f fd ["_law_pool_here","_law_way"] (qds K qb2):=by
  refine F.okM sc__law_sized (fun as R Rx h=>?_) (fun cdv A outer s H E as R Rx qs hcd hr h hqs=>?_)
  · obtain ⟨a,o,w,n,rfl,_⟩:=h;rfl
  obtain ⟨a,o,w,n,rfl,hp,hn,q⟩:=h
  obtain ⟨pa,rfl⟩:=qeX hqs
  refine ⟨_,(qaY (qb9 (qa8 (qaG (qb6 hr.units) (dvq 1) (PD.q qab) (qam _))) (qav (qaW (qi2 qgv (qar R__law_next hr rfl (qas 0 (qah (qat qab) qao qac) qaa) qaa (qaj qac qaf)) (qat qab)))) qa1)
      (qaY (qb9 (qa8 (qaG (qb6 hr.units) (dvq 1) (PD.q qab) (qam _))) (qav (qaW (qi2 qgv (qar R__law_next hr rfl (qas 0 (qah (qat qab) qao qac) qaa) qaa (qaj qac qaf)) (qat qab)))) qa1)
      (qaY (qb9 (qa8 (qaG (qb6 hr.units) (dvq 1) (PD.q qab) (qam _))) (qav (qaW (qar R__law_next hr rfl (qas 0 (qah (qat qab) qao qac) qaa) qaa (qaj qac qaf)))) qa1)
      (qaq (qaE (i:=2) sc__law_sized.nd rfl (Or.inl rfl) (qat (qcg qgv (PD.q (qcg qiW (PD.q (qcg qiW (PD.q qab) (PD.q qab))) (PD.q qab))) (PD.q qab))))
      (qav (qaW (qi2 qgv (qar R__law_wide hr rfl (qas 0 (qah (qat (qcg qb3 (PD.q (qcg qgu (PD.q qab) (dvq 2))) (PD.q qab))) qao qa7) qaa) qaa (qaj qa7 qaf)) (qat (dv 2))))))))),?_⟩
  refine ⟨fun ρ=>ρ=[some (.ob (some pa) o),some (.v (.int w)),none],⟨fun h=>?_,fun _=>rfl⟩,?_⟩
  · exact ⟨⟨_,_,rfl⟩,_,rfl,rfl,_,_,3,n,rfl,hp,hn,by decide,lt9 (by decide),fun x o1 hx0 hx1 hp1=>⟨_,rfl,q _ _ (qdm (by omega)) hp1⟩⟩
  rintro ρ rfl
  refine ⟨fun ρ=>ρ=[some (.ob (some pa) o),some (.v (.int w)),none],⟨fun h=>?_,fun _=>rfl⟩,?_⟩
  · exact ⟨⟨_,_,rfl⟩,_,rfl,rfl,_,_,19,n,rfl,hp,hn,by decide,lt9 (by decide),fun x o1 hx0 hx1 hp1=>⟨_,rfl,q _ _ (qdm (by omega)) hp1⟩⟩
  rintro ρ rfl
  refine ⟨fun ρ=>ρ=[some (.ob (some pa) o),some (.v (.int w)),none],⟨fun h=>?_,fun _=>rfl⟩,?_⟩
  · exact ⟨⟨_,_,rfl⟩,_,rfl,rfl,_,_,6,n,rfl,hp,hn,by decide,lt9 (by decide),fun x o1 hx0 hx1 hp1=>⟨_,rfl,q _ _ (qdm (by omega)) hp1⟩⟩
  rintro ρ rfl
  refine ⟨⟨by decide,200,by decide,by decide,by decide⟩,⟨by decide,200,by decide,p50,by decide⟩,?_⟩
  exact ⟨⟨_,_,rfl⟩,qe6 (by decide) (by decide),_,rfl,rfl,_,_,_,n,rfl,hp,hn,t20,qoa t21,fun x o1 hx0 hx1 hp1=>⟨_,rfl,q _ _ (t22 hx0 hx1) hp1⟩⟩
def Smo:Nat→D→Prop
  | 0,_=>False
  | _+1,.non=>True
  | _+1,.int _=>True
  | _+1,.str _=>True
  | m+1,.tup ds=>ds.length≤1000∧∀ d∈ds,Smo m d
  | _+1,_=>False
def qbd (m:Nat):SpD:=fun ds R=>∃ d,ds=[d,d]∧Smo m d∧R (.bl true)
theorem qcR {ds:List D} {R:D→Prop} (h:qbd 0 ds R):False:=by
  obtain ⟨d,_,h,_⟩:=h
  unfold Smo at h
  exact h
abbrev qe0:SpD:=qbd 5
theorem qef {n:Nat} {f:Addr} {fd:FuncData} (F:Fun K "_law_same" "_law_same" qbq f fd):FnOk P w K mg base CX0 (n+1) f fd ["_law_told","_law_due"] (lSp K (qbd 0)) :=
  F.okD sc__law_same (fun ds R h=>(qcR h).elim) (fun cdv A outer s H E ds R hr h=>(qcR h).elim)
theorem qbf {m n:Nat} {f:Addr} {fd:FuncData} (F:Fun K "_law_same" "_law_same" qbq f fd) (Q__law_same:Cl P w K mg base n "_law_same" ["_law_told","_law_due"] (qbd m)) (z_isinstance:mg "isinstance"=none) (z_tuple:mg "tuple"=none) (z_str:mg "str"=none) (z_zip:mg "zip"=none) (z_int:mg "int"=none) (z_bool:mg "bool"=none) (z_len:mg "len"=none):FnOk P w K mg base CX0 (n+1) f fd ["_law_told","_law_due"] (lSp K (qbd (m+1))):=by
  refine F.okD sc__law_same (fun ds R h=>?_) (fun cdv A outer s H E ds R hr h=>?_)
  · obtain ⟨d,rfl,_⟩:=h;rfl
  obtain ⟨d,rfl,hd,q⟩:=h
  refine ⟨_,(qgf (qjN (qaG qng (dvq 1) (PD.q qbi) (qam _)) (qcY (qec (qgl qng (dvq 0) (PD.q qbi) (qam _)))) qfu)
      (qgf (qjN (qhc (PD.q (qf9 rfl z_isinstance (dvq 1) (qci (v:=.ty "tuple") rfl z_tuple PyProof.Rows.boot_tuple rfl) qaa qaa)) (fun _=>rfl)) (qgf (qjN (PWD.td (qjO (qjG (qhc (PD.q (qf9 rfl z_isinstance (dvq 0) (qci (v:=.ty "tuple") rfl z_tuple PyProof.Rows.boot_tuple rfl) qaa qaa)) (fun _=>rfl))) (qgp (qaG (qmL hr.units) (PD.q (qaQ qbF rfl z_len PySem.boot_len (qaK (dvq 0) qa4 qaa) qaa qaf)) (PD.q (qaQ qbF rfl z_len PySem.boot_len (qaK (dvq 1) qa4 qaa) qaa qaf)) (qam _))))) (qcY (qec qcL)) qfu)
      (qiZ (qmj PassesOwn.never rfl (qkO rfl z_zip (qak (dv 0) (qak (dv 1) qaS qaa) qaa)) (qmG (n:=2) rfl (qhr (qiM (i:=2) sc__law_same.nd rfl (Or.inl rfl)) (qhr (qiM (i:=3) sc__law_same.nd rfl (Or.inl rfl)) qkW))) (qcY (qjN (qjG (qhc (PD.q (qfS Q__law_same hr rfl (qak (dv 2) (qak (dv 3) qaS qaa) qaa) qaa (qaj qaa qaf))) (fun _=>rfl))) (qcY (qec qcL)) qfu)))
      (qcY (qec qcL)))) qfu)
      (qgf (qjN (qhc (PD.q (qf9 rfl z_isinstance (dvq 1) (qci (v:=.ty "str") rfl z_str PyProof.Rows.boot_str rfl) qaa qaa)) (fun _=>rfl)) (qcY (qec (qke (qf9 rfl z_isinstance (dvq 0) (qci (v:=.ty "str") rfl z_str PyProof.Rows.boot_str rfl) qaa qaa) (qkI (qgl (qb6 hr.units) (dvq 0) (dvq 1) (qam _)))))) qfu)
      (qcY (qec (qke (qf9 rfl z_isinstance (dvq 0) (qci (v:=.ty "int") rfl z_int PyProof.Rows.boot_int rfl) qaa qaa) (qke (qmw (PD.q (qf9 rfl z_isinstance (dvq 0) (qci (v:=.ty "bool") rfl z_bool PyProof.Rows.boot_bool rfl) qaa qaa))) (qkI (qgl (qb6 hr.units) (dvq 0) (dvq 1) (qam _)))))))))),?_⟩
  cases d with
  | non =>
    refine ⟨fun ρ=>False,⟨fun _=>q,fun h=>(by cases h)⟩,?_⟩
    rintro ρ ⟨⟩
  | int i =>
    refine ⟨fun ρ=>ρ=[some (.v (.int i)),some (.v (.int i)),none,none],⟨fun h=>(by cases h),fun _=>rfl⟩,?_⟩
    rintro ρ rfl
    refine ⟨fun ρ=>ρ=[some (.v (.int i)),some (.v (.int i)),none,none],⟨_,rfl,fun h=>(by cases h),fun _=>rfl⟩,?_⟩
    rintro ρ rfl
    refine ⟨fun ρ=>ρ=[some (.v (.int i)),some (.v (.int i)),none,none],⟨_,rfl,fun h=>(by cases h),fun _=>rfl⟩,?_⟩
    rintro ρ rfl
    refine ⟨_,rfl,fun _=>⟨_,rfl,fun _=>?_,fun h=>(by cases h)⟩,fun h=>(by cases h)⟩
    exact toB q (beq_self_eq_true i)
  | str i =>
    refine ⟨fun ρ=>ρ=[some (.v (.str i)),some (.v (.str i)),none,none],⟨fun h=>(by cases h),fun _=>rfl⟩,?_⟩
    rintro ρ rfl
    refine ⟨fun ρ=>ρ=[some (.v (.str i)),some (.v (.str i)),none,none],⟨_,rfl,fun h=>(by cases h),fun _=>rfl⟩,?_⟩
    rintro ρ rfl
    refine ⟨fun ρ=>False,⟨_,rfl,fun _=>⟨_,rfl,fun _=>?_,fun h=>(by cases h)⟩,fun h=>(by cases h)⟩,?_⟩
    · exact toB q (beq_self_eq_true i)
    rintro ρ ⟨⟩
  | tup ds =>
    have hd:ds.length≤1000∧∀ d∈ds,Smo m d:=by unfold Smo at hd;exact hd
    refine ⟨fun ρ=>ρ=[some (.v (.tup ds)),some (.v (.tup ds)),none,none],⟨fun h=>(by cases h),fun _=>rfl⟩,?_⟩
    rintro ρ rfl
    refine ⟨fun ρ=>False,⟨_,rfl,fun _=>?_,fun h=>(by cases h)⟩,?_⟩
    · refine ⟨fun ρ=>ρ=[some (.v (.tup ds)),some (.v (.tup ds)),none,none],⟨_,rfl,fun h=>(by cases h),fun _=>?_⟩,?_⟩
      · have e:(!(((ds.length:Nat):Int) == ((ds.length:Nat):Int)))=false:=by rw [beq_self_eq_true];rfl
        exact ⟨fun h=>(by have:=h.symm.trans e;cases this),fun _=>rfl⟩
      rintro ρ rfl
      refine ⟨_,_,rfl,rfl,?_⟩
      refine ⟨fun i ρ=>∃ u2 u3:Option Sl,ρ=[some (.v (.tup ds)),some (.v (.tup ds)),u2,u3],⟨_,_,rfl⟩,?_,?_⟩
      · rintro i e ρ he ⟨u2,u3,rfl⟩
        obtain ⟨x,y,hx,hy,rfl⟩:=qgI he
        cases hx.symm.trans hy
        exact ⟨rfl,x,rfl,hd.2 x (List.mem_of_getElem? hx),fun h=>(by cases h),fun _=>⟨_,_,rfl⟩⟩
      · rintro ρ ⟨u2,u3,rfl⟩
        exact q
    rintro ρ ⟨⟩
  | _=>unfold Smo at hd;exact hd.elim
structure Pln where
  bs:List D
  rs:List D
  gl:D
def qaT (p:Pln):D:=.tup [.tup p.bs,.tup p.rs,p.gl]
structure PlnOk (p:Pln):Prop where
  bl:p.bs.length≤8
  bo:∀ b∈p.bs,Smo 3 b
  rl:p.rs.length≤12
  ro:∀ r∈p.rs,Smo 3 r
  go:Smo 4 p.gl
theorem Smo.noL:∀ {m:Nat} {d:D},Smo m d→NoL d
  | 0,_,h=>(by unfold Smo at h;exact h.elim)
  | _+1,.non,_=>.non
  | _+1,.int _,_=>.int _
  | _+1,.str _,_=>.str _
  | m+1,.tup ds,h=>.tup fun d hd=>Smo.noL ((show ds.length≤1000∧∀ d∈ds,Smo m d by unfold Smo at h;exact h).2 d hd)
  | _+1,.bl _,h=>(by unfold Smo at h;exact h.elim)
  | _+1,.lst _,h=>(by unfold Smo at h;exact h.elim)
  | _+1,.fzl _,h=>(by unfold Smo at h;exact h.elim)
  | _+1,.obj _ _,h=>(by unfold Smo at h;exact h.elim)
  | _+1,.map _,h=>(by unfold Smo at h;exact h.elim)
  | _+1,.exc _ _,h=>(by unfold Smo at h;exact h.elim)
theorem qcF {m:Nat} {ds:List D} (hl:ds.length≤1000) (h:∀ d∈ds,Smo m d):Smo (m+1) (.tup ds):=by unfold Smo;exact ⟨hl,h⟩
theorem qdX (m:Nat) {es:List Int} (hl:es.length≤1000):Smo (m+2) (.tup (es.map D.int)):=qcF (by rw [List.length_map];exact hl) fun d hd=>by
  obtain ⟨x,_,rfl⟩:=List.mem_map.mp hd
  unfold Smo;trivial
theorem PlnOk.smo {p:Pln} (h:PlnOk p):Smo 5 (qaT p):=by
  refine qcF (by show 3≤1000;decide) fun d hd=>?_
  simp only [List.mem_cons,List.not_mem_nil,or_false] at hd
  rcases hd with rfl | rfl | rfl
  · exact qcF (by have:=h.bl;omega) h.bo
  · exact qcF (by have:=h.rl;omega) h.ro
  · exact h.go
theorem PlnOk.noL {p:Pln} (h:PlnOk p):NoL (qaT p):=h.smo.noL
def chD (p:Pln):D:=.tup [qaT p,.non]
def yF (p:Pln) (ps:List Pln):List (Str × Fl):=[("plan",.v (qaT p)),("known",.v .non),("changes",.l (ps.map chD))]
abbrev yO (p:Pln) (ps:List Pln):Om:=.obj "Yard" (yF p ps)
def yD (p:Pln) (ps:List Pln):D:=.obj "Yard" [("plan",qaT p),("known",.non),("changes",.lst (ps.map chD))]
def qbO:SpM:=fun as R _=>∃ (a:Option Addr) (p:Pln),as=[.ob a (.obj "Yard" []),.v (qaT p)]∧R (.v .non) [yO p []]
theorem qcB {n:Nat} {f:Addr} {fd:FuncData} (F:Fun K "__init__" "Yard.__init__" qaB f fd) {C_Yard:Addr} (T_Yard:TxtYard K mg C_Yard):FnOk P w K mg base CX0 (n+1) f fd ["self","plan"] (qds K qbO):=by
  refine F.okM qcw (fun as R Rx h=>?_) (fun cdv A outer s H E as R Rx qs hcd hr h hqs=>?_)
  · obtain ⟨a,p,rfl,_⟩:=h;rfl
  obtain ⟨a,p,rfl,q⟩:=h
  obtain ⟨pa,rfl⟩:=qeX hqs
  refine ⟨_,(qaq (qdI 0 T_Yard.cl T_Yard.n_plan T_Yard.ns (qat (dv 1)))
      (qaq (qdI 0 T_Yard.cl T_Yard.n_known T_Yard.ns (qat qbi))
      (qav (qjn 0 T_Yard.cl T_Yard.n_changes T_Yard.ns (qmd (qea qaS)))))),?_⟩
  refine ⟨_,_,rfl,rfl,(by decide),_,rfl,?_⟩
  refine ⟨_,_,rfl,rfl,(by show 1<1000;decide),_,rfl,?_⟩
  refine ⟨_,_,rfl,rfl,(by show 2<1000;decide),yF p [],rfl,?_⟩
  exact ⟨_,rfl,q⟩
def qba:SpM:=fun as R _=>∃ (a:Option Addr) (p p':Pln) (ps:List Pln),as=[.ob a (yO p ps),.v (qaT p'),.v .non]∧PlnOk p∧ps.length<500∧R (.v .non) [yO p' (ps++[p])]
theorem ql1 {p:Pln} (h:PlnOk p):NoL (chD p):=.tup fun d hd=>by
  simp only [List.mem_cons,List.not_mem_nil,or_false] at hd
  rcases hd with rfl | rfl
  · exact h.noL
  · exact .non
theorem qdo {n:Nat} {f:Addr} {fd:FuncData} (F:Fun K "change" "Yard.change" qaJ f fd) {C_Yard:Addr} (T_Yard:TxtYard K mg C_Yard):FnOk P w K mg base CX0 (n+1) f fd ["self","plan","known"] (qds K qba):=by
  refine F.okM qdv (fun as R Rx h=>?_) (fun cdv A outer s H E as R Rx qs hcd hr h hqs=>?_)
  · obtain ⟨a,p,p',ps,rfl,_⟩:=h;rfl
  obtain ⟨a,p,p',ps,rfl,hp,hl,q⟩:=h
  obtain ⟨pa,rfl⟩:=qeX hqs
  refine ⟨_,(qaq (qks 0 T_Yard.cl T_Yard.n_changes T_Yard.ns (qbv (qak (qdB T_Yard.cl T_Yard.n_plan T_Yard.ns (dvq 0)) (qak (qdB T_Yard.cl T_Yard.n_known T_Yard.ns (dvq 0)) qaS qaM) qaM)) (qfW qaI) qaI)
      (qaq (qdI 0 T_Yard.cl T_Yard.n_plan T_Yard.ns (qat (dv 1)))
      (qav (qdI 0 T_Yard.cl T_Yard.n_known T_Yard.ns (qat (dv 2)))))),?_⟩
  refine ⟨_,_,ps.map chD,rfl,rfl,rfl,_,rfl,rfl,_,rfl,ql1 hp,qbn (by rw [List.length_map];omega),yF p (ps++[p]),(by show _=yF p (ps++[p]);rw [yF,yF,List.map_append];rfl),?_⟩
  refine ⟨_,_,rfl,rfl,(by show 3<1000;decide),_,rfl,?_⟩
  refine ⟨_,_,rfl,rfl,(by show 3<1000;decide),yF p' (ps++[p]),rfl,?_⟩
  exact ⟨_,rfl,q⟩
def qbP:SpD:=fun ds R=>∃ (p:Pln) (ps:List Pln),ds=[yD p ps]∧R (qaT p)
theorem qcz {n:Nat} {f:Addr} {fd:FuncData} (F:Fun K "plan_now" "Yard.plan_now" qaD f fd) {C_Yard:Addr} (T_Yard:TxtYard K mg C_Yard):FnOk P w K mg base CX0 (n+1) f fd ["self"] (lSp K qbP):=by
  refine F.okD qcK (fun ds R h=>?_) (fun cdv A outer s H E ds R hr h=>?_)
  · obtain ⟨p,ps,rfl,_⟩:=h;rfl
  obtain ⟨p,ps,rfl,q⟩:=h
  refine ⟨_,(qcY (qec (qdB T_Yard.cl T_Yard.n_plan T_Yard.ns (dvq 0)))),?_⟩
  exact ⟨rfl,_,rfl,q⟩
def qbQ:SpD:=fun ds R=>∃ (x y:D),ds=[.non,x,y]∧R .non
theorem qcv {n:Nat} {f:Addr} {fd:FuncData} (F:Fun K "known_with_row" "known_with_row" qa2 f fd) (z_len:mg "len"=none) (z_tuple:mg "tuple"=none):FnOk P w K mg base CX0 (n+1) f fd ["known","plan","row"] (lSp K qbQ):=by
  refine F.okD qcE (fun ds R h=>?_) (fun cdv A outer s H E ds R hr h=>?_)
  · obtain ⟨x,y,rfl,_⟩:=h;rfl
  obtain ⟨x,y,rfl,q⟩:=h
  refine ⟨_,(qgf (qjN (PWD.td (qjO (qaG qng (dvq 0) (PD.q qbi) (qam _)) (qjO (qaG (qb6 hr.units) (PD.q (qaZ (dvq 0) (PD.q qab) (fun _ _=>rfl))) (PD.q qgY) (qam _)) (qgp qjA)))) (qcY (qec qbi)) qfu)
      (qgf (qjN (qaG (qb6 hr.units) (PD.q (qaZ (dvq 0) (PD.q qab) (fun _ _=>rfl))) (PD.q qgY) (qam _)) (qiZ qfg
      (qcY qfg)) qfu)
      (qcY qfg))),?_⟩
  refine ⟨fun ρ=>False,⟨fun _=>?_,fun h=>?_⟩,?_⟩
  · exact ⟨fun _=>q,fun h=>tf h⟩
  · cases h
  rintro ρ ⟨⟩
def qbm:SpD:=fun ds R=>∃ (x:D),ds=[x]∧x=.non∧R .non
theorem qcb {n:Nat} {f:Addr} {fd:FuncData} (F:Fun K "known_without_row" "known_without_row" qaN f fd) :FnOk P w K mg base CX0 (n+1) f fd ["known"] (lSp K qbm):=by
  refine F.okD qcc (fun ds R h=>?_) (fun cdv A outer s H E ds R hr h=>?_)
  · obtain ⟨x,rfl,_⟩:=h;rfl
  obtain ⟨x,rfl,hx,q⟩:=h
  refine ⟨_,(qcY (qec (qoH (PWD.td (qeh (qaG qdW (dvq 0) (PD.q qbi) (qam _)) (qcl (qaG (qb6 hr.units) (PD.q (qaZ (dvq 0) (PD.q qab) (fun _ _=>rfl))) (PD.q qgY) (qam _))))) (dv 0) qbi))),?_⟩
  subst hx
  exact ⟨fun h=>(by cases h),fun _=>⟨fun h=>(by cases h),fun _=>q⟩⟩
def exG:XD:=⟨"TooGreat",some .non⟩
def exR:XD:=⟨"NoRow",none⟩
def exC:XD:=⟨"NoChange",none⟩
def qbT:SpM:=fun as R Rx=>∃ (a:Option Addr) (p:Pln) (ps:List Pln) (r:D),as=[.ob a (yO p ps),.v r]∧PlnOk p∧ps.length<500∧Smo 3 r∧(12≤p.rs.length→Rx exG [yO p ps])∧(p.rs.length<12→R (.v .non) [yO { p with rs:=p.rs++[r] } (ps++[p])])
theorem qcW {n:Nat} {f:Addr} {fd:FuncData} (F:Fun K "put_row" "Yard.put_row" qaF f fd) {C_Yard:Addr} (T_Yard:TxtYard K mg C_Yard) (Q_known_with_row:Cl P w K mg base (n+2) "known_with_row" ["known","plan","row"] qbQ) (R_Yard__change:MthM P w K mg base (n+2) C_Yard "change" ["self","plan","known"] qba) (z_MOST_ROWS:∃ tk,mg "MOST_ROWS"=some (.int 12 tk)) (z_len:mg "len"=none) (Z_TooGreat:Rz1 P w K mg base "TooGreat"):FnOk P w K mg base (CXo P w) (n+3) f fd ["self","row"] (qcV K mg qbT):=by
  refine F.okMX sc_Yard__put_row (fun as R Rx h=>?_) (fun cdv A outer s H E as R Rx qs hcd hr h hqs=>?_)
  · obtain ⟨a,p,ps,r,rfl,_⟩:=h;rfl
  obtain ⟨a,p,ps,r,rfl,hp,hl,hr9,qx,q⟩:=h
  obtain ⟨pa,rfl⟩:=qeX hqs
  refine ⟨_,(qaq (qaE (i:=2) sc_Yard__put_row.nd rfl (Or.inl rfl) (qdM (qdB T_Yard.cl T_Yard.n_plan T_Yard.ns (dvq 0))))
      (qaY (qb9 (qa8 (qaG qlz (PD.q (qaQ qbF rfl z_len PySem.boot_len (qaK (PD.q (qaZ (dvq 2) (PD.q qab) (fun _ _=>rfl))) qa4 qad) qad qaf)) (PD.q (qj1 rfl z_MOST_ROWS.choose_spec)) (qam _))) (qav (qmy Z_TooGreat rfl rfl rfl (hr.mono (by omega)) qbi qac)) qa1)
      (qav (qeH (qfx 0 R_Yard__change hr T_Yard.cl T_Yard.ns (qah (qat (qbv (qak (qaZ (dvq 2) (PD.q qab) (fun _ _=>rfl)) (qak (qcg qb3 (PD.q (qaZ (dvq 2) (PD.q qab) (fun _ _=>rfl))) (PD.q (qbv (qak (dv 1) qaS qaa)))) (qak (qaZ (dvq 2) (PD.q qab) (fun _ _=>rfl)) qaS qad) qa7) qad))) (qah (qdM (qfS Q_known_with_row hr rfl (qak (qdB T_Yard.cl T_Yard.n_known T_Yard.ns (dvq 0)) (qak (dv 2) (qak (dv 1) qaS qaa) qaa) qaM) qaM (qaj qaa (qaj qaa qaf)))) qao qax) qaI) qaI (qaj qax qaf)))))),?_⟩
  have h8:=hp.rl
  refine ⟨rfl,_,rfl,hp.noL,?_⟩
  dsimp only [qaz,qaw,qbk,qbz,qcu,List.set]
  refine ⟨fun ρ=>p.rs.length<12∧ρ=[some (.ob (some pa) (yO p ps)),some (.v r),some (.v (qaT p))],?_,?_⟩
  · exact ⟨_,rfl,fun h=>⟨trivial,_,rfl,qx (by have:=of_decide_eq_true h;omega)⟩,fun h=>⟨by have:=of_decide_eq_false h;omega,rfl⟩⟩
  rintro ρ ⟨hlt,rfl⟩
  refine ⟨⟨_,_,rfl,rfl⟩,_,rfl,_,rfl,qfc (by show p.rs.length+1≤1000;omega),_,rfl,_,rfl,rfl,_,rfl,_,_,rfl,.non,_,rfl,rfl,_,p,{ p with rs:=p.rs++[r] },ps,rfl,hp,hl,_,rfl,q hlt⟩
theorem qcq (xs:List D) (a b:Option Int):(qcm xs a b).length≤xs.length:=by
  unfold qcm
  rw [List.length_take,List.length_drop]
  omega
theorem qhO {xs:List D} {a b:Option Int} {x:D} (h:x∈qcm xs a b):x∈xs:=List.mem_of_mem_drop (List.mem_of_mem_take h)
def qbN:SpM:=fun as R Rx=>∃ (a:Option Addr) (p:Pln) (ps:List Pln) (k:Int),as=[.ob a (yO p ps),.v (.int k)]∧PlnOk p∧ps.length<500∧k.natAbs≤1000∧((k<0∨(p.rs.length:Int)≤k)→Rx exR [yO p ps])∧(0≤k→k<(p.rs.length:Int)→R (.v .non) [yO { p with rs:=qcm p.rs none (some k)++qcm p.rs (some (k+1)) none } (ps++[p])])
theorem qcJ {n:Nat} {f:Addr} {fd:FuncData} (F:Fun K "take_row" "Yard.take_row" qaC f fd) {C_Yard:Addr} (T_Yard:TxtYard K mg C_Yard) (Q_known_without_row:Cl P w K mg base n "known_without_row" ["known"] qbm) (R_Yard__change:MthM P w K mg base n C_Yard "change" ["self","plan","known"] qba) (z_len:mg "len"=none) (Z_NoRow:Rz0 K mg "NoRow"):FnOk P w K mg base (CXo P w) (n+1) f fd ["self","number"] (qcV K mg qbN):=by
  refine F.okMX sc_Yard__take_row (fun as R Rx h=>?_) (fun cdv A outer s H E as R Rx qs hcd hr h hqs=>?_)
  · obtain ⟨a,p,ps,k,rfl,_⟩:=h;rfl
  obtain ⟨a,p,ps,k,rfl,hp,hl,hk,qx,q⟩:=h
  obtain ⟨pa,rfl⟩:=qeX hqs
  refine ⟨_,(qaq (qaE (i:=2) sc_Yard__take_row.nd rfl (Or.inl rfl) (qdM (qdB T_Yard.cl T_Yard.n_plan T_Yard.ns (dvq 0))))
      (qaY (qb9 (qa8 (PWD.td (qjO (qaG qkj (dvq 1) (PD.q qab) (qam _)) (qgp (qaG qlz (dvq 1) (PD.q (qaQ qbF rfl z_len PySem.boot_len (qaK (PD.q (qaZ (dvq 2) (PD.q qab) (fun _ _=>rfl))) qa4 qad) qad qaf)) (qam _)))))) (qav (qlP Z_NoRow rfl rfl rfl)) qa1)
      (qaq (qaE (i:=3) sc_Yard__take_row.nd rfl (Or.inl rfl) (qat (qcg qb3 (PD.q (qle (PD.q (qaZ (dvq 2) (PD.q qab) (fun _ _=>rfl))) qeD (qeP (dvq 1)))) (PD.q (qle (PD.q (qaZ (dvq 2) (PD.q qab) (fun _ _=>rfl))) (qeP (PD.q (qcg qb3 (dvq 1) (PD.q qab)))) qeD)))))
      (qav (qeH (qfx 0 R_Yard__change hr T_Yard.cl T_Yard.ns (qah (qat (qbv (qak (qaZ (dvq 2) (PD.q qab) (fun _ _=>rfl)) (qak (dv 3) (qak (qaZ (dvq 2) (PD.q qab) (fun _ _=>rfl)) qaS qad) qaa) qad))) (qah (qdM (qfS Q_known_without_row hr rfl (qak (qdB T_Yard.cl T_Yard.n_known T_Yard.ns (dvq 0)) qaS qaM) qaM qaf)) qao qax) qaI) qaI (qaj qax qaf))))))),?_⟩
  have h8:=hp.rl
  refine ⟨rfl,_,rfl,hp.noL,?_⟩
  dsimp only [qaz,qaw,qbk,qbz,qcu,List.set]
  refine ⟨fun ρ=>(0≤k∧k<(p.rs.length:Int))∧ρ=[some (.ob (some pa) (yO p ps)),some (.v (.int k)),some (.v (qaT p)),none],?_,?_⟩
  · exact ⟨fun h=>⟨fun _=>⟨_,rfl,qx (.inl (of_decide_eq_true h))⟩,fun h=>tf h⟩,fun h=>⟨_,rfl,fun h2=>⟨_,rfl,qx (.inr (of_decide_eq_true h2))⟩,fun h2=>⟨⟨by have:=of_decide_eq_false h;omega,by have:=of_decide_eq_false h2;omega⟩,rfl⟩⟩⟩
  rintro ρ ⟨⟨h0,h1⟩,rfl⟩
  have l1:=qcq p.rs none (some k)
  have l2:=qcq p.rs (some (k+1)) none
  refine ⟨_,rfl,_,rfl,_,rfl,_,rfl,qfc (by omega),_,rfl,?_⟩
  refine ⟨⟨_,_,rfl,rfl⟩,_,rfl,_,rfl,rfl,_,rfl,_,rfl,rfl,.non,_,rfl,rfl,_,p,{ p with rs:=qcm p.rs none (some k)++qcm p.rs (some (k+1)) none },ps,rfl,hp,hl,_,rfl,q h0 h1⟩
def qcO:SpM:=fun as R _=>∃ (a:Option Addr) (p:Pln) (ps:List Pln) (g:D),as=[.ob a (yO p ps),.v g]∧PlnOk p∧ps.length<500∧Smo 4 g∧R (.v .non) [yO { p with gl:=g } (ps++[p])]
theorem qk3 {p:Pln} (h:PlnOk p) {g:D} (hg:Smo 4 g):NoL (qaT { p with gl:=g }):=(show PlnOk { p with gl:=g } from ⟨h.bl,h.bo,h.rl,h.ro,hg⟩).noL
theorem qd8 {n:Nat} {f:Addr} {fd:FuncData} (F:Fun K "turn" "Yard.turn" qaV f fd) {C_Yard:Addr} (T_Yard:TxtYard K mg C_Yard) (R_Yard__change:MthM P w K mg base n C_Yard "change" ["self","plan","known"] qba):FnOk P w K mg base CX0 (n+1) f fd ["self","goal"] (qds K qcO):=by
  refine F.okM qdZ (fun as R Rx h=>?_) (fun cdv A outer s H E as R Rx qs hcd hr h hqs=>?_)
  · obtain ⟨a,p,ps,g,rfl,_⟩:=h;rfl
  obtain ⟨a,p,ps,g,rfl,hp,hl,hg,q⟩:=h
  obtain ⟨pa,rfl⟩:=qeX hqs
  refine ⟨_,(qav (qeH (qfx 0 R_Yard__change hr T_Yard.cl T_Yard.ns (qah (qdM (qbv (qak (qaZ (PD.q (qdB T_Yard.cl T_Yard.n_plan T_Yard.ns (dvq 0))) (PD.q qab) (fun _ _=>rfl)) (qak (qaZ (PD.q (qdB T_Yard.cl T_Yard.n_plan T_Yard.ns (dvq 0))) (PD.q qab) (fun _ _=>rfl)) (qak (dv 1) qaS qaa) qad) qad))) (qah (qat qbi) qao qac) qaI) qaI (qaj qac qaf)))),?_⟩
  exact ⟨⟨_,_,rfl,rfl⟩,rfl,_,rfl,_,rfl,rfl,_,rfl,_,rfl,qk3 hp hg,_,rfl,rfl,_,p,{ p with gl:=g },ps,rfl,hp,hl,_,rfl,q⟩
def qb0:SpM:=fun as R Rx=>∃ (a:Option Addr) (p:Pln) (ps:List Pln),as=[.ob a (yO p ps)]∧(ps=[]→Rx exC [yO p ps])∧(∀ qs q,ps=qs++[q]→R (.v .non) [yO q qs])
theorem qdV {α:Type} (f:α→D) (xs:List α) (x:α):((xs++[x]).map f)[((xs++[x]).map f).length - 1]?=some (f x)∧((xs++[x]).map f).dropLast=xs.map f:=by
  rw [List.map_append]
  refine ⟨?_,List.dropLast_concat⟩
  rw [List.length_append,List.getElem?_append_right (by simp)]
  simp
theorem qd6 {n:Nat} {f:Addr} {fd:FuncData} (F:Fun K "back" "Yard.back" qaU f fd) {C_Yard:Addr} (T_Yard:TxtYard K mg C_Yard) (z_len:mg "len"=none) (Z_NoChange:Rz0 K mg "NoChange"):FnOk P w K mg base (CXo P w) (n+1) f fd ["self"] (qcV K mg qb0):=by
  refine F.okMX sc_Yard__back (fun as R Rx h=>?_) (fun cdv A outer s H E as R Rx qs hcd hr h hqs=>?_)
  · obtain ⟨a,p,ps,rfl,_⟩:=h;rfl
  obtain ⟨a,p,ps,rfl,qx,q⟩:=h
  obtain ⟨pa,rfl⟩:=qeX hqs
  refine ⟨_,(qaY (qb9 (qhE (qaG (qb6 hr.units) (PD.q (qaQ qbF rfl z_len PySem.boot_len (qaK (PD.q (qdB T_Yard.cl T_Yard.n_changes T_Yard.ns (dvq 0))) qa4 qaM) qaM qaf)) (PD.q qab) (qam _))) (qav (qlP Z_NoChange rfl rfl rfl)) qa1)
      (qaq (qaE (i:=1) sc_Yard__back.nd rfl (Or.inl rfl) (ql2 0 T_Yard.cl T_Yard.n_changes T_Yard.ns))
      (qaq (qdI 0 T_Yard.cl T_Yard.n_plan T_Yard.ns (qat (qaZ (dvq 1) (PD.q qab) (fun _ _=>rfl))))
      (qav (qdI 0 T_Yard.cl T_Yard.n_known T_Yard.ns (qat (qaZ (dvq 1) (PD.q qab) (fun _ _=>rfl)))))))),?_⟩
  refine ⟨fun ρ=>ps≠[]∧ρ=[some (.ob (some pa) (yO p ps)),none],?_,?_⟩
  · refine ⟨rfl,_,rfl,fun h=>⟨_,rfl,qx ?_⟩,fun h=>⟨fun e=>?_,rfl⟩⟩
    · have:=qmf h
      cases ps with
      | nil=>rfl
      | cons x xs=>simp at this;omega
    · subst e;exact tf h
  rintro ρ ⟨hne,rfl⟩
  rcases List.eq_nil_or_concat ps with e | ⟨qs,q0,e⟩
  · exact absurd e hne
  rw [List.concat_eq_append] at e
  subst e
  obtain ⟨e1,e2⟩:=qdV chD qs q0
  refine ⟨_,_,_,rfl,rfl,_,e1,yF p qs,(by rw [e2];rfl),?_⟩
  dsimp only [qaz,qaw,qbk,qbz,qcu,List.set]
  refine ⟨_,rfl,_,_,rfl,rfl,(by show 3<1000;decide),_,rfl,?_⟩
  refine ⟨_,rfl,_,_,rfl,rfl,(by show 3<1000;decide),yF q0 qs,rfl,?_⟩
  exact ⟨_,rfl,q qs q0 rfl⟩
inductive Deed where | put (r:D) | take (k:Int) | turn (g:D) | back
def qa6:Deed→D
  | .put r=>.tup [.int 0,r]
  | .take k=>.tup [.int 1,.int k]
  | .turn g=>.tup [.int 2,g]
  | .back=>.tup [.int 3,.non]
def qdT:Deed→Prop
  | .put r=>Smo 3 r
  | .take k=>k.natAbs≤1000
  | .turn g=>Smo 4 g
  | .back=>True
def bad (p:Pln) (ps:List Pln):Deed→Int
  | .put _=>if 12≤p.rs.length then 1 else 0
  | .take k=>if k<0∨(p.rs.length:Int)≤k then 2 else 0
  | .turn _=>0
  | .back=>if ps=[] then 3 else 0
def qeY (p:Pln) (ps:List Pln):Deed→Pln
  | .put r=>{ p with rs:=p.rs++[r] }
  | .take k=>{ p with rs:=qcm p.rs none (some k)++qcm p.rs (some (k+1)) none }
  | .turn g=>{ p with gl:=g }
  | .back=>ps.getLast?.getD p
def qgh (p:Pln) (ps:List Pln):Deed→List Pln
  | .back=>ps.dropLast
  | _=>ps++[p]
def exB (k:Int):XD:=if k=1 then exG else if k=2 then exR else exC
def qcG:SpM:=fun as R Rx=>∃ (a:Option Addr) (p:Pln) (ps:List Pln) (d:Deed),as=[.ob a (yO p ps),.v (qa6 d)]∧PlnOk p∧ps.length<500∧qdT d∧(bad p ps d=0→R (.v .non) [yO (qeY p ps d) (qgh p ps d)])∧(bad p ps d≠0→Rx (exB (bad p ps d)) [yO p ps])
theorem qbZ {qs:List Pln} {q p:Pln}:qeY p (qs++[q]) .back=q∧qgh p (qs++[q]) .back=qs:=by
  constructor
  · show (qs++[q]).getLast?.getD p=q
    rw [List.getLast?_concat];rfl
  · exact List.dropLast_concat
theorem qfo {n:Nat} {f:Addr} {fd:FuncData} (F:Fun K "_law_ask" "_law_ask" qb5 f fd) {C_Yard:Addr} (T_Yard:TxtYard K mg C_Yard) (R_Yard__back:MthMX P w K mg base n C_Yard "back" ["self"] qb0) (R_Yard__put_row:MthMX P w K mg base n C_Yard "put_row" ["self","row"] qbT) (R_Yard__take_row:MthMX P w K mg base n C_Yard "take_row" ["self","number"] qbN) (R_Yard__turn:MthM P w K mg base n C_Yard "turn" ["self","goal"] qcO):FnOk P w K mg base (CXo P w) (n+1) f fd ["_law_yard","_law_deed"] (qcV K mg qcG):=by
  refine F.okMX qff (fun as R Rx h=>?_) (fun cdv A outer s H E as R Rx qs hcd hr h hqs=>?_)
  · obtain ⟨a,p,ps,d,rfl,_⟩:=h;rfl
  obtain ⟨a,p,ps,d,rfl,hp,hl,hd,q,qx⟩:=h
  obtain ⟨pa,rfl⟩:=qeX hqs
  refine ⟨_,(qaY (qb9 (qa8 (qaG (qb6 hr.units) (PD.q (qaZ (dvq 1) (PD.q qab) (fun _ _=>rfl))) (PD.q qab) (qam _))) (qav (qaW (qhh 0 R_Yard__put_row hr rfl T_Yard.cl T_Yard.ns (qah (qat (qaZ (dvq 1) (PD.q qab) (fun _ _=>rfl))) qao qad) qad qaf))) qa1)
      (qaY (qb9 (qa8 (qaG (qb6 hr.units) (PD.q (qaZ (dvq 1) (PD.q qab) (fun _ _=>rfl))) (PD.q qab) (qam _))) (qav (qaW (qhh 0 R_Yard__take_row hr rfl T_Yard.cl T_Yard.ns (qah (qat (qaZ (dvq 1) (PD.q qab) (fun _ _=>rfl))) qao qad) qad qaf))) qa1)
      (qaY (qb9 (qa8 (qaG (qb6 hr.units) (PD.q (qaZ (dvq 1) (PD.q qab) (fun _ _=>rfl))) (PD.q qab) (qam _))) (qav (qaW (qfx 0 R_Yard__turn hr T_Yard.cl T_Yard.ns (qah (qat (qaZ (dvq 1) (PD.q qab) (fun _ _=>rfl))) qao qad) qad qaf))) qa1)
      (qav (qaW (qfK 0 R_Yard__back hr rfl T_Yard.cl T_Yard.ns)))))),?_⟩
  cases d with
  | put r =>
    refine ⟨fun ρ=>False,⟨_,rfl,fun _=>?_,fun h=>tf h⟩,?_⟩
    · refine ⟨⟨_,_,rfl,rfl⟩,_,rfl,_,rfl,rfl,_,p,ps,r,rfl,hp,hl,hd,fun h=>?_,fun h=>?_⟩
      · have e:bad p ps (.put r)=1:=if_pos h
        rw [e] at qx
        exact ⟨_,rfl,qx (by decide)⟩
      · exact ⟨_,rfl,q (if_neg (by omega))⟩
    rintro ρ ⟨⟩
  | take k =>
    refine ⟨fun ρ=>ρ=[some (.ob (some pa) (yO p ps)),some (.v (qa6 (.take k)))],⟨_,rfl,fun h=>ff h,fun _=>rfl⟩,?_⟩
    rintro ρ rfl
    refine ⟨fun ρ=>False,⟨_,rfl,fun _=>?_,fun h=>tf h⟩,?_⟩
    · refine ⟨⟨_,_,rfl,rfl⟩,_,rfl,_,rfl,rfl,_,p,ps,k,rfl,hp,hl,hd,fun h=>?_,fun h h2=>?_⟩
      · have e:bad p ps (.take k)=2:=if_pos h
        rw [e] at qx
        exact ⟨_,rfl,qx (by decide)⟩
      · exact ⟨_,rfl,q (if_neg (by omega))⟩
    rintro ρ ⟨⟩
  | turn g =>
    refine ⟨fun ρ=>ρ=[some (.ob (some pa) (yO p ps)),some (.v (qa6 (.turn g)))],⟨_,rfl,fun h=>ff h,fun _=>rfl⟩,?_⟩
    rintro ρ rfl
    refine ⟨fun ρ=>ρ=[some (.ob (some pa) (yO p ps)),some (.v (qa6 (.turn g)))],⟨_,rfl,fun h=>ff h,fun _=>rfl⟩,?_⟩
    rintro ρ rfl
    refine ⟨fun ρ=>False,⟨_,rfl,fun _=>?_,fun h=>tf h⟩,?_⟩
    · exact ⟨⟨_,_,rfl,rfl⟩,_,rfl,_,rfl,rfl,_,p,ps,g,rfl,hp,hl,hd,_,rfl,q rfl⟩
    rintro ρ ⟨⟩
  | back =>
    refine ⟨fun ρ=>ρ=[some (.ob (some pa) (yO p ps)),some (.v (qa6 .back))],⟨_,rfl,fun h=>ff h,fun _=>rfl⟩,?_⟩
    rintro ρ rfl
    refine ⟨fun ρ=>ρ=[some (.ob (some pa) (yO p ps)),some (.v (qa6 .back))],⟨_,rfl,fun h=>ff h,fun _=>rfl⟩,?_⟩
    rintro ρ rfl
    refine ⟨fun ρ=>ρ=[some (.ob (some pa) (yO p ps)),some (.v (qa6 .back))],⟨_,rfl,fun h=>ff h,fun _=>rfl⟩,?_⟩
    rintro ρ rfl
    refine ⟨⟨_,_,rfl,rfl⟩,_,rfl,rfl,_,p,ps,rfl,fun h=>?_,fun qs q0 h=>?_⟩
    · have e:bad p ps .back=3:=if_pos h
      rw [e] at qx
      exact ⟨_,rfl,qx (by decide)⟩
    · subst h
      have:=q (if_neg (by simp))
      rw [qbZ.1,qbZ.2] at this
      exact ⟨_,rfl,this⟩
def qi6 (p:Pln) (ps:List Pln) (d:Deed):Pln:=if bad p ps d=0 then qeY p ps d else p
def qkm (p:Pln) (ps:List Pln) (d:Deed):List Pln:=if bad p ps d=0 then qgh p ps d else ps
theorem qc7 (p:Pln) (ps:List Pln) (d:Deed):bad p ps d=0∨bad p ps d=1∨bad p ps d=2∨bad p ps d=3:=by
  cases d with
  | put r=>by_cases h:12≤p.rs.length;exact .inr (.inl (if_pos h));exact .inl (if_neg h)
  | take k=>by_cases h:k<0∨(p.rs.length:Int)≤k;exact .inr (.inr (.inl (if_pos h)));exact .inl (if_neg h)
  | turn g=>exact .inl rfl
  | back=>by_cases h:ps=[];exact .inr (.inr (.inr (if_pos h)));exact .inl (if_neg h)
theorem qi3:∀ k:Int,(k=1∨k=2∨k=3)→(exB k).nm∈exN∧qc5 (exB k).nm "YardError"=true:=by
  rintro k (rfl | rfl | rfl) <;> exact ⟨by decide +kernel,by decide +kernel⟩
def qdr:SpM:=fun as R _=>∃ (a:Option Addr) (p:Pln) (ps:List Pln) (d:Deed),as=[.ob a (yO p ps),.v (qa6 d)]∧PlnOk p∧ps.length<500∧qdT d∧R (.v (.int (bad p ps d))) [yO (qi6 p ps d) (qkm p ps d)]
theorem qju {p:Pln} {ps:List Pln} {d:Deed} (h:bad p ps d=0):qi6 p ps d=qeY p ps d∧qkm p ps d=qgh p ps d:=⟨if_pos h,if_pos h⟩
theorem qkk {p:Pln} {ps:List Pln} {d:Deed} (h:bad p ps d≠0):qi6 p ps d=p∧qkm p ps d=ps:=⟨if_neg h,if_neg h⟩
theorem isN {a b:Str} (h:qc5 a b=true) (h2:qc5 a b=false):False:=by rw [h] at h2;cases h2
theorem qes {n:Nat} {f:Addr} {fd:FuncData} (F:Fun K "_law_done" "_law_done" qbC f fd) (R__law_ask:ClMX P w K mg base n "_law_ask" ["_law_yard","_law_deed"] qcG) (Ex:Exs K mg qc5 exN) (Is:Isa K mg qc5 exN) (e_TooGreat:∃ D,mg "TooGreat"=some (.ref D)) (e_NoRow:∃ D,mg "NoRow"=some (.ref D)) (e_NoChange:∃ D,mg "NoChange"=some (.ref D)):FnOk P w K mg base CX0 (n+1) f fd ["_law_yard","_law_deed"] (qds K qdr):=by
  refine F.okM sc__law_done (fun as R Rx h=>?_) (fun cdv A outer s H E as R Rx qs hcd hr h hqs=>?_)
  · obtain ⟨a,p,ps,d,rfl,_⟩:=h;rfl
  obtain ⟨a,p,ps,d,rfl,hp,hl,hd,q⟩:=h
  obtain ⟨pa,rfl⟩:=qeX hqs
  refine ⟨_,(qaq (qaE (i:=2) sc__law_done.nd rfl (Or.inl rfl) (qat qab))
      (qaq (qaE (i:=3) sc__law_done.nd rfl (Or.inl rfl) (qat qab))
      (qaq (qaE (i:=4) sc__law_done.nd rfl (Or.inl rfl) (qat qbi))
      (qaY (qkA (fun _ _=>(qav (qaE (i:=3) sc__law_done.nd rfl (Or.inl rfl) (qfB R__law_ask hr rfl rfl (qas 0 (qah (qat (dv 1)) qao qaa) qaa) qaa (qaj qaa qaf))))) (qiB 5 Ex e_TooGreat (by decide +kernel) rfl sc__law_done.nd (fun _ _=>(qaq (qaE (i:=2) sc__law_done.nd rfl (Or.inl rfl) (qat qab))
      (qav (qaE (i:=4) sc__law_done.nd rfl (Or.inl rfl) (qat (qny Ex Is (dv 5))))))) (qhl Ex e_NoRow (by decide +kernel) rfl (fun _ _=>(qav (qaE (i:=2) sc__law_done.nd rfl (Or.inl rfl) (qat qab)))) (qhl Ex e_NoChange (by decide +kernel) rfl (fun _ _=>(qav (qaE (i:=2) sc__law_done.nd rfl (Or.inl rfl) (qat qab)))) qiY))) rfl rfl)
      (qaY (qb9 (qa8 (PWD.td (qjO (qaG qdW (dvq 4) (PD.q qbi) (qam _)) (qgp (PWD.td (qeh (qaG (qb6 hr.units) (dvq 2) (PD.q qab) (qam _)) (qcl (qaG qdW (dvq 3) (PD.q qbi) (qam _))))))))) (qav (qaW (qat qab))) qa1)
      (qav (qaW (qat (dv 2))))))))),?_⟩
  refine ⟨fun ρ=>∃ (t:D) (u5:Option Sm),ρ=[some (.ob (some pa) (yO (qi6 p ps d) (qkm p ps d))),some (.v (qa6 d)),some (.v (.int (bad p ps d))),some (.v t),some (.v .non),u5]∧(bad p ps d=0→t=.non),?_,?_⟩
  · refine ⟨⟨_,_,rfl⟩,_,rfl,rfl,_,p,ps,d,rfl,hp,hl,hd,fun h=>?_,fun h=>?_⟩
    · exact ⟨.non,none,by rw [(qju h).1,(qju h).2,h];rfl,fun _=>rfl⟩
    · have hc:bad p ps d=1∨bad p ps d=2∨bad p ps d=3:=(qc7 p ps d).resolve_left h
      have hn:=(qi3 _ hc).1
      have fin:∀ u5,([some (.ob (some pa) (yO p ps)),some (.v (qa6 d)),some (.v (.int (bad p ps d))),some (.v (.int 0)),some (.v .non),u5]:qau)=[some (.ob (some pa) (yO (qi6 p ps d) (qkm p ps d))),some (.v (qa6 d)),some (.v (.int (bad p ps d))),some (.v (.int 0)),some (.v .non),u5]:=fun u5=>by rw [(qkk h).1,(qkk h).2]
      rcases hc with e | e | e
      · rw [e] at hn fin ⊢
        exact ⟨hn,fun _=>⟨_,_,rfl,hn,trivial,.int 0,none,fin _,fun z=>(by cases z)⟩,fun z=>(isN (by decide +kernel) z).elim⟩
      · rw [e] at hn fin ⊢
        exact ⟨hn,fun z=>(isN z (by decide +kernel)).elim,fun _=>⟨hn,fun _=>⟨.int 0,none,fin _,fun z=>(by cases z)⟩,fun z=>(isN (by decide +kernel) z).elim⟩⟩
      · rw [e] at hn fin ⊢
        exact ⟨hn,fun z=>(isN z (by decide +kernel)).elim,fun _=>⟨hn,fun z=>(isN z (by decide +kernel)).elim,fun _=>⟨hn,fun _=>⟨.int 0,none,fin _,fun z=>(by cases z)⟩,fun z=>(isN (by decide +kernel) z).elim⟩⟩⟩
  rintro ρ ⟨t,u5,rfl,ht⟩
  refine ⟨fun ρ=>ρ=[some (.ob (some pa) (yO (qi6 p ps d) (qkm p ps d))),some (.v (qa6 d)),some (.v (.int (bad p ps d))),some (.v t),some (.v .non),u5],⟨fun h=>(by cases h),fun _=>⟨fun h=>?_,fun _=>⟨fun h=>ff h,fun _=>rfl⟩⟩⟩,?_⟩
  · have e:=ht (qmf h)
    subst e
    exact ⟨fun h=>ff h,fun _=>rfl⟩
  rintro ρ rfl
  exact ⟨_,rfl,q⟩
def qbL (k:Int):List D:=[.bl (k == 1),.bl (k == 2),.bl (k == 3),.bl false,.bl false,.bl false,.bl false,.bl false,.bl true]
def qcM:SpM:=fun as R _=>∃ (a:Option Addr) (p:Pln) (ps:List Pln) (d:Deed),as=[.ob a (yO p ps),.v (qa6 d)]∧PlnOk p∧ps.length<500∧qdT d∧bad p ps d≠0∧R (.v (.lst (qbL (bad p ps d)))) [yO p ps]
theorem qgB {k:Int} (hk:k=1∨k=2∨k=3) {b1 b2 b3 b4 b5 b6 b7 b8:Bool} (h1:qc5 (exB k).nm "TooGreat"=b1) (h5:qc5 (exB k).nm "NoRow"=b5) (h6:qc5 (exB k).nm "NoChange"=b6) (h2:qc5 (exB k).nm "Twice"=b2) (h3:qc5 (exB k).nm "NoName"=b3) (h4:qc5 (exB k).nm "NoText"=b4) (h7:qc5 (exB k).nm "NoNumber"=b7) (h8:qc5 (exB k).nm "BelowNought"=b8):[D.bl b1,.bl b5,.bl b6,.bl b2,.bl b3,.bl b4,.bl b7,.bl b8,.bl true]=qbL k:=by
  subst h1 h2 h3 h4 h5 h6 h7 h8
  have:∀ k:Int,(k=1∨k=2∨k=3)→qc5 (exB k).nm "TooGreat"=(k == 1)∧qc5 (exB k).nm "NoRow"=(k == 2)∧qc5 (exB k).nm "NoChange"=(k == 3)∧qc5 (exB k).nm "Twice"=false∧qc5 (exB k).nm "NoName"=false∧qc5 (exB k).nm "NoText"=false∧qc5 (exB k).nm "NoNumber"=false∧qc5 (exB k).nm "BelowNought"=false:=by
    rintro k (rfl | rfl | rfl) <;> decide +kernel
  obtain ⟨a1,a2,a3,a4,a5,a6,a7,a8⟩:=this k hk
  rw [a1,a2,a3,a4,a5,a6,a7,a8]
  rfl
theorem qeb {n:Nat} {f:Addr} {fd:FuncData} (F:Fun K "_law_kinds" "_law_kinds" qbu f fd) (R__law_ask:ClMX P w K mg base n "_law_ask" ["_law_yard","_law_deed"] qcG) (z_isinstance:mg "isinstance"=none) (z_ValueError:mg "ValueError"=none) (Ex:Exs K mg qc5 exN) (Is:Isa K mg qc5 exN) (e_YardError:∃ D,mg "YardError"=some (.ref D)) (e_TooGreat:∃ D,mg "TooGreat"=some (.ref D)) (e_NoRow:∃ D,mg "NoRow"=some (.ref D)) (e_NoChange:∃ D,mg "NoChange"=some (.ref D)) (e_Twice:∃ D,mg "Twice"=some (.ref D)) (e_NoName:∃ D,mg "NoName"=some (.ref D)) (e_NoText:∃ D,mg "NoText"=some (.ref D)) (e_NoNumber:∃ D,mg "NoNumber"=some (.ref D)) (e_BelowNought:∃ D,mg "BelowNought"=some (.ref D)):FnOk P w K mg base CX0 (n+1) f fd ["_law_yard","_law_deed"] (qds K qcM):=by
  refine F.okM sc__law_kinds (fun as R Rx h=>?_) (fun cdv A outer s H E as R Rx qs hcd hr h hqs=>?_)
  · obtain ⟨a,p,ps,d,rfl,_⟩:=h;rfl
  obtain ⟨a,p,ps,d,rfl,hp,hl,hd,hb,q⟩:=h
  obtain ⟨pa,rfl⟩:=qeX hqs
  refine ⟨_,(qaq (qaE (i:=2) sc__law_kinds.nd rfl (Or.inl rfl) (qat (PF.d (qea qaS))))
      (qaY (qkA (fun _ _=>(qav (qeH (qfB R__law_ask hr rfl rfl (qas 0 (qah (qat (dv 1)) qao qaa) qaa) qaa (qaj qaa qaf))))) (qiB 3 Ex e_YardError (by decide +kernel) rfl sc__law_kinds.nd (fun _ _=>(qaq (qaE (i:=2) sc__law_kinds.nd rfl (Or.inl rfl) (qat (PF.d (qea (qak (qcN Ex Is e_TooGreat (by decide +kernel) rfl rfl z_isinstance (dv 3) qaa qaa) (qak (qcN Ex Is e_NoRow (by decide +kernel) rfl rfl z_isinstance (dv 3) qaa qaa) (qak (qcN Ex Is e_NoChange (by decide +kernel) rfl rfl z_isinstance (dv 3) qaa qaa) (qak (qcN Ex Is e_Twice (by decide +kernel) rfl rfl z_isinstance (dv 3) qaa qaa) qaS qax) qax) qax) qax)))))
      (qaq (qaE (i:=2) sc__law_kinds.nd rfl (Or.inl rfl) (qat (qcg qb3 (dvq 2) (PD.q (PF.d (qea (qak (qcN Ex Is e_NoName (by decide +kernel) rfl rfl z_isinstance (dv 3) qaa qaa) (qak (qcN Ex Is e_NoText (by decide +kernel) rfl rfl z_isinstance (dv 3) qaa qaa) (qak (qcN Ex Is e_NoNumber (by decide +kernel) rfl rfl z_isinstance (dv 3) qaa qaa) qaS qax) qax) qax)))))))
      (qav (qaE (i:=2) sc__law_kinds.nd rfl (Or.inl rfl) (qat (qcg qb3 (dvq 2) (PD.q (PF.d (qea (qak (qcN Ex Is e_BelowNought (by decide +kernel) rfl rfl z_isinstance (dv 3) qaa qaa) (qak (qmk Ex Is rfl z_ValueError rfl z_isinstance (dv 3) qaa qaa) qaS qax) qax))))))))))) qiY) rfl rfl)
      (qav (qaW (qat (dv 2)))))),?_⟩
  have sz1:4+3≤sizeLine:=by rw [sizeLine_eq];decide
  have sz2:7+2≤sizeLine:=by rw [sizeLine_eq];decide
  refine ⟨fun ρ=>ρ=[some (.ob (some pa) (yO p ps)),some (.v (qa6 d)),some (.v (.lst (qbL (bad p ps d)))),none],?_,?_⟩
  · refine ⟨⟨_,_,rfl⟩,_,rfl,rfl,_,p,ps,d,rfl,hp,hl,hd,fun h=>absurd h hb,fun h=>?_⟩
    have hc:bad p ps d=1∨bad p ps d=2∨bad p ps d=3:=(qc7 p ps d).resolve_left h
    obtain ⟨hn,hy⟩:=qi3 _ hc
    refine ⟨hn,fun _=>?_,fun z=>(isN hy z).elim⟩
    dsimp only [qaz,qaw,qbk,qbz,qcu,List.set]
    refine ⟨_,_,rfl,hn,_,_,rfl,hn,_,_,rfl,hn,_,_,rfl,hn,?_⟩
    dsimp only [qaz,qaw,qbk,qbz,qcu,List.set]
    refine ⟨_,_,rfl,hn,_,_,rfl,hn,_,_,rfl,hn,sz1,_,rfl,?_⟩
    dsimp only [qaz,qaw,qbk,qbz,qcu,List.set]
    refine ⟨_,_,rfl,hn,_,_,rfl,hn,sz2,_,rfl,?_⟩
    rw [← qgB hc rfl rfl rfl rfl rfl rfl rfl rfl]
    rfl
  rintro ρ rfl
  exact ⟨_,rfl,q⟩
def qcU:SpM:=fun as R _=>∃ (a:Option Addr) (p:Pln) (ps:List Pln) (d:Deed),as=[.v (qaT p),.ob a (.lst (ps.map qaT)),.v (qa6 d)]∧PlnOk p∧R (.v (.tup [.int (bad p ps d),qaT (qi6 p ps d)])) [.lst (ps.map qaT)]
abbrev SA (p:Pln) (ps:List Pln) (d:Deed) (pa:Addr):qau:=[some (.v (qaT p)),some (.ob (some pa) (.lst (ps.map qaT))),some (.v (qa6 d)),some (.v (.tup p.rs))]
theorem qd5 {n:Nat} {f:Addr} {fd:FuncData} (F:Fun K "_law_after" "_law_after" qbs f fd) (z_len:mg "len"=none):FnOk P w K mg base CX0 (n+1) f fd ["_law_plan_here","_law_past","_law_deed"] (qds K qcU):=by
  refine F.okM sc__law_after (fun as R Rx h=>?_) (fun cdv A outer s H E as R Rx qs hcd hr h hqs=>?_)
  · obtain ⟨a,p,ps,d,rfl,_⟩:=h;rfl
  obtain ⟨a,p,ps,d,rfl,hp,q⟩:=h
  obtain ⟨pa,rfl⟩:=qeX hqs
  refine ⟨_,(qaq (qaE (i:=3) sc__law_after.nd rfl (Or.inl rfl) (qat (qaZ (dvq 0) (PD.q qab) (fun _ _=>rfl))))
      (qaY (qb9 (qa8 (PWD.td (qeh (qaG (qb6 hr.units) (PD.q (qaZ (dvq 2) (PD.q qab) (fun _ _=>rfl))) (PD.q qab) (qam _)) (qcl (qaG qlz (PD.q (qaQ qbF rfl z_len PySem.boot_len (qaK (dvq 3) qa4 qaa) qaa qaf)) (PD.q qab) (qam _)))))) (qav (qaW (qat (qbv (qak qab (qak (dv 0) qaS qaa) qac))))) qa1)
      (qaY (qb9 (qa8 (PWD.td (qeh (qaG (qb6 hr.units) (PD.q (qaZ (dvq 2) (PD.q qab) (fun _ _=>rfl))) (PD.q qab) (qam _)) (qcl (PWD.td (qjO (qaG qkj (PD.q (qaZ (dvq 2) (PD.q qab) (fun _ _=>rfl))) (PD.q qab) (qam _)) (qgp (qaG qlz (PD.q (qaZ (dvq 2) (PD.q qab) (fun _ _=>rfl))) (PD.q (qaQ qbF rfl z_len PySem.boot_len (qaK (dvq 3) qa4 qaa) qaa qaf)) (qam _))))))))) (qav (qaW (qat (qbv (qak qab (qak (dv 0) qaS qaa) qac))))) qa1)
      (qaY (qb9 (qa8 (PWD.td (qeh (qaG (qb6 hr.units) (PD.q (qaZ (dvq 2) (PD.q qab) (fun _ _=>rfl))) (PD.q qab) (qam _)) (qcl (qaG (qb6 hr.units) (PD.q (qaQ qbF rfl z_len PySem.boot_len (qaK (dvq 1) qa4 qaa) qaa qaf)) (PD.q qab) (qam _)))))) (qav (qaW (qat (qbv (qak qab (qak (dv 0) qaS qaa) qac))))) qa1)
      (qaY (qb9 (qa8 (qaG (qb6 hr.units) (PD.q (qaZ (dvq 2) (PD.q qab) (fun _ _=>rfl))) (PD.q qab) (qam _))) (qav (qaW (qat (qbv (qak qab (qak (qbv (qak (qaZ (dvq 0) (PD.q qab) (fun _ _=>rfl)) (qak (qcg qb3 (dvq 3) (PD.q (qbv (qak (qaZ (dvq 2) (PD.q qab) (fun _ _=>rfl)) qaS qad)))) (qak (qaZ (dvq 0) (PD.q qab) (fun _ _=>rfl)) qaS qad) qa7) qad)) qaS qaI) qac))))) qa1)
      (qaY (qb9 (qa8 (qaG (qb6 hr.units) (PD.q (qaZ (dvq 2) (PD.q qab) (fun _ _=>rfl))) (PD.q qab) (qam _))) (qav (qaW (qat (qbv (qak qab (qak (qbv (qak (qaZ (dvq 0) (PD.q qab) (fun _ _=>rfl)) (qak (qcg qb3 (PD.q (qle (dvq 3) qeD (qeP (PD.q (qaZ (dvq 2) (PD.q qab) (fun _ _=>rfl)))))) (PD.q (qle (dvq 3) (qeP (PD.q (qcg qb3 (PD.q (qaZ (dvq 2) (PD.q qab) (fun _ _=>rfl))) (PD.q qab)))) qeD))) (qak (qaZ (dvq 0) (PD.q qab) (fun _ _=>rfl)) qaS qad) qa7) qad)) qaS qaI) qac))))) qa1)
      (qaY (qb9 (qa8 (qaG (qb6 hr.units) (PD.q (qaZ (dvq 2) (PD.q qab) (fun _ _=>rfl))) (PD.q qab) (qam _))) (qav (qaW (qat (qbv (qak qab (qak (qbv (qak (qaZ (dvq 0) (PD.q qab) (fun _ _=>rfl)) (qak (dv 3) (qak (qaZ (dvq 2) (PD.q qab) (fun _ _=>rfl)) qaS qad) qaa) qad)) qaS qaI) qac))))) qa1)
      (qav (qaW (qat (qbv (qak qab (qak (qaZ (dvq 1) (PD.q (qcg qgv (PD.q (qaQ qbF rfl z_len PySem.boot_len (qaK (dvq 1) qa4 qaa) qaa qaf)) (PD.q qab))) (fun _ _=>rfl)) qaS qad) qac)))))))))))),?_⟩
  have h8:=hp.rl
  have q1:∀ k p',bad p ps d=k→qi6 p ps d=p'→R (.v (.tup [.int k,qaT p'])) [.lst (ps.map qaT)]:=by rintro _ _ rfl rfl;exact q
  refine ⟨_,rfl,?_⟩
  dsimp only [qaz,qaw,qbk,qbz,qcu,List.set]
  cases d with
  | put r =>
    refine ⟨fun ρ=>p.rs.length<12∧ρ=SA p ps (.put r) pa,⟨_,rfl,fun _=>⟨fun h=>?_,fun h=>⟨by have:=of_decide_eq_false h;omega,rfl⟩⟩,fun h=>tf h⟩,?_⟩
    · have e:bad p ps (.put r)=1:=if_pos (by have:=of_decide_eq_true h;omega)
      exact ⟨_,rfl,q1 1 p e (qkk (by rw [e];decide)).1⟩
    rintro ρ ⟨hlt,rfl⟩
    refine ⟨fun ρ=>ρ=SA p ps (.put r) pa,⟨_,rfl,fun h=>ff h,fun _=>⟨fun h=>ff h,fun _=>rfl⟩⟩,?_⟩
    rintro ρ rfl
    refine ⟨fun ρ=>ρ=SA p ps (.put r) pa,⟨_,rfl,fun h=>ff h,fun _=>⟨fun h=>ff h,fun _=>rfl⟩⟩,?_⟩
    rintro ρ rfl
    refine ⟨fun ρ=>False,⟨_,rfl,fun _=>?_,fun h=>tf h⟩,?_⟩
    · have e:bad p ps (.put r)=0:=if_neg (by omega)
      exact ⟨_,rfl,_,rfl,qfc (by show p.rs.length+1≤1000;omega),_,rfl,_,rfl,_,rfl,q1 0 { p with rs:=p.rs++[r] } e (qju e).1⟩
    rintro ρ ⟨⟩
  | take k =>
    refine ⟨fun ρ=>ρ=SA p ps (.take k) pa,⟨_,rfl,fun h=>ff h,fun _=>⟨fun h=>ff h,fun _=>rfl⟩⟩,?_⟩
    rintro ρ rfl
    have bd:(k<0∨(p.rs.length:Int)≤k)→qgx (R (.v (.tup [.int 2,qaT p]))) [.v (qaT p),.ob a (.lst (ps.map qaT)),.v (qa6 (.take k))] [pa] 0 (SA p ps (.take k) pa):=fun h=>by
      have e:bad p ps (.take k)=2:=if_pos h
      exact ⟨_,rfl,q1 2 p e (qkk (by rw [e];decide)).1⟩
    refine ⟨fun ρ=>(0≤k∧k<(p.rs.length:Int))∧ρ=SA p ps (.take k) pa,⟨_,rfl,fun _=>⟨_,rfl,fun h=>⟨fun _=>bd (.inl (of_decide_eq_true h)),fun h=>tf h⟩,fun h=>⟨_,rfl,fun h2=>bd (.inr (of_decide_eq_true h2)),fun h2=>⟨⟨by have:=of_decide_eq_false h;omega,by have:=of_decide_eq_false h2;omega⟩,rfl⟩⟩⟩,fun h=>tf h⟩,?_⟩
    rintro ρ ⟨⟨h0,h1⟩,rfl⟩
    refine ⟨fun ρ=>ρ=SA p ps (.take k) pa,⟨_,rfl,fun h=>ff h,fun _=>⟨fun h=>ff h,fun _=>rfl⟩⟩,?_⟩
    rintro ρ rfl
    refine ⟨fun ρ=>ρ=SA p ps (.take k) pa,⟨_,rfl,fun h=>ff h,fun _=>rfl⟩,?_⟩
    rintro ρ rfl
    refine ⟨fun ρ=>False,⟨_,rfl,fun _=>?_,fun h=>tf h⟩,?_⟩
    · have e:bad p ps (.take k)=0:=if_neg (by omega)
      have l1:=qcq p.rs none (some k)
      have l2:=qcq p.rs (some (k+1)) none
      exact ⟨_,rfl,_,rfl,_,rfl,_,rfl,_,rfl,qfc (by omega),_,rfl,_,rfl,_,rfl,q1 0 { p with rs:=qcm p.rs none (some k)++qcm p.rs (some (k+1)) none } e (qju e).1⟩
    rintro ρ ⟨⟩
  | turn g =>
    refine ⟨fun ρ=>ρ=SA p ps (.turn g) pa,⟨_,rfl,fun h=>ff h,fun _=>⟨fun h=>ff h,fun _=>rfl⟩⟩,?_⟩
    rintro ρ rfl
    refine ⟨fun ρ=>ρ=SA p ps (.turn g) pa,⟨_,rfl,fun h=>ff h,fun _=>⟨fun h=>ff h,fun _=>rfl⟩⟩,?_⟩
    rintro ρ rfl
    refine ⟨fun ρ=>ρ=SA p ps (.turn g) pa,⟨_,rfl,fun h=>ff h,fun _=>⟨fun h=>ff h,fun _=>rfl⟩⟩,?_⟩
    rintro ρ rfl
    refine ⟨fun ρ=>ρ=SA p ps (.turn g) pa,⟨_,rfl,fun h=>ff h,fun _=>rfl⟩,?_⟩
    rintro ρ rfl
    refine ⟨fun ρ=>ρ=SA p ps (.turn g) pa,⟨_,rfl,fun h=>ff h,fun _=>rfl⟩,?_⟩
    rintro ρ rfl
    refine ⟨fun ρ=>False,⟨_,rfl,fun _=>?_,fun h=>tf h⟩,?_⟩
    · exact ⟨_,rfl,_,rfl,_,rfl,q1 0 { p with gl:=g } rfl (qju rfl).1⟩
    rintro ρ ⟨⟩
  | back =>
    refine ⟨fun ρ=>ρ=SA p ps .back pa,⟨_,rfl,fun h=>ff h,fun _=>⟨fun h=>ff h,fun _=>rfl⟩⟩,?_⟩
    rintro ρ rfl
    refine ⟨fun ρ=>ρ=SA p ps .back pa,⟨_,rfl,fun h=>ff h,fun _=>⟨fun h=>ff h,fun _=>rfl⟩⟩,?_⟩
    rintro ρ rfl
    refine ⟨fun ρ=>ps≠[]∧ρ=SA p ps .back pa,⟨_,rfl,fun _=>⟨fun h=>?_,fun h=>⟨fun e=>?_,rfl⟩⟩,fun h=>tf h⟩,?_⟩
    · have e:bad p ps .back=3:=if_pos (by have:=qmf h;cases ps with | nil=>rfl | cons x xs=>simp at this;omega)
      exact ⟨_,rfl,q1 3 p e (qkk (by rw [e];decide)).1⟩
    · subst e;exact tf h
    rintro ρ ⟨hne,rfl⟩
    refine ⟨fun ρ=>ρ=SA p ps .back pa,⟨_,rfl,fun h=>ff h,fun _=>rfl⟩,?_⟩
    rintro ρ rfl
    refine ⟨fun ρ=>ρ=SA p ps .back pa,⟨_,rfl,fun h=>ff h,fun _=>rfl⟩,?_⟩
    rintro ρ rfl
    refine ⟨fun ρ=>ρ=SA p ps .back pa,⟨_,rfl,fun h=>ff h,fun _=>rfl⟩,?_⟩
    rintro ρ rfl
    rcases List.eq_nil_or_concat ps with e | ⟨qs,q0,e⟩
    · exact absurd e hne
    rw [List.concat_eq_append] at e
    subst e
    have e0:bad p (qs++[q0]) .back=0:=if_neg (by simp)
    refine ⟨qaT q0,qiH (i:=qs.length) (by simp) (by simp),_,rfl,q1 0 q0 e0 ?_⟩
    rw [(qju e0).1];exact qbZ.1
def qnM (es:List Int) (b:Int):D:=.tup [.tup (es.map D.int),.int b]
theorem qe8 {es:List Int} {b:Int} (h:es.length≤8):Smo 3 (qnM es b):=qcF (by show 2≤1000;decide) fun d hd=>by
  simp only [List.mem_cons,List.not_mem_nil,or_false] at hd
  rcases hd with rfl | rfl
  · exact qdX 0 (by omega)
  · unfold Smo;trivial
def qcA:SpM:=fun as R _=>∃ (a:Option Addr) (o:Om) (c w:Int) (n:Nat),as=[.ob a o,.v (.int c),.v (.int w)]∧Pl n o∧n+20<2 ^ 20∧0≤c∧c≤8∧∀ (es:List Int) (b:Int) (o':Om),es.length≤8→Pl (n+10) o'→R (.v (qnM es b)) [o']
theorem qfe {n:Nat} {f:Addr} {fd:FuncData} (F:Fun K "_law_row" "_law_row" qby f fd) (R__law_sized:ClM P w K mg base n "_law_sized" ["_law_pool_here","_law_way"] qb2) (z_tuple:mg "tuple"=none) (z_range:mg "range"=none):FnOk P w K mg base CX0 (n+1) f fd ["_law_pool_here","_law_count","_law_way"] (qds K qcA):=by
  refine F.okM sc__law_row (fun as R Rx h=>?_) (fun cdv A outer s H E as R Rx qs hcd hr h hqs=>?_)
  · obtain ⟨a,o,c,w,n,rfl,_⟩:=h;rfl
  obtain ⟨a,o,c,w,n,rfl,hp,hn,hc0,hc1,q⟩:=h
  obtain ⟨pa,rfl⟩:=qeX hqs
  refine ⟨_,(qaq (qaE (i:=3) sc__law_row.nd rfl (Or.inl rfl) (qfw qfb rfl z_tuple PyProof.Rows.boot_tuple (qah (qnD (qiS (N':=["_law_k","_law_pool_here","_law_way"]) (cap:=[none,some 0,some 2]) rfl (.ok (show qf0 ["_law_pool_here","_law_count","_law_way","_law_entries"] (qae qby) _ ["_law_k","_law_pool_here","_law_way"] [none,some 0,some 2]=true by decide +kernel)) (by decide +kernel) (qi9 (qd0 rfl z_range (qak (dv 1) qaS qaa))) (fun _ _ _ _ _=>(qdK (i:=0) (show List.Nodup (["_law_k","_law_pool_here","_law_way"]:List Str) by decide +kernel) rfl (Or.inl rfl))) (fun _ _ _ _ _=>qgO) (fun _ _ _ _ _=>(qar R__law_sized hr rfl (qas 1 (qah (qat (dv 2)) qao qaa) qaa) qaa (qaj qaa qaf))))) qao qbJ) qbJ qaf))
      (qav (qaW (qg1 (qah (qat (dv 3)) (qah (qar R__law_sized hr rfl (qas 0 (qah (qat (dv 2)) qao qaa) qaa) qaa (qaj qaa qaf)) qao qax) qaa))))),?_⟩
  obtain ⟨c,rfl⟩:=Int.eq_ofNat_of_zero_le hc0
  refine ⟨⟨by omega,by omega⟩,qbn (by rw [qaX];omega),fun i ys ρc=>∃ (hs:List Int) (op:Om) (u0:Option Sm),ys=hs.map D.int∧hs.length=i∧Pl (n+i) op∧ρc=[u0,some (.ob (some pa) op),some (.v (.int w))],⟨[],o,_,rfl,rfl,hp,rfl⟩,?_,?_⟩
  · rintro i d ys ρc hd ⟨hs,op,u0,rfl,hl,hpi,rfl⟩
    obtain ⟨hi,rfl⟩:=qbY hd
    refine ⟨fun _=>?_,fun h=>(by cases h)⟩
    refine ⟨⟨_,_,rfl⟩,_,rfl,rfl,_,_,w,n+i,rfl,hpi,by omega,fun x o2 _ hp2=>?_⟩
    exact ⟨hs++[x],o2,_,by rw [List.map_append];rfl,by rw [List.length_append,hl];rfl,hp2,rfl⟩
  · rintro ys ρc ⟨hs,op,u0,rfl,hl,hpi,rfl⟩
    rw [qaX] at hl hpi
    refine ⟨_,rfl,?_⟩
    dsimp only [qaz,qaw,qbk,qbz,qcu,List.set]
    refine ⟨⟨_,_,rfl⟩,_,rfl,rfl,_,_,w,n+c,rfl,hpi.mono (by omega),by omega,fun x o2 _ hp2=>?_⟩
    exact ⟨_,rfl,q hs x o2 (by omega) (hp2.mono (by omega))⟩
def bdI (x:Int) (m:Option Int):D:=.tup [.int x,match m with | none=>.non | some m=>.int m]
theorem qiL (x:Int) (m:Option Int):Smo 3 (bdI x m):=qcF (by show 2≤1000;decide) fun d hd=>by
  simp only [List.mem_cons,List.not_mem_nil,or_false] at hd
  rcases hd with rfl | rfl
  · unfold Smo;trivial
  · cases m <;> (unfold Smo;trivial)
def qc6:SpM:=fun as R _=>∃ (a:Option Addr) (o:Om) (n:Nat),as=[.ob a o]∧Pl n o∧n+400<2 ^ 20∧∀ (p:Pln) (o':Om),PlnOk p→Pl (n+200) o'→R (.v (qaT p)) [o']
theorem qm2 {x y:Int} (h0:0≤y) (h1:y<2) (hx0:0≤x) (hx1:x<13):∃ s:Int,atI [D.int x,D.int 12] y=some (.int s)∧0≤s∧s≤12:=by
  have:y=0∨y=1:=by omega
  rcases this with rfl | rfl
  · exact ⟨_,rfl,hx0,by omega⟩
  · exact ⟨_,rfl,by omega,by omega⟩
theorem qet {n:Nat} {f:Addr} {fd:FuncData} (F:Fun K "_law_plan" "_law_plan" qbp f fd) (R__law_next:ClM P w K mg base n "_law_next" ["_law_pool_here","_law_size"] qa3) (R__law_sized:ClM P w K mg base n "_law_sized" ["_law_pool_here","_law_way"] qb2) (R__law_row:ClM P w K mg base n "_law_row" ["_law_pool_here","_law_count","_law_way"] qcA) (z_range:mg "range"=none) (z_tuple:mg "tuple"=none):FnOk P w K mg base CX0 (n+1) f fd ["_law_pool_here"] (qds K qc6):=by
  refine F.okM sc__law_plan (fun as R Rx h=>?_) (fun cdv A outer s H E as R Rx qs hcd hr h hqs=>?_)
  · obtain ⟨a,o,n,rfl,_⟩:=h;rfl
  obtain ⟨a,o,n,rfl,hp,hn,q⟩:=h
  obtain ⟨pa,rfl⟩:=qeX hqs
  refine ⟨_,(qaq (qaE (i:=1) sc__law_plan.nd rfl (Or.inr rfl) (qar R__law_next hr rfl (qas 0 (qah (qat qab) qao qac) qaa) qaa (qaj qac qaf)))
      (qaq (qaE (i:=2) sc__law_plan.nd rfl (Or.inr rfl) (qar R__law_next hr rfl (qas 0 (qah (qat qab) qao qac) qaa) qaa (qaj qac qaf)))
      (qaq (qaE (i:=3) sc__law_plan.nd rfl (Or.inl rfl) (qmd (qea qaS)))
      (qaq (qlW PassesOwn.never rfl (qi9 (qd0 rfl z_range (qak (dv 1) qaS qaa))) (qdK (i:=4) sc__law_plan.nd rfl (Or.inl rfl)) (qaq (qaE (i:=5) sc__law_plan.nd rfl (Or.inl rfl) (qar R__law_sized hr rfl (qas 0 (qah (qat (dv 2)) qao qaa) qaa) qaa (qaj qaa qaf)))
      (qav (qb9 (qew (qb6 hr.units) (qar R__law_next hr rfl (qas 0 (qah (qat qab) qao qac) qaa) qaa (qaj qac qaf)) (qat qab) (qam _)) (qav (qee 3 (qat (qbv (qak (dv 5) (qak qbi qaS qac) qaa))) (qfW qaI) qaI)) (qav (qee 3 (qg1 (qah (qat (dv 5)) (qah (qar R__law_sized hr rfl (qas 0 (qah (qat (dv 2)) qao qaa) qaa) qaa (qaj qaa qaf)) qao qax) qaa)) (qfW qaI) qaI))))))
      (qaq (qaE (i:=6) sc__law_plan.nd rfl (Or.inl rfl) (qmg (qg1 (qah (qar R__law_next hr rfl (qas 0 (qah (qat qab) qao qac) qaa) qaa (qaj qac qaf)) (qah (qat qab) qao qac) qax)) (qar R__law_next hr rfl (qas 0 (qah (qat qab) qao qac) qaa) qaa (qaj qac qaf)) (fun _ _=>rfl)))
      (qaq (qaE (i:=7) sc__law_plan.nd rfl (Or.inl rfl) (qfw qfb rfl z_tuple PyProof.Rows.boot_tuple (qah (qnD (qiS (N':=["_law_k","_law_pool_here","_law_count","_law_way"]) (cap:=[none,some 0,some 1,some 2]) rfl (.ok (show qf0 ["_law_pool_here","_law_count","_law_way","_law_bounds","_law_k","_law_least","_law_many","_law_rows"] (qae qbp) _ ["_law_k","_law_pool_here","_law_count","_law_way"] [none,some 0,some 1,some 2]=true by decide +kernel)) (by decide +kernel) (qi9 (qd0 rfl z_range (qak (dv 6) qaS qaa))) (fun _ _ _ _ _=>(qdK (i:=0) (show List.Nodup (["_law_k","_law_pool_here","_law_count","_law_way"]:List Str) by decide +kernel) rfl (Or.inl rfl))) (fun _ _ _ _ _=>qgO) (fun _ _ _ _ _=>(qar R__law_row hr rfl (qas 1 (qah (qat (dv 2)) (qah (qat (dv 3)) qao qaa) qaa) qaa) qaa (qaj qaa (qaj qaa qaf)))))) qao qbJ) qbJ qaf))
      (qav (qaW (qg1 (qah (qat (qhN qfb rfl z_tuple PyProof.Rows.boot_tuple (qaK (dvq 3) qa4 qaa) qaa qaf)) (qah (qat (dv 7)) (qah (qmg (qar R__law_row hr rfl (qas 0 (qah (qat (dv 1)) (qah (qat (dv 2)) qao qaa) qaa) qaa) qaa (qaj qaa (qaj qaa qaf))) (qat qab) (fun _ _=>rfl)) qao qad) qaa) qax)))))))))),?_⟩
  refine ⟨⟨_,_,rfl⟩,_,rfl,rfl,_,_,9,n,rfl,hp,by omega,by decide,lt9 (by decide),fun c o1 hc0 hc1 hp1=>?_⟩
  dsimp only [qaz,qaw,qbk,qbz,qcu,List.set]
  refine ⟨⟨_,_,rfl⟩,_,rfl,rfl,_,_,4,n+1,rfl,hp1,by omega,by decide,lt9 (by decide),fun wy o2 hw0 hw1 hp2=>?_⟩
  dsimp only [qaz,qaw,qbk,qbz,qcu,List.set]
  obtain ⟨c,rfl⟩:=Int.eq_ofNat_of_zero_le hc0
  refine ⟨⟨by omega,by omega⟩,fun i ρ=>∃ (op:Om) (bs:List D) (u4 u5:Option Sm),ρ=[some (.ob (some pa) op),some (.v (.int c)),some (.v (.int wy)),some (.own bs),u4,u5,none,none]∧Pl (n+2+3*i) op∧bs.length=i∧∀ b∈bs,Smo 3 b,⟨o2,[],_,_,rfl,hp2,rfl,fun _ h=>(by cases h)⟩,?_,?_⟩
  · rintro i d ρ hd ⟨op,bs,u4,u5,rfl,hpi,hl,hb⟩
    obtain ⟨hi,rfl⟩:=qbY hd
    refine ⟨⟨_,_,rfl⟩,_,rfl,rfl,_,_,wy,n+2+3*i,rfl,hpi,by omega,fun x o3 _ hp3=>?_⟩
    dsimp only [qaz,qaw,qbk,qbz,qcu,List.set]
    refine ⟨⟨_,_,rfl⟩,_,rfl,rfl,_,_,2,n+2+3*i+1,rfl,hp3,by omega,by decide,lt9 (by decide),fun y o4 hy0 hy1 hp4=>⟨fun _=>?_,fun _=>?_⟩⟩
    · refine ⟨qbn (by omega),_,rfl,o4,bs++[bdI x none],_,_,rfl,hp4.mono (by omega),by rw [List.length_append,hl];rfl,fun b hb9=>?_⟩
      rcases List.mem_append.mp hb9 with hb9 | hb9
      · exact hb b hb9
      · rw [List.mem_singleton.mp hb9];exact qiL _ _
    · refine ⟨⟨_,_,rfl⟩,_,rfl,rfl,_,_,wy,n+2+3*i+2,rfl,hp4,by omega,fun z o5 _ hp5=>?_⟩
      refine ⟨qbn (by omega),_,rfl,o5,bs++[bdI x (some z)],_,_,rfl,hp5.mono (by omega),by rw [List.length_append,hl];rfl,fun b hb9=>?_⟩
      rcases List.mem_append.mp hb9 with hb9 | hb9
      · exact hb b hb9
      · rw [List.mem_singleton.mp hb9];exact qiL _ _
  rintro ρ ⟨op,bs,u4,u5,rfl,hpi,hl,hb⟩
  rw [qaX] at hl hpi
  refine ⟨⟨_,_,rfl⟩,_,rfl,rfl,_,_,13,n+30,rfl,hpi.mono (by omega),by omega,by decide,lt9 (by decide),fun x o3 hx0 hx1 hp3=>?_⟩
  refine ⟨⟨_,_,rfl⟩,_,rfl,rfl,_,_,2,n+31,rfl,hp3,by omega,by decide,lt9 (by decide),fun y o4 hy0 hy1 hp4=>?_⟩
  obtain ⟨m,hm,hm0,hm1⟩:=qm2 hy0 hy1 hx0 hx1
  obtain ⟨m,rfl⟩:=Int.eq_ofNat_of_zero_le hm0
  refine ⟨_,hm,?_⟩
  dsimp only [qaz,qaw,qbk,qbz,qcu,List.set]
  refine ⟨⟨by omega,by omega⟩,qbn (by rw [qaX];omega),fun i ys ρc=>∃ (op:Om) (u0:Option Sm),ys.length=i∧(∀ y∈ys,Smo 3 y)∧Pl (n+32+10*i) op∧ρc=[u0,some (.ob (some pa) op),some (.v (.int c)),some (.v (.int wy))],⟨o4,_,rfl,fun _ h=>(by cases h),hp4,rfl⟩,?_,?_⟩
  · rintro i d ys ρc hd ⟨op,u0,hl9,hys,hpi,rfl⟩
    obtain ⟨hi,rfl⟩:=qbY hd
    refine ⟨fun _=>?_,fun h=>(by cases h)⟩
    refine ⟨⟨_,_,rfl⟩,_,rfl,rfl,_,_,c,wy,n+32+10*i,rfl,hpi,by omega,by omega,by omega,fun es b o5 he hp5=>?_⟩
    refine ⟨o5,_,by rw [List.length_append,hl9];rfl,fun y hy=>?_,hp5.mono (by omega),rfl⟩
    rcases List.mem_append.mp hy with hy | hy
    · exact hys y hy
    · rw [List.mem_singleton.mp hy];exact qe8 he
  · rintro ys ρc ⟨op2,u0,hl9,hys,hpi9,rfl⟩
    rw [qaX] at hl9 hpi9
    refine ⟨_,rfl,?_⟩
    dsimp only [qaz,qaw,qbk,qbz,qcu,List.set]
    refine ⟨⟨_,_,rfl⟩,_,rfl,rfl,_,_,c,wy,n+32+10*m,rfl,hpi9.mono (by omega),by omega,by omega,by omega,fun es b o5 he hp5=>?_⟩
    exact ⟨_,rfl,_,rfl,q ⟨bs,ys,.tup (es.map D.int)⟩ o5 ⟨by show bs.length≤8;omega,hb,by show ys.length≤12;omega,hys,qdX 2 (by omega)⟩ (hp5.mono (by omega))⟩
def qce:SpM:=fun as R _=>∃ (a:Option Addr) (o:Om) (p:Pln) (n:Nat),as=[.ob a o,.v (qaT p)]∧Pl n o∧n+50<2 ^ 20∧PlnOk p∧∀ (d:Deed) (o':Om),qdT d→Pl (n+20) o'→R (.v (qa6 d)) [o']
theorem qnm {xs:List D} {k:Int} (h0:0≤k) (h1:k<(xs.length:Int)):∃ x,x∈xs∧atI xs k=some x:=by
  obtain ⟨j,rfl⟩:=Int.eq_ofNat_of_zero_le h0
  have hj:j<xs.length:=by omega
  exact ⟨xs[j],List.getElem_mem hj,qiI (qaH hj) rfl⟩
theorem qdj {n:Nat} {f:Addr} {fd:FuncData} (F:Fun K "_law_deed_of" "_law_deed_of" qbb f fd) (R__law_next:ClM P w K mg base n "_law_next" ["_law_pool_here","_law_size"] qa3) (R__law_row:ClM P w K mg base n "_law_row" ["_law_pool_here","_law_count","_law_way"] qcA) (z_len:mg "len"=none):FnOk P w K mg base CX0 (n+1) f fd ["_law_pool_here","_law_plan_here"] (qds K qce):=by
  refine F.okM sc__law_deed_of (fun as R Rx h=>?_) (fun cdv A outer s H E as R Rx qs hcd hr h hqs=>?_)
  · obtain ⟨a,o,p,n,rfl,_⟩:=h;rfl
  obtain ⟨a,o,p,n,rfl,hp,hn,hk,q⟩:=h
  obtain ⟨pa,rfl⟩:=qeX hqs
  refine ⟨_,(qaq (qaE (i:=2) sc__law_deed_of.nd rfl (Or.inl rfl) (qar R__law_next hr rfl (qas 0 (qah (qat qab) qao qac) qaa) qaa (qaj qac qaf)))
      (qaq (qaE (i:=3) sc__law_deed_of.nd rfl (Or.inl rfl) (qar R__law_next hr rfl (qas 0 (qah (qat qab) qao qac) qaa) qaa (qaj qac qaf)))
      (qaq (qaE (i:=4) sc__law_deed_of.nd rfl (Or.inl rfl) (qat (qaQ qbF rfl z_len PySem.boot_len (qaK (PD.q (qaZ (dvq 1) (PD.q qab) (fun _ _=>rfl))) qa4 qad) qad qaf)))
      (qaY (qb9 (qa8 (PWD.td (qjO (qaG (qb6 hr.units) (dvq 2) (PD.q qab) (qam _)) (qgp (qaG (qb6 hr.units) (dvq 2) (PD.q qab) (qam _)))))) (qaq (qaE (i:=5) sc__law_deed_of.nd rfl (Or.inl rfl) (qar R__law_row hr rfl (qas 0 (qah (qat (dv 4)) (qah (qat (dv 3)) qao qaa) qaa) qaa) qaa (qaj qaa (qaj qaa qaf))))
      (qaY (qb9 (qa8 (PWD.td (qeh (qaG (qb6 hr.units) (dvq 2) (PD.q qab) (qam _)) (qcl (qaG qkn (PD.q (qaQ qbF rfl z_len PySem.boot_len (qaK (PD.q (qaZ (dvq 1) (PD.q qab) (fun _ _=>rfl))) qa4 qad) qad qaf)) (PD.q qab) (qam _)))))) (qav (qaE (i:=5) sc__law_deed_of.nd rfl (Or.inl rfl) (qmg (qat (qaZ (dvq 1) (PD.q qab) (fun _ _=>rfl))) (qar R__law_next hr rfl (qas 0 (qah (qat (qaQ qbF rfl z_len PySem.boot_len (qaK (PD.q (qaZ (dvq 1) (PD.q qab) (fun _ _=>rfl))) qa4 qad) qad qaf)) qao qax) qaa) qaa (qaj qax qaf)) (fun _ _=>rfl)))) qa1)
      (qav (qaW (qat (qbv (qak qab (qak (dv 5) qaS qaa) qac))))))) qa1)
      (qaY (qb9 (qa8 (qaG (qb6 hr.units) (dvq 2) (PD.q qab) (qam _))) (qav (qaW (qg1 (qah (qat qab) (qah (qi2 qgv (qar R__law_next hr rfl (qas 0 (qah (qat (qcg qb3 (PD.q (qaQ qbF rfl z_len PySem.boot_len (qaK (PD.q (qaZ (dvq 1) (PD.q qab) (fun _ _=>rfl))) qa4 qad) qad qaf)) (PD.q qab))) qao qa7) qaa) qaa (qaj qa7 qaf)) (qat qab)) qao qa7) qac)))) qa1)
      (qaY (qb9 (qa8 (qaG (qb6 hr.units) (dvq 2) (PD.q qab) (qam _))) (qaq (qaE (i:=6) sc__law_deed_of.nd rfl (Or.inl rfl) (qmg (qar R__law_row hr rfl (qas 0 (qah (qat (dv 4)) (qah (qat (dv 3)) qao qaa) qaa) qaa) qaa (qaj qaa (qaj qaa qaf))) (qat qab) (fun _ _=>rfl)))
      (qaY (qb9 (qew (qb6 hr.units) (qar R__law_next hr rfl (qas 0 (qah (qat qab) qao qac) qaa) qaa (qaj qac qaf)) (qat qab) (qam _)) (qav (qaE (i:=6) sc__law_deed_of.nd rfl (Or.inl rfl) (qat (qaZ (dvq 1) (PD.q qab) (fun _ _=>rfl))))) qa1)
      (qav (qaW (qat (qbv (qak qab (qak (dv 6) qaS qaa) qac))))))) qa1)
      (qav (qaW (qat (qbv (qak qab (qak qbi qaS qac) qac))))))))))),?_⟩
  have h8:=hk.bl
  have h12:=hk.rl
  refine ⟨⟨_,_,rfl⟩,_,rfl,rfl,_,_,5,n,rfl,hp,by omega,by decide,lt9 (by decide),fun wy o1 hw0 hw1 hp1=>?_⟩
  dsimp only [qaz,qaw,qbk,qbz,qcu,List.set]
  refine ⟨⟨_,_,rfl⟩,_,rfl,rfl,_,_,4,n+1,rfl,hp1,by omega,by decide,lt9 (by decide),fun sz o2 _ _ hp2=>?_⟩
  dsimp only [qaz,qaw,qbk,qbz,qcu,List.set]
  refine ⟨_,rfl,?_⟩
  dsimp only [qaz,qaw,qbk,qbz,qcu,List.set]
  refine ⟨fun ρ=>ρ=[some (.ob (some pa) o2),some (.v (qaT p)),some (.v (.int wy)),some (.v (.int sz)),some (.v (.int p.bs.length)),none,none],⟨fun _=>⟨fun _=>?_,fun h=>tf h⟩,fun _=>⟨fun _=>?_,fun _=>rfl⟩⟩,?_⟩
  iterate 2
    · refine ⟨⟨_,_,rfl⟩,_,rfl,rfl,_,_,_,sz,n+2,rfl,hp2,by omega,by omega,by omega,fun es b o3 he hp3=>?_⟩
      dsimp only [qaz,qaw,qbk,qbz,qcu,List.set]
      refine ⟨fun ρ=>∃ (r:D) (op:Om),ρ=[some (.ob (some pa) op),some (.v (qaT p)),some (.v (.int wy)),some (.v (.int sz)),some (.v (.int p.bs.length)),some (.v r),none]∧Smo 3 r∧Pl (n+13) op,⟨fun _=>⟨_,rfl,fun h=>?_,fun _=>⟨_,_,rfl,qe8 he,hp3.mono (by omega)⟩⟩,fun _=>⟨fun h=>ff h,fun _=>⟨_,_,rfl,qe8 he,hp3.mono (by omega)⟩⟩⟩,?_⟩
      · have h:=of_decide_eq_true h
        refine ⟨_,rfl,⟨_,_,rfl⟩,_,rfl,_,rfl,rfl,_,_,_,n+12,rfl,hp3,by omega,by omega,lt9 (by omega),fun x o4 hx0 hx1 hp4=>?_⟩
        obtain ⟨r,hr1,hr2⟩:=qnm hx0 hx1
        exact ⟨_,hr2,_,_,rfl,hk.ro r hr1,hp4⟩
      rintro ρ ⟨r,op,rfl,hr1,hp5⟩
      exact ⟨_,rfl,q (.put r) op hr1 (hp5.mono (by omega))⟩
  rintro ρ rfl
  refine ⟨fun ρ=>ρ=[some (.ob (some pa) o2),some (.v (qaT p)),some (.v (.int wy)),some (.v (.int sz)),some (.v (.int p.bs.length)),none,none],⟨fun _=>?_,fun _=>rfl⟩,?_⟩
  · refine ⟨⟨_,_,rfl⟩,_,rfl,_,rfl,rfl,_,_,_,n+2,rfl,hp2,by omega,by omega,lt9 (by omega),fun x o4 hx0 hx1 hp4=>?_⟩
    exact ⟨_,rfl,q (.take (x - 2)) o4 (by show (x - 2).natAbs≤1000;omega) (hp4.mono (by omega))⟩
  rintro ρ rfl
  refine ⟨fun ρ=>ρ=[some (.ob (some pa) o2),some (.v (qaT p)),some (.v (.int wy)),some (.v (.int sz)),some (.v (.int p.bs.length)),none,none],⟨fun _=>?_,fun _=>rfl⟩,?_⟩
  · refine ⟨⟨_,_,rfl⟩,_,rfl,rfl,_,_,_,sz,n+2,rfl,hp2,by omega,by omega,by omega,fun es b o3 he hp3=>?_⟩
    dsimp only [qaz,qaw,qbk,qbz,qcu,List.set]
    refine ⟨_,rfl,?_⟩
    dsimp only [qaz,qaw,qbk,qbz,qcu,List.set]
    refine ⟨fun ρ=>∃ (g:D) (op:Om),ρ=[some (.ob (some pa) op),some (.v (qaT p)),some (.v (.int wy)),some (.v (.int sz)),some (.v (.int p.bs.length)),none,some (.v g)]∧Smo 4 g∧Pl (n+13) op,?_,?_⟩
    · refine ⟨⟨_,_,rfl⟩,_,rfl,rfl,_,_,4,n+12,rfl,hp3,by omega,by decide,lt9 (by decide),fun x o4 hx0 hx1 hp4=>⟨fun _=>?_,fun _=>⟨_,_,rfl,qdX 2 (by omega),hp4⟩⟩⟩
      exact ⟨_,rfl,_,_,rfl,hk.go,hp4⟩
    rintro ρ ⟨g,op,rfl,hg,hp5⟩
    exact ⟨_,rfl,q (.turn g) op hg (hp5.mono (by omega))⟩
  rintro ρ rfl
  exact ⟨_,rfl,q .back o2 trivial (hp2.mono (by omega))⟩
theorem qfZ {f:D→D→Option Bool}:∀ {xs:List D},(∀ x∈xs,f x x=some true)→cmL f xs xs=some true
  | [],_=>rfl
  | x::xs,h=>by
    show ((f x x).bind fun b=>(cmL f xs xs).map (b && ·))=_
    rw [h x List.mem_cons_self,qfZ fun y hy=>h y (List.mem_cons_of_mem _ hy)]
    rfl
theorem qnj {n:Nat} (b:Bool):cmB (n+1) (.bl b) (.bl b)=some true:=by cases b <;> rfl
theorem qja {n:Nat} {xs:List D} (h:∀ x∈xs,cmB n x x=some true):cmB (n+1) (.lst xs) (.lst xs)=some true:=by
  show (if xs.length=xs.length then cmL (cmB n) xs xs else some false)=some true
  rw [if_pos rfl]
  exact qfZ h
theorem qix {d:D} {R:D→Prop} (h:cmB 40 d d=some true) (q:R (.bl false)):zNe d d R:=by
  unfold zNe
  rw [h]
  exact q
theorem qjs (k:Int):cmB 40 (.lst (qbL k)) (.lst (qbL k))=some true:=qja fun x hx=>by
  unfold qbL at hx
  simp only [List.mem_cons,List.not_mem_nil,or_false] at hx
  rcases hx with rfl | rfl | rfl | rfl | rfl | rfl | rfl | rfl | rfl <;> exact qnj _
theorem qkZ {p:Pln} {ps:List Pln} {d:Deed} (hk:PlnOk p) (hks:∀ z∈ps,PlnOk z) (hd:qdT d) (hb:bad p ps d=0):PlnOk (qeY p ps d)∧(∀ z∈qgh p ps d,PlnOk z)∧(qgh p ps d).length≤ps.length+1:=by
  have app:∀ z∈ps++[p],PlnOk z:=fun z hz=>by
    rcases List.mem_append.mp hz with hz | hz
    · exact hks z hz
    · rw [List.mem_singleton.mp hz];exact hk
  have h12:=hk.rl
  cases d with
  | put r =>
    have hl:p.rs.length<12:=by
      by_cases c:12≤p.rs.length
      · have:bad p ps (.put r)=1:=if_pos c
        rw [this] at hb;cases hb
      · omega
    refine ⟨⟨hk.bl,hk.bo,by show (p.rs++[r]).length≤12;rw [List.length_append,List.length_singleton];omega,fun z hz=>?_,hk.go⟩,app,by show (ps++[p]).length≤_;simp⟩
    rcases List.mem_append.mp hz with hz | hz
    · exact hk.ro z hz
    · rw [List.mem_singleton.mp hz];exact hd
  | take k =>
    refine ⟨⟨hk.bl,hk.bo,?_,fun z hz=>?_,hk.go⟩,app,by show (ps++[p]).length≤_;simp⟩
    · have c:¬ (k<0∨(p.rs.length:Int)≤k):=fun c=>by
        have:bad p ps (.take k)=2:=if_pos c
        rw [this] at hb;cases hb
      obtain ⟨k,rfl⟩:=Int.eq_ofNat_of_zero_le (show 0≤k by omega)
      show (qcm p.rs none (some (k:Int))++qcm p.rs (some ((k:Int)+1)) none).length≤12
      have e2:((k:Int)+1)=((k+1:Nat):Int):=by omega
      rw [List.length_append,e2]
      unfold qcm
      rw [HT.sIx_none,HT.sIx_nat,HT.sIx_none,HT.sIx_nat]
      simp only [List.length_take,List.length_drop]
      omega
    · rcases List.mem_append.mp hz with hz | hz <;> exact hk.ro z (qhO hz)
  | turn g=>exact ⟨⟨hk.bl,hk.bo,hk.rl,hk.ro,hd⟩,app,by show (ps++[p]).length≤_;simp⟩
  | back =>
    rcases List.eq_nil_or_concat ps with e | ⟨qs,q0,e⟩
    · have:bad p ps .back=3:=if_pos e
      rw [this] at hb;cases hb
    rw [List.concat_eq_append] at e
    subst e
    rw [qbZ.1,qbZ.2]
    exact ⟨hks q0 (by simp),fun z hz=>hks z (List.mem_append_left _ hz),by simp;omega⟩
abbrev SL (ns:List Int) (pa:Addr) (op:Om) (p:Pln) (ps:List Pln) (u5 u6 u7 u8 u9 u10:Option Sm):qau:=[some (.v (.fzl (ns.map D.int))),some (.ob (some pa) op),some (.v (qaT p)),some (.ob none (yO p ps)),some (.own (ps.map qaT)),u5,u6,u7,u8,u9,u10]
abbrev sp_law:=qlN
abbrev qmE:=qiE
theorem qlo {n:Nat} {f:Addr} {fd:FuncData} (F:Fun K "law" "law" qik f fd) {C_Yard:Addr} (T_Yard:TxtYard K mg C_Yard) (R__law_pool:ClM P w K mg base (n+1) "_law_pool" ["_law_script","_law_at"] qdg) (R__law_plan:ClM P w K mg base (n+1) "_law_plan" ["_law_pool_here"] qc6) (R__law_deed_of:ClM P w K mg base (n+1) "_law_deed_of" ["_law_pool_here","_law_plan_here"] qce) (R__law_after:ClM P w K mg base (n+1) "_law_after" ["_law_plan_here","_law_past","_law_deed"] qcU) (R__law_done:ClM P w K mg base (n+1) "_law_done" ["_law_yard","_law_deed"] qdr) (Q__law_same:Cl P w K mg base (n+1) "_law_same" ["_law_told","_law_due"] qe0) (R__law_next:ClM P w K mg base (n+1) "_law_next" ["_law_pool_here","_law_size"] qa3) (R__law_kinds:ClM P w K mg base (n+1) "_law_kinds" ["_law_yard","_law_deed"] qcM) (R_Yard____init__:MkM P w K mg base n C_Yard ["self","plan"] qbO) (Q_Yard__plan_now:MthD P w K mg base (n+1) C_Yard "plan_now" ["self"] qbP) (R_Yard__back:MthMX P w K mg base (n+1) C_Yard "back" ["self"] qb0) (z_range:mg "range"=none) (z_max:mg "max"=none) (z_len:mg "len"=none):FnOk P w K mg base CX0 (n+2) f fd ["_law_script"] (qds K (zM qmE)):=by
  refine F.okM sc_law (fun as R Rx h=>?_) (fun cdv A outer s H E as R Rx qs hcd hr h hqs=>?_)
  · obtain ⟨_,rfl,ns,rfl,_⟩:=h;rfl
  obtain ⟨_,rfl,ns,rfl,hz,q⟩:=h
  obtain rfl:=qnP hqs
  refine ⟨_,(qaq (qaE (i:=1) sc_law.nd rfl (Or.inl rfl) (qar R__law_pool hr rfl (qah (qat (dv 0)) (qah (qat qab) qao qac) qaa) qaa (qaj qac qaf)))
      (qmi 1 (qaq (qaE (i:=2) sc_law.nd rfl (Or.inl rfl) (qar R__law_plan hr rfl (qas 1 qao qaa) qaa qaf))
      (qaq (qaE (i:=3) sc_law.nd rfl (Or.inl rfl) (qlI R_Yard____init__ hr rfl T_Yard.mgC T_Yard.ns (qah (qat (dv 2)) qao qaa) qaa qaf))
      (qaq (qaE (i:=4) sc_law.nd rfl (Or.inl rfl) (qmd (qea qaS)))
      (qaq (qlW PassesOwn.never rfl (qg3 rfl z_range (qah (qjS (qkB rfl) rfl z_max PyProof.Rows.boot_max (qah (qi2 qb3 (qat qab) (qar R__law_next hr rfl (qas 1 (qah (qat qab) qao qac) qaa) qaa (qaj qac qaf))) (qah (qat (qaQ qbF rfl z_len PySem.boot_len (qaK (PD.q (qle (dvq 0) qeD (qeP (PD.q qab)))) qa4 qad) qad qaf)) qao qax) qa7) qa7 (qaj qax qaf)) qao qax)) (qdK (i:=5) sc_law.nd rfl (Or.inl rfl)) (qaq (qaE (i:=6) sc_law.nd rfl (Or.inl rfl) (qjP 1))
      (qaY (qb9 (qa8 (qjf qkj qkj (PD.q qab) (dvq 5) (PD.q (qaQ qbF rfl z_len PySem.boot_len (qaK (dvq 0) qa4 qaa) qaa qaf)) (by with_unfolding_all rfl))) (qnl 1 6 (qav (qaE (i:=6) sc_law.nd rfl (Or.inl rfl) (qar R__law_pool hr rfl (qah (qat (dv 0)) (qah (qat (dv 5)) qao qaa) qaa) qaa (qaj qaa qaf))))) qa1)
      (qaY (qaE (i:=7) sc_law.nd rfl (Or.inl rfl) (qar R__law_deed_of hr rfl (qas 6 (qah (qat (dv 2)) qao qaa) qaa) qaa (qaj qaa qaf)))
      (qmt 1 6 (qaq (qmq (qar R__law_after hr rfl (qah (qat (dv 2)) (qas 4 (qah (qat (dv 7)) qao qaa) qaa) qaa) qaa (qaj qaa (qaj qaa qaf))) (qmu (n:=2) rfl (qg8 (qdK (i:=8) sc_law.nd rfl (Or.inl rfl)) (qg8 (qdK (i:=9) sc_law.nd rfl (Or.inl rfl)) qk9))))
      (qaY (qb9 (qew (qmL hr.units) (qar R__law_done hr rfl (qas 3 (qah (qat (dv 7)) qao qaa) qaa) qaa (qaj qaa qaf)) (qat (dv 8)) (qam _)) (qav (qaW (qat qcL))) qa1)
      (qaq (qaE (i:=10) sc_law.nd rfl (Or.inl rfl) (qat (PF.d (qea (qak (qgl (qb6 hr.units) (dvq 8) (PD.q qab) (qam _)) (qak (qgl (qb6 hr.units) (dvq 8) (PD.q qab) (qam _)) (qak (qgl (qb6 hr.units) (dvq 8) (PD.q qab) (qam _)) (qak qcL (qak qcL (qak qcL (qak qcL (qak qcL (qak qcL qaS qac) qac) qac) qac) qac) qac) qct) qct) qct)))))
      (qaY (qb9 (PXW.toB (qlJ (qa8 (qaG qkn (dvq 8) (PD.q qab) (qam _))) (qjV (qew (qmL hr.units) (qar R__law_kinds hr rfl (qas 3 (qah (qat (dv 7)) qao qaa) qaa) qaa (qaj qaa qaf)) (qat (dv 10)) (qam _))))) (qav (qaW (qat qcL))) qa1)
      (qaY (qb9 (qa8 (PWD.td (qeh (qaG (qb6 hr.units) (dvq 8) (PD.q qab) (qam _)) (qcl (qaG (qb6 hr.units) (PD.q (qaZ (dvq 7) (PD.q qab) (fun _ _=>rfl))) (PD.q qab) (qam _)))))) (qav (qeH (qlY 4))) qa1)
      (qaY (qb9 (qa8 (PWD.td (qeh (qaG (qb6 hr.units) (dvq 8) (PD.q qab) (qam _)) (qcl (qaG qkj (PD.q (qaZ (dvq 7) (PD.q qab) (fun _ _=>rfl))) (PD.q qab) (qam _)))))) (qav (qee 4 (qat (dv 2)) (qfW qaa) qaa)) qa1)
      (qaq (qaE (i:=2) sc_law.nd rfl (Or.inl rfl) (qat (dv 9)))
      (qav (qb9 (qhE (qjG (qhc (PD.q (qfS Q__law_same hr rfl (qak (qgW Q_Yard__plan_now hr T_Yard.cl T_Yard.ns (dv 3)) (qak (dv 2) qaS qaa) qax) qax (qaj qaa qaf))) (fun _=>rfl)))) (qav (qaW (qat qcL))) qa1))))))))))))))
      (qaq (qkb PassesOwn.never (qa8 (qaG qkn (PD.q (qaQ qbF rfl z_len PySem.boot_len (qaK (dvq 4) qa4 qaa) qaa qaf)) (PD.q qab) (qam _))) (qav (qb9 (PXW.toB (qmz (qew qdW (qfK 3 R_Yard__back hr rfl T_Yard.cl T_Yard.ns) (qat qbi) (qam _)) (qkC (qlu (qkr (qjh Q__law_same hr rfl (qah (qdM (qgW Q_Yard__plan_now hr T_Yard.cl T_Yard.ns (dv 3))) (qah (qlY 4) qao qax) qax) qax (qaj qax qaf)) (fun _=>rfl)))))) (qav (qaW (qat qcL))) qa1)))
      (qav (qaW (qmW (qb6 hr.units) (qar R__law_done hr rfl (qas 3 (qah (qat (qbv (qak qab (qak qbi qaS qac) qac))) qao qaI) qaa) qaa (qaj qaI qaf)) (qat qab) (qam _))))))))))),?_⟩
  refine ⟨_,rfl,rfl,ns,0,rfl,hz,by decide,fun o hp=>?_⟩
  refine ⟨_,rfl,fun pa=>?_⟩
  dsimp only [qaz,qaw,qbk,qbz,qcu,List.set]
  refine ⟨⟨_,_,rfl⟩,_,rfl,rfl,_,_,0,rfl,hp,by decide,fun p o1 hk hp1=>?_⟩
  dsimp only [qaz,qaw,qbk,qbz,qcu,List.set]
  refine ⟨none,p,rfl,?_⟩
  dsimp only [qaz,qaw,qbk,qbz,qcu,List.set]
  refine ⟨⟨_,_,rfl⟩,_,rfl,rfl,_,_,24,200,rfl,hp1,by decide,by decide,lt9 (by decide),fun x o2 hx0 hx1 hp2=>?_⟩
  dsimp only [qaz,qaw,qbk,qbz,qcu,List.set]
  refine ⟨_,rfl,?_⟩
  have hl60:((qcm (ns.map D.int) none (some 60)).length:Int)≤63:=by have:=qcq (ns.map D.int) none (some 60);rw [List.length_map] at this;omega
  refine ⟨⟨by omega,by omega⟩,fun i ρ=>∃ (op:Om) (p:Pln) (ps:List Pln) (u5 u6 u7 u8 u9 u10:Option Sm),ρ=SL ns pa op p ps u5 u6 u7 u8 u9 u10∧Pl (201+20*i) op∧PlnOk p∧(∀ z∈ps,PlnOk z)∧ps.length≤i,⟨o2,p,[],_,_,_,_,_,_,rfl,hp2,hk,fun _ h=>(by cases h),Nat.le_refl _⟩,?_,?_⟩
  · rintro i d ρ hd ⟨op,p,ps,u5,u6,u7,u8,u9,u10,rfl,hpi,hk,hks,hpl⟩
    obtain ⟨hi,rfl⟩:=qbY hd
    have hi:i<63:=by omega
    refine ⟨pa,op,rfl,?_⟩
    dsimp only [qaz,qaw,qbk,qbz,qcu,List.set]
    refine ⟨fun ρ=>(∃ u6,ρ=SL ns pa op p ps (some (.v (.int (0+(i:Nat))))) (some (.ob none u6)) u7 u8 u9 u10∧Pl 0 u6)∨ρ=[some (.v (.fzl (ns.map D.int))),some (.ob (some pa) .ptr),some (.v (qaT p)),some (.ob none (yO p ps)),some (.own (ps.map qaT)),some (.v (.int (0+(i:Nat)))),some (.ob (some pa) op),u7,u8,u9,u10],⟨fun h=>⟨fun h2=>?_,fun h2=>.inr rfl⟩,fun h=>⟨fun h=>ff h,fun _=>.inr rfl⟩⟩,?_⟩
    · refine ⟨pa,op,rfl,rfl,?_⟩
      dsimp only [qaz,qaw,qbk,qbz,qcu,List.set]
      exact ⟨_,rfl,rfl,ns,_,rfl,hz,by omega,fun o6 hp6=>.inl ⟨o6,rfl,hp6⟩⟩
    intro ρ hρ
    refine ⟨fun ρ=>∃ dd:Deed,qdT dd∧((∃ u6,ρ=SL ns pa op p ps (some (.v (.int (0+(i:Nat))))) u6 (some (.v (qa6 dd))) u8 u9 u10)∨∃ op,Pl (201+20*(i+1)) op∧ρ=[some (.v (.fzl (ns.map D.int))),some (.ob (some pa) .ptr),some (.v (qaT p)),some (.ob none (yO p ps)),some (.own (ps.map qaT)),some (.v (.int (0+(i:Nat)))),some (.ob (some pa) op),some (.v (qa6 dd)),u8,u9,u10]),?_,?_⟩
    · rcases hρ with ⟨u6,rfl,hp6⟩ | rfl
      · exact ⟨⟨_,_,rfl⟩,_,rfl,rfl,_,_,p,0,rfl,hp6,by decide,hk,fun dd o7 hdd hp7=>⟨dd,hdd,.inl ⟨_,rfl⟩⟩⟩
      · exact ⟨⟨_,_,rfl⟩,_,rfl,rfl,_,_,p,_,rfl,hpi,by omega,hk,fun dd o7 hdd hp7=>⟨dd,hdd,.inr ⟨_,hp7.mono (by omega),rfl⟩⟩⟩
    rintro ρ ⟨dd,hdd,hρ⟩
    refine ⟨fun ρ=>∃ op u6,ρ=SL ns pa op p ps (some (.v (.int (0+(i:Nat))))) u6 (some (.v (qa6 dd))) u8 u9 u10∧Pl (201+20*(i+1)) op,?_,?_⟩
    · rcases hρ with ⟨u6,rfl⟩ | ⟨op,hp7,rfl⟩
      · exact .inl ⟨_,_,rfl,hpi.mono (by omega)⟩
      · exact .inr ⟨pa,op,rfl,rfl,_,_,rfl,hp7⟩
    rintro ρ ⟨op,u6,rfl,hp7⟩
    have hpl9:ps.length<500:=by omega
    refine ⟨⟨_,_,rfl⟩,_,rfl,rfl,_,p,ps,dd,rfl,hk,?_⟩
    dsimp only [qaz,qaw,qbk,qbz,qcu,List.set]
    by_cases hb:bad p ps dd=0
    · obtain ⟨hn1,hn2,hn3⟩:=qkZ hk hks hdd hb
      have ea:=qju hb
      rw [ea.1,hb]
      refine ⟨rfl,?_⟩
      refine ⟨fun ρ=>ρ=[some (.v (.fzl (ns.map D.int))),some (.ob (some pa) op),some (.v (qaT p)),some (.ob none (yO (qeY p ps dd) (qgh p ps dd))),some (.own (ps.map qaT)),some (.v (.int (0+(i:Nat)))),u6,some (.v (qa6 dd)),some (.v (.int 0)),some (.v (qaT (qeY p ps dd))),u10],⟨⟨_,_,rfl⟩,_,rfl,rfl,_,p,ps,dd,rfl,hk,hpl9,hdd,?_⟩,?_⟩
      · rw [ea.1,ea.2,hb]
        exact ⟨fun h=>ff h,fun _=>rfl⟩
      rintro ρ rfl
      refine ⟨fun ρ=>ρ=[some (.v (.fzl (ns.map D.int))),some (.ob (some pa) op),some (.v (qaT p)),some (.ob none (yO (qeY p ps dd) (qgh p ps dd))),some (.own (ps.map qaT)),some (.v (.int (0+(i:Nat)))),u6,some (.v (qa6 dd)),some (.v (.int 0)),some (.v (qaT (qeY p ps dd))),some (.v (.lst (qbL 0)))],⟨fun h=>ff h,fun _=>⟨fun h=>ff h,fun _=>rfl⟩⟩,?_⟩
      rintro ρ rfl
      refine ⟨fun ρ=>ρ=[some (.v (.fzl (ns.map D.int))),some (.ob (some pa) op),some (.v (qaT p)),some (.ob none (yO (qeY p ps dd) (qgh p ps dd))),some (.own ((match dd with | .back=>ps.dropLast | _=>ps).map qaT)),some (.v (.int (0+(i:Nat)))),u6,some (.v (qa6 dd)),some (.v (.int 0)),some (.v (qaT (qeY p ps dd))),some (.v (.lst (qbL 0)))],⟨fun _=>?_,fun h=>tf h⟩,?_⟩
      · cases dd with
        | put r=>exact ⟨_,rfl,fun h=>ff h,fun _=>rfl⟩
        | take r=>exact ⟨_,rfl,fun h=>ff h,fun _=>rfl⟩
        | turn r=>exact ⟨_,rfl,fun h=>ff h,fun _=>rfl⟩
        | back =>
          refine ⟨_,rfl,fun _=>?_,fun h=>tf h⟩
          rcases List.eq_nil_or_concat ps with e | ⟨qs,q0,e⟩
          · have:bad p ps .back=3:=if_pos e
            rw [this] at hb;cases hb
          rw [List.concat_eq_append] at e
          subst e
          obtain ⟨e1,e2⟩:=qdV qaT qs q0
          exact ⟨_,e1,_,rfl,by rw [e2];show _=[_,_,_,_,some (Sm.own ((qs++[q0]).dropLast.map qaT)),_,_,_,_,_,_];rw [List.dropLast_concat];rfl⟩
      rintro ρ rfl
      refine ⟨fun ρ=>ρ=[some (.v (.fzl (ns.map D.int))),some (.ob (some pa) op),some (.v (qaT p)),some (.ob none (yO (qeY p ps dd) (qgh p ps dd))),some (.own ((qgh p ps dd).map qaT)),some (.v (.int (0+(i:Nat)))),u6,some (.v (qa6 dd)),some (.v (.int 0)),some (.v (qaT (qeY p ps dd))),some (.v (.lst (qbL 0)))],⟨fun _=>?_,fun h=>tf h⟩,?_⟩
      · have sm:(ps.map qaT).length<sizeLine:=qbn (by rw [List.length_map];omega)
        cases dd with
        | put r=>exact ⟨_,rfl,fun _=>⟨sm,_,qjR qaT ps p,rfl⟩,fun h=>tf h⟩
        | take r=>exact ⟨_,rfl,fun _=>⟨sm,_,qjR qaT ps p,rfl⟩,fun h=>tf h⟩
        | turn r=>exact ⟨_,rfl,fun _=>⟨sm,_,qjR qaT ps p,rfl⟩,fun h=>tf h⟩
        | back=>exact ⟨_,rfl,fun h=>ff h,fun _=>rfl⟩
      rintro ρ rfl
      refine ⟨rfl,rfl,qeY p ps dd,qgh p ps dd,rfl,qaT (qeY p ps dd),rfl,hn1.smo,?_⟩
      refine ⟨fun h=>(by cases h),fun _=>⟨op,qeY p ps dd,qgh p ps dd,_,_,_,_,_,_,rfl,hp7,hn1,hn2,by omega⟩⟩
    · have ea:=qkk hb
      have hc:bad p ps dd=1∨bad p ps dd=2∨bad p ps dd=3:=(qc7 p ps dd).resolve_left hb
      rw [ea.1]
      refine ⟨rfl,?_⟩
      refine ⟨fun ρ=>ρ=[some (.v (.fzl (ns.map D.int))),some (.ob (some pa) op),some (.v (qaT p)),some (.ob none (yO p ps)),some (.own (ps.map qaT)),some (.v (.int (0+(i:Nat)))),u6,some (.v (qa6 dd)),some (.v (.int (bad p ps dd))),some (.v (qaT p)),u10],⟨⟨_,_,rfl⟩,_,rfl,rfl,_,p,ps,dd,rfl,hk,hpl9,hdd,?_⟩,?_⟩
      · rw [ea.1,ea.2]
        have e:(!(bad p ps dd == bad p ps dd))=false:=by rw [beq_self_eq_true];rfl
        exact ⟨fun h=>(by have:=h.symm.trans e;cases this),fun _=>rfl⟩
      rintro ρ rfl
      refine ⟨fun ρ=>ρ=[some (.v (.fzl (ns.map D.int))),some (.ob (some pa) op),some (.v (qaT p)),some (.ob none (yO p ps)),some (.own (ps.map qaT)),some (.v (.int (0+(i:Nat)))),u6,some (.v (qa6 dd)),some (.v (.int (bad p ps dd))),some (.v (qaT p)),some (.v (.lst (qbL (bad p ps dd))))],⟨fun h=>?_,fun h=>⟨fun h=>ff h,fun _=>rfl⟩⟩,?_⟩
      · refine ⟨⟨_,_,rfl⟩,_,rfl,rfl,_,p,ps,dd,rfl,hk,hpl9,hdd,hb,?_⟩
        dsimp only [xV,xD,qne,prR,qbk,qbz,prM,List.map,List.set,List.getElem?_cons_zero,List.getElem?_cons_succ]
        refine qix (qjs _) ?_
        exact ⟨fun h=>ff h,fun _=>rfl⟩
      rintro ρ rfl
      have no0:¬ ((bad p ps dd == 0)=true):=fun h=>hb (qmf h)
      refine ⟨fun ρ=>ρ=[some (.v (.fzl (ns.map D.int))),some (.ob (some pa) op),some (.v (qaT p)),some (.ob none (yO p ps)),some (.own (ps.map qaT)),some (.v (.int (0+(i:Nat)))),u6,some (.v (qa6 dd)),some (.v (.int (bad p ps dd))),some (.v (qaT p)),some (.v (.lst (qbL (bad p ps dd))))],⟨fun h=>absurd h no0,fun _=>⟨fun h=>ff h,fun _=>rfl⟩⟩,?_⟩
      rintro ρ rfl
      refine ⟨fun ρ=>ρ=[some (.v (.fzl (ns.map D.int))),some (.ob (some pa) op),some (.v (qaT p)),some (.ob none (yO p ps)),some (.own (ps.map qaT)),some (.v (.int (0+(i:Nat)))),u6,some (.v (qa6 dd)),some (.v (.int (bad p ps dd))),some (.v (qaT p)),some (.v (.lst (qbL (bad p ps dd))))],⟨fun h=>absurd h no0,fun _=>⟨fun h=>ff h,fun _=>rfl⟩⟩,?_⟩
      rintro ρ rfl
      refine ⟨rfl,rfl,p,ps,rfl,qaT p,rfl,hk.smo,?_⟩
      exact ⟨fun h=>(by cases h),fun _=>⟨op,p,ps,_,_,_,_,_,_,rfl,hp7,hk,hks,by omega⟩⟩
  rintro ρ ⟨op,p,ps,u5,u6,u7,u8,u9,u10,rfl,hpi,hk,hks,hpl⟩
  rw [qaX] at hpl
  have hpl:ps.length≤63:=by omega
  refine ⟨fun m ρ=>∃ (p1:Pln) (ps:List Pln),m=ps.length∧ρ=[some (.v (.fzl (ns.map D.int))),some (.ob (some pa) op),some (.v (qaT p)),some (.ob none (yO p1 ps)),some (.own (ps.map qaT)),u5,u6,u7,u8,u9,u10]∧PlnOk p1∧(∀ z∈ps,PlnOk z)∧ps.length≤63,⟨_,p,ps,rfl,rfl,hk,hks,hpl⟩,?_⟩
  rintro m ρ ⟨p,ps,rfl,rfl,hk,hks,hpl⟩
  rcases List.eq_nil_or_concat ps with e | ⟨qs,q0,e⟩
  · subst e
    refine ⟨fun h=>(by cases h),fun _=>?_⟩
    have e:bad p [] .back=3:=by show (if ([]:List Pln)=[] then (3:Int) else 0)=3;exact if_pos rfl
    refine ⟨⟨_,_,rfl⟩,_,rfl,rfl,_,p,[],.back,rfl,hk,by decide,trivial,?_⟩
    rw [e]
    exact q
  rw [List.concat_eq_append] at e
  subst e
  refine ⟨fun _=>?_,fun h=>?_⟩
  · refine ⟨⟨_,_,rfl,rfl⟩,_,rfl,rfl,_,p,qs++[q0],rfl,fun e=>absurd e (by simp),fun qs' q' e=>?_⟩
    obtain ⟨e1,e2⟩:=List.append_inj' e rfl
    cases e2
    subst e1
    refine ⟨fun h=>ff h,fun _=>?_⟩
    have hq:=hks q0 (by simp)
    obtain ⟨e1,e2⟩:=qdV qaT qs q0
    refine ⟨rfl,rfl,q0,qs,rfl,hq.noL,_,e1,qs.map qaT,e2,qaT q0,rfl,hq.smo,fun h=>(by cases h),fun _=>⟨qs.length,by simp,q0,qs,rfl,rfl,hq,fun z hz=>hks z (List.mem_append_left _ hz),?_⟩⟩
    rw [List.length_append] at hpl
    omega
  · have:=of_decide_eq_false h
    rw [List.length_map,List.length_append,List.length_singleton] at this
    omega
end
theorem ql8 {A:Type} {p:List A→Prop} (h:∀ a0,p [a0]):∀ us:List A,us.length=1→p us
  | [a0],_=>h a0
theorem qd4 {A:Type} {p:List A→Prop} (h:∀ a0 a1,p [a0,a1]):∀ us:List A,us.length=2→p us
  | [a0,a1],_=>h a0 a1
theorem ql9 {A:Type} {p:List A→Prop} (h:∀ a0 a1 a2,p [a0,a1,a2]):∀ us:List A,us.length=3→p us
  | [a0,a1,a2],_=>h a0 a1 a2
theorem all_mk {l:PySem.W.OpenLaw} {w:World} {K:PySem.W.Frag} {h:Heap} {mg:Str→Option Value} {fa f16 f17 f18 f19 f20 f21 f22:Addr} {C_Yard:Addr} (X:K.In h) (G:h.Ns mainGlobals mg) (hfa:mg "law"=some (.ref fa))
    {od16 an16 od17 an17 od18 an18 od19 an19 od20 an20 od21 an21 od22 an22:Option Addr} {sl16 sl17 sl18 sl19 sl20 sl21 sl22:Array (Option Value)} {oc16 kV16 dc16 pm16 cd16 ct16 oc17 kV17 dc17 pm17 cd17 ct17 oc18 kV18 dc18 pm18 cd18 ct18 oc19 kV19 dc19 pm19 cd19 ct19 oc20 kV20 dc20 pm20 cd20 ct20 oc21 kV21 dc21 pm21 cd21 ct21 oc22 kV22 dc22 pm22 cd22 ct22:Value}
    (aC_Yard:PySem.W.nsIn K mainGlobals "Yard"=some (some (.ref C_Yard)))
    (a1:Has K qa2 "known_with_row")
    (a2:Has K qaN "known_without_row")
    (a3:Has K qbI "_law_pool")
    (a4:Has K qbB "_law_next")
    (a5:Has K qbH "_law_wide")
    (a6:Has K qbq "_law_same")
    (a7:Has K qbt "_law_sized")
    (a8:Has K qby "_law_row")
    (a9:Has K qbp "_law_plan")
    (a10:Has K qbb "_law_deed_of")
    (a11:Has K qbs "_law_after")
    (a12:Has K qb5 "_law_ask")
    (a13:Has K qbC "_law_done")
    (a14:Has K qbu "_law_kinds")
    (a15:Has K qik "law")
    (a16:PySem.W.findIn K (.ref C_Yard) "__init__"=some (some (.ref f16))) (i16:PySem.W.isFn K (.ref f16)=true) (l16:K.lookup f16=some ⟨oc16,od16,.func (PySem.W.fnOf "__init__" "Yard.__init__" (qaP qaB) (qay qaB) (qae qaB) .none kV16 dc16 pm16 an16 cd16 ct16),sl16⟩) (c16:PySem.W.codeIn K cd16 "Yard.__init__"=true) (k16:PySem.W.keepIn K (.ref f16)=true)
    (a17:PySem.W.findIn K (.ref C_Yard) "change"=some (some (.ref f17))) (i17:PySem.W.isFn K (.ref f17)=true) (l17:K.lookup f17=some ⟨oc17,od17,.func (PySem.W.fnOf "change" "Yard.change" (qaP qaJ) (qay qaJ) (qae qaJ) .none kV17 dc17 pm17 an17 cd17 ct17),sl17⟩) (c17:PySem.W.codeIn K cd17 "Yard.change"=true) (k17:PySem.W.keepIn K (.ref f17)=true)
    (a18:PySem.W.findIn K (.ref C_Yard) "put_row"=some (some (.ref f18))) (i18:PySem.W.isFn K (.ref f18)=true) (l18:K.lookup f18=some ⟨oc18,od18,.func (PySem.W.fnOf "put_row" "Yard.put_row" (qaP qaF) (qay qaF) (qae qaF) .none kV18 dc18 pm18 an18 cd18 ct18),sl18⟩) (c18:PySem.W.codeIn K cd18 "Yard.put_row"=true) (k18:PySem.W.keepIn K (.ref f18)=true)
    (a19:PySem.W.findIn K (.ref C_Yard) "take_row"=some (some (.ref f19))) (i19:PySem.W.isFn K (.ref f19)=true) (l19:K.lookup f19=some ⟨oc19,od19,.func (PySem.W.fnOf "take_row" "Yard.take_row" (qaP qaC) (qay qaC) (qae qaC) .none kV19 dc19 pm19 an19 cd19 ct19),sl19⟩) (c19:PySem.W.codeIn K cd19 "Yard.take_row"=true) (k19:PySem.W.keepIn K (.ref f19)=true)
    (a20:PySem.W.findIn K (.ref C_Yard) "turn"=some (some (.ref f20))) (i20:PySem.W.isFn K (.ref f20)=true) (l20:K.lookup f20=some ⟨oc20,od20,.func (PySem.W.fnOf "turn" "Yard.turn" (qaP qaV) (qay qaV) (qae qaV) .none kV20 dc20 pm20 an20 cd20 ct20),sl20⟩) (c20:PySem.W.codeIn K cd20 "Yard.turn"=true) (k20:PySem.W.keepIn K (.ref f20)=true)
    (a21:PySem.W.findIn K (.ref C_Yard) "back"=some (some (.ref f21))) (i21:PySem.W.isFn K (.ref f21)=true) (l21:K.lookup f21=some ⟨oc21,od21,.func (PySem.W.fnOf "back" "Yard.back" (qaP qaU) (qay qaU) (qae qaU) .none kV21 dc21 pm21 an21 cd21 ct21),sl21⟩) (c21:PySem.W.codeIn K cd21 "Yard.back"=true) (k21:PySem.W.keepIn K (.ref f21)=true)
    (a22:PySem.W.findIn K (.ref C_Yard) "plan_now"=some (some (.ref f22))) (i22:PySem.W.isFn K (.ref f22)=true) (l22:K.lookup f22=some ⟨oc22,od22,.func (PySem.W.fnOf "plan_now" "Yard.plan_now" (qaP qaD) (qay qaD) (qae qaD) .none kV22 dc22 pm22 an22 cd22 ct22),sl22⟩) (c22:PySem.W.codeIn K cd22 "Yard.plan_now"=true) (k22:PySem.W.keepIn K (.ref f22)=true)
    (pg_Yard:PySem.W.plainGet K C_Yard Str.empty=true) (hd_Yard:PySem.W.hasDictIn K C_Yard=true) (po_Yard:PySem.W.plainOver K C_Yard=true) (sa_Yard:PySem.W.findIn K (.ref C_Yard) "__setattr__"=some (some (.builtin "object.__setattr__"))) (mk_Yard:PySem.W.makesIn K C_Yard=true) (kc_Yard:PySem.W.keepIn K (.ref C_Yard)=true)
    (n_Yard_plan:PySem.W.findIn K (.ref C_Yard) "plan"=some none)
    (n_Yard_known:PySem.W.findIn K (.ref C_Yard) "known"=some none)
    (n_Yard_changes:PySem.W.findIn K (.ref C_Yard) "changes"=some none)
    (y_len:PySem.W.nsIn K mainGlobals "len"=some none)
    (y_tuple:PySem.W.nsIn K mainGlobals "tuple"=some none)
    (y_isinstance:PySem.W.nsIn K mainGlobals "isinstance"=some none)
    (y_str:PySem.W.nsIn K mainGlobals "str"=some none)
    (y_zip:PySem.W.nsIn K mainGlobals "zip"=some none)
    (y_int:PySem.W.nsIn K mainGlobals "int"=some none)
    (y_bool:PySem.W.nsIn K mainGlobals "bool"=some none)
    (y_range:PySem.W.nsIn K mainGlobals "range"=some none)
    (y_ValueError:PySem.W.nsIn K mainGlobals "ValueError"=some none)
    (y_max:PySem.W.nsIn K mainGlobals "max"=some none)
    {tk_MOST_ROWS:Tok} (y_MOST_ROWS:PySem.W.nsIn K mainGlobals "MOST_ROWS"=some (some (.int 12 tk_MOST_ROWS)))
    (ex9:qeZ K qc5 exN=true)
    {EC_TooGreat fi_TooGreat:Addr} {eod_TooGreat ean_TooGreat:Option Addr} {ekV_TooGreat edc_TooGreat epm_TooGreat ecd_TooGreat ect_TooGreat:Value} {esl_TooGreat:Array (Option Value)} (eg_TooGreat:PySem.W.nsIn K mainGlobals "TooGreat"=some (some (.ref EC_TooGreat))) (ef_TooGreat:PySem.W.findIn K (.ref EC_TooGreat) "__init__"=some (some (.ref fi_TooGreat))) (el_TooGreat:K.lookup fi_TooGreat=some ⟨.type "function",eod_TooGreat,.func (PySem.W.fnOf "__init__" "TooGreat.__init__" (qaP qbl) (qay qbl) (qae qbl) .none ekV_TooGreat edc_TooGreat epm_TooGreat ean_TooGreat ecd_TooGreat ect_TooGreat),esl_TooGreat⟩) (ec_TooGreat:PySem.W.codeIn K ecd_TooGreat "TooGreat.__init__"=true) (ek_TooGreat:PySem.W.keepIn K (.ref fi_TooGreat)=true) (ei_TooGreat:initOf K "TooGreat"=some (some (.ref fi_TooGreat)))
    (ei_NoRow:initOf K "NoRow"=some none)
    (ei_NoChange:initOf K "NoChange"=some none) :
    ∃ fd:FuncData,(∀ (s:Shared) (v:Value),BindsTo s fd ⟨[v],[]⟩ [("_law_script",v)])∧∀ base:Heap,K.In base→base.Ns mainGlobals mg→FnOk l.prog w K mg base CX0 7 fa fd ["_law_script"] (sp_law K):=by
  obtain ⟨f1,d1,F1,m1,_⟩:=a1.fn X G
  obtain ⟨f2,d2,F2,m2,_⟩:=a2.fn X G
  obtain ⟨f3,d3,F3,m3,_⟩:=a3.fn X G
  obtain ⟨f4,d4,F4,m4,_⟩:=a4.fn X G
  obtain ⟨f5,d5,F5,m5,_⟩:=a5.fn X G
  obtain ⟨f6,d6,F6,m6,_⟩:=a6.fn X G
  obtain ⟨f7,d7,F7,m7,_⟩:=a7.fn X G
  obtain ⟨f8,d8,F8,m8,_⟩:=a8.fn X G
  obtain ⟨f9,d9,F9,m9,_⟩:=a9.fn X G
  obtain ⟨f10,d10,F10,m10,_⟩:=a10.fn X G
  obtain ⟨f11,d11,F11,m11,_⟩:=a11.fn X G
  obtain ⟨f12,d12,F12,m12,_⟩:=a12.fn X G
  obtain ⟨f13,d13,F13,m13,_⟩:=a13.fn X G
  obtain ⟨f14,d14,F14,m14,_⟩:=a14.fn X G
  obtain ⟨f15,d15,F15,m15,_,_,_,e⟩:=a15.fn X G
  have F16:=qcQ (st:=qaB) l16 c16 k16
  have b16:=F16.binds (ps:=["self","plan"]) <| fun _ _ _ _ _ _=>qd4 fun _ _=>rfl
  have F17:=qcQ (st:=qaJ) l17 c17 k17
  have b17:=F17.binds (ps:=["self","plan","known"]) <| fun _ _ _ _ _ _=>ql9 fun _ _ _=>rfl
  have F18:=qcQ (st:=qaF) l18 c18 k18
  have b18:=F18.binds (ps:=["self","row"]) <| fun _ _ _ _ _ _=>qd4 fun _ _=>rfl
  have F19:=qcQ (st:=qaC) l19 c19 k19
  have b19:=F19.binds (ps:=["self","number"]) <| fun _ _ _ _ _ _=>qd4 fun _ _=>rfl
  have F20:=qcQ (st:=qaV) l20 c20 k20
  have b20:=F20.binds (ps:=["self","goal"]) <| fun _ _ _ _ _ _=>qd4 fun _ _=>rfl
  have F21:=qcQ (st:=qaU) l21 c21 k21
  have b21:=F21.binds (ps:=["self"]) <| fun _ _ _ _ _ _=>ql8 fun _=>rfl
  have F22:=qcQ (st:=qaD) l22 c22 k22
  have b22:=F22.binds (ps:=["self"]) <| fun _ _ _ _ _ _=>ql8 fun _=>rfl
  cases hfa.symm.trans m15
  refine ⟨d15,fun s v=>by rw [e];exact .of_eq rfl,fun base _ _=>?_⟩
  have z_len:=PySem.W.mg_none_of X G y_len
  have z_tuple:=PySem.W.mg_none_of X G y_tuple
  have z_isinstance:=PySem.W.mg_none_of X G y_isinstance
  have z_str:=PySem.W.mg_none_of X G y_str
  have z_zip:=PySem.W.mg_none_of X G y_zip
  have z_int:=PySem.W.mg_none_of X G y_int
  have z_bool:=PySem.W.mg_none_of X G y_bool
  have z_range:=PySem.W.mg_none_of X G y_range
  have z_ValueError:=PySem.W.mg_none_of X G y_ValueError
  have z_max:=PySem.W.mg_none_of X G y_max
  have z_MOST_ROWS:∃ tk,mg "MOST_ROWS"=some (.int 12 tk):=⟨_,PySem.W.mg_of X G y_MOST_ROWS⟩
  have T_Yard:TxtYard K mg C_Yard:=⟨⟨pg_Yard,hd_Yard,po_Yard,sa_Yard⟩,n_Yard_plan,n_Yard_known,n_Yard_changes,PySem.W.mg_of X G aC_Yard,aC_Yard⟩
  have Ex:=qkf X G ex9
  have Is:=qjQ X G ex9
  have e_YardError:=qbD X G ex9 (nm:="YardError") (by decide +kernel)
  have e_NoNumber:=qbD X G ex9 (nm:="NoNumber") (by decide +kernel)
  have e_NoName:=qbD X G ex9 (nm:="NoName") (by decide +kernel)
  have e_Twice:=qbD X G ex9 (nm:="Twice") (by decide +kernel)
  have e_TooGreat:=qbD X G ex9 (nm:="TooGreat") (by decide +kernel)
  have e_NoText:=qbD X G ex9 (nm:="NoText") (by decide +kernel)
  have e_NoRow:=qbD X G ex9 (nm:="NoRow") (by decide +kernel)
  have e_NoChange:=qbD X G ex9 (nm:="NoChange") (by decide +kernel)
  have e_BelowNought:=qbD X G ex9 (nm:="BelowNought") (by decide +kernel)
  have Z_TooGreat:Rz1 l.prog w K mg base "TooGreat":=qj0 X G ex9 (by decide +kernel) ei_TooGreat el_TooGreat rfl ec_TooGreat ek_TooGreat qeU rfl (Or.inl rfl) (Or.inl rfl) (fun _=>rfl) (fun _ _ _ _ _ _=>qd4 fun _ _=>rfl)
  have Z_NoRow:Rz0 K mg "NoRow":=qhi X G ex9 (by decide +kernel) ei_NoRow
  have Z_NoChange:Rz0 K mg "NoChange":=qhi X G ex9 (by decide +kernel) ei_NoChange
  have H1:=qcv (P:=l.prog) (w:=w) (mg:=mg) (base:=base) (n:=0) F1 z_len z_tuple
  have Q1:=F1.cl m1 H1 <| fun _ _ _ _ _ _=>ql9 fun _ _ _=>rfl
  have H2:=qcb (P:=l.prog) (w:=w) (mg:=mg) (base:=base) (n:=0) F2
  have Q2:=F2.cl m2 H2 <| fun _ _ _ _ _ _=>ql8 fun _=>rfl
  have H3:=qer (P:=l.prog) (w:=w) (mg:=mg) (base:=base) (n:=0) F3 z_len
  have R3:=F3.clM m3 H3 <| fun _ _ _ _ _ _=>qd4 fun _ _=>rfl
  have H4:=qeu (P:=l.prog) (w:=w) (mg:=mg) (base:=base) (n:=0) F4 z_len
  have R4:=F4.clM m4 H4 <| fun _ _ _ _ _ _=>qd4 fun _ _=>rfl
  have H5:=qeF (n:=1) F5 (R4.mono (by decide))
  have R5:=F5.clM m5 H5 <| fun _ _ _ _ _ _=>qd4 fun _ _=>rfl
  have H6_0:=qef (P:=l.prog) (w:=w) (mg:=mg) (base:=base) (n:=0) F6
  have Q6_0:=F6.cl m6 H6_0 <| fun _ _ _ _ _ _=>qd4 fun _ _=>rfl
  have H6_1:=qbf (m:=0) (n:=1) F6 Q6_0 z_isinstance z_tuple z_str z_zip z_int z_bool z_len
  have Q6_1:=F6.cl m6 H6_1 <| fun _ _ _ _ _ _=>qd4 fun _ _=>rfl
  have H6_2:=qbf (m:=1) (n:=2) F6 Q6_1 z_isinstance z_tuple z_str z_zip z_int z_bool z_len
  have Q6_2:=F6.cl m6 H6_2 <| fun _ _ _ _ _ _=>qd4 fun _ _=>rfl
  have H6_3:=qbf (m:=2) (n:=3) F6 Q6_2 z_isinstance z_tuple z_str z_zip z_int z_bool z_len
  have Q6_3:=F6.cl m6 H6_3 <| fun _ _ _ _ _ _=>qd4 fun _ _=>rfl
  have H6_4:=qbf (m:=3) (n:=4) F6 Q6_3 z_isinstance z_tuple z_str z_zip z_int z_bool z_len
  have Q6_4:=F6.cl m6 H6_4 <| fun _ _ _ _ _ _=>qd4 fun _ _=>rfl
  have H6:=qbf (m:=4) (n:=5) F6 Q6_4 z_isinstance z_tuple z_str z_zip z_int z_bool z_len
  have Q6:=F6.cl m6 H6 <| fun _ _ _ _ _ _=>qd4 fun _ _=>rfl
  have H7:=qem (n:=2) F7 (R4.mono (by decide)) (R5.mono (by decide))
  have R7:=F7.clM m7 H7 <| fun _ _ _ _ _ _=>qd4 fun _ _=>rfl
  have H8:=qfe (n:=3) F8 (R7.mono (by decide)) z_tuple z_range
  have R8:=F8.clM m8 H8 <| fun _ _ _ _ _ _=>ql9 fun _ _ _=>rfl
  have H9:=qet (n:=4) F9 (R4.mono (by decide)) (R7.mono (by decide)) (R8.mono (by decide)) z_range z_tuple
  have R9:=F9.clM m9 H9 <| fun _ _ _ _ _ _=>ql8 fun _=>rfl
  have H10:=qdj (n:=4) F10 (R4.mono (by decide)) (R8.mono (by decide)) z_len
  have R10:=F10.clM m10 H10 <| fun _ _ _ _ _ _=>qd4 fun _ _=>rfl
  have H11:=qd5 (P:=l.prog) (w:=w) (mg:=mg) (base:=base) (n:=0) F11 z_len
  have R11:=F11.clM m11 H11 <| fun _ _ _ _ _ _=>ql9 fun _ _ _=>rfl
  have H16:=qcB (P:=l.prog) (w:=w) (mg:=mg) (base:=base) (n:=0) F16 T_Yard
  have R16:=MkM.mk ⟨_,_,H16,b16,⟨mk_Yard,a16,i16,kc_Yard⟩⟩
  have H17:=qdo (P:=l.prog) (w:=w) (mg:=mg) (base:=base) (n:=0) F17 T_Yard
  have R17:=MthM.mk ⟨_,_,H17,b17,⟨a17,i17,k17⟩⟩
  have H18:=qcW (P:=l.prog) (w:=w) (mg:=mg) (base:=base) (n:=0) F18 T_Yard (Q1.mono (by decide)) (R17.mono (by decide)) z_MOST_ROWS z_len Z_TooGreat
  have R18:=MthMX.mk ⟨_,_,H18,b18,⟨a18,i18,k18⟩⟩
  have H19:=qcJ (P:=l.prog) (w:=w) (mg:=mg) (base:=base) (n:=1) F19 T_Yard (Q2.mono (by decide)) (R17.mono (by decide)) z_len Z_NoRow
  have R19:=MthMX.mk ⟨_,_,H19,b19,⟨a19,i19,k19⟩⟩
  have H20:=qd8 (n:=1) F20 T_Yard (R17.mono (by decide))
  have R20:=MthM.mk ⟨_,_,H20,b20,⟨a20,i20,k20⟩⟩
  have H21:=qd6 (P:=l.prog) (w:=w) (mg:=mg) (base:=base) (n:=0) F21 T_Yard z_len Z_NoChange
  have R21:=MthMX.mk ⟨_,_,H21,b21,⟨a21,i21,k21⟩⟩
  have H12:=qfo (P:=l.prog) (w:=w) (mg:=mg) (base:=base) (n:=3) F12 T_Yard (R21.mono (by decide)) (R18.mono (by decide)) (R19.mono (by decide)) (R20.mono (by decide))
  have R12:=F12.clMX m12 H12 <| fun _ _ _ _ _ _=>qd4 fun _ _=>rfl
  have H13:=qes (P:=l.prog) (w:=w) (mg:=mg) (base:=base) (n:=4) F13 (R12.mono (by decide)) Ex Is e_TooGreat e_NoRow e_NoChange
  have R13:=F13.clM m13 H13 <| fun _ _ _ _ _ _=>qd4 fun _ _=>rfl
  have H14:=qeb (P:=l.prog) (w:=w) (mg:=mg) (base:=base) (n:=4) F14 (R12.mono (by decide)) z_isinstance z_ValueError Ex Is e_YardError e_TooGreat e_NoRow e_NoChange e_Twice e_NoName e_NoText e_NoNumber e_BelowNought
  have R14:=F14.clM m14 H14 <| fun _ _ _ _ _ _=>qd4 fun _ _=>rfl
  have H22:=qcz (P:=l.prog) (w:=w) (mg:=mg) (base:=base) (n:=0) F22 T_Yard
  have Q22:=MthD.mk ⟨_,_,H22,b22,⟨a22,i22,k22⟩⟩
  have H15:=qlo (n:=5) F15 T_Yard (R3.mono (by decide)) (R9.mono (by decide)) (R10.mono (by decide)) (R11.mono (by decide)) (R13.mono (by decide)) (Q6.mono (by decide)) (R4.mono (by decide)) (R14.mono (by decide)) (R16.mono (by decide)) (Q22.mono (by decide)) (R21.mono (by decide)) z_range z_max z_len
  exact (H15.imp qjc).imp qhL
theorem walk {l:PySem.W.OpenLaw} {q:Program} {loose:List Str} {XP:(Str→Option Value)→Heap→Prop} {YP:World→Heap→Prop} {d:DefRec} {K:Params→PySem.W.Frag} (hn:l.most=some 63) (hdf:d.params.defaults=[]) (him:PyProof.Rows.importsNone q=true)
    (hY:∀ (w:World) (h:Heap),YP w h→(K w.params).In h) (hN:∀ w:World,PySem.W.nsIn (K w.params) mainGlobals "least_grown"=some none∧PySem.W.nsIn (K w.params) mainGlobals "greatest_first"=some none)
    (F:∀ (w:World) (mg:Str→Option Value) (fa:Addr) (h:Heap),(K w.params).In h→h.Ns mainGlobals mg→mg d.name=some (.ref fa) →
      ∃ fd:FuncData,(∀ (s:Shared) (u:Value),BindsTo s fd ⟨[u],[]⟩ [("_law_script",u)])∧∀ base:Heap,(K w.params).In base→base.Ns mainGlobals mg→FnOk l.prog w (K w.params) mg base CX0 7 fa fd ["_law_script"] (sp_law (K w.params))) :
    PySem.W.WalkO q loose XP YP l.row.toRowW d [] (fun f vs=>PySem.call f vs) :=
  L2.walk_of (n:=63) (k:=7) (x:="_law_script") (CX:=fun _=>CX0) (sp:=fun w=>sp_law (K w.params)) hn (by decide) hdf him ⟨rfl,by decide,by decide⟩ hY F (fun w H a ns hl _ hS=>⟨a,ns,rfl,hS,hl,(fun t ht=>by rw [qgN (hN w)] at ht;cases ht),fun _=>rfl⟩) fun _ _ _ _ _ z=>z
end Kx
namespace Kx
open PySem PySem.W L2
def KK:Params→Frag:=fun P =>
  (nat_lit 2,⟨.none,none,(.dict #[] 0),#[]⟩) ::
  (nat_lit 3,⟨(.type "dict"),none,(.dict #[dE P "__name__" 165 ((.str "law_cutyard_k66_a_yard_changed" 534)),dE P "__doc__" 166 (.none),dE P "__package__" 167 (.none),dE P "__loader__" 168 ((.builtin "__main__.__loader__#opaque")),dE P "__spec__" 169 (.none),dE P "__annotations__" 170 ((.ref 6)),dE P "__builtins__" 171 ((.ref 4)),dE P "__file__" 173 ((.str "/claim/cut.py" 172)),dE P "__cached__" 174 (.none),dE P "_wall" 193 ((.ref 21)),dE P "YardError" 213 ((.ref 31)),dE P "NoNumber" 229 ((.ref 44)),dE P "NoName" 254 ((.ref 63)),dE P "Twice" 279 ((.ref 82)),dE P "TooGreat" 304 ((.ref 101)),dE P "NoText" 329 ((.ref 120)),dE P "NoRow" 345 ((.ref 132)),dE P "NoChange" 361 ((.ref 144)),dE P "BelowNought" 377 ((.ref 156)),dE P "unit" 385 ((.ref 163)),dE P "left" 391 ((.ref 168)),dE P "meets" 399 ((.ref 175)),dE P "turned" 405 ((.ref 180)),dE P "MOST_ROWS" 409 ((.int 12 408)),dE P "givens" 415 ((.ref 185)),dE P "moved_number" 425 ((.ref 192)),dE P "moved_line" 431 ((.ref 197)),dE P "known_with_row" 437 ((.ref 202)),dE P "known_without_row" 444 ((.ref 209)),dE P "Yard" 533 ((.ref 275)),dE P "_law_pool" 544 ((.ref 286)),dE P "_law_next" 555 ((.ref 293)),dE P "_law_wide" 563 ((.ref 300)),dE P "_law_same" 573 ((.ref 307)),dE P "_law_sized" 582 ((.ref 314)),dE P "_law_row" 588 ((.ref 319)),dE P "_law_plan" 594 ((.ref 324)),dE P "_law_deed_of" 607 ((.ref 331)),dE P "_law_after" 617 ((.ref 338)),dE P "_law_ask" 625 ((.ref 345)),dE P "_law_done" 637 ((.ref 352)),dE P "_law_kinds" 647 ((.ref 359)),dE P "law" 664 ((.ref 366))] 43),#[]⟩) ::
(nat_lit 20,cO "_wall" 187 "_wall" 188 189 1 1 3 15 181 16 (.ref 17) (.ref 18) 19 191 192) ::
  (nat_lit 21,fO qjY "_wall" "_wall" "__main__" 164 20) ::
  (nat_lit 22,⟨(.type "tuple"),none,(.seq #[(.type "ValueError")] 0),#[]⟩) ::
  (nat_lit 29,⟨(.type "tuple"),none,(.seq #[] 0),#[]⟩) ::
  (nat_lit 30,⟨(.type "dict"),none,(.dict #[dE P "__module__" 203 ((.str "cutyard.errors" 194)),dE P "__firstlineno__" 207 ((.int 5 206)),dE P "__static_attributes__" 208 ((.ref 29)),dE P "__weakref__" 210 ((.ref 32)),dE P "__doc__" 211 (.none)] 3),#[]⟩) ::
  (nat_lit 31,⟨(.type "type"),none,(.cls ⟨"YardError",[(.type "ValueError")],[(.ref 31),(.type "ValueError"),(.type "Exception"),(.type "BaseException"),(.type "object")],30,"YardError",true,[],[(.ref 44),(.ref 63),(.ref 82),(.ref 101),(.ref 120),(.ref 132),(.ref 144),(.ref 156)],false,none,false⟩),#[(some (.ref 22)),none,(some (.str "YardError" 196)),(some (.str "YardError" 204)),(some (.builtin "ValueError.__new__")),(some (.bool true))]⟩) ::
  (nat_lit 32,⟨(.type "getset_descriptor"),none,(.fields #[(.str "__weakref__" 209),(.ref 31),(.builtin "ExceptionGroup.__weakref__"),.none]),#[]⟩) ::
  (nat_lit 35,⟨(.type "tuple"),none,(.seq #[(.ref 31)] 0),#[]⟩) ::
  (nat_lit 42,⟨(.type "tuple"),none,(.seq #[] 0),#[]⟩) ::
  (nat_lit 43,⟨(.type "dict"),none,(.dict #[dE P "__module__" 221 ((.str "cutyard.errors" 194)),dE P "__firstlineno__" 225 ((.int 7 224)),dE P "__static_attributes__" 226 ((.ref 42)),dE P "__doc__" 227 (.none)] 2),#[]⟩) ::
  (nat_lit 44,⟨(.type "type"),none,(.cls ⟨"NoNumber",[(.ref 31)],[(.ref 44),(.ref 31),(.type "ValueError"),(.type "Exception"),(.type "BaseException"),(.type "object")],43,"NoNumber",true,[],[],false,none,false⟩),#[(some (.ref 35)),none,(some (.str "NoNumber" 214)),(some (.str "NoNumber" 222)),(some (.builtin "ValueError.__new__")),(some (.bool true))]⟩) ::
  (nat_lit 47,⟨(.type "tuple"),none,(.seq #[(.ref 31)] 0),#[]⟩) ::
(nat_lit 59,cO "__init__" 242 "NoName.__init__" 243 244 11 2 3 54 181 55 (.ref 56) (.ref 57) 58 247 248) ::
  (nat_lit 60,fO qhD "__init__" "NoName.__init__" "cutyard.errors" 194 59) ::
  (nat_lit 61,⟨(.type "tuple"),none,(.seq #[(.str "at" 250)] 0),#[]⟩) ::
  (nat_lit 62,⟨(.type "dict"),none,(.dict #[dE P "__module__" 237 ((.str "cutyard.errors" 194)),dE P "__firstlineno__" 241 ((.int 9 240)),dE P "__init__" 249 ((.ref 60)),dE P "__static_attributes__" 251 ((.ref 61)),dE P "__doc__" 252 (.none)] 2),#[]⟩) ::
  (nat_lit 63,⟨(.type "type"),none,(.cls ⟨"NoName",[(.ref 31)],[(.ref 63),(.ref 31),(.type "ValueError"),(.type "Exception"),(.type "BaseException"),(.type "object")],62,"NoName",true,[],[],false,none,false⟩),#[(some (.ref 47)),none,(some (.str "NoName" 230)),(some (.str "NoName" 238)),(some (.builtin "ValueError.__new__")),(some (.bool true))]⟩) ::
  (nat_lit 66,⟨(.type "tuple"),none,(.seq #[(.ref 31)] 0),#[]⟩) ::
(nat_lit 78,cO "__init__" 267 "Twice.__init__" 268 269 15 2 3 73 181 74 (.ref 75) (.ref 76) 77 272 273) ::
  (nat_lit 79,fO qhG "__init__" "Twice.__init__" "cutyard.errors" 194 78) ::
  (nat_lit 80,⟨(.type "tuple"),none,(.seq #[(.str "at" 275)] 0),#[]⟩) ::
  (nat_lit 81,⟨(.type "dict"),none,(.dict #[dE P "__module__" 262 ((.str "cutyard.errors" 194)),dE P "__firstlineno__" 266 ((.int 13 265)),dE P "__init__" 274 ((.ref 79)),dE P "__static_attributes__" 276 ((.ref 80)),dE P "__doc__" 277 (.none)] 2),#[]⟩) ::
  (nat_lit 82,⟨(.type "type"),none,(.cls ⟨"Twice",[(.ref 31)],[(.ref 82),(.ref 31),(.type "ValueError"),(.type "Exception"),(.type "BaseException"),(.type "object")],81,"Twice",true,[],[],false,none,false⟩),#[(some (.ref 66)),none,(some (.str "Twice" 255)),(some (.str "Twice" 263)),(some (.builtin "ValueError.__new__")),(some (.bool true))]⟩) ::
  (nat_lit 85,⟨(.type "tuple"),none,(.seq #[(.ref 31)] 0),#[]⟩) ::
(nat_lit 97,cO "__init__" 292 "TooGreat.__init__" 293 294 19 2 3 92 181 93 (.ref 94) (.ref 95) 96 297 298) ::
  (nat_lit 98,fO qbl "__init__" "TooGreat.__init__" "cutyard.errors" 194 97) ::
  (nat_lit 99,⟨(.type "tuple"),none,(.seq #[(.str "at" 300)] 0),#[]⟩) ::
  (nat_lit 100,⟨(.type "dict"),none,(.dict #[dE P "__module__" 287 ((.str "cutyard.errors" 194)),dE P "__firstlineno__" 291 ((.int 17 290)),dE P "__init__" 299 ((.ref 98)),dE P "__static_attributes__" 301 ((.ref 99)),dE P "__doc__" 302 (.none)] 2),#[]⟩) ::
  (nat_lit 101,⟨(.type "type"),none,(.cls ⟨"TooGreat",[(.ref 31)],[(.ref 101),(.ref 31),(.type "ValueError"),(.type "Exception"),(.type "BaseException"),(.type "object")],100,"TooGreat",true,[],[],false,none,false⟩),#[(some (.ref 85)),none,(some (.str "TooGreat" 280)),(some (.str "TooGreat" 288)),(some (.builtin "ValueError.__new__")),(some (.bool true))]⟩) ::
  (nat_lit 104,⟨(.type "tuple"),none,(.seq #[(.ref 31)] 0),#[]⟩) ::
(nat_lit 116,cO "__init__" 317 "NoText.__init__" 318 319 23 2 3 111 181 112 (.ref 113) (.ref 114) 115 322 323) ::
  (nat_lit 117,fO qhu "__init__" "NoText.__init__" "cutyard.errors" 194 116) ::
  (nat_lit 118,⟨(.type "tuple"),none,(.seq #[(.str "at" 325)] 0),#[]⟩) ::
  (nat_lit 119,⟨(.type "dict"),none,(.dict #[dE P "__module__" 312 ((.str "cutyard.errors" 194)),dE P "__firstlineno__" 316 ((.int 21 315)),dE P "__init__" 324 ((.ref 117)),dE P "__static_attributes__" 326 ((.ref 118)),dE P "__doc__" 327 (.none)] 2),#[]⟩) ::
  (nat_lit 120,⟨(.type "type"),none,(.cls ⟨"NoText",[(.ref 31)],[(.ref 120),(.ref 31),(.type "ValueError"),(.type "Exception"),(.type "BaseException"),(.type "object")],119,"NoText",true,[],[],false,none,false⟩),#[(some (.ref 104)),none,(some (.str "NoText" 305)),(some (.str "NoText" 313)),(some (.builtin "ValueError.__new__")),(some (.bool true))]⟩) ::
  (nat_lit 123,⟨(.type "tuple"),none,(.seq #[(.ref 31)] 0),#[]⟩) ::
  (nat_lit 130,⟨(.type "tuple"),none,(.seq #[] 0),#[]⟩) ::
  (nat_lit 131,⟨(.type "dict"),none,(.dict #[dE P "__module__" 337 ((.str "cutyard.errors" 194)),dE P "__firstlineno__" 341 ((.int 25 340)),dE P "__static_attributes__" 342 ((.ref 130)),dE P "__doc__" 343 (.none)] 2),#[]⟩) ::
  (nat_lit 132,⟨(.type "type"),none,(.cls ⟨"NoRow",[(.ref 31)],[(.ref 132),(.ref 31),(.type "ValueError"),(.type "Exception"),(.type "BaseException"),(.type "object")],131,"NoRow",true,[],[],false,none,false⟩),#[(some (.ref 123)),none,(some (.str "NoRow" 330)),(some (.str "NoRow" 338)),(some (.builtin "ValueError.__new__")),(some (.bool true))]⟩) ::
  (nat_lit 135,⟨(.type "tuple"),none,(.seq #[(.ref 31)] 0),#[]⟩) ::
  (nat_lit 142,⟨(.type "tuple"),none,(.seq #[] 0),#[]⟩) ::
  (nat_lit 143,⟨(.type "dict"),none,(.dict #[dE P "__module__" 353 ((.str "cutyard.errors" 194)),dE P "__firstlineno__" 357 ((.int 27 356)),dE P "__static_attributes__" 358 ((.ref 142)),dE P "__doc__" 359 (.none)] 2),#[]⟩) ::
  (nat_lit 144,⟨(.type "type"),none,(.cls ⟨"NoChange",[(.ref 31)],[(.ref 144),(.ref 31),(.type "ValueError"),(.type "Exception"),(.type "BaseException"),(.type "object")],143,"NoChange",true,[],[],false,none,false⟩),#[(some (.ref 135)),none,(some (.str "NoChange" 346)),(some (.str "NoChange" 354)),(some (.builtin "ValueError.__new__")),(some (.bool true))]⟩) ::
  (nat_lit 147,⟨(.type "tuple"),none,(.seq #[(.ref 31)] 0),#[]⟩) ::
  (nat_lit 154,⟨(.type "tuple"),none,(.seq #[] 0),#[]⟩) ::
  (nat_lit 155,⟨(.type "dict"),none,(.dict #[dE P "__module__" 369 ((.str "cutyard.errors" 194)),dE P "__firstlineno__" 373 ((.int 29 372)),dE P "__static_attributes__" 374 ((.ref 154)),dE P "__doc__" 375 (.none)] 2),#[]⟩) ::
  (nat_lit 156,⟨(.type "type"),none,(.cls ⟨"BelowNought",[(.ref 31)],[(.ref 156),(.ref 31),(.type "ValueError"),(.type "Exception"),(.type "BaseException"),(.type "object")],155,"BelowNought",true,[],[],false,none,false⟩),#[(some (.ref 147)),none,(some (.str "BelowNought" 362)),(some (.str "BelowNought" 370)),(some (.builtin "ValueError.__new__")),(some (.bool true))]⟩) ::
(nat_lit 162,cO "unit" 380 "unit" 381 382 32 2 3 159 181 160 .none .none 161 383 384) ::
  (nat_lit 163,fO qlM "unit" "unit" "cutyard.rows" 378 162) ::
(nat_lit 167,cO "left" 386 "left" 387 388 34 2 3 164 181 165 .none .none 166 389 390) ::
  (nat_lit 168,fO qlp "left" "left" "cutyard.rows" 378 167) ::
(nat_lit 174,cO "meets" 392 "meets" 393 394 36 2 3 169 181 170 (.ref 171) (.ref 172) 173 397 398) ::
  (nat_lit 175,fO qjH "meets" "meets" "cutyard.rows" 378 174) ::
(nat_lit 179,cO "turned" 400 "turned" 401 402 38 1 3 176 181 177 .none .none 178 403 404) ::
  (nat_lit 180,fO qhJ "turned" "turned" "cutyard.rows" 378 179) ::
(nat_lit 184,cO "givens" 410 "givens" 411 412 42 1 3 181 181 182 .none .none 183 413 414) ::
  (nat_lit 185,fO qit "givens" "givens" "cutyard.plans" 406 184) ::
(nat_lit 191,cO "moved_number" 418 "moved_number" 419 420 49 2 3 186 181 187 (.ref 188) (.ref 189) 190 423 424) ::
  (nat_lit 192,fO qdC "moved_number" "moved_number" "cutyard.yard" 416 191) ::
(nat_lit 196,cO "moved_line" 426 "moved_line" 427 428 51 2 3 193 181 194 .none .none 195 429 430) ::
  (nat_lit 197,fO qeO "moved_line" "moved_line" "cutyard.yard" 416 196) ::
(nat_lit 201,cO "known_with_row" 432 "known_with_row" 433 434 58 3 3 198 181 199 .none .none 200 435 436) ::
  (nat_lit 202,fO qa2 "known_with_row" "known_with_row" "cutyard.yard" 416 201) ::
(nat_lit 208,cO "known_without_row" 438 "known_without_row" 439 440 65 1 3 203 181 204 (.ref 205) (.ref 206) 207 442 443) ::
  (nat_lit 209,fO qaN "known_without_row" "known_without_row" "cutyard.yard" 416 208) ::
(nat_lit 222,cO "__init__" 457 "Yard.__init__" 458 459 69 2 3 217 181 218 (.ref 219) (.ref 220) 221 462 463) ::
  (nat_lit 223,fO qaB "__init__" "Yard.__init__" "cutyard.yard" 416 222) ::
(nat_lit 229,cO "change" 465 "Yard.change" 466 467 74 3 3 224 181 225 (.ref 226) (.ref 227) 228 471 472) ::
  (nat_lit 230,fO qaJ "change" "Yard.change" "cutyard.yard" 416 229) ::
(nat_lit 236,cO "put_row" 474 "Yard.put_row" 475 476 79 2 3 231 181 232 (.ref 233) (.ref 234) 235 480 481) ::
  (nat_lit 237,fO qaF "put_row" "Yard.put_row" "cutyard.yard" 416 236) ::
(nat_lit 243,cO "take_row" 483 "Yard.take_row" 484 485 85 2 3 238 181 239 (.ref 240) (.ref 241) 242 490 491) ::
  (nat_lit 244,fO qaC "take_row" "Yard.take_row" "cutyard.yard" 416 243) ::
(nat_lit 250,cO "turn" 493 "Yard.turn" 494 495 92 2 3 245 181 246 (.ref 247) (.ref 248) 249 498 499) ::
  (nat_lit 251,fO qaV "turn" "Yard.turn" "cutyard.yard" 416 250) ::
(nat_lit 257,cO "back" 501 "Yard.back" 502 503 95 1 3 252 181 253 (.ref 254) (.ref 255) 256 506 507) ::
  (nat_lit 258,fO qaU "back" "Yard.back" "cutyard.yard" 416 257) ::
(nat_lit 264,cO "plan_now" 509 "Yard.plan_now" 510 511 102 1 3 259 181 260 (.ref 261) (.ref 262) 263 513 514) ::
  (nat_lit 265,fO qaD "plan_now" "Yard.plan_now" "cutyard.yard" 416 264) ::
(nat_lit 271,cO "answer" 516 "Yard.answer" 517 518 105 1 3 266 181 267 (.ref 268) (.ref 269) 270 520 521) ::
  (nat_lit 272,fO qdD "answer" "Yard.answer" "cutyard.yard" 416 271) ::
  (nat_lit 273,⟨(.type "tuple"),none,(.seq #[(.str "changes" 523),(.str "known" 524),(.str "plan" 525)] 0),#[]⟩) ::
  (nat_lit 274,⟨(.type "dict"),none,(.dict #[dE P "__module__" 452 ((.str "cutyard.yard" 416)),dE P "__firstlineno__" 456 ((.int 67 455)),dE P "__init__" 464 ((.ref 223)),dE P "change" 473 ((.ref 230)),dE P "put_row" 482 ((.ref 237)),dE P "take_row" 492 ((.ref 244)),dE P "turn" 500 ((.ref 251)),dE P "back" 508 ((.ref 258)),dE P "plan_now" 515 ((.ref 265)),dE P "answer" 522 ((.ref 272)),dE P "__static_attributes__" 526 ((.ref 273)),dE P "__dict__" 528 ((.ref 276)),dE P "__weakref__" 530 ((.ref 277)),dE P "__doc__" 531 (.none)] 4),#[]⟩) ::
  (nat_lit 275,⟨(.type "type"),none,(.cls ⟨"Yard",[(.type "object")],[(.ref 275),(.type "object")],274,"Yard",true,[],[],false,none,false⟩),#[none,none,(some (.str "Yard" 445)),(some (.str "Yard" 453)),(some (.builtin "object.__new__")),(some (.bool true))]⟩) ::
  (nat_lit 276,⟨(.type "getset_descriptor"),none,(.fields #[(.str "__dict__" 527),(.ref 275),(.builtin "function.__dict__"),(.builtin "function.__dict__#set")]),#[]⟩) ::
  (nat_lit 277,⟨(.type "getset_descriptor"),none,(.fields #[(.str "__weakref__" 529),(.ref 275),(.builtin "ExceptionGroup.__weakref__"),.none]),#[]⟩) ::
(nat_lit 285,cO "_law_pool" 536 "_law_pool" 537 538 108 2 3 280 181 281 (.ref 282) (.ref 283) 284 542 543) ::
  (nat_lit 286,fO qbI "_law_pool" "_law_pool" "law_cutyard_k66_a_yard_changed" 534 285) ::
(nat_lit 292,cO "_law_next" 545 "_law_next" 546 547 113 2 3 287 181 288 (.ref 289) (.ref 290) 291 553 554) ::
  (nat_lit 293,fO qbB "_law_next" "_law_next" "law_cutyard_k66_a_yard_changed" 534 292) ::
(nat_lit 299,cO "_law_wide" 556 "_law_wide" 557 558 125 2 3 294 181 295 (.ref 296) (.ref 297) 298 561 562) ::
  (nat_lit 300,fO qbH "_law_wide" "_law_wide" "law_cutyard_k66_a_yard_changed" 534 299) ::
(nat_lit 306,cO "_law_same" 564 "_law_same" 565 566 129 2 3 301 181 302 (.ref 303) (.ref 304) 305 571 572) ::
  (nat_lit 307,fO qbq "_law_same" "_law_same" "law_cutyard_k66_a_yard_changed" 534 306) ::
(nat_lit 313,cO "_law_sized" 574 "_law_sized" 575 576 142 2 3 308 181 309 (.ref 310) (.ref 311) 312 580 581) ::
  (nat_lit 314,fO qbt "_law_sized" "_law_sized" "law_cutyard_k66_a_yard_changed" 534 313) ::
(nat_lit 318,cO "_law_row" 583 "_law_row" 584 585 151 3 3 315 181 316 .none .none 317 586 587) ::
  (nat_lit 319,fO qby "_law_row" "_law_row" "law_cutyard_k66_a_yard_changed" 534 318) ::
(nat_lit 323,cO "_law_plan" 589 "_law_plan" 590 591 154 1 3 320 181 321 .none .none 322 592 593) ::
  (nat_lit 324,fO qbp "_law_plan" "_law_plan" "law_cutyard_k66_a_yard_changed" 534 323) ::
(nat_lit 330,cO "_law_deed_of" 595 "_law_deed_of" 596 597 167 2 3 325 181 326 (.ref 327) (.ref 328) 329 605 606) ::
  (nat_lit 331,fO qbb "_law_deed_of" "_law_deed_of" "law_cutyard_k66_a_yard_changed" 534 330) ::
(nat_lit 337,cO "_law_after" 608 "_law_after" 609 610 184 3 3 332 181 333 (.ref 334) (.ref 335) 336 615 616) ::
  (nat_lit 338,fO qbs "_law_after" "_law_after" "law_cutyard_k66_a_yard_changed" 534 337) ::
(nat_lit 344,cO "_law_ask" 618 "_law_ask" 619 620 199 2 3 339 181 340 (.ref 341) (.ref 342) 343 623 624) ::
  (nat_lit 345,fO qb5 "_law_ask" "_law_ask" "law_cutyard_k66_a_yard_changed" 534 344) ::
(nat_lit 351,cO "_law_done" 626 "_law_done" 627 628 207 2 3 346 181 347 (.ref 348) (.ref 349) 350 635 636) ::
  (nat_lit 352,fO qbC "_law_done" "_law_done" "law_cutyard_k66_a_yard_changed" 534 351) ::
(nat_lit 358,cO "_law_kinds" 638 "_law_kinds" 639 640 223 2 3 353 181 354 (.ref 355) (.ref 356) 357 645 646) ::
  (nat_lit 359,fO qbu "_law_kinds" "_law_kinds" "law_cutyard_k66_a_yard_changed" 534 358) ::
(nat_lit 365,cO "law" 648 "law" 649 650 232 1 3 360 181 361 (.ref 362) (.ref 363) 364 662 663) ::
  (nat_lit 366,fO qik "law" "law" "law_cutyard_k66_a_yard_changed" 534 365)::[]
end Kx
def PySem.W.Fast.tw4030910871729958006:=PySem.Challenge.pw_cutyard_k66_a_yard_changed
theorem PySem.W.Fast.te4030910871729958006:PySem.Challenge.pw_cutyard_k66_a_yard_changed=PySem.W.Fast.tw4030910871729958006:=rfl
def PySem.W.Fast.tw5385739360559341639:=Kx.KK
theorem PySem.W.Fast.te5385739360559341639:Kx.KK=PySem.W.Fast.tw5385739360559341639:=rfl
theorem PySem.W.Fast.tw10196750202202260291:True:=trivial
theorem PySem.W.Fast.tw10232388911685640524:True:=trivial
theorem PySem.W.Fast.tw10909567025367417036:True:=trivial
theorem PySem.W.Fast.tw1189710618455694065:True:=trivial
theorem PySem.W.Fast.tw12212759561485043759:True:=trivial
theorem PySem.W.Fast.tw12554504030100420728:True:=trivial
theorem PySem.W.Fast.tw13237742155191307422:True:=trivial
theorem PySem.W.Fast.tw1506623754567519441:True:=trivial
theorem PySem.W.Fast.tw152193771836998420:True:=trivial
theorem PySem.W.Fast.tw15406587976534092144:True:=trivial
theorem PySem.W.Fast.tw16899581034537519482:True:=trivial
theorem PySem.W.Fast.tw16935545547874890432:True:=trivial
theorem PySem.W.Fast.tw18089716028937368944:True:=trivial
theorem PySem.W.Fast.tw225670771014722352:True:=trivial
theorem PySem.W.Fast.tw2541281968323940746:True:=trivial
theorem PySem.W.Fast.tw2985326057735129501:True:=trivial
theorem PySem.W.Fast.tw3576809427068517012:True:=trivial
theorem PySem.W.Fast.tw4149323326246275277:True:=trivial
theorem PySem.W.Fast.tw4186926869576104526:True:=trivial
theorem PySem.W.Fast.tw5608478636010864311:True:=trivial
theorem PySem.W.Fast.tw5965735043074884953:True:=trivial
theorem PySem.W.Fast.tw6685442055831519527:True:=trivial
theorem PySem.W.Fast.tw722901458854895509:True:=trivial
theorem PySem.W.Fast.tw789560030627594581:True:=trivial
open PySem PySem.W PyProof.Rows
set_option maxRecDepth 100000 in
set_option maxHeartbeats 0 in
theorem PySem.Challenge.cw_cutyard_k66_a_yard_changed_holds : PySem.Challenge.rw_cutyard_k66_a_yard_changed.Holds := by
  w_on;o_law;o_head (kHook Kx.KK (2::3::20::21::22::29::30::31::32::35::42::43::44::47::59::60::61::62::63::66::78::79::80::81::82::85::97::98::99::100::101::104::116::117::118::119::120::123::130::131::132::135::142::143::144::147::154::155::156::162::163::167::168::174::175::179::180::184::185::191::192::196::197::201::202::208::209::222::223::229::230::236::237::243::244::250::251::257::258::264::265::271::272::273::274::275::276::277::285::286::292::293::299::300::306::307::313::314::318::319::323::324::330::331::337::338::344::345::351::352::358::359::365::366::[]) (fun _=>by kernel_rfl));(case hw=>w_witness2)
  k_fill
  refine Kx.walk (l:=PySem.Challenge.rw_cutyard_k66_a_yard_changed) rfl rfl (by decide +kernel) (fun w h Y=>PySem.W.kIn_of Y) (fun w=>⟨?N1,?N2⟩) ?F
  (case N1=>k_is);(case N2=>k_is)
  case F =>
    intro w mg fa h KX G hmg
    refine' Kx.all_mk KX G hmg ?aC_Yard ?a1 ?a2 ?a3 ?a4 ?a5 ?a6 ?a7 ?a8 ?a9 ?a10 ?a11 ?a12 ?a13 ?a14 ?a15 ?a16 ?i16 ?l16 ?c16 ?k16 ?a17 ?i17 ?l17 ?c17 ?k17 ?a18 ?i18 ?l18 ?c18 ?k18 ?a19 ?i19 ?l19 ?c19 ?k19 ?a20 ?i20 ?l20 ?c20 ?k20 ?a21 ?i21 ?l21 ?c21 ?k21 ?a22 ?i22 ?l22 ?c22 ?k22 ?pg_Yard ?hd_Yard ?po_Yard ?sa_Yard ?mk_Yard ?kc_Yard ?n_Yard_plan ?n_Yard_known ?n_Yard_changes ?y_len ?y_tuple ?y_isinstance ?y_str ?y_zip ?y_int ?y_bool ?y_range ?y_ValueError ?y_max ?y_MOST_ROWS ?ex9 ?eg_TooGreat ?ef_TooGreat ?el_TooGreat ?ec_TooGreat ?ek_TooGreat ?ei_TooGreat ?ei_NoRow ?ei_NoChange
    (case aC_Yard=>k_is);(case pg_Yard=>k_is);(case hd_Yard=>k_is);(case po_Yard=>k_is);(case sa_Yard=>k_is);(case mk_Yard=>k_is);(case kc_Yard=>k_is);(case n_Yard_plan=>k_is);(case n_Yard_known=>k_is);(case n_Yard_changes=>k_is)
    (case a16=>k_is);(case i16=>k_is);(case l16=>k_is);(case c16=>k_is);(case k16=>k_is)
    (case a17=>k_is);(case i17=>k_is);(case l17=>k_is);(case c17=>k_is);(case k17=>k_is)
    (case a18=>k_is);(case i18=>k_is);(case l18=>k_is);(case c18=>k_is);(case k18=>k_is)
    (case a19=>k_is);(case i19=>k_is);(case l19=>k_is);(case c19=>k_is);(case k19=>k_is)
    (case a20=>k_is);(case i20=>k_is);(case l20=>k_is);(case c20=>k_is);(case k20=>k_is)
    (case a21=>k_is);(case i21=>k_is);(case l21=>k_is);(case c21=>k_is);(case k21=>k_is)
    (case a22=>k_is);(case i22=>k_is);(case l22=>k_is);(case c22=>k_is);(case k22=>k_is)
    (case y_len=>k_is)
    (case y_tuple=>k_is)
    (case y_isinstance=>k_is)
    (case y_str=>k_is)
    (case y_zip=>k_is)
    (case y_int=>k_is)
    (case y_bool=>k_is)
    (case y_range=>k_is)
    (case y_ValueError=>k_is)
    (case y_max=>k_is)
    (case y_MOST_ROWS=>k_is)
    (case eg_TooGreat=>k_is);(case ef_TooGreat=>k_is);(case el_TooGreat=>k_is);(case ec_TooGreat=>k_is);(case ek_TooGreat=>k_is);(case ei_TooGreat=>kernel_rfl)
    (case ei_NoRow=>kernel_rfl)
    (case ei_NoChange=>kernel_rfl)
    (case ex9=>kernel_rfl)
    all_goals (refine' L2.Has.of ?a ?l ?c;(case a=>k_is);(case l=>k_is);(case c=>k_is))

